/-
  The walk of the statement SignWhole, for whatever package sign keeps its contracts: it returns true; memory that was there stays.
-/
import Derived.Test.YtnmohojmoienbaaSignWalksC
import Derived.Test.YtnmohojmoienbaaStrIter
import Derived.Deep.RegionHeld3
namespace Go.Proofs.Ytnmohojmoienbaa
open Go.RowKit Go.Lib

theorem place_zero (s : ByteArray) : placeI s 0 = (1, 1) := by
  rcases Nat.eq_zero_or_pos s.size with h | h
  · have := At.last (s := s) (by rw [h]; exact At.zero s) (at_ := 0) (by omega)
    exact this
  · have hn := next_size h
    exact (At.zero s).here (by omega) (by omega) h
theorem wrap_i64s {x : Int} (h0 : 0 ≤ x) (h1 : x < 1000000) : IntKind.i64.wrap x = x := by rw [IntKind.wrap_i64]; omega
theorem BoxC.iterAt {v : World} {k g : Nat} {cs : Array Value} {T : TypeId} (h : BoxC v k cs T) (s : ByteArray) (pos : Nat) (hk : k ≠ g) : BoxC (v.iterAt g s pos) k cs T := (iterAt_other v g k s pos hk).trans h
theorem iter_set {v : World} {k g i : Nat} {s : ByteArray} {pos : Nat} (h : v.heap[k]? = some (.stringIter s pos)) (hk : k ≠ g) (x : Value) : (v.setCell ⟨g, i, none⟩ x).heap[k]? = some (.stringIter s pos) := by
  rw [Below.heap_setCell v ⟨g, i, none⟩ x k (by simpa using hk)]; exact h

set_option maxHeartbeats 20000000 in
theorem walk_SignWhole (K : SignOk) (s : ByteArray) (w : World) (_hs : s.size ≤ maxLen) :
    Calls Try.prog 7 #[.string s] w fun e w' => e = .returned (.bool true) ∧ Below w.heap.size w w' := by
  have AW := fun v => sign_awake K v
  by_cases h2 : 200 < s.size
  · have k2 : 200 < (s.size : Int) := by omega
    clear _hs K
    go_enter Try.func7, Try.ntmps7
    go_wp2_with (go_at_call 10; (with_reducible refine Calls.mono (AW _) ?_); rintro e w1 ⟨rfl, b1⟩)
    go_ret
    exact ⟨rfl, b1⟩
  have k2 : ¬ 200 < (s.size : Int) := by omega
  have c1 := fun v => K.place s 0 v (by omega) (by omega) (by omega)
  rw [place_zero] at c1
  have HN := fun i (h : i < s.size) v => K.next s i v (by omega) h
  have HP := fun (j : Int) (h0 : 0 ≤ j) (h1 : j ≤ 1000) v => K.place s j v (by omega) (by omega) (by omega)
  unfold AnsL at c1 HP
  have HZ : Hid (¬ 200 < s.size) := h2
  clear _hs K h2
  go_enter Try.func7, Try.ntmps7
  go_wp2_with (first
    | (go_at_call 10; (with_reducible refine Calls.mono (AW _) ?_); rintro e V ⟨rfl, b1⟩)
    | (go_at_call 15; (with_reducible refine Calls.mono (c1 _) ?_); rintro e w2 ⟨rfl, b2⟩))
  have BP := BoxC.new w2 #[.int .i64 1, .int .i64 1] 32
  have bU := (below_more b1 b2).alloc (below_more b1 b2).size (.cells #[.int .i64 1, .int .i64 1] 32)
  have hU : (w2.alloc (.cells #[.int .i64 1, .int .i64 1] 32)).heap.size = w2.heap.size + 1 := World.size_alloc _ _
  have hit0 := iter_new (w2.alloc (.cells #[.int .i64 1, .int .i64 1] 32)) s
  have bI0 := below_more bU (below_iter (w2.alloc (.cells #[.int .i64 1, .int .i64 1] 32)) s 0)
  have BI0 := BP.more (below_iter (w2.alloc (.cells #[.int .i64 1, .int .i64 1] 32)) s 0)
  rw [hU] at hit0
  have hkw : w.heap.size ≤ w2.heap.size := (below_more b1 b2).size
  clear AW c1 BP bU hU b1 b2
  go_loopg [4] s.size (fun g s4 v => ∃ (pos : Nat) (l c : Int), s4 = .int .i64 pos ∧ pos + g = s.size ∧ v.heap[w2.heap.size + 1]? = some (.stringIter s pos) ∧ BoxC v w2.heap.size #[.int .i64 l, .int .i64 c] 32 ∧ Below w.heap.size w v ∧ At s pos l c ∧ 1 ≤ l ∧ l ≤ pos + 1 ∧ 1 ≤ c ∧ c ≤ pos + 1)
  case atStart => exact ⟨0, 1, 1, rfl, by omega, hit0, BI0, bI0, At.zero s, by omega, by omega, by omega, by omega⟩
  case round =>
    obtain ⟨pos, l, c, rfl, hg, hit, BX, bw, hA, hl1, hl2, hc1, hc2⟩ := hrel
    clear hit0 BI0 bI0
    have hH := HZ.out
    rcases Nat.lt_or_ge pos s.size with hp | hp
    · have hz := next_size hp
      have hnx : ∀ ty, (Instr.next (.pointer (some ⟨w2.heap.size + 1, 0, none⟩)) true ty).run Try.prog wr = .ok (.tuple #[.bool true, .int .i64 pos, .int .i32 (nextR s pos)]) (wr.iterAt (w2.heap.size + 1) s (pos + nextN s pos)) := fun ty => run_next_any_at wr (w2.heap.size + 1) s pos ty hit hp
      have hi2 := iterAt_heap wr (w2.heap.size + 1) s pos (pos + nextN s pos) hit
      have BX2 := BX.iterAt (g := w2.heap.size + 1) s (pos + nextN s pos) (by omega)
      have bw2 := below_iterAt bw (k := w2.heap.size + 1) (by omega) s (pos + nextN s pos)
      have N1 := fun v => HN pos hp v
      have HE : Hid (∀ j : Int, (pos : Int) ≤ j → j < (pos : Int) + nextN s pos → placeI s j = (l, c)) := fun j h0 h1 => hA.here h0 h1 hp
      have HA : Hid (At s (pos + nextN s pos) (if nextR s pos = 10 then l + 1 else l) (if nextR s pos = 10 then 1 else c + 1)) := hA.next hp
      generalize wr.iterAt (w2.heap.size + 1) s (pos + nextN s pos) = wi at *
      generalize nextR s pos = R at *
      generalize nextN s pos = M at *
      have m1 : ¬ (M : Int) < 1 := by omega
      have m2 : ¬ 4 < (M : Int) := by omega
      have HB : Hid (pos + gk = s.size ∧ pos + M ≤ s.size ∧ 1 ≤ M ∧ M ≤ 4 ∧ pos ≤ 200 ∧ 1 ≤ l ∧ l ≤ pos + 1 ∧ 1 ≤ c ∧ c ≤ pos + 1) := ⟨hg, hz.2.2, hz.1, hz.2.1, by omega, hl1, hl2, hc1, hc2⟩
      have q1 : 0 ≤ (pos : Int) + M := by omega
      have q2 : (pos : Int) + M < 1000000 := by omega
      have q3 : 0 ≤ l + 1 := by omega
      have q4 : l + 1 < 1000000 := by omega
      have q5 : 0 ≤ c + 1 := by omega
      have q6 : c + 1 < 1000000 := by omega
      have w3 : wrap64 ((pos : Int) + M) = (pos : Int) + M := wrap_small q1 q2
      have w4 : wrap64 (l + 1) = l + 1 := wrap_small q3 q4
      have w5 : wrap64 (c + 1) = c + 1 := wrap_small q5 q6
      clear q1 q2 q3 q4 q5 q6
      clear hit BX bw hA hH hz HN hl1 hl2 hc1 hc2 hg hp
      go_wp2_with (go_at_call 13; (with_reducible refine Calls.mono (N1 _) ?_); rintro e w3' ⟨rfl, b3⟩)
      go_loopg [10] M (fun g s10 v => ∃ k : Nat, s10 = .int .i64 k ∧ k + g = M ∧ v.heap[w2.heap.size + 1]? = some (.stringIter s (pos + M)) ∧ BoxC v w2.heap.size #[.int .i64 l, .int .i64 c] 32 ∧ Below w.heap.size w v)
      case atStart => exact ⟨0, rfl, Nat.zero_add _, iter_more hi2 b3, BX2.more b3, below_more bw2 b3⟩
      case round =>
        obtain ⟨k, rfl, hg2, hit, BX, bw⟩ := hrel
        clear hi2 BX2 bw2 b3 hnx
        rcases Nat.lt_or_ge k M with hk | hk
        · have hk' : (k : Int) < M := Int.ofNat_lt.2 hk
          have hB := HB.out
          have HW : Hid (wrap64 ((pos : Int) + M) = (pos : Int) + M) := w3
          clear w3 w4 w5
          have q1 : 0 ≤ (pos : Int) + k := by omega
          have q2 : (pos : Int) + k ≤ 1000 := by omega
          have q3 : (pos : Int) ≤ (pos : Int) + k := by omega
          have q4 : (pos : Int) + k < (pos : Int) + M := by omega
          have q5 : 0 ≤ (k : Int) + 1 := by omega
          have q6 : (k : Int) + 1 < 1000000 := by omega
          have c3 := fun v => HP ((pos : Int) + k) q1 q2 v
          rw [HE.out ((pos : Int) + k) q3 q4] at c3
          have w6 : wrap64 ((pos : Int) + k) = (pos : Int) + k := wrap_small q1 (Int.lt_of_le_of_lt q2 (by decide))
          have w8 : IntKind.i64.wrap ((pos : Int) + k) = (pos : Int) + k := wrap_i64s q1 (Int.lt_of_le_of_lt q2 (by decide))
          have w7 : wrap64 ((k : Int) + 1) = (k : Int) + 1 := wrap_small q5 q6
          clear q1 q2 q3 q4 q5 q6
          dsimp only at c3
          have SO : ∀ v, Below wr.heap.size wr v → v.cell? ⟨w2.heap.size, 0, none⟩ = some (.int .i64 l) ∧ v.cell? ⟨w2.heap.size, 1, none⟩ = some (.int .i64 c) := fun v hb => ⟨(BX.more hb).cells2.1, (BX.more hb).cells2.2.1⟩
          have bs : Below wr.heap.size wr wr.drew := (Below.refl _ _).drew
          have HX : Hid (k + gk = M ∧ wr.heap[w2.heap.size + 1]? = some (.stringIter s (pos + M)) ∧ BoxC wr w2.heap.size #[.int .i64 l, .int .i64 c] 32 ∧ Below w.heap.size w wr) := ⟨hg2, hit, BX, bw⟩
          clear hB hg2 hit BX bw N1 HP HE HA hkw
          go_wp2
          go_region_held3 (fun v => v.cell? ⟨w2.heap.size, 0, none⟩ = some (.int .i64 l) ∧ v.cell? ⟨w2.heap.size, 1, none⟩ = some (.int .i64 c))
            (exact SO _ bs)
            (first
            | (go_at_call 15; (with_reducible refine Calls.mono (c3 _) ?_); rintro e w4' ⟨rfl, b4⟩; replace bs := below_more bs b4))
          go_wp2
          obtain ⟨x1, x2, x3, x4⟩ := HX.out
          go_roundg (M - (k + 1))
          case measure => clear w6 w7 w8; omega
          case rel => exact ⟨k + 1, by go_num, by clear w6 w7 w8; omega, iter_more x2 bs, x3.more bs, below_more x4 bs⟩
        · have hk' : ¬ (k : Int) < M := fun e => Nat.not_lt.2 hk (Int.ofNat_lt.1 e)
          obtain ⟨x0, x1, x2, x3⟩ := BX.cells2
          have HX : Hid (wr.heap[w2.heap.size + 1]? = some (.stringIter s (pos + M)) ∧ BoxC wr w2.heap.size #[.int .i64 l, .int .i64 c] 32 ∧ Below w.heap.size w wr ∧ w.heap.size ≤ w2.heap.size) := ⟨hit, BX, bw, hkw⟩
          clear hit BX bw N1 HP HE hg2 hk hkw
          by_cases h10 : R = 10
          · have e10 : (R == 10) = true := by rw [beq_iff_eq]; exact h10
            have HT : Hid (At s (pos + M) (l + 1) 1) := by have := HA.out; rw [if_pos h10, if_pos h10] at this; exact this
            clear HA h10
            go_wp2
            obtain ⟨y1, y2, y3, y4⟩ := HX.out
            have hB := HB.out
            clear w3 w4 w5
            go_roundg (s.size - (pos + M))
            case measure => omega
            case rel => exact ⟨pos + M, l + 1, 1, by go_num, by omega, iter_set (iter_set (iter_set y1 (by omega) _) (by omega) _) (by omega) _, ((y2.set 1 (.int .i64 (c + 1))).set 0 (.int .i64 (l + 1))).set 1 (.int .i64 1), ((y3.setCell (p := ⟨w2.heap.size, 1, none⟩) y4 _).setCell (p := ⟨w2.heap.size, 0, none⟩) y4 _).setCell (p := ⟨w2.heap.size, 1, none⟩) y4 _, HT.out, by omega, by omega, by omega, by omega⟩
          · have e10 : (R == 10) = false := by rw [beq_eq_false_iff_ne]; exact h10
            have HT : Hid (At s (pos + M) l (c + 1)) := by have := HA.out; rw [if_neg h10, if_neg h10] at this; exact this
            clear HA h10
            go_wp2
            obtain ⟨y1, y2, y3, y4⟩ := HX.out
            have hB := HB.out
            clear w3 w4 w5
            go_roundg (s.size - (pos + M))
            case measure => omega
            case rel => exact ⟨pos + M, l, c + 1, by go_num, by omega, iter_set y1 (by omega) _, y2.set 1 (.int .i64 (c + 1)), y3.setCell (p := ⟨w2.heap.size, 1, none⟩) y4 _, HT.out, by omega, by omega, by omega, by omega⟩
    · have hnx : ∀ ty, (Instr.next (.pointer (some ⟨w2.heap.size + 1, 0, none⟩)) true ty).run Try.prog wr = .ok (.tuple #[.bool false]) wr := fun ty => run_next_end_at wr (w2.heap.size + 1) s pos ty hit (by omega)
      obtain rfl : pos = s.size := by omega
      have c3 := fun v => HP (s.size : Int) (by omega) (by omega) v
      rw [hA.last (Int.le_refl _)] at c3
      dsimp only at c3
      have SO : ∀ v, Below wr.heap.size wr v → v.cell? ⟨w2.heap.size, 0, none⟩ = some (.int .i64 l) ∧ v.cell? ⟨w2.heap.size, 1, none⟩ = some (.int .i64 c) := fun v hb => ⟨(BX.more hb).cells2.1, (BX.more hb).cells2.2.1⟩
      have bs : Below wr.heap.size wr wr.drew := (Below.refl _ _).drew
      have HX : Hid (Below w.heap.size w wr) := bw
      clear hit BX bw hA hH HN HP hg hp hl1 hl2 hc1 hc2
      go_wp2
      go_region_held3 (fun v => v.cell? ⟨w2.heap.size, 0, none⟩ = some (.int .i64 l) ∧ v.cell? ⟨w2.heap.size, 1, none⟩ = some (.int .i64 c))
        (exact SO _ bs)
        (first
        | (go_at_call 15; (with_reducible refine Calls.mono (c3 _) ?_); rintro e w4' ⟨rfl, b4⟩; replace bs := below_more bs b4))
      go_wp2
      go_ret
      exact ⟨by simp, below_more HX.out bs⟩
end Go.Proofs.Ytnmohojmoienbaa
