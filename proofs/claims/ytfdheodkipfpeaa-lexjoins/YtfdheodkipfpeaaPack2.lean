/-
  Texts of mine put together in build order: SignB, SignWalksA, SignWalksC, SignWalksD, SignC, LexMath, LexTok, LexSpec, LexJoin, LexJoinB, LexCut, LexReach, LexBlank, LexSpan, LexNum, LexRef, LexA, LexB. Each says at its head what it proves. No conditions of its own.
-/
import Derived.Test.YtfdheodkipfpeaaPack1
import Derived.Deep.RegionHeld3
/-
  Contract of package sign's function Next: the rune at a byte is what the model's own decoding tells; memory that was there stays.
-/
namespace Go.Proofs.Ytfdheodkipfpeaa
open Go.RowKit Go.Lib

theorem ext_bt (s : ByteArray) (i : Nat) (hi : i ≤ s.size) (j : Nat) : bt (s.extract i s.size) j = bt s (i + j) := by
  have hz : (s.extract i s.size).size = s.size - i := by rw [ByteArray.size_extract]; omega
  by_cases h : i + j < s.size
  · rw [bt_get (by omega), bt_get h, ByteArray.getElem_extract]
  · unfold bt
    have e : s.size = s.data.size := rfl
    have e2 : (s.extract i s.size).size = (s.extract i s.size).data.size := rfl
    rw [bt_data, bt_data, getElem!_neg _ _ (by omega), getElem!_neg _ _ (by omega)]
theorem ext_next (s : ByteArray) (i : Nat) (hi : i ≤ s.size) (j : Nat) : nextR (s.extract i s.size) j = nextR s (i + j) ∧ nextN (s.extract i s.size) j = nextN s (i + j) := by
  have hz : (s.extract i s.size).size = s.size - i := by rw [ByteArray.size_extract]; omega
  have e : Utf8.decode (s.extract i s.size) j = Utf8.decode s (i + j) := by
    rw [decode_bt, decode_bt, ext_bt s i hi, ext_bt s i hi, ext_bt s i hi, ext_bt s i hi, hz, Nat.sub_sub]
    rfl
  unfold nextR nextN
  rw [e]; exact ⟨rfl, rfl⟩

theorem text_full {s : ByteArray} (h : 1 ≤ s.size) : (s.toList == []) = false := by
  rw [beq_eq_false_iff_ne, ByteArray.toList_eq]
  intro e
  have : s.data.toList.length = s.size := by simp
  rw [e] at this
  exact absurd this (by simp only [List.length_nil]; omega)

set_option maxHeartbeats 4000000 in
theorem sign_next_no (s : ByteArray) (j : Int) (h : j < 0 ∨ (s.size : Int) ≤ j) (w : World) : Calls Try.prog 29 #[.string s, .int .i64 j] w fun e w' => e = .returned (.tuple #[.int .i32 0, .int .i64 0]) ∧ w = w' := by
  rcases (by omega : j < 0 ∨ (¬ j < 0 ∧ (s.size : Int) ≤ j)) with h | ⟨h, h2⟩
  all_goals
    go_enter Try.func29, Try.ntmps29
    go_wp2
    go_ret2
    exact ⟨rfl, rfl⟩

set_option maxHeartbeats 4000000 in
theorem sign_next (s : ByteArray) (i : Nat) (w : World) (hs : s.size ≤ 1000000) (hi : i < s.size) : Calls Try.prog 29 #[.string s, .int .i64 i] w fun e w' => e = .returned (.tuple #[.int .i32 (nextR s i), .int .i64 (nextN s i)]) ∧ Below w.heap.size w w' := by
  have k0 : ¬ (i : Int) < 0 := by omega
  have k1 : ¬ (s.size : Int) ≤ i := by omega
  have k2 : (i : Int) ≤ s.size := by omega
  have hz := next_size hi
  have hT : (s.extract i s.size).size = s.size - i := by rw [ByteArray.size_extract]; omega
  obtain ⟨hR, hN⟩ := ext_next s i (Nat.le_of_lt hi) 0
  rw [Nat.add_zero] at hR hN
  have HH : Hid (nextR (s.extract i s.size) 0 = nextR s i ∧ nextN (s.extract i s.size) 0 = nextN s i ∧ 1 ≤ nextN s i ∧ nextN s i ≤ (s.extract i s.size).size ∧ (s.extract i s.size).size ≤ 1000000) := ⟨hR, hN, hz.1, by omega, by omega⟩
  clear hR hN hz hT hs hi
  generalize nextR s i = R at *
  generalize nextN s i = M at *
  go_enter Try.func29, Try.ntmps29
  go_wp2
  generalize s.extract i s.size = u at *
  go_loopg [4] u.size (fun g s4 v => ∃ (pos : Nat) (x : Int), s4 = .int .i32 x ∧ pos + g = u.size ∧ v.heap[w.heap.size]? = some (.stringIter u pos) ∧ Below w.heap.size w v ∧ (pos = 0 ∨ pos = M ∧ x = R))
  case atStart => exact ⟨0, 0, rfl, by omega, iter_new w u, below_iter w u 0, .inl rfl⟩
  case round =>
    obtain ⟨pos, x, rfl, hg, hit, bw, hp⟩ := hrel
    obtain ⟨h1, h2, h3, h4, h5⟩ := HH.out
    rcases hp with rfl | ⟨rfl, rfl⟩
    · have hnx : ∀ ty, (Instr.next (.pointer (some ⟨w.heap.size, 0, none⟩)) true ty).run Try.prog wr = .ok (.tuple #[.bool true, .int .i64 (0 : Nat), .int .i32 (nextR u 0)]) (wr.iterAt w.heap.size u (0 + nextN u 0)) := fun ty => run_next_any_at wr w.heap.size u 0 ty hit (by omega)
      have hi2 := iterAt_heap wr w.heap.size u 0 (0 + nextN u 0) hit
      have bw2 := below_iterAt bw (Nat.le_refl _) u (0 + nextN u 0)
      rw [h1, h2, Nat.zero_add] at hnx
      rw [h2, Nat.zero_add] at hi2 bw2
      generalize wr.iterAt w.heap.size u M = wi at *
      have HG : Hid (0 + gk = u.size) := hg
      clear hit bw h1 h2 h3 h4 h5 hg
      go_wp2
      have hg := HG.out
      obtain ⟨h1, h2, h3, h4, h5⟩ := HH.out
      go_roundg (u.size - M)
      case measure => omega
      case rel => exact ⟨M, R, rfl, by omega, hi2, bw2, .inr ⟨rfl, rfl⟩⟩
    · rcases Nat.lt_or_ge pos u.size with hp | hp
      · have hnx : ∀ ty, (Instr.next (.pointer (some ⟨w.heap.size, 0, none⟩)) true ty).run Try.prog wr = .ok (.tuple #[.bool true, .int .i64 pos, .int .i32 (nextR u pos)]) (wr.iterAt w.heap.size u (pos + nextN u pos)) := fun ty => run_next_any_at wr w.heap.size u pos ty hit hp
        have bw2 := below_iterAt bw (Nat.le_refl _) u (pos + nextN u pos)
        have k3 : 0 < (pos : Int) := by omega
        generalize wr.iterAt w.heap.size u (pos + nextN u pos) = wi at *
        clear hit bw h1 h2 h3 h4 h5 hg hp
        go_wp2
        go_ret2
        exact ⟨rfl, bw2⟩
      · obtain rfl : pos = u.size := by omega
        have hnx : ∀ ty, (Instr.next (.pointer (some ⟨w.heap.size, 0, none⟩)) true ty).run Try.prog wr = .ok (.tuple #[.bool false]) wr := fun ty => run_next_end_at wr w.heap.size u u.size ty hit (Nat.lt_irrefl _)
        clear hit h1 h2 h3 h4 h5 hg hp
        go_wp2
        go_ret2
        exact ⟨rfl, bw⟩

end Go.Proofs.Ytfdheodkipfpeaa
/-
  The walks of the statements SignKinds, SignNext, SignPlaces and SignNames, for whatever package sign keeps its contracts: each returns true; memory that was there stays.
-/
namespace Go.Proofs.Ytfdheodkipfpeaa
open Go.RowKit Go.Lib

theorem wf_s32 {a : Int} (h : (Lit.int .i32 a).wf = true) : -2147483648 ≤ a ∧ a ≤ 2147483647 := by
  simp [Lit.wf, IntKind.min, IntKind.max, IntKind.signed, IntKind.bits] at h; omega
theorem wf_s64 {a : Int} (h : (Lit.int .i64 a).wf = true) : -9223372036854775808 ≤ a ∧ a < 9223372036854775808 := by
  have : -9223372036854775808 ≤ a ∧ a ≤ 9223372036854775807 := by simpa [Lit.wf, IntKind.min, IntKind.max, IntKind.signed, IntKind.bits] using h
  omega

end Go.Proofs.Ytfdheodkipfpeaa
/-
  The walk of the statement SignLines, for whatever package sign keeps its contracts: it returns true; memory that was there stays.
-/
namespace Go.Proofs.Ytfdheodkipfpeaa
open Go.RowKit Go.Lib

theorem placeF_range (s : ByteArray) (at_ : Int) : ∀ f i l c, l ≤ (placeF s at_ f i l c).1 ∧ (placeF s at_ f i l c).1 ≤ l + f := by
  intro f
  induction f with
  | zero => intro i l c; exact ⟨Int.le_refl _, by show l ≤ l + ((0 : Nat) : Int); omega⟩
  | succ f ih =>
    intro i l c
    unfold placeF
    split
    · split
      · exact ⟨Int.le_refl _, by show l ≤ _; omega⟩
      · have := ih (i + nextN s i) (if nextR s i = 10 then l + 1 else l) (if nextR s i = 10 then 1 else c + 1)
        generalize placeF s at_ f (i + nextN s i) (if nextR s i = 10 then l + 1 else l) (if nextR s i = 10 then 1 else c + 1) = P at *
        split at this <;> omega
    · exact ⟨Int.le_refl _, by show l ≤ _; omega⟩
theorem wrap_small {x : Int} (h0 : 0 ≤ x) (h1 : x < 1000000) : wrap64 x = x := by unfold wrap64; omega
theorem wrap_two (L : Nat) (h : L ≤ 200) : wrap64 (1 + (L : Int) + 1) = 1 + (L : Int) + 1 := by unfold wrap64; omega
theorem wf_s16 {a : Int} (h : (Lit.int .u16 a).wf = true) : 0 ≤ a ∧ a < 65536 := by
  simp [Lit.wf, IntKind.min, IntKind.max, IntKind.signed, IntKind.bits] at h; omega

end Go.Proofs.Ytfdheodkipfpeaa
/-
  The walk of the statement SignWhole, for whatever package sign keeps its contracts: it returns true; memory that was there stays.
-/
namespace Go.Proofs.Ytfdheodkipfpeaa
open Go.RowKit Go.Lib

theorem place_zero (s : ByteArray) : placeI s 0 = (1, 1) := by
  rcases Nat.eq_zero_or_pos s.size with h | h
  · have := At.last (s := s) (by rw [h]; exact At.zero s) (at_ := 0) (by omega)
    exact this
  · have hn := next_size h
    exact (At.zero s).here (by omega) (by omega) h
theorem wrap_i64s {x : Int} (h0 : 0 ≤ x) (h1 : x < 1000000) : IntKind.i64.wrap x = x := by rw [IntKind.wrap_i64]; omega
theorem BoxC.iterAt {v : World} {k g : Nat} {cs : Array Value} {T : TypeId} (h : BoxC v k cs T) (s : ByteArray) (pos : Nat) (hk : k ≠ g) : BoxC (v.iterAt g s pos) k cs T := (iterAt_other v g k s pos hk).trans h
theorem iter_set {v : World} {k g i : Nat} {s : ByteArray} {pos : Nat} (h : v.heap[k]? = some (.stringIter s pos)) (hk : k ≠ g) (x : Value) : (v.setCell ⟨g, i, none⟩ x).heap[k]? = some (.stringIter s pos) := by
  rw [Below.heap_setCell v ⟨g, i, none⟩ x k (by simpa using hk)]; exact h

end Go.Proofs.Ytfdheodkipfpeaa
/-
  Contract of package sign's function Place: a byte's place, at every text of up to a million bytes and every number; memory that was there stays. So package sign keeps all its contracts.
-/
namespace Go.Proofs.Ytfdheodkipfpeaa
open Go.RowKit Go.Lib

theorem placeF_above (s : ByteArray) {j : Int} (h : (s.size : Int) ≤ j) : ∀ f i l c, placeF s j f i l c = placeF s s.size f i l c := by
  intro f
  induction f with
  | zero => intro i l c; rfl
  | succ f ih =>
    intro i l c
    unfold placeF
    by_cases hi : i < s.size
    · have := next_size hi
      rw [if_pos hi, if_pos hi, if_neg (show ¬ j < (i : Int) + nextN s i by omega), if_neg (show ¬ (s.size : Int) < (i : Int) + nextN s i by omega), ih]
    · rw [if_neg hi, if_neg hi]

set_option maxHeartbeats 8000000 in
theorem sign_place (s : ByteArray) (j : Int) (w : World) (hs : s.size ≤ 1000000) (hj0 : -9223372036854775808 ≤ j) (hj1 : j < 9223372036854775808) :
    Calls Try.prog 14 #[.string s, .int .i64 j] w (AnsL w (placeI s j)) := by
  obtain ⟨a, ha, hp, hc⟩ : ∃ a : Nat, a ≤ s.size ∧ placeI s j = placeI s a ∧ ((j < 0 ∧ a = 0) ∨ (¬ j < 0 ∧ ¬ (s.size : Int) < j ∧ j = a) ∨ (¬ j < 0 ∧ (s.size : Int) < j ∧ a = s.size)) := by
    rcases (by omega : j < 0 ∨ (0 ≤ j ∧ j ≤ s.size) ∨ (0 ≤ j ∧ (s.size : Int) < j)) with h | ⟨h0, h⟩ | ⟨h0, h⟩
    · exact ⟨0, Nat.zero_le _, (place_low s h).trans (place_zero s).symm, .inl ⟨h, rfl⟩⟩
    · obtain ⟨a, rfl⟩ := Int.eq_ofNat_of_zero_le h0
      exact ⟨a, by omega, rfl, .inr (.inl ⟨by omega, by omega, rfl⟩)⟩
    · exact ⟨s.size, Nat.le_refl _, placeF_above s (Int.le_of_lt h) _ _ _ _, .inr (.inr ⟨by omega, h, rfl⟩)⟩
  rw [hp]
  clear hp hj0 hj1
  generalize hP : placeI s a = P
  have HP : Hid (placeI s a = P ∧ a ≤ s.size ∧ s.size ≤ 1000000) := ⟨hP, ha, hs⟩
  clear hP ha hs
  obtain ⟨B1, B2, B3, bV, hb⟩ := boxes3 w #[.int .i64 0, .int .i64 0] #[.int .i64 0, .int .i64 0] #[.int .i64 1, .int .i64 1] 25 25 25
  have hV : (((w.alloc (.cells #[.int .i64 0, .int .i64 0] 25)).alloc (.cells #[.int .i64 0, .int .i64 0] 25)).alloc (.cells #[.int .i64 1, .int .i64 1] 25)).heap.size = w.heap.size + 1 + 1 + 1 := by simp [World.size_alloc]
  clear hb
  rcases hc with ⟨c1, c2⟩ | ⟨c1, c2, rfl⟩ | ⟨c1, c2, c3⟩
  · go_enter Try.func14, Try.ntmps14
    go_wp2
    generalize ((w.alloc (.cells #[.int .i64 0, .int .i64 0] 25)).alloc (.cells #[.int .i64 0, .int .i64 0] 25)).alloc (.cells #[.int .i64 1, .int .i64 1] 25) = V at *
    have hit0 := iter_new V s
    have bI := below_more bV (below_iter V s 0)
    have BI1 := B1.more (below_iter V s 0)
    have BI2 := B2.more (below_iter V s 0)
    have BI3 := B3.more (below_iter V s 0)
    rw [hV] at hit0
    clear B1 B2 B3 bV hV
    go_loopg [7] s.size (fun g _ v => ∃ (pos : Nat) (l c l0 c0 : Int), pos + g = s.size ∧ v.heap[w.heap.size + 1 + 1 + 1]? = some (.stringIter s pos) ∧ BoxC v w.heap.size #[.int .i64 0, .int .i64 0] 25 ∧ BoxC v (w.heap.size + 1) #[.int .i64 l0, .int .i64 c0] 25 ∧ BoxC v (w.heap.size + 1 + 1) #[.int .i64 l, .int .i64 c] 25 ∧ Below w.heap.size w v ∧ At s pos l c ∧ 1 ≤ l ∧ l ≤ pos + 1 ∧ 1 ≤ c ∧ c ≤ pos + 1 ∧ (pos ≤ a ∨ (l0, c0) = P))
    case atStart => exact ⟨0, 1, 1, 0, 0, by omega, hit0, BI1, BI2, BI3, bI, At.zero s, by omega, by omega, by omega, by omega, .inl (Nat.zero_le _)⟩
    case round =>
      obtain ⟨pos, l, c, l0, c0, hg, hit, X1, X2, X3, bw, hA, hl1, hl2, hc1, hc2, hp⟩ := hrel
      clear hit0 BI1 BI2 BI3 bI
      obtain ⟨h1, h2, h3⟩ := HP.out
      rcases Nat.lt_or_ge pos s.size with hs | hs
      · have hnx : ∀ ty, (Instr.next (.pointer (some ⟨w.heap.size + 1 + 1 + 1, 0, none⟩)) true ty).run Try.prog wr = .ok (.tuple #[.bool true, .int .i64 pos, .int .i32 (nextR s pos)]) (wr.iterAt (w.heap.size + 1 + 1 + 1) s (pos + nextN s pos)) := fun ty => run_next_any_at wr (w.heap.size + 1 + 1 + 1) s pos ty hit hs
        have hi2 := iterAt_heap wr (w.heap.size + 1 + 1 + 1) s pos (pos + nextN s pos) hit
        have bw2 := below_iterAt bw (show w.heap.size ≤ w.heap.size + 1 + 1 + 1 by omega) s (pos + nextN s pos)
        have Y1 := X1.iterAt (g := w.heap.size + 1 + 1 + 1) s (pos + nextN s pos) (by omega)
        have Y2 := X2.iterAt (g := w.heap.size + 1 + 1 + 1) s (pos + nextN s pos) (by omega)
        have Y3 := X3.iterAt (g := w.heap.size + 1 + 1 + 1) s (pos + nextN s pos) (by omega)
        have hz := next_size hs
        by_cases hpa : a < pos
        · have hpa' : 0 < (pos : Int) := by omega
          have hlc : (l0, c0) = P := by rcases hp with hp | hp; omega; exact hp
          subst hlc
          obtain ⟨x0, x1, x2, x3⟩ := Y1.cells2
          obtain ⟨y0, y1, y2, y3⟩ := Y2.cells2
          generalize wr.iterAt (w.heap.size + 1 + 1 + 1) s (pos + nextN s pos) = wi at *
          clear hit X1 X2 X3 bw hA hp hpa Y1 Y2 Y3 hi2 hz h1 h2 h3 c1 c2
          go_wp2
          exact bodyPost_ret (v := .agg #[.int .i64 l0, .int .i64 c0]) (by simp [results, Try.results14, go_sem, x0, x1]) rfl ⟨rfl, (bw2.setCell (p := ⟨w.heap.size, 0, none⟩) (Nat.le_refl _) _).setCell (p := ⟨w.heap.size, 1, none⟩) (Nat.le_refl _) _⟩
        · have hpa' : ¬ 0 < (pos : Int) := by omega
          have HA : Hid (At s (pos + nextN s pos) (if nextR s pos = 10 then l + 1 else l) (if nextR s pos = 10 then 1 else c + 1)) := hA.next hs
          have HE : Hid (pos + nextN s pos ≤ a ∨ (l, c) = P) := by
            rcases Nat.lt_or_ge a (pos + nextN s pos) with q | q
            · exact .inr ((hA.here (at_ := (a : Int)) (by omega) (by omega) hs).symm.trans h1)
            · exact .inl q
          have HB : Hid (pos + gk = s.size ∧ pos + nextN s pos ≤ s.size ∧ 1 ≤ nextN s pos ∧ nextN s pos ≤ 4 ∧ 1 ≤ l ∧ l ≤ pos + 1 ∧ 1 ≤ c ∧ c ≤ pos + 1) := ⟨hg, hz.2.2, hz.1, hz.2.1, hl1, hl2, hc1, hc2⟩
          have CB := fun v => sign_behind l c (nextR s pos) (by omega) (by omega) (by omega) (by omega) v
          generalize wr.iterAt (w.heap.size + 1 + 1 + 1) s (pos + nextN s pos) = wi at *
          generalize nextR s pos = R at *
          generalize nextN s pos = M at *
          clear hit X1 X2 X3 bw hA hp hpa hz h1 h2 h3 hl1 hl2 hc1 hc2 hg c1 c2
          unfold AnsL at CB
          obtain ⟨p0, p1, p2, p3⟩ := Y3.drew.cells2
          obtain ⟨q0, q1, q2, q3⟩ := Y2.drew.cells2
          by_cases h10 : R = 10
          · have HA2 : Hid (At s (pos + M) (l + 1) (1)) := by have := HA.out; rw [if_pos h10, if_pos h10] at this; exact this
            rw [if_pos h10, if_pos h10] at CB
            dsimp only at CB
            clear HA h10
            go_wp2
            go_region_with (go_at_call 26; (with_reducible refine Calls.mono (CB _) ?_); rintro e w4' ⟨rfl, b4⟩; obtain ⟨p0, p1, p2, p3⟩ := (Y3.drew.more b4).cells2; obtain ⟨q0, q1, q2, q3⟩ := (Y2.drew.more b4).cells2)
            all_goals
              go_wp2
              have hB := HB.out
              have m1 : w.heap.size ≤ w.heap.size + 1 := by omega
              have m2 : w.heap.size ≤ w.heap.size + 1 + 1 := by omega
              go_roundg (s.size - (pos + M))
              case measure => omega
              case rel => exact ⟨pos + M, l + 1, 1, l, c, by omega, iter_set (iter_set (iter_set (iter_set (iter_more (show wi.drew.heap[w.heap.size + 1 + 1 + 1]? = _ from hi2) b4) (by omega) _) (by omega) _) (by omega) _) (by omega) _, (((((Y1.drew.more b4).other (by omega) _).other (by omega) _).other (by omega) _).other (by omega) _), (((((Y2.drew.more b4).set 0 (.int .i64 l)).set 1 (.int .i64 c)).other (by omega) _).other (by omega) _), (((((Y3.drew.more b4).other (by omega) _).other (by omega) _).set 0 (.int .i64 (l + 1))).set 1 (.int .i64 (1))), (((((below_more bw2.drew b4).setCell (p := ⟨w.heap.size + 1, 0, none⟩) m1 _).setCell (p := ⟨w.heap.size + 1, 1, none⟩) m1 _).setCell (p := ⟨w.heap.size + 1 + 1, 0, none⟩) m2 _).setCell (p := ⟨w.heap.size + 1 + 1, 1, none⟩) m2 _), HA2.out, by omega, by omega, by omega, by omega, HE.out⟩
          · have HA2 : Hid (At s (pos + M) (l) (c + 1)) := by have := HA.out; rw [if_neg h10, if_neg h10] at this; exact this
            rw [if_neg h10, if_neg h10] at CB
            dsimp only at CB
            clear HA h10
            go_wp2
            go_region_with (go_at_call 26; (with_reducible refine Calls.mono (CB _) ?_); rintro e w4' ⟨rfl, b4⟩; obtain ⟨p0, p1, p2, p3⟩ := (Y3.drew.more b4).cells2; obtain ⟨q0, q1, q2, q3⟩ := (Y2.drew.more b4).cells2)
            all_goals
              go_wp2
              have hB := HB.out
              have m1 : w.heap.size ≤ w.heap.size + 1 := by omega
              have m2 : w.heap.size ≤ w.heap.size + 1 + 1 := by omega
              go_roundg (s.size - (pos + M))
              case measure => omega
              case rel => exact ⟨pos + M, l, c + 1, l, c, by omega, iter_set (iter_set (iter_set (iter_set (iter_more (show wi.drew.heap[w.heap.size + 1 + 1 + 1]? = _ from hi2) b4) (by omega) _) (by omega) _) (by omega) _) (by omega) _, (((((Y1.drew.more b4).other (by omega) _).other (by omega) _).other (by omega) _).other (by omega) _), (((((Y2.drew.more b4).set 0 (.int .i64 l)).set 1 (.int .i64 c)).other (by omega) _).other (by omega) _), (((((Y3.drew.more b4).other (by omega) _).other (by omega) _).set 0 (.int .i64 (l))).set 1 (.int .i64 (c + 1))), (((((below_more bw2.drew b4).setCell (p := ⟨w.heap.size + 1, 0, none⟩) m1 _).setCell (p := ⟨w.heap.size + 1, 1, none⟩) m1 _).setCell (p := ⟨w.heap.size + 1 + 1, 0, none⟩) m2 _).setCell (p := ⟨w.heap.size + 1 + 1, 1, none⟩) m2 _), HA2.out, by omega, by omega, by omega, by omega, HE.out⟩
      · have hnx : ∀ ty, (Instr.next (.pointer (some ⟨w.heap.size + 1 + 1 + 1, 0, none⟩)) true ty).run Try.prog wr = .ok (.tuple #[.bool false]) wr := fun ty => run_next_end_at wr (w.heap.size + 1 + 1 + 1) s pos ty hit (by omega)
        obtain rfl : pos = s.size := by omega
        obtain ⟨x0, x1, x2, x3⟩ := X1.cells2
        obtain ⟨y0, y1, y2, y3⟩ := X2.cells2
        obtain ⟨z0, z1, z2, z3⟩ := X3.cells2
        by_cases hpa : a = s.size
        · have e : (0 == (s.size : Int)) = true := by rw [beq_iff_eq]; omega
          have hlc : (l, c) = P := by rw [← h1, hpa]; exact (hA.last (Int.le_refl _)).symm
          subst hlc
          clear hit X1 X2 X3 hA hp hpa h1 h2 h3 hg hs hl1 hl2 hc1 hc2 c1 c2
          go_wp2
          exact bodyPost_ret (v := .agg #[.int .i64 l, .int .i64 c]) (by simp [results, Try.results14, go_sem, x0, x1]) rfl ⟨rfl, (bw.setCell (p := ⟨w.heap.size, 0, none⟩) (Nat.le_refl _) _).setCell (p := ⟨w.heap.size, 1, none⟩) (Nat.le_refl _) _⟩
        · have e : (0 == (s.size : Int)) = false := by rw [beq_eq_false_iff_ne]; omega
          have hlc : (l0, c0) = P := by rcases hp with hp | hp; omega; exact hp
          subst hlc
          clear hit X1 X2 X3 hA hp hpa h1 h2 h3 hg hs hl1 hl2 hc1 hc2 c1 c2
          go_wp2
          exact bodyPost_ret (v := .agg #[.int .i64 l0, .int .i64 c0]) (by simp [results, Try.results14, go_sem, x0, x1]) rfl ⟨rfl, (bw.setCell (p := ⟨w.heap.size, 0, none⟩) (Nat.le_refl _) _).setCell (p := ⟨w.heap.size, 1, none⟩) (Nat.le_refl _) _⟩
  · go_enter Try.func14, Try.ntmps14
    go_wp2
    generalize ((w.alloc (.cells #[.int .i64 0, .int .i64 0] 25)).alloc (.cells #[.int .i64 0, .int .i64 0] 25)).alloc (.cells #[.int .i64 1, .int .i64 1] 25) = V at *
    have hit0 := iter_new V s
    have bI := below_more bV (below_iter V s 0)
    have BI1 := B1.more (below_iter V s 0)
    have BI2 := B2.more (below_iter V s 0)
    have BI3 := B3.more (below_iter V s 0)
    rw [hV] at hit0
    clear B1 B2 B3 bV hV
    go_loopg [7] s.size (fun g _ v => ∃ (pos : Nat) (l c l0 c0 : Int), pos + g = s.size ∧ v.heap[w.heap.size + 1 + 1 + 1]? = some (.stringIter s pos) ∧ BoxC v w.heap.size #[.int .i64 0, .int .i64 0] 25 ∧ BoxC v (w.heap.size + 1) #[.int .i64 l0, .int .i64 c0] 25 ∧ BoxC v (w.heap.size + 1 + 1) #[.int .i64 l, .int .i64 c] 25 ∧ Below w.heap.size w v ∧ At s pos l c ∧ 1 ≤ l ∧ l ≤ pos + 1 ∧ 1 ≤ c ∧ c ≤ pos + 1 ∧ (pos ≤ a ∨ (l0, c0) = P))
    case atStart => exact ⟨0, 1, 1, 0, 0, by omega, hit0, BI1, BI2, BI3, bI, At.zero s, by omega, by omega, by omega, by omega, .inl (Nat.zero_le _)⟩
    case round =>
      obtain ⟨pos, l, c, l0, c0, hg, hit, X1, X2, X3, bw, hA, hl1, hl2, hc1, hc2, hp⟩ := hrel
      clear hit0 BI1 BI2 BI3 bI
      obtain ⟨h1, h2, h3⟩ := HP.out
      rcases Nat.lt_or_ge pos s.size with hs | hs
      · have hnx : ∀ ty, (Instr.next (.pointer (some ⟨w.heap.size + 1 + 1 + 1, 0, none⟩)) true ty).run Try.prog wr = .ok (.tuple #[.bool true, .int .i64 pos, .int .i32 (nextR s pos)]) (wr.iterAt (w.heap.size + 1 + 1 + 1) s (pos + nextN s pos)) := fun ty => run_next_any_at wr (w.heap.size + 1 + 1 + 1) s pos ty hit hs
        have hi2 := iterAt_heap wr (w.heap.size + 1 + 1 + 1) s pos (pos + nextN s pos) hit
        have bw2 := below_iterAt bw (show w.heap.size ≤ w.heap.size + 1 + 1 + 1 by omega) s (pos + nextN s pos)
        have Y1 := X1.iterAt (g := w.heap.size + 1 + 1 + 1) s (pos + nextN s pos) (by omega)
        have Y2 := X2.iterAt (g := w.heap.size + 1 + 1 + 1) s (pos + nextN s pos) (by omega)
        have Y3 := X3.iterAt (g := w.heap.size + 1 + 1 + 1) s (pos + nextN s pos) (by omega)
        have hz := next_size hs
        by_cases hpa : a < pos
        · have hpa' : (a : Int) < (pos : Int) := by omega
          have hlc : (l0, c0) = P := by rcases hp with hp | hp; omega; exact hp
          subst hlc
          obtain ⟨x0, x1, x2, x3⟩ := Y1.cells2
          obtain ⟨y0, y1, y2, y3⟩ := Y2.cells2
          generalize wr.iterAt (w.heap.size + 1 + 1 + 1) s (pos + nextN s pos) = wi at *
          clear hit X1 X2 X3 bw hA hp hpa Y1 Y2 Y3 hi2 hz h1 h2 h3 c1 c2
          go_wp2
          exact bodyPost_ret (v := .agg #[.int .i64 l0, .int .i64 c0]) (by simp [results, Try.results14, go_sem, x0, x1]) rfl ⟨rfl, (bw2.setCell (p := ⟨w.heap.size, 0, none⟩) (Nat.le_refl _) _).setCell (p := ⟨w.heap.size, 1, none⟩) (Nat.le_refl _) _⟩
        · have hpa' : ¬ (a : Int) < (pos : Int) := by omega
          have HA : Hid (At s (pos + nextN s pos) (if nextR s pos = 10 then l + 1 else l) (if nextR s pos = 10 then 1 else c + 1)) := hA.next hs
          have HE : Hid (pos + nextN s pos ≤ a ∨ (l, c) = P) := by
            rcases Nat.lt_or_ge a (pos + nextN s pos) with q | q
            · exact .inr ((hA.here (at_ := (a : Int)) (by omega) (by omega) hs).symm.trans h1)
            · exact .inl q
          have HB : Hid (pos + gk = s.size ∧ pos + nextN s pos ≤ s.size ∧ 1 ≤ nextN s pos ∧ nextN s pos ≤ 4 ∧ 1 ≤ l ∧ l ≤ pos + 1 ∧ 1 ≤ c ∧ c ≤ pos + 1) := ⟨hg, hz.2.2, hz.1, hz.2.1, hl1, hl2, hc1, hc2⟩
          have CB := fun v => sign_behind l c (nextR s pos) (by omega) (by omega) (by omega) (by omega) v
          generalize wr.iterAt (w.heap.size + 1 + 1 + 1) s (pos + nextN s pos) = wi at *
          generalize nextR s pos = R at *
          generalize nextN s pos = M at *
          clear hit X1 X2 X3 bw hA hp hpa hz h1 h2 h3 hl1 hl2 hc1 hc2 hg c1 c2
          unfold AnsL at CB
          obtain ⟨p0, p1, p2, p3⟩ := Y3.drew.cells2
          obtain ⟨q0, q1, q2, q3⟩ := Y2.drew.cells2
          by_cases h10 : R = 10
          · have HA2 : Hid (At s (pos + M) (l + 1) (1)) := by have := HA.out; rw [if_pos h10, if_pos h10] at this; exact this
            rw [if_pos h10, if_pos h10] at CB
            dsimp only at CB
            clear HA h10
            go_wp2
            go_region_with (go_at_call 26; (with_reducible refine Calls.mono (CB _) ?_); rintro e w4' ⟨rfl, b4⟩; obtain ⟨p0, p1, p2, p3⟩ := (Y3.drew.more b4).cells2; obtain ⟨q0, q1, q2, q3⟩ := (Y2.drew.more b4).cells2)
            all_goals
              go_wp2
              have hB := HB.out
              have m1 : w.heap.size ≤ w.heap.size + 1 := by omega
              have m2 : w.heap.size ≤ w.heap.size + 1 + 1 := by omega
              go_roundg (s.size - (pos + M))
              case measure => omega
              case rel => exact ⟨pos + M, l + 1, 1, l, c, by omega, iter_set (iter_set (iter_set (iter_set (iter_more (show wi.drew.heap[w.heap.size + 1 + 1 + 1]? = _ from hi2) b4) (by omega) _) (by omega) _) (by omega) _) (by omega) _, (((((Y1.drew.more b4).other (by omega) _).other (by omega) _).other (by omega) _).other (by omega) _), (((((Y2.drew.more b4).set 0 (.int .i64 l)).set 1 (.int .i64 c)).other (by omega) _).other (by omega) _), (((((Y3.drew.more b4).other (by omega) _).other (by omega) _).set 0 (.int .i64 (l + 1))).set 1 (.int .i64 (1))), (((((below_more bw2.drew b4).setCell (p := ⟨w.heap.size + 1, 0, none⟩) m1 _).setCell (p := ⟨w.heap.size + 1, 1, none⟩) m1 _).setCell (p := ⟨w.heap.size + 1 + 1, 0, none⟩) m2 _).setCell (p := ⟨w.heap.size + 1 + 1, 1, none⟩) m2 _), HA2.out, by omega, by omega, by omega, by omega, HE.out⟩
          · have HA2 : Hid (At s (pos + M) (l) (c + 1)) := by have := HA.out; rw [if_neg h10, if_neg h10] at this; exact this
            rw [if_neg h10, if_neg h10] at CB
            dsimp only at CB
            clear HA h10
            go_wp2
            go_region_with (go_at_call 26; (with_reducible refine Calls.mono (CB _) ?_); rintro e w4' ⟨rfl, b4⟩; obtain ⟨p0, p1, p2, p3⟩ := (Y3.drew.more b4).cells2; obtain ⟨q0, q1, q2, q3⟩ := (Y2.drew.more b4).cells2)
            all_goals
              go_wp2
              have hB := HB.out
              have m1 : w.heap.size ≤ w.heap.size + 1 := by omega
              have m2 : w.heap.size ≤ w.heap.size + 1 + 1 := by omega
              go_roundg (s.size - (pos + M))
              case measure => omega
              case rel => exact ⟨pos + M, l, c + 1, l, c, by omega, iter_set (iter_set (iter_set (iter_set (iter_more (show wi.drew.heap[w.heap.size + 1 + 1 + 1]? = _ from hi2) b4) (by omega) _) (by omega) _) (by omega) _) (by omega) _, (((((Y1.drew.more b4).other (by omega) _).other (by omega) _).other (by omega) _).other (by omega) _), (((((Y2.drew.more b4).set 0 (.int .i64 l)).set 1 (.int .i64 c)).other (by omega) _).other (by omega) _), (((((Y3.drew.more b4).other (by omega) _).other (by omega) _).set 0 (.int .i64 (l))).set 1 (.int .i64 (c + 1))), (((((below_more bw2.drew b4).setCell (p := ⟨w.heap.size + 1, 0, none⟩) m1 _).setCell (p := ⟨w.heap.size + 1, 1, none⟩) m1 _).setCell (p := ⟨w.heap.size + 1 + 1, 0, none⟩) m2 _).setCell (p := ⟨w.heap.size + 1 + 1, 1, none⟩) m2 _), HA2.out, by omega, by omega, by omega, by omega, HE.out⟩
      · have hnx : ∀ ty, (Instr.next (.pointer (some ⟨w.heap.size + 1 + 1 + 1, 0, none⟩)) true ty).run Try.prog wr = .ok (.tuple #[.bool false]) wr := fun ty => run_next_end_at wr (w.heap.size + 1 + 1 + 1) s pos ty hit (by omega)
        obtain rfl : pos = s.size := by omega
        obtain ⟨x0, x1, x2, x3⟩ := X1.cells2
        obtain ⟨y0, y1, y2, y3⟩ := X2.cells2
        obtain ⟨z0, z1, z2, z3⟩ := X3.cells2
        by_cases hpa : a = s.size
        · have e : ((a : Int) == (s.size : Int)) = true := by rw [beq_iff_eq]; omega
          have hlc : (l, c) = P := by rw [← h1, hpa]; exact (hA.last (Int.le_refl _)).symm
          subst hlc
          clear hit X1 X2 X3 hA hp hpa h1 h2 h3 hg hs hl1 hl2 hc1 hc2 c1 c2
          go_wp2
          exact bodyPost_ret (v := .agg #[.int .i64 l, .int .i64 c]) (by simp [results, Try.results14, go_sem, x0, x1]) rfl ⟨rfl, (bw.setCell (p := ⟨w.heap.size, 0, none⟩) (Nat.le_refl _) _).setCell (p := ⟨w.heap.size, 1, none⟩) (Nat.le_refl _) _⟩
        · have e : ((a : Int) == (s.size : Int)) = false := by rw [beq_eq_false_iff_ne]; omega
          have hlc : (l0, c0) = P := by rcases hp with hp | hp; omega; exact hp
          subst hlc
          clear hit X1 X2 X3 hA hp hpa h1 h2 h3 hg hs hl1 hl2 hc1 hc2 c1 c2
          go_wp2
          exact bodyPost_ret (v := .agg #[.int .i64 l0, .int .i64 c0]) (by simp [results, Try.results14, go_sem, x0, x1]) rfl ⟨rfl, (bw.setCell (p := ⟨w.heap.size, 0, none⟩) (Nat.le_refl _) _).setCell (p := ⟨w.heap.size, 1, none⟩) (Nat.le_refl _) _⟩
  · go_enter Try.func14, Try.ntmps14
    go_wp2
    generalize ((w.alloc (.cells #[.int .i64 0, .int .i64 0] 25)).alloc (.cells #[.int .i64 0, .int .i64 0] 25)).alloc (.cells #[.int .i64 1, .int .i64 1] 25) = V at *
    have hit0 := iter_new V s
    have bI := below_more bV (below_iter V s 0)
    have BI1 := B1.more (below_iter V s 0)
    have BI2 := B2.more (below_iter V s 0)
    have BI3 := B3.more (below_iter V s 0)
    rw [hV] at hit0
    clear B1 B2 B3 bV hV
    go_loopg [7] s.size (fun g _ v => ∃ (pos : Nat) (l c l0 c0 : Int), pos + g = s.size ∧ v.heap[w.heap.size + 1 + 1 + 1]? = some (.stringIter s pos) ∧ BoxC v w.heap.size #[.int .i64 0, .int .i64 0] 25 ∧ BoxC v (w.heap.size + 1) #[.int .i64 l0, .int .i64 c0] 25 ∧ BoxC v (w.heap.size + 1 + 1) #[.int .i64 l, .int .i64 c] 25 ∧ Below w.heap.size w v ∧ At s pos l c ∧ 1 ≤ l ∧ l ≤ pos + 1 ∧ 1 ≤ c ∧ c ≤ pos + 1 ∧ (pos ≤ a ∨ (l0, c0) = P))
    case atStart => exact ⟨0, 1, 1, 0, 0, by omega, hit0, BI1, BI2, BI3, bI, At.zero s, by omega, by omega, by omega, by omega, .inl (Nat.zero_le _)⟩
    case round =>
      obtain ⟨pos, l, c, l0, c0, hg, hit, X1, X2, X3, bw, hA, hl1, hl2, hc1, hc2, hp⟩ := hrel
      clear hit0 BI1 BI2 BI3 bI
      obtain ⟨h1, h2, h3⟩ := HP.out
      rcases Nat.lt_or_ge pos s.size with hs | hs
      · have hnx : ∀ ty, (Instr.next (.pointer (some ⟨w.heap.size + 1 + 1 + 1, 0, none⟩)) true ty).run Try.prog wr = .ok (.tuple #[.bool true, .int .i64 pos, .int .i32 (nextR s pos)]) (wr.iterAt (w.heap.size + 1 + 1 + 1) s (pos + nextN s pos)) := fun ty => run_next_any_at wr (w.heap.size + 1 + 1 + 1) s pos ty hit hs
        have hi2 := iterAt_heap wr (w.heap.size + 1 + 1 + 1) s pos (pos + nextN s pos) hit
        have bw2 := below_iterAt bw (show w.heap.size ≤ w.heap.size + 1 + 1 + 1 by omega) s (pos + nextN s pos)
        have Y1 := X1.iterAt (g := w.heap.size + 1 + 1 + 1) s (pos + nextN s pos) (by omega)
        have Y2 := X2.iterAt (g := w.heap.size + 1 + 1 + 1) s (pos + nextN s pos) (by omega)
        have Y3 := X3.iterAt (g := w.heap.size + 1 + 1 + 1) s (pos + nextN s pos) (by omega)
        have hz := next_size hs
        by_cases hpa : a < pos
        · exact absurd hpa (by omega)
        · have hpa' : ¬ (s.size : Int) < (pos : Int) := by omega
          have HA : Hid (At s (pos + nextN s pos) (if nextR s pos = 10 then l + 1 else l) (if nextR s pos = 10 then 1 else c + 1)) := hA.next hs
          have HE : Hid (pos + nextN s pos ≤ a ∨ (l, c) = P) := by
            rcases Nat.lt_or_ge a (pos + nextN s pos) with q | q
            · exact .inr ((hA.here (at_ := (a : Int)) (by omega) (by omega) hs).symm.trans h1)
            · exact .inl q
          have HB : Hid (pos + gk = s.size ∧ pos + nextN s pos ≤ s.size ∧ 1 ≤ nextN s pos ∧ nextN s pos ≤ 4 ∧ 1 ≤ l ∧ l ≤ pos + 1 ∧ 1 ≤ c ∧ c ≤ pos + 1) := ⟨hg, hz.2.2, hz.1, hz.2.1, hl1, hl2, hc1, hc2⟩
          have CB := fun v => sign_behind l c (nextR s pos) (by omega) (by omega) (by omega) (by omega) v
          generalize wr.iterAt (w.heap.size + 1 + 1 + 1) s (pos + nextN s pos) = wi at *
          generalize nextR s pos = R at *
          generalize nextN s pos = M at *
          clear hit X1 X2 X3 bw hA hp hpa hz h1 h2 h3 hl1 hl2 hc1 hc2 hg c1 c2
          unfold AnsL at CB
          obtain ⟨p0, p1, p2, p3⟩ := Y3.drew.cells2
          obtain ⟨q0, q1, q2, q3⟩ := Y2.drew.cells2
          by_cases h10 : R = 10
          · have HA2 : Hid (At s (pos + M) (l + 1) (1)) := by have := HA.out; rw [if_pos h10, if_pos h10] at this; exact this
            rw [if_pos h10, if_pos h10] at CB
            dsimp only at CB
            clear HA h10
            go_wp2
            go_region_with (go_at_call 26; (with_reducible refine Calls.mono (CB _) ?_); rintro e w4' ⟨rfl, b4⟩; obtain ⟨p0, p1, p2, p3⟩ := (Y3.drew.more b4).cells2; obtain ⟨q0, q1, q2, q3⟩ := (Y2.drew.more b4).cells2)
            all_goals
              go_wp2
              have hB := HB.out
              have m1 : w.heap.size ≤ w.heap.size + 1 := by omega
              have m2 : w.heap.size ≤ w.heap.size + 1 + 1 := by omega
              go_roundg (s.size - (pos + M))
              case measure => omega
              case rel => exact ⟨pos + M, l + 1, 1, l, c, by omega, iter_set (iter_set (iter_set (iter_set (iter_more (show wi.drew.heap[w.heap.size + 1 + 1 + 1]? = _ from hi2) b4) (by omega) _) (by omega) _) (by omega) _) (by omega) _, (((((Y1.drew.more b4).other (by omega) _).other (by omega) _).other (by omega) _).other (by omega) _), (((((Y2.drew.more b4).set 0 (.int .i64 l)).set 1 (.int .i64 c)).other (by omega) _).other (by omega) _), (((((Y3.drew.more b4).other (by omega) _).other (by omega) _).set 0 (.int .i64 (l + 1))).set 1 (.int .i64 (1))), (((((below_more bw2.drew b4).setCell (p := ⟨w.heap.size + 1, 0, none⟩) m1 _).setCell (p := ⟨w.heap.size + 1, 1, none⟩) m1 _).setCell (p := ⟨w.heap.size + 1 + 1, 0, none⟩) m2 _).setCell (p := ⟨w.heap.size + 1 + 1, 1, none⟩) m2 _), HA2.out, by omega, by omega, by omega, by omega, HE.out⟩
          · have HA2 : Hid (At s (pos + M) (l) (c + 1)) := by have := HA.out; rw [if_neg h10, if_neg h10] at this; exact this
            rw [if_neg h10, if_neg h10] at CB
            dsimp only at CB
            clear HA h10
            go_wp2
            go_region_with (go_at_call 26; (with_reducible refine Calls.mono (CB _) ?_); rintro e w4' ⟨rfl, b4⟩; obtain ⟨p0, p1, p2, p3⟩ := (Y3.drew.more b4).cells2; obtain ⟨q0, q1, q2, q3⟩ := (Y2.drew.more b4).cells2)
            all_goals
              go_wp2
              have hB := HB.out
              have m1 : w.heap.size ≤ w.heap.size + 1 := by omega
              have m2 : w.heap.size ≤ w.heap.size + 1 + 1 := by omega
              go_roundg (s.size - (pos + M))
              case measure => omega
              case rel => exact ⟨pos + M, l, c + 1, l, c, by omega, iter_set (iter_set (iter_set (iter_set (iter_more (show wi.drew.heap[w.heap.size + 1 + 1 + 1]? = _ from hi2) b4) (by omega) _) (by omega) _) (by omega) _) (by omega) _, (((((Y1.drew.more b4).other (by omega) _).other (by omega) _).other (by omega) _).other (by omega) _), (((((Y2.drew.more b4).set 0 (.int .i64 l)).set 1 (.int .i64 c)).other (by omega) _).other (by omega) _), (((((Y3.drew.more b4).other (by omega) _).other (by omega) _).set 0 (.int .i64 (l))).set 1 (.int .i64 (c + 1))), (((((below_more bw2.drew b4).setCell (p := ⟨w.heap.size + 1, 0, none⟩) m1 _).setCell (p := ⟨w.heap.size + 1, 1, none⟩) m1 _).setCell (p := ⟨w.heap.size + 1 + 1, 0, none⟩) m2 _).setCell (p := ⟨w.heap.size + 1 + 1, 1, none⟩) m2 _), HA2.out, by omega, by omega, by omega, by omega, HE.out⟩
      · have hnx : ∀ ty, (Instr.next (.pointer (some ⟨w.heap.size + 1 + 1 + 1, 0, none⟩)) true ty).run Try.prog wr = .ok (.tuple #[.bool false]) wr := fun ty => run_next_end_at wr (w.heap.size + 1 + 1 + 1) s pos ty hit (by omega)
        obtain rfl : pos = s.size := by omega
        obtain ⟨x0, x1, x2, x3⟩ := X1.cells2
        obtain ⟨y0, y1, y2, y3⟩ := X2.cells2
        obtain ⟨z0, z1, z2, z3⟩ := X3.cells2
        by_cases hpa : a = s.size
        · have e : ((s.size : Int) == (s.size : Int)) = true := by rw [beq_iff_eq]
          have hlc : (l, c) = P := by rw [← h1, hpa]; exact (hA.last (Int.le_refl _)).symm
          subst hlc
          clear hit X1 X2 X3 hA hp hpa h1 h2 h3 hg hs hl1 hl2 hc1 hc2 c1 c2
          go_wp2
          exact bodyPost_ret (v := .agg #[.int .i64 l, .int .i64 c]) (by simp [results, Try.results14, go_sem, x0, x1]) rfl ⟨rfl, (bw.setCell (p := ⟨w.heap.size, 0, none⟩) (Nat.le_refl _) _).setCell (p := ⟨w.heap.size, 1, none⟩) (Nat.le_refl _) _⟩
        · exact absurd c3 hpa
end Go.Proofs.Ytfdheodkipfpeaa
/-
  Laws of no function: where words, digits and numbers end, and what a token is: as functions of a text. No conditions of the program.
-/
namespace Go.Proofs.Ytfdheodkipfpeaa
open Go.Lib

/-- The kind of the rune at a byte, -1 behind the end; how many bytes it has. -/
def kindAt (s : ByteArray) (i : Nat) : Int := if i < s.size then kindI (nextR s i) else -1
def stepAt (s : ByteArray) (i : Nat) : Nat := if i < s.size then nextN s i else 0
theorem kindAt_range (s : ByteArray) (i : Nat) : -1 ≤ kindAt s i ∧ kindAt s i ≤ 4 := by
  unfold kindAt
  have := kindI_range (nextR s i)
  split <;> omega
theorem kindAt_in {s : ByteArray} {i : Nat} (h : 0 ≤ kindAt s i) : i < s.size := by
  unfold kindAt at h
  split at h
  · assumption
  · omega
/-- A digit is a byte. -/
theorem kindI_digit (r : Int) : kindI r = 2 ↔ 48 ≤ r ∧ r ≤ 57 := by
  unfold kindI
  repeat' split
  all_goals omega
theorem kindAt_digit {s : ByteArray} {i : Nat} : kindAt s i = 2 ↔ i < s.size ∧ 48 ≤ bt s i ∧ bt s i ≤ 57 := by
  unfold kindAt
  split
  · rename_i h
    rw [kindI_digit]
    constructor
    · intro h2
      have h3 := (next_low s i).1 (by omega)
      have h4 := (next_byte h3).1
      exact ⟨h, by omega, by omega⟩
    · rintro ⟨-, h2, h3⟩
      have h4 := (next_byte (s := s) (i := i) (by omega)).1
      omega
  · rename_i h
    exact ⟨fun e => by omega, fun e => absurd e.1 h⟩
theorem stepAt_digit {s : ByteArray} {i : Nat} (h : kindAt s i = 2) : stepAt s i = 1 := by
  have h1 := kindAt_digit.1 h
  unfold stepAt
  rw [if_pos h1.1, (next_byte (by omega)).2]
theorem stepAt_size {s : ByteArray} {i : Nat} (h : i < s.size) : 1 ≤ stepAt s i ∧ i + stepAt s i ≤ s.size ∧ stepAt s i ≤ 4 := by
  have := next_size h
  unfold stepAt
  rw [if_pos h]; omega

/-- Where digits end. -/
def digF (s : ByteArray) : Nat → Nat → Nat
  | 0, i => i
  | f + 1, i => if kindAt s i = 2 then digF s f (i + 1) else i
def digEnd (s : ByteArray) (i : Nat) : Nat := digF s (s.size + 1) i
/-- Where a word ends. -/
def wordF (s : ByteArray) : Nat → Nat → Nat
  | 0, i => i
  | f + 1, i => if kindAt s i = 1 ∨ kindAt s i = 2 then wordF s f (i + stepAt s i) else i
def wordEnd (s : ByteArray) (i : Nat) : Nat := wordF s (s.size + 1) i
/-- Where the first stroke stands, or the end. -/
def cutF (s : ByteArray) : Nat → Nat → Nat
  | 0, i => i
  | f + 1, i => if i < s.size then (if bt s i = 124 then i else cutF s f (i + 1)) else i
def cutI (s : ByteArray) : Nat := cutF s (s.size + 1) 0

theorem digF_more (s : ByteArray) : ∀ f i, s.size < i + f → ∀ g, s.size < i + g → digF s f i = digF s g i := by
  intro f
  induction f with
  | zero =>
    intro i hf g hg
    cases g with
    | zero => rfl
    | succ g => unfold digF; rw [if_neg (fun e => by have := (kindAt_digit.1 e).1; omega)]
  | succ f ih =>
    intro i hf g hg
    cases g with
    | zero => unfold digF; rw [if_neg (fun e => by have := (kindAt_digit.1 e).1; omega)]
    | succ g => unfold digF; rw [ih _ (by omega) g (by omega)]
theorem digEnd_step {s : ByteArray} {i : Nat} (h : kindAt s i = 2) : digEnd s i = digEnd s (i + 1) := by
  unfold digEnd
  have hi := (kindAt_digit.1 h).1
  show (if kindAt s i = 2 then _ else _) = _
  rw [if_pos h]
  exact digF_more s _ _ (by omega) _ (by omega)
theorem digEnd_here {s : ByteArray} {i : Nat} (h : kindAt s i ≠ 2) : digEnd s i = i := by
  unfold digEnd
  show (if kindAt s i = 2 then _ else _) = _
  rw [if_neg h]
theorem wordF_more (s : ByteArray) : ∀ f i, s.size < i + f → ∀ g, s.size < i + g → wordF s f i = wordF s g i := by
  intro f
  induction f with
  | zero =>
    intro i hf g hg
    cases g with
    | zero => rfl
    | succ g => unfold wordF; rw [if_neg (fun e => by have := kindAt_in (s := s) (i := i) (by omega); omega)]
  | succ f ih =>
    intro i hf g hg
    cases g with
    | zero => unfold wordF; rw [if_neg (fun e => by have := kindAt_in (s := s) (i := i) (by omega); omega)]
    | succ g =>
      unfold wordF
      by_cases h : kindAt s i = 1 ∨ kindAt s i = 2
      · have := stepAt_size (kindAt_in (s := s) (i := i) (by omega))
        rw [if_pos h, if_pos h, ih _ (by omega) g (by omega)]
      · rw [if_neg h, if_neg h]
theorem wordEnd_step {s : ByteArray} {i : Nat} (h : kindAt s i = 1 ∨ kindAt s i = 2) : wordEnd s i = wordEnd s (i + stepAt s i) := by
  unfold wordEnd
  have hi := stepAt_size (kindAt_in (s := s) (i := i) (by omega))
  show (if kindAt s i = 1 ∨ kindAt s i = 2 then _ else _) = _
  rw [if_pos h]
  exact wordF_more s _ _ (by omega) _ (by omega)
theorem wordEnd_here {s : ByteArray} {i : Nat} (h : ¬ (kindAt s i = 1 ∨ kindAt s i = 2)) : wordEnd s i = i := by
  unfold wordEnd
  show (if kindAt s i = 1 ∨ kindAt s i = 2 then _ else _) = _
  rw [if_neg h]
theorem digF_range (s : ByteArray) : ∀ f i, i ≤ digF s f i ∧ (i ≤ s.size → digF s f i ≤ s.size) := by
  intro f
  induction f with
  | zero => intro i; exact ⟨Nat.le_refl _, id⟩
  | succ f ih =>
    intro i
    unfold digF
    split
    · rename_i h
      have h1 := (kindAt_digit.1 h).1
      have := ih (i + 1)
      exact ⟨by omega, fun _ => this.2 (by omega)⟩
    · exact ⟨Nat.le_refl _, id⟩
theorem digEnd_range (s : ByteArray) (i : Nat) : i ≤ digEnd s i ∧ (i ≤ s.size → digEnd s i ≤ s.size) := digF_range s _ i
theorem wordF_range (s : ByteArray) : ∀ f i, i ≤ wordF s f i ∧ (i ≤ s.size → wordF s f i ≤ s.size) := by
  intro f
  induction f with
  | zero => intro i; exact ⟨Nat.le_refl _, id⟩
  | succ f ih =>
    intro i
    unfold wordF
    split
    · rename_i h
      have h1 := stepAt_size (kindAt_in (s := s) (i := i) (by omega))
      have := ih (i + stepAt s i)
      exact ⟨by omega, fun _ => this.2 (by omega)⟩
    · exact ⟨Nat.le_refl _, id⟩
theorem wordEnd_range (s : ByteArray) (i : Nat) : i ≤ wordEnd s i ∧ (i ≤ s.size → wordEnd s i ≤ s.size) := wordF_range s _ i
theorem cutF_more (s : ByteArray) : ∀ f i, s.size < i + f → ∀ g, s.size < i + g → cutF s f i = cutF s g i := by
  intro f
  induction f with
  | zero =>
    intro i hf g hg
    cases g with
    | zero => rfl
    | succ g => unfold cutF; rw [if_neg (by omega)]
  | succ f ih =>
    intro i hf g hg
    cases g with
    | zero => unfold cutF; rw [if_neg (by omega)]
    | succ g => unfold cutF; rw [ih _ (by omega) g (by omega)]
theorem cutF_range (s : ByteArray) : ∀ f i, i ≤ cutF s f i ∧ (i ≤ s.size → cutF s f i ≤ s.size) := by
  intro f
  induction f with
  | zero => intro i; exact ⟨Nat.le_refl _, id⟩
  | succ f ih =>
    intro i
    have := ih (i + 1)
    unfold cutF
    split
    · split
      · exact ⟨Nat.le_refl _, id⟩
      · exact ⟨by omega, fun _ => this.2 (by omega)⟩
    · exact ⟨Nat.le_refl _, id⟩
theorem cutI_le (s : ByteArray) : cutI s ≤ s.size := (cutF_range s _ 0).2 (Nat.zero_le _)

/-- Whether digits are a part of a number. -/
def partB (s : ByteArray) : Bool := decide (1 ≤ s.size ∧ s.size ≤ 40) && decide (digEnd s 0 = s.size) && (decide (s.size = 1) || decide (bt s 0 ≠ 48))
/-- Whether a text is a number that may be. -/
def numB (s : ByteArray) : Bool :=
  if cutI s = s.size then partB s else partB (s.extract 0 (cutI s)) && partB (s.extract (cutI s + 1) s.size) && !((s.extract (cutI s + 1) s.size).toList == [48])
/-- Where a number ends. -/
def numEnd (s : ByteArray) (i : Nat) : Nat :=
  if digEnd s i < s.size ∧ bt s (digEnd s i) = 124 ∧ digEnd s i + 1 < digEnd s (digEnd s i + 1) then digEnd s (digEnd s i + 1) else digEnd s i
theorem numEnd_range {s : ByteArray} {i : Nat} (h : i ≤ s.size) : i ≤ numEnd s i ∧ numEnd s i ≤ s.size := by
  have h1 := digEnd_range s i
  have h2 := digEnd_range s (digEnd s i + 1)
  unfold numEnd
  split
  · rename_i hc
    exact ⟨by omega, h2.2 (by omega)⟩
  · exact ⟨h1.1, h1.2 h⟩
end Go.Proofs.Ytfdheodkipfpeaa
/-
  Laws of no function: what a token is: as a function of a text. No conditions of the program.
-/
namespace Go.Proofs.Ytfdheodkipfpeaa
open Go.Lib

/-- A token: kind, text, line, column. -/
abbrev Tok := Int × ByteArray × Int × Int
/-- The token that begins at a byte: its kind, its text, where it ends, its error. -/
def tokenI (s : ByteArray) (i : Nat) : Int × ByteArray × Nat × Int :=
  if kindAt s i = 1 then (if i + 40 < wordEnd s i then (0, ⟨#[]⟩, wordEnd s i, 4) else (0, s.extract i (wordEnd s i), wordEnd s i, 0))
  else if kindAt s i = 2 then
    (if 40 < cutI (s.extract i (numEnd s i)) ∨ cutI (s.extract i (numEnd s i)) + 41 < (s.extract i (numEnd s i)).size then (0, ⟨#[]⟩, numEnd s i, 4)
     else if numB (s.extract i (numEnd s i)) = true then (1, s.extract i (numEnd s i), numEnd s i, 0) else (0, ⟨#[]⟩, numEnd s i, 5))
  else if kindAt s i = 4 then (2, s.extract i (i + stepAt s i), i + stepAt s i, 0)
  else (0, ⟨#[]⟩, i, 5)
end Go.Proofs.Ytfdheodkipfpeaa
/-
  Laws of no function: the tokens of a text, or why there are none, and where: as a function of the text. No conditions of the program.
-/
namespace Go.Proofs.Ytfdheodkipfpeaa
open Go.Lib

/-- Kinds and texts alone. -/
def ktx (l : List Tok) : List (Int × ByteArray) := l.map fun t => (t.1, t.2.1)
theorem ktx_length (l : List Tok) : (ktx l).length = l.length := List.length_map _
theorem ktx_get {l : List Tok} {i : Nat} {t : Tok} (h : l[i]? = some t) : (ktx l)[i]? = some (t.1, t.2.1) := by
  unfold ktx; rw [List.getElem?_map, h]; rfl

/-- The tokens from a byte on, behind those that are there. -/
def lexF (s : ByteArray) : Nat → Nat → List Tok → List Tok × (Int × Int) × Int
  | 0, _, out => (out, (0, 0), 0)
  | f + 1, i, out =>
    if i < s.size then
      (if kindAt s i = 3 then lexF s f (i + 1) out
       else if 4000 ≤ out.length then ([], placeI s i, 4)
       else if (tokenI s i).2.2.2 ≠ 0 then ([], placeI s i, (tokenI s i).2.2.2)
       else lexF s f (tokenI s i).2.2.1 (out ++ [((tokenI s i).1, (tokenI s i).2.1, (placeI s i).1, (placeI s i).2)]))
    else (out, (0, 0), 0)
/-- The tokens of a text. -/
def lexI (s : ByteArray) : List Tok × (Int × Int) × Int := if 60000 < s.size then ([], (1, 1), 4) else lexF s (s.size + 1) 0 []

theorem wordEnd_lt {s : ByteArray} {i : Nat} (h : kindAt s i = 1) : i < wordEnd s i := by
  rw [wordEnd_step (.inl h)]
  have h1 := stepAt_size (kindAt_in (s := s) (i := i) (by omega))
  have h2 := wordEnd_range s (i + stepAt s i)
  omega
theorem numEnd_lt {s : ByteArray} {i : Nat} (h : kindAt s i = 2) : i < numEnd s i := by
  have h0 := digEnd_step h
  have h1 := digEnd_range s (i + 1)
  have h2 := digEnd_range s (digEnd s i + 1)
  unfold numEnd
  split <;> omega
/-- A token ends behind where it begins. -/
theorem tokenI_end {s : ByteArray} {i : Nat} (hi : i < s.size) (h : (tokenI s i).2.2.2 = 0) : i < (tokenI s i).2.2.1 ∧ (tokenI s i).2.2.1 ≤ s.size := by
  have hw := wordEnd_range s i
  have hn := numEnd_range (s := s) (i := i) (by omega)
  have hz := stepAt_size hi
  unfold tokenI at h ⊢
  by_cases k1 : kindAt s i = 1
  · have := wordEnd_lt k1
    rw [if_pos k1] at h ⊢
    split at h
    · exact absurd h (by simp)
    · rename_i hc
      rw [if_neg hc]
      exact ⟨this, hw.2 (by omega)⟩
  rw [if_neg k1] at h ⊢
  by_cases k2 : kindAt s i = 2
  · have := numEnd_lt k2
    rw [if_pos k2] at h ⊢
    split at h
    · exact absurd h (by simp)
    · rename_i hc
      rw [if_neg hc]
      split at h
      · rename_i hd
        rw [if_pos hd]
        exact ⟨this, hn.2⟩
      · exact absurd h (by simp)
  rw [if_neg k2] at h ⊢
  by_cases k4 : kindAt s i = 4
  · rw [if_pos k4]
    exact ⟨by show i < i + stepAt s i; omega, by show i + stepAt s i ≤ s.size; omega⟩
  rw [if_neg k4] at h
  exact absurd h (by simp)
theorem lexF_more (s : ByteArray) : ∀ f i out, s.size < i + f → ∀ g, s.size < i + g → lexF s f i out = lexF s g i out := by
  intro f
  induction f with
  | zero =>
    intro i out hf g hg
    cases g with
    | zero => rfl
    | succ g => unfold lexF; rw [if_neg (by omega)]
  | succ f ih =>
    intro i out hf g hg
    cases g with
    | zero => unfold lexF; rw [if_neg (by omega)]
    | succ g =>
      unfold lexF
      by_cases h : i < s.size
      · rw [if_pos h, if_pos h, ih _ _ (by omega) g (by omega)]
        by_cases h3 : kindAt s i = 3
        · rw [if_pos h3, if_pos h3]
        rw [if_neg h3, if_neg h3]
        by_cases h4 : 4000 ≤ out.length
        · rw [if_pos h4, if_pos h4]
        rw [if_neg h4, if_neg h4]
        by_cases h5 : (tokenI s i).2.2.2 ≠ 0
        · rw [if_pos h5, if_pos h5]
        have he := tokenI_end h (Decidable.not_not.1 h5)
        rw [if_neg h5, if_neg h5, ih _ _ (by omega) g (by omega)]
      · rw [if_neg h, if_neg h]
theorem lexF_step {s : ByteArray} {i : Nat} {out : List Tok} (h : i < s.size) : lexF s (s.size + 1) i out =
    if kindAt s i = 3 then lexF s (s.size + 1) (i + 1) out
    else if 4000 ≤ out.length then ([], placeI s i, 4)
    else if (tokenI s i).2.2.2 ≠ 0 then ([], placeI s i, (tokenI s i).2.2.2)
    else lexF s (s.size + 1) (tokenI s i).2.2.1 (out ++ [((tokenI s i).1, (tokenI s i).2.1, (placeI s i).1, (placeI s i).2)]) := by
  show (if i < s.size then _ else _) = _
  rw [if_pos h, lexF_more s s.size (i + 1) out (by omega) (s.size + 1) (by omega)]
  by_cases h3 : kindAt s i = 3
  · rw [if_pos h3, if_pos h3]
  rw [if_neg h3, if_neg h3]
  by_cases h4 : 4000 ≤ out.length
  · rw [if_pos h4, if_pos h4]
  rw [if_neg h4, if_neg h4]
  by_cases h5 : (tokenI s i).2.2.2 ≠ 0
  · rw [if_pos h5, if_pos h5]
  have he := tokenI_end h (Decidable.not_not.1 h5)
  rw [if_neg h5, if_neg h5, lexF_more s s.size _ _ (by omega) (s.size + 1) (by omega)]
theorem lexF_end {s : ByteArray} {i : Nat} {out : List Tok} (h : ¬ i < s.size) : lexF s (s.size + 1) i out = (out, (0, 0), 0) := by
  show (if i < s.size then _ else _) = _
  rw [if_neg h]

theorem lexF_length (s : ByteArray) : ∀ f i out, out.length ≤ 4000 → (lexF s f i out).1.length ≤ 4000 := by
  intro f
  induction f with
  | zero => intro i out h; exact h
  | succ f ih =>
    intro i out h
    unfold lexF
    split
    · split
      · exact ih _ _ h
      · split
        · simp
        · split
          · simp
          · exact ih _ _ (by simp; omega)
    · exact h
theorem lexI_length (s : ByteArray) : (lexI s).1.length ≤ 4000 := by
  unfold lexI
  split
  · simp
  · exact lexF_length s _ _ _ (by simp)
end Go.Proofs.Ytfdheodkipfpeaa
/-
  Laws of no function: the tokens of two texts on lines behind each other. No conditions of the program.
-/
namespace Go.Proofs.Ytfdheodkipfpeaa
open Go.Lib

set_option maxRecDepth 100000 in
set_option maxHeartbeats 8000000 in
/-- A line's end behind a text is no part of a rune. -/
theorem decodeN_line {n n' b0 b1 b2 b3 b1' b2' b3' : Nat} (hn : 1 ≤ n) (h0 : n < n') (h1 : 1 < n → b1' = b1) (h2 : 2 < n → b2' = b2) (h3 : 3 < n → b3' = b3) (e1 : n = 1 → b1' < 128) (e2 : n = 2 → b2' < 128) (e3 : n = 3 → b3' < 128) : decodeN n' b0 b1' b2' b3' = decodeN n b0 b1 b2 b3 := by
  rcases (by omega : n = 1 ∨ n = 2 ∨ n = 3 ∨ 3 < n) with rfl | rfl | rfl | h
  · have e := e1 rfl
    clear h1 h2 h3 e1 e2 e3
    unfold decodeN
    repeat' split
    all_goals first | rfl | (exfalso; omega)
  · obtain rfl := h1 (by omega)
    have e := e2 rfl
    clear h1 h2 h3 e1 e2 e3
    unfold decodeN
    repeat' split
    all_goals first | rfl | (exfalso; omega)
  · obtain rfl := h1 (by omega)
    obtain rfl := h2 (by omega)
    have e := e3 rfl
    clear h1 h2 h3 e1 e2 e3
    unfold decodeN
    repeat' split
    all_goals first | rfl | (exfalso; omega)
  · obtain rfl := h1 (by omega)
    obtain rfl := h2 (by omega)
    obtain rfl := h3 (by omega)
    unfold decodeN
    simp only [show 1 < n' from by omega, show 2 < n' from by omega, show 3 < n' from by omega, show 1 < n from by omega, show 2 < n from by omega, h]

/-- u is s, a line's end or a blank, and something more. -/
structure Lined (u s : ByteArray) : Prop where
  size : s.size < u.size
  same : ∀ i, i < s.size → bt u i = bt s i
  line : bt u s.size = 10 ∨ bt u s.size = 32
theorem lined (s t : ByteArray) : Lined (s ++ (⟨#[10]⟩ ++ t)) s := by
  refine ⟨?_, fun i h => bt_append_left s _ h, ?_⟩
  · rw [ByteArray.size_append, ByteArray.size_append]
    show s.size < s.size + (1 + t.size)
    omega
  · left
    have := bt_append_right s (⟨#[10]⟩ ++ t) 0
    rw [Nat.add_zero] at this
    rw [this, bt_append_left _ _ (show 0 < (⟨#[10]⟩ : ByteArray).size from by decide)]; rfl

theorem Lined.decode {u s : ByteArray} (h : Lined u s) {i : Nat} (hi : i < s.size) : Utf8.decode u i = Utf8.decode s i := by
  have hs := h.size
  rw [decode_bt, decode_bt, h.same i hi]
  refine decodeN_line (by omega) (by omega) (fun _ => h.same _ (by omega)) (fun _ => h.same _ (by omega)) (fun _ => h.same _ (by omega)) (fun e => ?_) (fun e => ?_) (fun e => ?_)
  · rw [show i + 1 = s.size by omega]; have := h.line; omega
  · rw [show i + 2 = s.size by omega]; have := h.line; omega
  · rw [show i + 3 = s.size by omega]; have := h.line; omega
theorem Lined.next {u s : ByteArray} (h : Lined u s) {i : Nat} (hi : i < s.size) : nextR u i = nextR s i ∧ nextN u i = nextN s i := by
  unfold nextR nextN; rw [h.decode hi]; exact ⟨rfl, rfl⟩
theorem Lined.kind {u s : ByteArray} (h : Lined u s) {i : Nat} (hi : i < s.size) : kindAt u i = kindAt s i ∧ stepAt u i = stepAt s i := by
  have hs := h.size
  unfold kindAt stepAt
  rw [if_pos hi, if_pos hi, if_pos (show i < u.size by omega), if_pos (show i < u.size by omega), (h.next hi).1, (h.next hi).2]
  exact ⟨rfl, rfl⟩
theorem Lined.kind_end {u s : ByteArray} (h : Lined u s) : kindAt u s.size = 3 := by
  have hs := h.size
  have hl := h.line
  unfold kindAt
  rw [if_pos hs, (next_byte (by omega)).1]
  rcases hl with hl | hl <;> rw [hl] <;> decide
theorem kindAt_size (s : ByteArray) : kindAt s s.size = -1 := by unfold kindAt; rw [if_neg (by omega)]
theorem Lined.digits {u s : ByteArray} (h : Lined u s) : ∀ k i, i ≤ s.size → s.size - i ≤ k → digEnd u i = digEnd s i := by
  intro k
  induction k with
  | zero =>
    intro i hi hk
    obtain rfl : i = s.size := by omega
    rw [digEnd_here (by rw [h.kind_end]; decide), digEnd_here (by rw [kindAt_size]; decide)]
  | succ k ih =>
    intro i hi hk
    rcases Nat.lt_or_ge i s.size with hlt | hge
    · have hk1 := (h.kind hlt).1
      by_cases h2 : kindAt s i = 2
      · rw [digEnd_step h2, digEnd_step (by rw [hk1]; exact h2)]
        exact ih _ (by omega) (by omega)
      · rw [digEnd_here h2, digEnd_here (by rw [hk1]; exact h2)]
    · obtain rfl : i = s.size := by omega
      rw [digEnd_here (by rw [h.kind_end]; decide), digEnd_here (by rw [kindAt_size]; decide)]
theorem Lined.word {u s : ByteArray} (h : Lined u s) : ∀ k i, i ≤ s.size → s.size - i ≤ k → wordEnd u i = wordEnd s i := by
  intro k
  induction k with
  | zero =>
    intro i hi hk
    obtain rfl : i = s.size := by omega
    rw [wordEnd_here (by rw [h.kind_end]; decide), wordEnd_here (by rw [kindAt_size]; decide)]
  | succ k ih =>
    intro i hi hk
    rcases Nat.lt_or_ge i s.size with hlt | hge
    · obtain ⟨hk1, hk2⟩ := h.kind hlt
      have hz := stepAt_size hlt
      by_cases h2 : kindAt s i = 1 ∨ kindAt s i = 2
      · rw [wordEnd_step h2, wordEnd_step (by rw [hk1]; exact h2), hk2]
        exact ih _ (by omega) (by omega)
      · rw [wordEnd_here h2, wordEnd_here (by rw [hk1]; exact h2)]
    · obtain rfl : i = s.size := by omega
      rw [wordEnd_here (by rw [h.kind_end]; decide), wordEnd_here (by rw [kindAt_size]; decide)]
theorem Lined.number {u s : ByteArray} (h : Lined u s) {i : Nat} (hi : i ≤ s.size) : numEnd u i = numEnd s i := by
  have hs := h.size
  have hd := h.digits _ i hi (Nat.le_refl _)
  have hr := (digEnd_range s i).2 hi
  unfold numEnd
  rw [hd]
  generalize digEnd s i = E at *
  rcases Nat.lt_or_ge E s.size with hlt | hge
  · rw [h.same E hlt, h.digits _ (E + 1) (by omega) (Nat.le_refl _)]
    have e : (E < u.size) = (E < s.size) := propext ⟨fun _ => hlt, fun _ => by omega⟩
    simp only [e]
  · obtain rfl : E = s.size := by omega
    rw [if_neg (fun e => by have := h.line; omega), if_neg (fun e => by omega)]
theorem extract_same {u s : ByteArray} (hz : s.size ≤ u.size) (h : ∀ i, i < s.size → bt u i = bt s i) {i e : Nat} (he : e ≤ s.size) : u.extract i e = s.extract i e := by
  refine ByteArray.ext ?_
  rw [ByteArray.data_extract, ByteArray.data_extract]
  refine Array.ext ?_ ?_
  · simp only [Array.size_extract]
    show min e u.size - i = min e s.size - i
    omega
  · intro j h1 h2
    simp only [Array.size_extract] at h1 h2
    have hj : i + j < s.size := by
      have h2' : j < min e s.size - i := h2
      omega
    have h3 := h (i + j) hj
    rw [bt_get (show i + j < u.size by omega), bt_get hj] at h3
    rw [Array.getElem_extract, Array.getElem_extract]
    exact UInt8.toNat_inj.1 h3
theorem Lined.token {u s : ByteArray} (h : Lined u s) {i : Nat} (hi : i < s.size) : tokenI u i = tokenI s i := by
  have hs := h.size
  have hx : ∀ e, e ≤ s.size → u.extract i e = s.extract i e := fun e he => extract_same (by omega) h.same he
  obtain ⟨k1, k2⟩ := h.kind hi
  have hw := (wordEnd_range s i).2 (by omega)
  have hn := (numEnd_range (s := s) (i := i) (by omega)).2
  have hz := stepAt_size hi
  unfold tokenI
  rw [k1, k2, h.word _ i (by omega) (Nat.le_refl _), h.number (by omega), hx _ hw, hx _ hn, hx _ hz.2.1]
end Go.Proofs.Ytfdheodkipfpeaa
/-
  Laws of no function: the tokens of two texts on lines behind each other, as lists. No conditions of the program.
-/
namespace Go.Proofs.Ytfdheodkipfpeaa
open Go.Lib

theorem placeF_stepL {s : ByteArray} {at_ : Int} {i : Nat} {l c : Int} (h : i < s.size) : placeF s at_ (s.size + 1) i l c = if at_ < i + nextN s i then (l, c) else placeF s at_ (s.size + 1) (i + nextN s i) (if nextR s i = 10 then l + 1 else l) (if nextR s i = 10 then 1 else c + 1) := by
  have hn := next_size h
  show (if i < s.size then _ else _) = _
  rw [if_pos h, placeF_more s at_ s.size (i + nextN s i) _ _ (by omega) (s.size + 1) (by omega)]
theorem Lined.placeF {u s : ByteArray} (h : Lined u s) {j : Int} (hj : j < s.size) : ∀ (k i : Nat) (l c : Int), (i : Int) ≤ j → s.size - i ≤ k → placeF u j (u.size + 1) i l c = placeF s j (s.size + 1) i l c := by
  have hs := h.size
  intro k
  induction k with
  | zero => intro i l c hi hk; omega
  | succ k ih =>
    intro i l c hi hk
    have hlt : i < s.size := by omega
    have hz := next_size hlt
    rw [placeF_stepL hlt, placeF_stepL (show i < u.size by omega), (h.next hlt).1, (h.next hlt).2]
    by_cases hc : j < (i : Int) + nextN s i
    · rw [if_pos hc, if_pos hc]
    · rw [if_neg hc, if_neg hc]
      exact ih _ _ _ (by omega) (by omega)
theorem Lined.place {u s : ByteArray} (h : Lined u s) {i : Nat} (hi : i < s.size) : placeI u i = placeI s i := by
  unfold placeI
  exact h.placeF (j := (i : Int)) (by omega) s.size 0 1 1 (by omega) (by omega)

/-- The tokens of the first one, then the rest. -/
theorem Lined.lex {u s : ByteArray} (h : Lined u s) : ∀ k i out, i ≤ s.size → s.size - i ≤ k →
    lexF u (u.size + 1) i out = if (lexF s (s.size + 1) i out).2.2 = 0 then lexF u (u.size + 1) s.size (lexF s (s.size + 1) i out).1 else lexF s (s.size + 1) i out := by
  have hs := h.size
  intro k
  induction k with
  | zero =>
    intro i out hi hk
    obtain rfl : i = s.size := by omega
    rw [lexF_end (s := s) (by omega), if_pos rfl]
  | succ k ih =>
    intro i out hi hk
    rcases Nat.lt_or_ge i s.size with hlt | hge
    · rw [lexF_step (s := s) hlt, lexF_step (s := u) (by omega), (h.kind hlt).1, h.token hlt, h.place hlt]
      by_cases h3 : kindAt s i = 3
      · rw [if_pos h3, if_pos h3]
        exact ih _ _ (by omega) (by omega)
      rw [if_neg h3, if_neg h3]
      by_cases h4 : 4000 ≤ out.length
      · rw [if_pos h4, if_pos h4, if_neg (by simp)]
      rw [if_neg h4, if_neg h4]
      by_cases h5 : (tokenI s i).2.2.2 ≠ 0
      · rw [if_pos h5, if_pos h5, if_neg h5]
      have he := tokenI_end hlt (Decidable.not_not.1 h5)
      rw [if_neg h5, if_neg h5]
      exact ih _ _ (by omega) (by omega)
    · obtain rfl : i = s.size := by omega
      rw [lexF_end (s := s) (by omega), if_pos rfl]
theorem Lined.blank {u s : ByteArray} (h : Lined u s) (out : List Tok) : lexF u (u.size + 1) s.size out = lexF u (u.size + 1) (s.size + 1) out := by
  rw [lexF_step (s := u) h.size, if_pos h.kind_end]

/-- u is t behind k bytes. -/
structure Shifted (u t : ByteArray) (k : Nat) : Prop where
  size : u.size = k + t.size
  same : ∀ j, bt u (k + j) = bt t j
theorem shifted (s t : ByteArray) : Shifted (s ++ (⟨#[10]⟩ ++ t)) t (s.size + 1) := by
  refine ⟨?_, fun j => ?_⟩
  · rw [ByteArray.size_append, ByteArray.size_append]
    show s.size + (1 + t.size) = _
    omega
  · rw [Nat.add_assoc, bt_append_right]
    have := bt_append_right ⟨#[10]⟩ t j
    rwa [show (⟨#[10]⟩ : ByteArray).size = 1 from rfl] at this
theorem Shifted.decode {u t : ByteArray} {k : Nat} (h : Shifted u t k) (i : Nat) : Utf8.decode u (k + i) = Utf8.decode t i := by
  rw [decode_bt, decode_bt, h.same i, show k + i + 1 = k + (i + 1) by omega, show k + i + 2 = k + (i + 2) by omega, show k + i + 3 = k + (i + 3) by omega, h.same, h.same, h.same, h.size, Nat.add_sub_add_left]
theorem Shifted.kind {u t : ByteArray} {k : Nat} (h : Shifted u t k) (i : Nat) : kindAt u (k + i) = kindAt t i ∧ stepAt u (k + i) = stepAt t i := by
  unfold kindAt stepAt nextR nextN
  rw [h.decode i, h.size]
  by_cases hi : i < t.size
  · rw [if_pos hi, if_pos hi, if_pos (by omega), if_pos (by omega)]; exact ⟨rfl, rfl⟩
  · rw [if_neg hi, if_neg hi, if_neg (by omega), if_neg (by omega)]; exact ⟨rfl, rfl⟩
theorem Shifted.digits {u t : ByteArray} {k : Nat} (h : Shifted u t k) : ∀ m i, t.size - i ≤ m → digEnd u (k + i) = k + digEnd t i := by
  intro m
  induction m with
  | zero =>
    intro i hm
    have hk : kindAt t i ≠ 2 := fun e => by have := (kindAt_digit.1 e).1; omega
    rw [digEnd_here hk, digEnd_here (by rw [(h.kind i).1]; exact hk)]
  | succ m ih =>
    intro i hm
    by_cases h2 : kindAt t i = 2
    · have := (kindAt_digit.1 h2).1
      rw [digEnd_step h2, digEnd_step (by rw [(h.kind i).1]; exact h2), show k + i + 1 = k + (i + 1) by omega]
      exact ih _ (by omega)
    · rw [digEnd_here h2, digEnd_here (by rw [(h.kind i).1]; exact h2)]
theorem Shifted.word {u t : ByteArray} {k : Nat} (h : Shifted u t k) : ∀ m i, t.size - i ≤ m → wordEnd u (k + i) = k + wordEnd t i := by
  intro m
  induction m with
  | zero =>
    intro i hm
    have hk : ¬ (kindAt t i = 1 ∨ kindAt t i = 2) := fun e => by have := kindAt_in (s := t) (i := i) (by omega); omega
    rw [wordEnd_here hk, wordEnd_here (by rw [(h.kind i).1]; exact hk)]
  | succ m ih =>
    intro i hm
    by_cases h2 : kindAt t i = 1 ∨ kindAt t i = 2
    · have hz := stepAt_size (kindAt_in (s := t) (i := i) (by omega))
      rw [wordEnd_step h2, wordEnd_step (by rw [(h.kind i).1]; exact h2), (h.kind i).2, show k + i + stepAt t i = k + (i + stepAt t i) by omega]
      exact ih _ (by omega)
    · rw [wordEnd_here h2, wordEnd_here (by rw [(h.kind i).1]; exact h2)]
theorem Shifted.number {u t : ByteArray} {k : Nat} (h : Shifted u t k) (i : Nat) : numEnd u (k + i) = k + numEnd t i := by
  unfold numEnd
  rw [h.digits _ i (Nat.le_refl _), show k + digEnd t i + 1 = k + (digEnd t i + 1) by omega, h.digits _ (digEnd t i + 1) (Nat.le_refl _), h.same, h.size]
  by_cases hc : digEnd t i < t.size ∧ bt t (digEnd t i) = 124 ∧ digEnd t i + 1 < digEnd t (digEnd t i + 1)
  · rw [if_pos hc, if_pos ⟨by omega, hc.2.1, by omega⟩]
  · rw [if_neg hc, if_neg (fun e => hc ⟨by omega, e.2.1, by omega⟩)]
theorem Shifted.extract {u t : ByteArray} {k : Nat} (h : Shifted u t k) (i e : Nat) : u.extract (k + i) (k + e) = t.extract i e := by
  refine ByteArray.ext ?_
  rw [ByteArray.data_extract, ByteArray.data_extract]
  have hz := h.size
  refine Array.ext ?_ ?_
  · simp only [Array.size_extract]
    show min (k + e) u.size - (k + i) = min e t.size - i
    omega
  · intro j h1 h2
    simp only [Array.size_extract] at h1 h2
    have hj : i + j < t.size := by
      have h2' : j < min e t.size - i := h2
      omega
    have h3 := h.same (i + j)
    rw [← Nat.add_assoc, bt_get (show k + i + j < u.size by omega), bt_get hj] at h3
    rw [Array.getElem_extract, Array.getElem_extract]
    exact UInt8.toNat_inj.1 h3
theorem Shifted.token {u t : ByteArray} {k : Nat} (h : Shifted u t k) (i : Nat) : tokenI u (k + i) = ((tokenI t i).1, (tokenI t i).2.1, k + (tokenI t i).2.2.1, (tokenI t i).2.2.2) := by
  unfold tokenI
  rw [(h.kind i).1, (h.kind i).2, h.word _ i (Nat.le_refl _), h.number i, h.extract, h.extract, show k + i + stepAt t i = k + (i + stepAt t i) by omega, h.extract]
  by_cases k1 : kindAt t i = 1
  · rw [if_pos k1, if_pos k1]
    by_cases c : i + 40 < wordEnd t i
    · rw [if_pos c, if_pos (by omega)]
    · rw [if_neg c, if_neg (by omega)]
  rw [if_neg k1, if_neg k1]
  by_cases k2 : kindAt t i = 2
  · rw [if_pos k2, if_pos k2]
    repeat' split
    all_goals rfl
  rw [if_neg k2, if_neg k2]
  split <;> rfl

/-- So many lines further on. -/
def shiftT (n : Int) (l : List Tok) : List Tok := l.map fun t => (t.1, t.2.1, t.2.2.1 + n, t.2.2.2)
theorem shiftT_append (n : Int) (l m : List Tok) : shiftT n (l ++ m) = shiftT n l ++ shiftT n m := List.map_append
theorem shiftT_length (n : Int) (l : List Tok) : (shiftT n l).length = l.length := List.length_map _
/-- The tokens of another text behind k bytes, each so many lines further on. -/
theorem Shifted.lex {u t : ByteArray} {k : Nat} (h : Shifted u t k) {n : Int} (hp : ∀ i : Nat, placeI u ((k + i : Nat) : Int) = ((placeI t i).1 + n, (placeI t i).2)) (a : List Tok) : ∀ m i out, t.size - i ≤ m → a.length + out.length + (t.size - i) ≤ 4000 →
    lexF u (u.size + 1) (k + i) (a ++ shiftT n out) = if (lexF t (t.size + 1) i out).2.2 = 0 then (a ++ shiftT n (lexF t (t.size + 1) i out).1, (0, 0), 0) else ([], ((lexF t (t.size + 1) i out).2.1.1 + n, (lexF t (t.size + 1) i out).2.1.2), (lexF t (t.size + 1) i out).2.2) := by
  have hz := h.size
  intro m
  induction m with
  | zero =>
    intro i out hm hl
    rw [lexF_end (s := t) (by omega), lexF_end (s := u) (by omega), if_pos rfl]
  | succ m ih =>
    intro i out hm hl
    rcases Nat.lt_or_ge i t.size with hlt | hge
    · have hla : (a ++ shiftT n out).length = a.length + out.length := by rw [List.length_append, shiftT_length]
      rw [lexF_step (s := t) hlt, lexF_step (s := u) (by omega), (h.kind i).1, h.token i, hp i, hla]
      by_cases h3 : kindAt t i = 3
      · rw [if_pos h3, if_pos h3, show k + i + 1 = k + (i + 1) by omega]
        exact ih _ _ (by omega) (by omega)
      rw [if_neg h3, if_neg h3, if_neg (show ¬ 4000 ≤ out.length by omega), if_neg (show ¬ 4000 ≤ a.length + out.length by omega)]
      by_cases h5 : (tokenI t i).2.2.2 ≠ 0
      · rw [if_pos h5, if_pos h5, if_neg h5]
      have he := tokenI_end hlt (Decidable.not_not.1 h5)
      rw [if_neg h5, if_neg h5]
      have := ih (tokenI t i).2.2.1 (out ++ [((tokenI t i).1, (tokenI t i).2.1, (placeI t i).1, (placeI t i).2)]) (by omega) (by rw [List.length_append]; simp; omega)
      rw [shiftT_append, ← List.append_assoc] at this
      exact this
    · rw [lexF_end (s := t) (by omega), lexF_end (s := u) (by omega), if_pos rfl]

theorem lexF_count (s : ByteArray) : ∀ f i out, (lexF s f i out).1.length ≤ out.length + (s.size - i) := by
  intro f
  induction f with
  | zero => intro i out; exact Nat.le_add_right _ _
  | succ f ih =>
    intro i out
    unfold lexF
    split
    · rename_i hi
      split
      · have := ih (i + 1) out; omega
      · split
        · simp
        · split
          · simp
          · rename_i h5
            have he := tokenI_end hi (Decidable.not_not.1 h5)
            have := ih (tokenI s i).2.2.1 (out ++ [((tokenI s i).1, (tokenI s i).2.1, (placeI s i).1, (placeI s i).2)])
            rw [List.length_append, List.length_singleton] at this
            omega
    · exact Nat.le_add_right _ _

theorem lexI_short {s : ByteArray} (h : s.size ≤ 60000) : lexI s = lexF s (s.size + 1) 0 [] := if_neg (by omega)
/-- ON LINES BEHIND EACH OTHER. -/
theorem lex_joins (s t : ByteArray) (hs : s.size ≤ 200) (ht : t.size ≤ 200) : lexI (s ++ (⟨#[10]⟩ ++ t)) =
    if (lexI s).2.2 ≠ 0 then lexI s else if (lexI t).2.2 ≠ 0 then ([], ((lexI t).2.1.1 + (1 + lines s s.size), (lexI t).2.1.2), (lexI t).2.2) else ((lexI s).1 ++ shiftT (1 + lines s s.size) (lexI t).1, (0, 0), 0) := by
  have L := lined s t
  have S := shifted s t
  have hz := S.size
  have hp : ∀ i : Nat, placeI (s ++ (⟨#[10]⟩ ++ t)) ((s.size + 1 + i : Nat) : Int) = ((placeI t i).1 + (1 + (lines s s.size : Int)), (placeI t i).2) := fun i => by
    have := place_behind s t (i : Int) (by omega)
    rw [show ((s.size + 1 + i : Nat) : Int) = (s.size : Int) + 1 + i by omega]
    exact this
  generalize s ++ (⟨#[10]⟩ ++ t) = u at *
  rw [lexI_short (s := u) (by omega), lexI_short (s := s) (by omega), lexI_short (s := t) (by omega), L.lex s.size 0 [] (by omega) (by omega)]
  by_cases h1 : (lexF s (s.size + 1) 0 []).2.2 = 0
  · rw [if_pos h1, if_neg (fun e => e h1), L.blank]
    have hc := lexF_count s (s.size + 1) 0 []
    have := S.lex hp (lexF s (s.size + 1) 0 []).1 t.size 0 [] (by omega) (by simp at hc ⊢; omega)
    rw [Nat.add_zero, show shiftT (1 + (lines s s.size : Int)) [] = [] from rfl, List.append_nil] at this
    rw [this]
    by_cases h2 : (lexF t (t.size + 1) 0 []).2.2 = 0
    · rw [if_pos h2, if_neg (fun e => e h2)]
    · rw [if_neg h2, if_pos h2]
  · rw [if_neg h1, if_pos h1]
end Go.Proofs.Ytfdheodkipfpeaa
/-
  Laws of no function: a text cut off at a rune's end reads as before. No conditions of the program.
-/
namespace Go.Proofs.Ytfdheodkipfpeaa
open Go.Lib

set_option maxRecDepth 100000 in
set_option maxHeartbeats 8000000 in
/-- A rune that is told whole is told so of the text that ends behind it. -/
theorem decodeN_less {n n' b0 b1 b2 b3 b1' b2' b3' : Nat} (h : (decodeN n' b0 b1' b2' b3').1 ≠ 65533) (hn : (decodeN n' b0 b1' b2' b3').2 ≤ n) (h1 : 1 < n → b1 = b1') (h2 : 2 < n → b2 = b2') (h3 : 3 < n → b3 = b3') : decodeN n b0 b1 b2 b3 = decodeN n' b0 b1' b2' b3' := by
  unfold decodeN at h hn ⊢
  by_cases c0 : b0 < 128
  · simp only [c0, if_true]
  simp only [c0, if_false] at h hn ⊢
  by_cases c1 : b0 / 32 = 6 ∧ (1 < n' ∧ b1' / 64 = 2)
  · rw [if_pos c1] at h hn ⊢
    by_cases d : b0 % 32 * 64 + b1' % 64 ≥ 128
    · rw [if_pos d] at hn ⊢
      dsimp only at hn
      obtain rfl := h1 (by omega)
      rw [if_pos ⟨c1.1, by omega, c1.2.2⟩, if_pos d]
    · rw [if_neg d] at h; exact absurd rfl h
  rw [if_neg c1] at h hn ⊢
  by_cases c2 : b0 / 16 = 14 ∧ (1 < n' ∧ b1' / 64 = 2) ∧ (2 < n' ∧ b2' / 64 = 2)
  · rw [if_pos c2] at h hn ⊢
    by_cases d : b0 % 16 * 4096 + b1' % 64 * 64 + b2' % 64 ≥ 2048 ∧ (b0 % 16 * 4096 + b1' % 64 * 64 + b2' % 64 < 55296 ∨ (57344 ≤ b0 % 16 * 4096 + b1' % 64 * 64 + b2' % 64 ∧ b0 % 16 * 4096 + b1' % 64 * 64 + b2' % 64 ≤ 1114111))
    · rw [if_pos d] at hn ⊢
      dsimp only at hn
      obtain rfl := h1 (by omega)
      obtain rfl := h2 (by omega)
      rw [if_neg (by omega), if_pos ⟨c2.1, ⟨by omega, c2.2.1.2⟩, by omega, c2.2.2.2⟩, if_pos d]
    · rw [if_neg d] at h; exact absurd rfl h
  rw [if_neg c2] at h hn ⊢
  by_cases c3 : b0 / 8 = 30 ∧ (1 < n' ∧ b1' / 64 = 2) ∧ (2 < n' ∧ b2' / 64 = 2) ∧ (3 < n' ∧ b3' / 64 = 2)
  · rw [if_pos c3] at h hn ⊢
    by_cases d : b0 % 8 * 262144 + b1' % 64 * 4096 + b2' % 64 * 64 + b3' % 64 ≥ 65536 ∧ (b0 % 8 * 262144 + b1' % 64 * 4096 + b2' % 64 * 64 + b3' % 64 < 55296 ∨ (57344 ≤ b0 % 8 * 262144 + b1' % 64 * 4096 + b2' % 64 * 64 + b3' % 64 ∧ b0 % 8 * 262144 + b1' % 64 * 4096 + b2' % 64 * 64 + b3' % 64 ≤ 1114111))
    · rw [if_pos d] at hn ⊢
      dsimp only at hn
      obtain rfl := h1 (by omega)
      obtain rfl := h2 (by omega)
      obtain rfl := h3 (by omega)
      rw [if_neg (by omega), if_neg (by omega), if_pos ⟨c3.1, ⟨by omega, c3.2.1.2⟩, ⟨by omega, c3.2.2.1.2⟩, by omega, c3.2.2.2.2⟩, if_pos d]
    · rw [if_neg d] at h; exact absurd rfl h
  rw [if_neg c3] at h; exact absurd rfl h

/-- v is the first bytes of s. -/
structure Front (v s : ByteArray) : Prop where
  size : v.size ≤ s.size
  same : ∀ i, i < v.size → bt v i = bt s i
theorem front (s : ByteArray) {e : Nat} (he : e ≤ s.size) : Front (s.extract 0 e) s := by
  have hz : (s.extract 0 e).size = e := by rw [ByteArray.size_extract]; omega
  refine ⟨by omega, fun i hi => ?_⟩
  rw [bt_get hi, bt_get (show i < s.size by omega)]
  congr 1
  show (s.extract 0 e).data[i]'_ = s.data[i]'_
  simp only [ByteArray.data_extract, Array.getElem_extract, Nat.zero_add]
theorem Front.decode {v s : ByteArray} (h : Front v s) {i : Nat} (hi : i < v.size) (hr : nextR s i ≠ 65533) (hn : i + nextN s i ≤ v.size) : Utf8.decode v i = Utf8.decode s i := by
  have hs := h.size
  unfold nextR nextN at *
  rw [decode_bt s] at hr hn
  rw [decode_bt, decode_bt s, h.same i hi]
  exact decodeN_less (fun e => hr (by rw [e]; rfl)) (by omega) (fun _ => h.same _ (by omega)) (fun _ => h.same _ (by omega)) (fun _ => h.same _ (by omega))
theorem Front.kind {v s : ByteArray} (h : Front v s) {i : Nat} (hi : i < v.size) (hk : 1 ≤ kindAt s i) (hn : i + stepAt s i ≤ v.size) : kindAt v i = kindAt s i ∧ stepAt v i = stepAt s i := by
  have hs := h.size
  have hi2 : i < s.size := by omega
  have hr : nextR s i ≠ 65533 := by
    intro e
    unfold kindAt at hk
    rw [if_pos hi2, e, kind_err] at hk
    omega
  have hd := h.decode hi hr (by unfold stepAt at hn; rw [if_pos hi2] at hn; exact hn)
  unfold kindAt stepAt nextR nextN
  rw [if_pos hi, if_pos hi, if_pos hi2, if_pos hi2, hd]
  exact ⟨rfl, rfl⟩
theorem Front.kind_back {v s : ByteArray} (h : Front v s) {i : Nat} (hk : 1 ≤ kindAt v i) : kindAt s i = kindAt v i := by
  have hs := h.size
  have hi := kindAt_in (s := v) (i := i) (by omega)
  have hr : nextR v i ≠ 65533 := by
    intro e
    unfold kindAt at hk
    rw [if_pos hi, e, kind_err] at hk
    omega
  have hd : Utf8.decode s i = Utf8.decode v i := by
    unfold nextR at hr
    rw [decode_bt v] at hr
    rw [decode_bt, decode_bt v, ← h.same i hi]
    exact decodeN_more (fun e => hr (by rw [e]; rfl)) (by omega) (fun _ => (h.same _ (by omega)).symm) (fun _ => (h.same _ (by omega)).symm) (fun _ => (h.same _ (by omega)).symm)
  unfold kindAt nextR
  rw [if_pos hi, if_pos (by omega), hd]
theorem Front.digit {v s : ByteArray} (h : Front v s) {i : Nat} (hi : i < v.size) : kindAt v i = 2 ↔ kindAt s i = 2 := by
  have hs := h.size
  rw [kindAt_digit, kindAt_digit, h.same i hi]
  constructor
  · intro e; exact ⟨by omega, e.2⟩
  · intro e; exact ⟨hi, e.2⟩
theorem Front.digits {v s : ByteArray} (h : Front v s) : ∀ k i, i ≤ v.size → v.size - i ≤ k → digEnd s i ≤ v.size → digEnd v i = digEnd s i := by
  intro k
  induction k with
  | zero =>
    intro i hi hk he
    obtain rfl : i = v.size := by omega
    have := (digEnd_range s v.size).1
    rw [digEnd_here (s := v) (by rw [kindAt_size]; decide)]
    omega
  | succ k ih =>
    intro i hi hk he
    rcases Nat.lt_or_ge i v.size with hlt | hge
    · by_cases h2 : kindAt s i = 2
      · rw [digEnd_step h2] at he ⊢
        rw [digEnd_step ((h.digit hlt).2 h2)]
        exact ih _ (by omega) (by omega) he
      · rw [digEnd_here h2, digEnd_here (fun e => h2 ((h.digit hlt).1 e))]
    · obtain rfl : i = v.size := by omega
      have := (digEnd_range s v.size).1
      rw [digEnd_here (s := v) (by rw [kindAt_size]; decide)]
      omega
theorem Front.word {v s : ByteArray} (h : Front v s) : ∀ k i, i ≤ v.size → v.size - i ≤ k → wordEnd s i ≤ v.size → wordEnd v i = wordEnd s i := by
  intro k
  induction k with
  | zero =>
    intro i hi hk he
    obtain rfl : i = v.size := by omega
    have := (wordEnd_range s v.size).1
    rw [wordEnd_here (s := v) (by rw [kindAt_size]; decide)]
    omega
  | succ k ih =>
    intro i hi hk he
    rcases Nat.lt_or_ge i v.size with hlt | hge
    · by_cases h2 : kindAt s i = 1 ∨ kindAt s i = 2
      · have hz := stepAt_size (kindAt_in (s := s) (i := i) (by omega))
        rw [wordEnd_step h2] at he ⊢
        have hr := (wordEnd_range s (i + stepAt s i)).1
        obtain ⟨k1, k2⟩ := h.kind hlt (by omega) (by omega)
        rw [wordEnd_step (by rw [k1]; exact h2), k2]
        exact ih _ (by omega) (by omega) he
      · rw [wordEnd_here h2, wordEnd_here (fun e => h2 (by rw [h.kind_back (by omega)]; exact e))]
    · obtain rfl : i = v.size := by omega
      have := (wordEnd_range s v.size).1
      rw [wordEnd_here (s := v) (by rw [kindAt_size]; decide)]
      omega
theorem Front.number {v s : ByteArray} (h : Front v s) {i : Nat} (hi : i ≤ v.size) (he : numEnd s i ≤ v.size) : numEnd v i = numEnd s i := by
  have hs := h.size
  have h1 := digEnd_range s (digEnd s i + 1)
  have hle : digEnd s i ≤ v.size := by unfold numEnd at he; split at he <;> omega
  have hd := h.digits _ i hi (Nat.le_refl _) hle
  unfold numEnd at he ⊢
  rw [hd]
  generalize digEnd s i = E at *
  by_cases hc : E < s.size ∧ bt s E = 124 ∧ E + 1 < digEnd s (E + 1)
  · rw [if_pos hc] at he ⊢
    rw [h.digits _ (E + 1) (by omega) (Nat.le_refl _) he, h.same E (by omega), if_pos ⟨by omega, hc.2.1, hc.2.2⟩]
  · rw [if_neg hc, if_neg]
    rintro ⟨c1, c2, c3⟩
    refine hc ⟨by omega, by rw [← h.same E c1]; exact c2, ?_⟩
    have hv := (digEnd_range v (E + 1)).2 (by omega)
    have hk : kindAt v (E + 1) = 2 := by
      by_cases hk : kindAt v (E + 1) = 2
      · exact hk
      · rw [digEnd_here hk] at c3; omega
    have hk2 := (h.digit (i := E + 1) (by omega)).1 hk
    rw [digEnd_step hk2]
    have := (digEnd_range s (E + 1 + 1)).1
    omega
theorem front_extract {v s : ByteArray} (h : Front v s) {i e : Nat} (he : e ≤ v.size) : s.extract i e = v.extract i e := extract_same h.size (fun j hj => (h.same j hj).symm) he
theorem Front.token {v s : ByteArray} (h : Front v s) {i : Nat} (hi : i < v.size) (he : (tokenI s i).2.2.1 ≤ v.size) (hk : 1 ≤ kindAt s i) : tokenI v i = tokenI s i := by
  have hs := h.size
  have hz := stepAt_size (show i < s.size by omega)
  have hkr := kindAt_range s i
  unfold tokenI at he ⊢
  rcases (by omega : kindAt s i = 1 ∨ kindAt s i = 2 ∨ kindAt s i = 3 ∨ kindAt s i = 4) with k | k | k | k
  · rw [if_pos k] at he
    have hw : wordEnd s i ≤ v.size := by split at he <;> exact he
    have h1 : i + stepAt s i ≤ wordEnd s i := by rw [wordEnd_step (.inl k)]; exact (wordEnd_range s _).1
    have kv : kindAt v i = 1 := (h.kind hi hk (by omega)).1.trans k
    rw [if_pos k, if_pos kv, h.word _ i (by omega) (Nat.le_refl _) hw, front_extract h hw]
  · rw [if_neg (show ¬ kindAt s i = 1 by omega), if_pos k] at he
    have hw : numEnd s i ≤ v.size := by
      repeat' split at he
      all_goals exact he
    have kv := (h.digit hi).2 k
    rw [if_neg (show ¬ kindAt s i = 1 by omega), if_pos k, if_neg (show ¬ kindAt v i = 1 by omega), if_pos kv, h.number (by omega) hw, front_extract h hw]
  · have hb : kindAt v i = 3 := by
      have hs1 : stepAt s i = 1 := by
        unfold kindAt at k
        unfold stepAt
        rw [if_pos (show i < s.size by omega)] at k ⊢
        have : nextR s i < 128 := by
          unfold kindI at k
          repeat' split at k
          all_goals omega
        exact (next_byte ((next_low s i).1 this)).2
      exact (h.kind hi hk (by omega)).1.trans k
    rw [if_neg (show ¬ kindAt s i = 1 by omega), if_neg (show ¬ kindAt s i = 2 by omega), if_neg (show ¬ kindAt s i = 4 by omega), if_neg (show ¬ kindAt v i = 1 by omega), if_neg (show ¬ kindAt v i = 2 by omega), if_neg (show ¬ kindAt v i = 4 by omega)]
  · rw [if_neg (show ¬ kindAt s i = 1 by omega), if_neg (show ¬ kindAt s i = 2 by omega), if_pos k] at he
    obtain ⟨k1, k2⟩ := h.kind hi hk he
    rw [if_neg (show ¬ kindAt s i = 1 by omega), if_neg (show ¬ kindAt s i = 2 by omega), if_pos k, if_neg (show ¬ kindAt v i = 1 by omega), if_neg (show ¬ kindAt v i = 2 by omega), if_pos (k1.trans k), k2, front_extract h he]
end Go.Proofs.Ytfdheodkipfpeaa
/-
  Laws of no function: where a text's runes begin, each place once; the tokens of a text that is cut off behind a token. No conditions of the program.
-/
namespace Go.Proofs.Ytfdheodkipfpeaa
open Go.Lib

/-- A rune begins at i, at this place, and no byte ahead of it is ill-formed. -/
def Reach (s : ByteArray) (i : Nat) (l c : Int) : Prop := ∀ P : Nat → Int → Int → Prop, P 0 1 1 →
  (∀ i l c, P i l c → i < s.size → nextR s i ≠ 65533 → P (i + nextN s i) (if nextR s i = 10 then l + 1 else l) (if nextR s i = 10 then 1 else c + 1)) → P i l c
theorem Reach.zero (s : ByteArray) : Reach s 0 1 1 := fun _ h0 _ => h0
theorem Reach.next {s : ByteArray} {i : Nat} {l c : Int} (h : Reach s i l c) (hi : i < s.size) (hr : nextR s i ≠ 65533) : Reach s (i + nextN s i) (if nextR s i = 10 then l + 1 else l) (if nextR s i = 10 then 1 else c + 1) :=
  fun P h0 hn => hn _ _ _ (h P h0 hn) hi hr
theorem Reach.at {s : ByteArray} {i : Nat} {l c : Int} (h : Reach s i l c) : At s i l c := h (At s) (At.zero s) (fun _ _ _ h hi _ => h.next hi)
theorem Reach.front {v s : ByteArray} (hf : Front v s) {i : Nat} {l c : Int} (h : Reach s i l c) (hi : i ≤ v.size) : Reach v i l c := by
  refine h (fun i l c => i ≤ v.size → Reach v i l c) (fun _ => Reach.zero v) ?_ hi
  intro i l c ih his hr hle
  have hz := next_size his
  have hd := hf.decode (show i < v.size by omega) hr hle
  have e1 : nextR v i = nextR s i := by unfold nextR; rw [hd]
  have e2 : nextN v i = nextN s i := by unfold nextN; rw [hd]
  have := (ih (by omega)).next (show i < v.size by omega) (by rw [e1]; exact hr)
  rw [e1, e2] at this
  exact this
theorem Reach.ahead {s : ByteArray} {i : Nat} {l c : Int} (h : Reach s i l c) : ∀ at_ : Int, 0 ≤ at_ → at_ < i → (placeI s at_).1 < l ∨ (placeI s at_).1 = l ∧ (placeI s at_).2 < c := by
  refine (h (fun i l c => At s i l c ∧ ∀ at_ : Int, 0 ≤ at_ → at_ < i → (placeI s at_).1 < l ∨ (placeI s at_).1 = l ∧ (placeI s at_).2 < c) ⟨At.zero s, fun at_ h0 h1 => by omega⟩ ?_).2
  rintro i l c ⟨ha, ih⟩ hi hr
  refine ⟨ha.next hi, fun at_ h0 h1 => ?_⟩
  by_cases hlt : at_ < i
  · have := ih at_ h0 hlt
    by_cases h10 : nextR s i = 10
    · rw [if_pos h10, if_pos h10]; left; omega
    · rw [if_neg h10, if_neg h10]; omega
  · have e := ha.here (at_ := at_) (by omega) (by omega) hi
    rw [e]
    by_cases h10 : nextR s i = 10
    · rw [if_pos h10, if_pos h10]; left; show l < l + 1; omega
    · rw [if_neg h10, if_neg h10]; right; exact ⟨rfl, by show c < c + 1; omega⟩
theorem Reach.apart {s : ByteArray} {i : Nat} {l c : Int} (h : Reach s i l c) {at_ : Int} (h0 : 0 ≤ at_) (h1 : at_ < i) : placeI s at_ ≠ (l, c) := by
  intro e
  have := h.ahead at_ h0 h1
  rw [e] at this
  dsimp only at this
  omega
theorem Reach.here {s : ByteArray} {i : Nat} {l c : Int} (h : Reach s i l c) (hi : i < s.size) : placeI s (i : Int) = (l, c) := h.at.here (Int.le_refl _) (by have := next_size hi; omega) hi

theorem stepAt_blank {s : ByteArray} {i : Nat} (h : kindAt s i = 3) : stepAt s i = 1 := by
  have hi := kindAt_in (s := s) (i := i) (by omega)
  unfold kindAt at h
  rw [if_pos hi] at h
  have hr : nextR s i < 128 := by
    unfold kindI at h
    repeat' split at h
    all_goals omega
  unfold stepAt
  rw [if_pos hi, (next_byte ((next_low s i).1 hr)).2]
theorem kind_good {s : ByteArray} {i : Nat} (hk : 1 ≤ kindAt s i) : i < s.size ∧ nextR s i ≠ 65533 ∧ stepAt s i = nextN s i := by
  have hi := kindAt_in (s := s) (i := i) (by omega)
  refine ⟨hi, fun e => ?_, by unfold stepAt; rw [if_pos hi]⟩
  unfold kindAt at hk
  rw [if_pos hi, e, kind_err] at hk
  omega
theorem Reach.step {s : ByteArray} {i : Nat} {l c : Int} (h : Reach s i l c) (hk : 1 ≤ kindAt s i) : ∃ l' c', Reach s (i + stepAt s i) l' c' := by
  obtain ⟨h1, h2, h3⟩ := kind_good hk
  rw [h3]
  exact ⟨_, _, h.next h1 h2⟩
theorem Reach.word {s : ByteArray} : ∀ k i l c, s.size - i ≤ k → Reach s i l c → ∃ l' c', Reach s (wordEnd s i) l' c' := by
  intro k
  induction k with
  | zero =>
    intro i l c hk h
    rw [wordEnd_here (fun e => by have := kindAt_in (s := s) (i := i) (by omega); omega)]
    exact ⟨_, _, h⟩
  | succ k ih =>
    intro i l c hk h
    by_cases h2 : kindAt s i = 1 ∨ kindAt s i = 2
    · have hz := stepAt_size (kindAt_in (s := s) (i := i) (by omega))
      obtain ⟨l', c', h'⟩ := h.step (by omega)
      rw [wordEnd_step h2]
      exact ih _ _ _ (by omega) h'
    · rw [wordEnd_here h2]; exact ⟨_, _, h⟩
theorem Reach.digits {s : ByteArray} : ∀ k i l c, s.size - i ≤ k → Reach s i l c → ∃ l' c', Reach s (digEnd s i) l' c' := by
  intro k
  induction k with
  | zero =>
    intro i l c hk h
    rw [digEnd_here (fun e => by have := (kindAt_digit.1 e).1; omega)]
    exact ⟨_, _, h⟩
  | succ k ih =>
    intro i l c hk h
    by_cases h2 : kindAt s i = 2
    · have hz := (kindAt_digit.1 h2).1
      obtain ⟨l', c', h'⟩ := h.step (by omega)
      rw [stepAt_digit h2] at h'
      rw [digEnd_step h2]
      exact ih _ _ _ (by omega) h'
    · rw [digEnd_here h2]; exact ⟨_, _, h⟩
theorem Reach.number {s : ByteArray} {i : Nat} {l c : Int} (h : Reach s i l c) : ∃ l' c', Reach s (numEnd s i) l' c' := by
  obtain ⟨l', c', h'⟩ := Reach.digits (s := s) _ i l c (Nat.le_refl _) h
  unfold numEnd
  by_cases hc : digEnd s i < s.size ∧ bt s (digEnd s i) = 124 ∧ digEnd s i + 1 < digEnd s (digEnd s i + 1)
  · rw [if_pos hc]
    obtain ⟨e1, e2⟩ := next_byte (s := s) (i := digEnd s i) (by omega)
    have h2 := h'.next hc.1 (by rw [e1, hc.2.1]; decide)
    rw [e2] at h2
    exact Reach.digits _ _ _ _ (Nat.le_refl _) h2
  · rw [if_neg hc]; exact ⟨_, _, h'⟩
/-- What a token without an error is. -/
theorem tokenI_ok {s : ByteArray} {i : Nat} (h : (tokenI s i).2.2.2 = 0) : (kindAt s i = 1 ∧ (tokenI s i).2.2.1 = wordEnd s i ∨ kindAt s i = 2 ∧ (tokenI s i).2.2.1 = numEnd s i ∨ kindAt s i = 4 ∧ (tokenI s i).2.2.1 = i + stepAt s i) ∧ (tokenI s i).2.1 = s.extract i (tokenI s i).2.2.1 := by
  unfold tokenI at h ⊢
  by_cases k1 : kindAt s i = 1
  · rw [if_pos k1] at h ⊢
    by_cases hc : i + 40 < wordEnd s i
    · rw [if_pos hc] at h; exact absurd h (by simp)
    · rw [if_neg hc]; exact ⟨.inl ⟨k1, rfl⟩, rfl⟩
  rw [if_neg k1] at h ⊢
  by_cases k2 : kindAt s i = 2
  · rw [if_pos k2] at h ⊢
    by_cases hc : 40 < cutI (s.extract i (numEnd s i)) ∨ cutI (s.extract i (numEnd s i)) + 41 < (s.extract i (numEnd s i)).size
    · rw [if_pos hc] at h; exact absurd h (by simp)
    rw [if_neg hc] at h ⊢
    by_cases hd : numB (s.extract i (numEnd s i)) = true
    · rw [if_pos hd]; exact ⟨.inr (.inl ⟨k2, rfl⟩), rfl⟩
    · rw [if_neg hd] at h; exact absurd h (by simp)
  rw [if_neg k2] at h ⊢
  by_cases k4 : kindAt s i = 4
  · rw [if_pos k4]; exact ⟨.inr (.inr ⟨k4, rfl⟩), rfl⟩
  rw [if_neg k4] at h
  exact absurd h (by simp)
theorem tokenI_kind {s : ByteArray} {i : Nat} (h : (tokenI s i).2.2.2 = 0) : 1 ≤ kindAt s i ∧ kindAt s i ≠ 3 := by
  rcases (tokenI_ok h).1 with e | e | e <;> omega
theorem Reach.token {s : ByteArray} {i : Nat} {l c : Int} (h : Reach s i l c) (h5 : (tokenI s i).2.2.2 = 0) : ∃ l' c', Reach s (tokenI s i).2.2.1 l' c' := by
  rcases (tokenI_ok h5).1 with ⟨k, e⟩ | ⟨k, e⟩ | ⟨k, e⟩
  · rw [e]; exact Reach.word _ _ _ _ (Nat.le_refl _) h
  · rw [e]; exact h.number
  · rw [e]; exact h.step (by omega)

theorem lexF_front (s : ByteArray) : ∀ f i out, (lexF s f i out).2.2 = 0 → ∃ r, (lexF s f i out).1 = out ++ r := by
  intro f
  induction f with
  | zero => intro i out _; exact ⟨[], by rw [List.append_nil]; rfl⟩
  | succ f ih =>
    intro i out h
    unfold lexF at h ⊢
    by_cases hi : i < s.size
    · rw [if_pos hi] at h ⊢
      by_cases h3 : kindAt s i = 3
      · rw [if_pos h3] at h ⊢; exact ih _ _ h
      rw [if_neg h3] at h ⊢
      by_cases h4 : 4000 ≤ out.length
      · rw [if_pos h4] at h; exact absurd h (by simp)
      rw [if_neg h4] at h ⊢
      by_cases h5 : (tokenI s i).2.2.2 ≠ 0
      · rw [if_pos h5] at h; exact absurd h h5
      rw [if_neg h5] at h ⊢
      obtain ⟨r, hr⟩ := ih _ _ h
      exact ⟨_, by rw [hr, List.append_assoc]⟩
    · rw [if_neg hi]; exact ⟨[], by rw [List.append_nil]⟩

/-- OF A TEXT THAT IS CUT OFF BEHIND A TOKEN THE FIRST TOKENS ARE THE SAME. -/
theorem front_lex {s : ByteArray} (n : Nat) : ∀ k i out L C, s.size - i ≤ k → Reach s i L C → out.length ≤ n → (lexF s (s.size + 1) i out).2.2 = 0 → n < (lexF s (s.size + 1) i out).1.length →
    ∃ j, i ≤ j ∧ j < s.size ∧ (∃ L' C', Reach s j L' C') ∧ (tokenI s j).2.2.2 = 0 ∧ (lexF s (s.size + 1) i out).1[n]? = some ((tokenI s j).1, (tokenI s j).2.1, (placeI s j).1, (placeI s j).2) ∧
      ∀ v, Front v s → v.size = (tokenI s j).2.2.1 → lexF v (v.size + 1) i out = ((lexF s (s.size + 1) i out).1.take (n + 1), (0, 0), 0) := by
  intro k
  induction k with
  | zero =>
    intro i out L C hk hR hn he hl
    rw [lexF_end (by omega)] at hl
    exact absurd hl (by dsimp only; omega)
  | succ k ih =>
    intro i out L C hk hR hn he hl
    rcases Nat.lt_or_ge i s.size with hi | hi
    · rw [lexF_step hi] at he hl ⊢
      by_cases h3 : kindAt s i = 3
      · rw [if_pos h3] at he hl ⊢
        obtain ⟨L', C', hR'⟩ := hR.step (by omega)
        have h1 := kind_good (s := s) (i := i) (by omega)
        have hs1 : stepAt s i = 1 := stepAt_blank h3
        rw [hs1] at hR'
        obtain ⟨j, q1, q2, q3, q4, q5, q6⟩ := ih (i + 1) out L' C' (by omega) hR' hn he hl
        refine ⟨j, by omega, q2, q3, q4, q5, fun v hv hz => ?_⟩
        have he2 := tokenI_end q2 q4
        have hk3 := (hv.kind (i := i) (by omega) (by omega) (by rw [hs1]; omega)).1
        rw [lexF_step (s := v) (by omega), if_pos (by rw [hk3]; exact h3)]
        exact q6 v hv hz
      rw [if_neg h3] at he hl ⊢
      by_cases h4 : 4000 ≤ out.length
      · rw [if_pos h4] at he; exact absurd he (by simp)
      rw [if_neg h4] at he hl ⊢
      by_cases h5 : (tokenI s i).2.2.2 ≠ 0
      · rw [if_pos h5] at he; exact absurd he h5
      rw [if_neg h5] at he hl ⊢
      have h5' := Decidable.not_not.1 h5
      have hend := tokenI_end hi h5'
      have hkind := tokenI_kind h5'
      have hpl := hR.here hi
      have step : ∀ v, Front v s → (tokenI s i).2.2.1 ≤ v.size → lexF v (v.size + 1) i out = lexF v (v.size + 1) (tokenI s i).2.2.1 (out ++ [((tokenI s i).1, (tokenI s i).2.1, (placeI s i).1, (placeI s i).2)]) := by
        intro v hv hz
        have hiv : i < v.size := by omega
        have ht := hv.token hiv hz hkind.1
        have hpv : placeI v (i : Int) = placeI s (i : Int) := by rw [hpl]; exact (hR.front hv (by omega)).here hiv
        have hkv := tokenI_kind (s := v) (i := i) (by rw [ht]; exact h5')
        rw [lexF_step hiv, if_neg hkv.2, if_neg h4, ht, hpv, if_neg h5]
      rcases Nat.lt_or_ge out.length n with hlt | hge
      · obtain ⟨L', C', hR'⟩ := hR.token h5'
        obtain ⟨j, q1, q2, q3, q4, q5, q6⟩ := ih _ _ L' C' (by omega) hR' (by rw [List.length_append, List.length_singleton]; omega) he hl
        have he2 := tokenI_end q2 q4
        exact ⟨j, by omega, q2, q3, q4, q5, fun v hv hz => by rw [step v hv (by omega)]; exact q6 v hv hz⟩
      · obtain rfl : n = out.length := by omega
        obtain ⟨r, hr⟩ := lexF_front s _ _ _ he
        refine ⟨i, Nat.le_refl _, hi, ⟨L, C, hR⟩, h5', ?_, fun v hv hz => ?_⟩
        · rw [hr, List.getElem?_append_left (by simp), List.getElem?_append_right (Nat.le_refl _), Nat.sub_self]; rfl
        · rw [step v hv (by omega), lexF_end (s := v) (by omega), hr, List.take_append_of_le_length (by simp), List.take_of_length_le (by simp)]
    · rw [lexF_end (by omega)] at hl
      exact absurd hl (by dsimp only; omega)
end Go.Proofs.Ytfdheodkipfpeaa
/-
  Laws of no function: tokens with one blank between are the same tokens. No conditions of the program.
-/
namespace Go.Proofs.Ytfdheodkipfpeaa
open Go.Lib

/-- What a right token's text is: the token of itself, whole. -/
def RightT (k : Int) (x : ByteArray) : Prop := 0 < x.size ∧ tokenI x 0 = (k, x, x.size, 0)
theorem shifted_rest (s : ByteArray) {i : Nat} (hi : i ≤ s.size) : Shifted s (s.extract i s.size) i := by
  have hz : (s.extract i s.size).size = s.size - i := by rw [ByteArray.size_extract]; omega
  refine ⟨by omega, fun j => ?_⟩
  by_cases hj : j < (s.extract i s.size).size
  · rw [bt_get (show i + j < s.size by omega), bt_get hj]
    congr 1
    show s.data[i + j]'_ = (s.extract i s.size).data[j]'_
    simp only [ByteArray.data_extract, Array.getElem_extract]
  · have e1 : bt s (i + j) = 0 := by unfold bt; rw [bt_data, getElem!_def, Array.getElem?_eq_none (show s.data.size ≤ i + j from by show s.size ≤ i + j; omega)]; rfl
    have e2 : bt (s.extract i s.size) j = 0 := by unfold bt; rw [bt_data, getElem!_def, Array.getElem?_eq_none (show (s.extract i s.size).data.size ≤ j from by show (s.extract i s.size).size ≤ j; omega)]; rfl
    rw [e1, e2]
/-- A token's text is a right one. -/
theorem tokenI_right {s : ByteArray} {i : Nat} (hi : i < s.size) (h : (tokenI s i).2.2.2 = 0) : RightT (tokenI s i).1 (tokenI s i).2.1 := by
  have he := tokenI_end hi h
  obtain ⟨-, htx⟩ := tokenI_ok h
  have hk := tokenI_kind h
  have S := shifted_rest s (Nat.le_of_lt hi)
  have hT := S.token 0
  rw [Nat.add_zero] at hT
  have hkS := (S.kind 0).1
  rw [Nat.add_zero] at hkS
  have hz := S.size
  have hx := S.extract 0 ((tokenI (s.extract i s.size) 0).2.2.1)
  generalize s.extract i s.size = t at *
  have e1 : (tokenI s i).2.2.1 = i + (tokenI t 0).2.2.1 := by rw [hT]
  have e2 : (tokenI s i).1 = (tokenI t 0).1 := by rw [hT]
  have e3 : (tokenI s i).2.1 = (tokenI t 0).2.1 := by rw [hT]
  have e4 : (tokenI t 0).2.2.2 = 0 := by rw [hT] at h; exact h
  have hend := tokenI_end (s := t) (i := 0) (by omega) e4
  obtain ⟨-, htx2⟩ := tokenI_ok e4
  have F := front t hend.2
  have hsz : (t.extract 0 (tokenI t 0).2.2.1).size = (tokenI t 0).2.2.1 := by rw [ByteArray.size_extract]; omega
  have hF := F.token (i := 0) (by omega) (by omega) (by rw [← hkS]; exact hk.1)
  unfold RightT
  rw [e2, e3]
  rw [htx2]
  refine ⟨by omega, ?_⟩
  rw [hF, hsz]
  refine Prod.ext rfl (Prod.ext htx2 (Prod.ext rfl e4))

/-- Tokens' texts, a blank behind each. -/
def joinB : List (Int × ByteArray) → ByteArray
  | [] => ⟨#[]⟩
  | t :: l => t.2 ++ (⟨#[32]⟩ ++ joinB l)
theorem blanked (x t : ByteArray) : Lined (x ++ (⟨#[32]⟩ ++ t)) x := by
  refine ⟨?_, fun i h => bt_append_left x _ h, ?_⟩
  · rw [ByteArray.size_append, ByteArray.size_append]
    show x.size < x.size + (1 + t.size)
    omega
  · right
    have := bt_append_right x (⟨#[32]⟩ ++ t) 0
    rw [Nat.add_zero] at this
    rw [this, bt_append_left _ _ (show 0 < (⟨#[32]⟩ : ByteArray).size from by decide)]; rfl
theorem shifted_app (p t : ByteArray) : Shifted (p ++ t) t p.size := ⟨ByteArray.size_append, fun j => bt_append_right p t j⟩
/-- TOKENS WITH ONE BLANK BETWEEN ARE THE SAME TOKENS. -/
theorem lex_blanks : ∀ (l : List (Int × ByteArray)) (p : ByteArray) (out : List Tok), (∀ t ∈ l, RightT t.1 t.2) → out.length + l.length ≤ 4000 →
    ∃ r, lexF (p ++ joinB l) ((p ++ joinB l).size + 1) p.size out = (out ++ r, (0, 0), 0) ∧ ktx r = l := by
  intro l
  induction l with
  | nil =>
    intro p out _ _
    refine ⟨[], ?_, rfl⟩
    rw [lexF_end (by rw [ByteArray.size_append]; show ¬ p.size < p.size + 0; omega), List.append_nil]
  | cons t l ih =>
    intro p out hr hl
    obtain ⟨k, x⟩ := t
    obtain ⟨hx0, hx⟩ := hr (k, x) (List.mem_cons_self ..)
    rw [List.length_cons] at hl
    have S := shifted_app p (x ++ (⟨#[32]⟩ ++ joinB l))
    have L := blanked x (joinB l)
    have hT := S.token 0
    rw [Nat.add_zero, L.token hx0, hx] at hT
    dsimp only at hT
    have hk := tokenI_kind (s := x) (i := 0) (by rw [hx])
    have hkS := (S.kind 0).1
    rw [Nat.add_zero, (L.kind hx0).1] at hkS
    have hkE := (S.kind x.size).1
    rw [L.kind_end] at hkE
    have hz := S.size
    have hz2 := L.size
    show ∃ r, lexF (p ++ (x ++ (⟨#[32]⟩ ++ joinB l))) ((p ++ (x ++ (⟨#[32]⟩ ++ joinB l))).size + 1) p.size out = _ ∧ _
    have ea : p ++ (x ++ (⟨#[32]⟩ ++ joinB l)) = (p ++ (x ++ ⟨#[32]⟩)) ++ joinB l := by rw [ByteArray.append_assoc, ByteArray.append_assoc]
    have es : (p ++ (x ++ ⟨#[32]⟩)).size = p.size + x.size + 1 := by
      rw [ByteArray.size_append, ByteArray.size_append]; rfl
    rw [lexF_step (by omega), if_neg (by rw [hkS]; exact hk.2), if_neg (by omega), hT, if_neg (by simp)]
    dsimp only
    rw [lexF_step (by omega), if_pos hkE]
    obtain ⟨r, h1, h2⟩ := ih (p ++ (x ++ ⟨#[32]⟩)) (out ++ [(k, x, (placeI (p ++ (x ++ (⟨#[32]⟩ ++ joinB l))) p.size).1, (placeI (p ++ (x ++ (⟨#[32]⟩ ++ joinB l))) p.size).2)]) (fun t ht => hr t (List.mem_cons_of_mem _ ht)) (by rw [List.length_append, List.length_singleton]; omega)
    rw [es, ← ea] at h1
    rw [h1]
    exact ⟨_, by rw [List.append_assoc], by rw [List.singleton_append]; show _ :: ktx r = _; rw [h2]⟩
/-- A text's tokens are right ones, each no longer than the text. -/
theorem lexF_right (s : ByteArray) : ∀ f i out, (∀ t ∈ out, RightT t.1 t.2.1 ∧ t.2.1.size ≤ s.size) → ∀ t ∈ (lexF s f i out).1, RightT t.1 t.2.1 ∧ t.2.1.size ≤ s.size := by
  intro f
  induction f with
  | zero => intro i out h; exact h
  | succ f ih =>
    intro i out h
    unfold lexF
    by_cases hi : i < s.size
    · rw [if_pos hi]
      by_cases h3 : kindAt s i = 3
      · rw [if_pos h3]; exact ih _ _ h
      rw [if_neg h3]
      by_cases h4 : 4000 ≤ out.length
      · rw [if_pos h4]; intro t ht; exact absurd ht (by simp)
      rw [if_neg h4]
      by_cases h5 : (tokenI s i).2.2.2 ≠ 0
      · rw [if_pos h5]; intro t ht; exact absurd ht (by simp)
      rw [if_neg h5]
      have h5' := Decidable.not_not.1 h5
      refine ih _ _ (fun t ht => ?_)
      rcases List.mem_append.1 ht with ht | ht
      · exact h t ht
      · obtain rfl := List.mem_singleton.1 ht
        refine ⟨tokenI_right hi h5', ?_⟩
        show (tokenI s i).2.1.size ≤ s.size
        rw [(tokenI_ok h5').2, ByteArray.size_extract]; omega
    · rw [if_neg hi]; exact h
end Go.Proofs.Ytfdheodkipfpeaa
/-
  Laws of no function: where runes of given kinds end, places that are added up piece by piece, and blanks that are passed over. No conditions of the program.
-/
namespace Go.Proofs.Ytfdheodkipfpeaa
open Go.Lib

/-- Behind all runes that are of these kinds. -/
def spanF (K : List Int) (s : ByteArray) : Nat → Nat → Nat
  | 0, i => i
  | f + 1, i => if i < s.size ∧ kindAt s i ∈ K then spanF K s f (i + stepAt s i) else i
def spanE (K : List Int) (s : ByteArray) (i : Nat) : Nat := spanF K s (s.size + 1) i
theorem spanF_more (K : List Int) (s : ByteArray) : ∀ f i, s.size < i + f → ∀ g, s.size < i + g → spanF K s f i = spanF K s g i := by
  intro f
  induction f with
  | zero =>
    intro i hf g hg
    cases g with
    | zero => rfl
    | succ g => unfold spanF; rw [if_neg (fun e => by omega)]
  | succ f ih =>
    intro i hf g hg
    cases g with
    | zero => unfold spanF; rw [if_neg (fun e => by omega)]
    | succ g =>
      unfold spanF
      by_cases h : i < s.size ∧ kindAt s i ∈ K
      · have := stepAt_size h.1
        rw [if_pos h, if_pos h, ih _ (by omega) g (by omega)]
      · rw [if_neg h, if_neg h]
theorem spanE_step {K : List Int} {s : ByteArray} {i : Nat} (hi : i < s.size) (h : kindAt s i ∈ K) : spanE K s i = spanE K s (i + stepAt s i) := by
  unfold spanE
  have hz := stepAt_size hi
  show (if i < s.size ∧ kindAt s i ∈ K then _ else _) = _
  rw [if_pos ⟨hi, h⟩]
  exact spanF_more K s _ _ (by omega) _ (by omega)
theorem spanE_here {K : List Int} {s : ByteArray} {i : Nat} (h : ¬ (i < s.size ∧ kindAt s i ∈ K)) : spanE K s i = i := by
  unfold spanE
  show (if i < s.size ∧ kindAt s i ∈ K then _ else _) = _
  rw [if_neg h]
theorem spanF_range (K : List Int) (s : ByteArray) : ∀ f i, i ≤ spanF K s f i ∧ (i ≤ s.size → spanF K s f i ≤ s.size) := by
  intro f
  induction f with
  | zero => intro i; exact ⟨Nat.le_refl _, id⟩
  | succ f ih =>
    intro i
    unfold spanF
    split
    · rename_i h
      have h1 := stepAt_size h.1
      have := ih (i + stepAt s i)
      exact ⟨by omega, fun _ => this.2 (by omega)⟩
    · exact ⟨Nat.le_refl _, id⟩
theorem spanE_range (K : List Int) (s : ByteArray) (i : Nat) : i ≤ spanE K s i ∧ (i ≤ s.size → spanE K s i ≤ s.size) := spanF_range K s _ i
theorem spanE_word (s : ByteArray) (i : Nat) : spanE [1, 2] s i = wordEnd s i := by
  have h : ∀ f i, spanF [1, 2] s f i = wordF s f i := by
    intro f
    induction f with
    | zero => intro i; rfl
    | succ f ih =>
      intro i
      unfold spanF wordF
      rw [ih]
      by_cases h2 : kindAt s i = 1 ∨ kindAt s i = 2
      · rw [if_pos h2, if_pos ⟨kindAt_in (by omega), by simpa using h2⟩]
      · rw [if_neg h2, if_neg (fun e => h2 (by simpa using e.2))]
  exact h _ _
theorem spanE_digits (s : ByteArray) (i : Nat) : spanE [2] s i = digEnd s i := by
  have h : ∀ f i, spanF [2] s f i = digF s f i := by
    intro f
    induction f with
    | zero => intro i; rfl
    | succ f ih =>
      intro i
      unfold spanF digF
      rw [ih]
      by_cases h2 : kindAt s i = 2
      · rw [if_pos h2, if_pos ⟨(kindAt_digit.1 h2).1, by simpa using h2⟩, stepAt_digit h2]
      · rw [if_neg h2, if_neg (fun e => h2 (by simpa using e.2))]
  exact h _ _
/-- Behind the blanks. -/
theorem blanks_end (s : ByteArray) : ∀ k i, s.size - i ≤ k → kindAt s (spanE [3] s i) ≠ 3 := by
  intro k
  induction k with
  | zero =>
    intro i hk
    rw [spanE_here (fun e => by omega)]
    intro e
    have := kindAt_in (s := s) (i := i) (by omega)
    omega
  | succ k ih =>
    intro i hk
    by_cases h : i < s.size ∧ kindAt s i ∈ ([3] : List Int)
    · have := stepAt_size h.1
      rw [spanE_step h.1 h.2]
      exact ih _ (by omega)
    · rw [spanE_here h]
      intro e
      exact h ⟨kindAt_in (by omega), by simpa using e⟩
theorem lexF_blanks (s : ByteArray) (out : List Tok) : ∀ k i, s.size - i ≤ k → lexF s (s.size + 1) i out = lexF s (s.size + 1) (spanE [3] s i) out := by
  intro k
  induction k with
  | zero =>
    intro i hk
    rw [spanE_here (fun e => by omega)]
  | succ k ih =>
    intro i hk
    by_cases h : i < s.size ∧ kindAt s i ∈ ([3] : List Int)
    · have h3 : kindAt s i = 3 := by simpa using h.2
      rw [spanE_step h.1 h.2, lexF_step h.1, if_pos h3, stepAt_blank h3]
      exact ih _ (by omega)
    · rw [spanE_here h]
theorem Reach.span {K : List Int} {s : ByteArray} (hK : ∀ k ∈ K, 1 ≤ k) : ∀ k i l c, s.size - i ≤ k → Reach s i l c → ∃ l' c', Reach s (spanE K s i) l' c' := by
  intro k
  induction k with
  | zero =>
    intro i l c hk h
    rw [spanE_here (fun e => by omega)]
    exact ⟨_, _, h⟩
  | succ k ih =>
    intro i l c hk h
    by_cases h2 : i < s.size ∧ kindAt s i ∈ K
    · have hz := stepAt_size h2.1
      obtain ⟨l', c', h'⟩ := h.step (hK _ h2.2)
      rw [spanE_step h2.1 h2.2]
      exact ih _ _ _ (by omega) h'
    · rw [spanE_here h2]; exact ⟨_, _, h⟩
theorem Reach.range {s : ByteArray} {i : Nat} {l c : Int} (h : Reach s i l c) : i ≤ s.size ∧ 1 ≤ l ∧ l ≤ i + 1 ∧ 1 ≤ c ∧ c ≤ i + 1 := by
  refine h (fun i l c => i ≤ s.size ∧ 1 ≤ l ∧ l ≤ i + 1 ∧ 1 ≤ c ∧ c ≤ i + 1) ⟨Nat.zero_le _, by omega, by omega, by omega, by omega⟩ ?_
  rintro i l c ⟨h0, h1, h2, h3, h4⟩ hi -
  have hz := next_size hi
  by_cases h10 : nextR s i = 10
  · rw [if_pos h10, if_pos h10]; omega
  · rw [if_neg h10, if_neg h10]; omega
/-- A place is the place where a piece begins and the place within the piece, added up. -/
theorem Reach.on {u t : ByteArray} {k : Nat} (h : Shifted u t k) {L C : Int} (hk : Reach u k L C) {n : Nat} {l c : Int} (hn : Reach t n l c) : Reach u (k + n) (L + (l - 1)) (if l = 1 then C + (c - 1) else c) := by
  have hz := h.size
  refine (hn (fun n l c => 1 ≤ l ∧ Reach u (k + n) (L + (l - 1)) (if l = 1 then C + (c - 1) else c)) ⟨by omega, ?_⟩ ?_).2
  · rw [if_pos rfl, show L + ((1 : Int) - 1) = L by omega, show C + ((1 : Int) - 1) = C by omega]; exact hk
  · rintro n l c ⟨h1, ih⟩ hi hr
    have e1 : nextR u (k + n) = nextR t n := by unfold nextR; rw [h.decode]
    have e2 : nextN u (k + n) = nextN t n := by unfold nextN; rw [h.decode]
    have hx := ih.next (by omega) (by rw [e1]; exact hr)
    rw [e1, e2] at hx
    by_cases h10 : nextR t n = 10
    · rw [if_pos h10, if_pos h10] at hx
      rw [if_pos h10, if_pos h10, if_neg (by omega), show L + (l + 1 - 1) = L + (l - 1) + 1 by omega, ← Nat.add_assoc]
      exact ⟨by omega, hx⟩
    · rw [if_neg h10, if_neg h10] at hx
      rw [if_neg h10, if_neg h10, ← Nat.add_assoc]
      refine ⟨h1, ?_⟩
      by_cases hl : l = 1
      · rw [if_pos hl] at hx ⊢
        rw [show C + (c + 1 - 1) = C + (c - 1) + 1 by omega]; exact hx
      · rw [if_neg hl] at hx ⊢; exact hx
/-- The place behind a piece, told by the piece alone. -/
theorem reach_alone {t : ByteArray} {n : Nat} {l c : Int} (h : Reach t n l c) : placeI (t.extract 0 n) ((n : Nat) : Int) = (l, c) := by
  have hn := h.range.1
  have hz : (t.extract 0 n).size = n := by rw [ByteArray.size_extract]; omega
  have hf := front t hn
  generalize t.extract 0 n = v at hz hf
  subst hz
  exact ((h.front hf (Nat.le_refl _)).at).last (Int.le_refl _)
theorem extract_rest {s : ByteArray} (i n : Nat) : (s.extract i s.size).extract n (s.extract i s.size).size = s.extract (i + n) s.size := by
  refine ByteArray.ext ?_
  simp only [ByteArray.data_extract, ByteArray.size_extract, Array.extract_extract]
  have e : s.size = s.data.size := rfl
  rw [e]
  congr 1
  omega
end Go.Proofs.Ytfdheodkipfpeaa
/-
  Laws of no function: a number by its digits ahead of the stroke and behind it. No conditions of the program.
-/
namespace Go.Proofs.Ytfdheodkipfpeaa
open Go.Lib

/-- The digits that a text begins with; those behind a stroke that stands behind them. -/
def above (t : ByteArray) : ByteArray := t.extract 0 (digEnd t 0)
def below (t : ByteArray) : ByteArray := if digEnd t 0 < t.size ∧ bt t (digEnd t 0) = 124 then t.extract (digEnd t 0 + 1) (digEnd t (digEnd t 0 + 1)) else ⟨#[]⟩
/-- Whether the first digit is 0 only if it is the only one. -/
def plainB (x : ByteArray) : Bool := x.toList == [48] || (decide (x.size ≠ 0) && decide (bt x 0 ≠ 48))
def longB (a b : ByteArray) : Bool := decide (40 < a.size) || decide (40 < b.size)
def mayB (a b : ByteArray) : Bool := !longB a b && plainB a && (decide (b.size = 0) || (plainB b && !(b.toList == [48])))

theorem size_zero {x : ByteArray} (h : x.size = 0) : x = ⟨#[]⟩ := by
  apply ByteArray.ext
  exact Array.eq_empty_of_size_eq_zero h
theorem extract_none (x : ByteArray) {i j : Nat} (h : j ≤ i) : x.extract i j = ⟨#[]⟩ := size_zero (by rw [ByteArray.size_extract]; omega)
theorem toList_one {x : ByteArray} (h : (x.toList == [48]) = true) : x.size = 1 ∧ bt x 0 = 48 := by
  rw [ByteArray.toList_eq, beq_iff_eq] at h
  have hz : x.size = 1 := by
    show x.data.size = 1
    rw [← Array.length_toList, h]; rfl
  refine ⟨hz, ?_⟩
  obtain ⟨⟨l⟩⟩ := x
  have h : l = [48] := h
  subst h
  rfl
theorem one_toList {x : ByteArray} (h : x.size = 1) (h0 : bt x 0 = 48) : (x.toList == [48]) = true := by
  rw [ByteArray.toList_eq, beq_iff_eq]
  obtain ⟨⟨l⟩⟩ := x
  have hl : l.length = 1 := h
  obtain ⟨b, rfl⟩ := List.length_eq_one_iff.1 hl
  have h1 : b.toNat = 48 := h0
  have h2 : b = 48 := UInt8.toNat_inj.1 h1
  rw [h2]

/-- Digits all along. -/
theorem plain_part {x : ByteArray} (h : digEnd x 0 = x.size) : partB x = (decide (x.size ≤ 40) && plainB x) := by
  unfold partB plainB
  rw [decide_eq_true h, Bool.and_true]
  by_cases h0 : x.size = 0
  · rw [decide_eq_false (show ¬ (1 ≤ x.size ∧ x.size ≤ 40) by omega), decide_eq_false (show ¬ x.size ≠ 0 by omega)]
    have : (x.toList == [48]) = false := by
      rw [Bool.eq_false_iff]
      intro e
      have := (toList_one e).1
      omega
    rw [this]; simp
  · by_cases h4 : x.size ≤ 40
    · rw [decide_eq_true (show 1 ≤ x.size ∧ x.size ≤ 40 by omega), decide_eq_true h4, decide_eq_true (show x.size ≠ 0 from h0)]
      simp only [Bool.true_and]
      by_cases h8 : bt x 0 = 48
      · rw [decide_eq_false (show ¬ bt x 0 ≠ 48 from fun e => e h8), Bool.or_false, Bool.or_false]
        by_cases h1 : x.size = 1
        · rw [decide_eq_true h1, one_toList h1 h8]
        · rw [decide_eq_false h1]
          symm
          rw [Bool.eq_false_iff]
          exact fun e => h1 (toList_one e).1
      · rw [decide_eq_true (show bt x 0 ≠ 48 from h8), Bool.or_true, Bool.or_true]
    · rw [decide_eq_false (show ¬ (1 ≤ x.size ∧ x.size ≤ 40) by omega), decide_eq_false h4]; rfl
theorem part_no {x : ByteArray} (h : digEnd x 0 ≠ x.size) : partB x = false := by
  unfold partB; rw [decide_eq_false h, Bool.and_false, Bool.false_and]

/-- All that lies ahead of the digits' end is digits. -/
theorem digEnd_all (s : ByteArray) : ∀ k i, s.size - i ≤ k → ∀ j, i ≤ j → j < digEnd s i → kindAt s j = 2 := by
  intro k
  induction k with
  | zero =>
    intro i hk j h0 h1
    rw [digEnd_here (fun e => by have := (kindAt_digit.1 e).1; omega)] at h1
    omega
  | succ k ih =>
    intro i hk j h0 h1
    by_cases h : kindAt s i = 2
    · have hi := (kindAt_digit.1 h).1
      rcases Nat.eq_or_lt_of_le h0 with rfl | h2
      · exact h
      · rw [digEnd_step h] at h1
        exact ih (i + 1) (by omega) j h2 h1
    · rw [digEnd_here h] at h1; omega
theorem digEnd_stop (s : ByteArray) : ∀ k i, s.size - i ≤ k → kindAt s (digEnd s i) ≠ 2 := by
  intro k
  induction k with
  | zero =>
    intro i hk
    rw [digEnd_here (fun e => by have := (kindAt_digit.1 e).1; omega)]
    exact fun e => by have := (kindAt_digit.1 e).1; omega
  | succ k ih =>
    intro i hk
    by_cases h : kindAt s i = 2
    · have hi := (kindAt_digit.1 h).1
      rw [digEnd_step h]
      exact ih _ (by omega)
    · rw [digEnd_here h]; exact h
theorem cutF_at {s : ByteArray} {A : Nat} (hA : A ≤ s.size) (h0 : ∀ j, j < A → bt s j ≠ 124) (h1 : A = s.size ∨ bt s A = 124) : ∀ f i, i ≤ A → s.size < i + f → cutF s f i = A := by
  intro f
  induction f with
  | zero => intro i hi hf; omega
  | succ f ih =>
    intro i hi hf
    unfold cutF
    rcases Nat.eq_or_lt_of_le hi with rfl | hi
    · rcases h1 with h1 | h1
      · rw [if_neg (by omega)]
      · split
        · rfl
        · rfl
    · rw [if_pos (by omega), if_neg (h0 i hi)]
      exact ih _ (by omega) (by omega)
theorem cutI_at {s : ByteArray} {A : Nat} (hA : A ≤ s.size) (h0 : ∀ j, j < A → bt s j ≠ 124) (h1 : A = s.size ∨ bt s A = 124) : cutI s = A := cutF_at hA h0 h1 _ 0 (Nat.zero_le _) (by omega)
theorem cutF_told (s : ByteArray) : ∀ f i, s.size < i + f → (∀ j, i ≤ j → j < cutF s f i → bt s j ≠ 124) ∧ (cutF s f i < s.size → bt s (cutF s f i) = 124) := by
  intro f
  induction f with
  | zero => intro i hf; exact ⟨fun j h0 h1 => absurd h1 (by unfold cutF; omega), fun h => absurd h (by unfold cutF; omega)⟩
  | succ f ih =>
    intro i hf
    unfold cutF
    by_cases hi : i < s.size
    · rw [if_pos hi]
      by_cases hb : bt s i = 124
      · rw [if_pos hb]
        exact ⟨fun j h0 h1 => by omega, fun _ => hb⟩
      · rw [if_neg hb]
        obtain ⟨h1, h2⟩ := ih (i + 1) (by omega)
        refine ⟨fun j h3 h4 => ?_, h2⟩
        rcases Nat.eq_or_lt_of_le h3 with rfl | h3
        · exact hb
        · exact h1 j h3 h4
    · rw [if_neg hi]
      exact ⟨fun j h0 h1 => by omega, fun h => absurd h hi⟩
theorem cutI_told (s : ByteArray) : (∀ j, j < cutI s → bt s j ≠ 124) ∧ (cutI s < s.size → bt s (cutI s) = 124) := by
  obtain ⟨h1, h2⟩ := cutF_told s (s.size + 1) 0 (by omega)
  exact ⟨fun j h => h1 j (Nat.zero_le _) h, h2⟩
theorem digit_stroke {s : ByteArray} {j : Nat} (h : kindAt s j = 2) : bt s j ≠ 124 := by
  have := kindAt_digit.1 h
  omega
theorem above_size (t : ByteArray) : (above t).size = digEnd t 0 := by
  have := (digEnd_range t 0).2 (Nat.zero_le _)
  unfold above; rw [ByteArray.size_extract]; omega
theorem below_size (t : ByteArray) : (below t).size = if digEnd t 0 < t.size ∧ bt t (digEnd t 0) = 124 then digEnd t (digEnd t 0 + 1) - (digEnd t 0 + 1) else 0 := by
  have h1 := digEnd_range t (digEnd t 0 + 1)
  unfold below
  by_cases h : digEnd t 0 < t.size ∧ bt t (digEnd t 0) = 124
  · have := h1.2 (by omega)
    rw [if_pos h, if_pos h, ByteArray.size_extract]; omega
  · rw [if_neg h, if_neg h]; rfl
/-- How many bytes a number has. -/
theorem numEnd_size (t : ByteArray) : numEnd t 0 = if (below t).size = 0 then (above t).size else (above t).size + 1 + (below t).size := by
  rw [below_size, above_size]
  have h1 := digEnd_range t (digEnd t 0 + 1)
  unfold numEnd
  by_cases h : digEnd t 0 < t.size ∧ bt t (digEnd t 0) = 124
  · rw [if_pos h]
    by_cases h2 : digEnd t 0 + 1 < digEnd t (digEnd t 0 + 1)
    · rw [if_pos ⟨h.1, h.2, h2⟩, if_neg (by omega)]; omega
    · rw [if_neg (fun e => h2 e.2.2), if_pos (by omega)]
  · rw [if_neg h, if_neg (fun e => h ⟨e.1, e.2.1⟩), if_pos rfl]

theorem extract_all (x : ByteArray) : x.extract 0 x.size = x := by simp
/-- A text is a number by its digits. -/
theorem numB_may (s : ByteArray) : numB s = (mayB (above s) (below s) && decide (numEnd s 0 = s.size)) := by
  have hd := (digEnd_range s 0).2 (Nat.zero_le _)
  have hall := digEnd_all s _ 0 (Nat.le_refl _)
  have hstop := digEnd_stop s _ 0 (Nat.le_refl _)
  obtain ⟨c1, c2⟩ := cutI_told s
  have c3 := cutI_le s
  have hza := above_size s
  have hzb := below_size s
  have hze := numEnd_size s
  unfold numB
  by_cases hc : cutI s = s.size
  · rw [if_pos hc]
    have hnb : ¬ (digEnd s 0 < s.size ∧ bt s (digEnd s 0) = 124) := fun e => c1 _ (by omega) e.2
    rw [if_neg hnb] at hzb
    rw [if_pos hzb, hza] at hze
    rw [hze]
    by_cases h : digEnd s 0 = s.size
    · have ha : above s = s := by unfold above; rw [h]; exact extract_all s
      rw [decide_eq_true h, Bool.and_true, plain_part h]
      unfold mayB longB
      rw [ha, hzb, decide_eq_false (show ¬ 40 < 0 by omega), decide_eq_true (show (0 : Nat) = 0 from rfl), Bool.or_false, Bool.true_or, Bool.and_true]
      by_cases h4 : s.size ≤ 40
      · rw [decide_eq_true h4, decide_eq_false (by omega)]; rfl
      · rw [decide_eq_false h4, decide_eq_true (by omega)]; rfl
    · rw [decide_eq_false h, Bool.and_false]; exact part_no h
  · rw [if_neg hc]
    have hlt : cutI s < s.size := by omega
    have hb := c2 hlt
    have hdA : digEnd s 0 ≤ cutI s := by
      rcases Nat.lt_or_ge (cutI s) (digEnd s 0) with h | h
      · exact absurd hb (digit_stroke (hall _ (Nat.zero_le _) h))
      · exact h
    rcases Nat.eq_or_lt_of_le hdA with h | h
    · -- the digits end at the stroke
      have hcond : digEnd s 0 < s.size ∧ bt s (digEnd s 0) = 124 := ⟨by omega, by rw [h]; exact hb⟩
      rw [if_pos hcond] at hzb
      have hE := digEnd_range s (digEnd s 0 + 1)
      have hE2 := hE.2 (by omega)
      have hA1 : above s = s.extract 0 (cutI s) := by unfold above; rw [h]
      have hB1 : below s = s.extract (cutI s + 1) (digEnd s (cutI s + 1)) := by unfold below; rw [if_pos hcond, h]
      have hpa : partB (s.extract 0 (cutI s)) = (decide ((above s).size ≤ 40) && plainB (above s)) := by
        rw [← hA1]
        refine plain_part ?_
        have hf := front s hd
        rw [show s.extract 0 (digEnd s 0) = above s from rfl] at hf
        rw [hf.digits _ 0 (Nat.zero_le _) (Nat.le_refl _) (by omega)]; omega
      have hsh := shifted_rest s (i := cutI s + 1) (by omega)
      have hdy := hsh.digits _ 0 (Nat.le_refl _)
      rw [Nat.add_zero] at hdy
      have hzy : (s.extract (cutI s + 1) s.size).size = s.size - (cutI s + 1) := by rw [ByteArray.size_extract]; omega
      rw [h] at hzb hE hE2
      by_cases he : digEnd s (cutI s + 1) = s.size
      · rw [he] at hB1 hzb
        rw [← hB1] at hdy hzy ⊢
        have hpb : partB (below s) = (decide ((below s).size ≤ 40) && plainB (below s)) := plain_part (by omega)
        rw [hpa, hpb]
        by_cases h0 : (below s).size = 0
        · have hpl : plainB (below s) = false := by rw [size_zero h0]; unfold plainB; rw [ByteArray.toList_eq]; rfl
          rw [if_pos h0] at hze
          rw [hpl, decide_eq_false (show ¬ numEnd s 0 = s.size by omega)]; simp
        · rw [if_neg h0] at hze
          rw [decide_eq_true (show numEnd s 0 = s.size by omega), Bool.and_true]
          unfold mayB longB
          rw [decide_eq_false h0, Bool.false_or]
          generalize plainB (above s) = p
          generalize plainB (below s) = q
          generalize ((below s).toList == [48]) = r
          by_cases g1 : (above s).size ≤ 40
          · rw [decide_eq_true g1, decide_eq_false (show ¬ 40 < (above s).size by omega)]
            by_cases g2 : (below s).size ≤ 40
            · rw [decide_eq_true g2, decide_eq_false (show ¬ 40 < (below s).size by omega)]
              cases p <;> cases q <;> cases r <;> rfl
            · rw [decide_eq_false g2, decide_eq_true (show 40 < (below s).size by omega)]
              cases p <;> cases q <;> cases r <;> rfl
          · rw [decide_eq_false g1, decide_eq_true (show 40 < (above s).size by omega)]; rfl
      · have hpb : partB (s.extract (cutI s + 1) s.size) = false := part_no (by omega)
        rw [hpb, Bool.and_false, Bool.false_and]
        have hne : ¬ numEnd s 0 = s.size := by
          rw [hze]
          split <;> omega
        rw [decide_eq_false hne, Bool.and_false]
    · have hnb : ¬ (digEnd s 0 < s.size ∧ bt s (digEnd s 0) = 124) := fun e => c1 _ h e.2
      rw [if_neg hnb] at hzb
      rw [if_pos hzb, hza] at hze
      have hf := front s c3
      have hz0 : (s.extract 0 (cutI s)).size = cutI s := by rw [ByteArray.size_extract]; omega
      have hpa : partB (s.extract 0 (cutI s)) = false := by
        refine part_no ?_
        rw [hf.digits _ 0 (Nat.zero_le _) (Nat.le_refl _) (by omega)]; omega
      rw [hpa, Bool.false_and, Bool.false_and, decide_eq_false (show ¬ numEnd s 0 = s.size by omega), Bool.and_false]

/-- The number that a text begins with, by its digits. -/
theorem num_front (t : ByteArray) : above (t.extract 0 (numEnd t 0)) = above t ∧ below (t.extract 0 (numEnd t 0)) = below t ∧ numEnd (t.extract 0 (numEnd t 0)) 0 = (t.extract 0 (numEnd t 0)).size ∧ cutI (t.extract 0 (numEnd t 0)) = (above t).size := by
  have hn := numEnd_range (s := t) (i := 0) (Nat.zero_le _)
  have hf := front t hn.2
  have hz : (t.extract 0 (numEnd t 0)).size = numEnd t 0 := by rw [ByteArray.size_extract]; omega
  have hd := digEnd_range t (digEnd t 0 + 1)
  have hd0 := (digEnd_range t 0).2 (Nat.zero_le _)
  have hle : digEnd t 0 ≤ numEnd t 0 := by unfold numEnd; split <;> omega
  have hD : digEnd (t.extract 0 (numEnd t 0)) 0 = digEnd t 0 := hf.digits _ 0 (Nat.zero_le _) (Nat.le_refl _) (by omega)
  have hN : numEnd (t.extract 0 (numEnd t 0)) 0 = (t.extract 0 (numEnd t 0)).size := (hf.number (Nat.zero_le _) (by omega)).trans hz.symm
  have hA : above (t.extract 0 (numEnd t 0)) = above t := by
    unfold above
    rw [hD]
    exact (front_extract hf (by omega)).symm
  refine ⟨hA, ?_, hN, ?_⟩
  · unfold below
    rw [hD, hz]
    by_cases hc : digEnd t 0 < t.size ∧ bt t (digEnd t 0) = 124
    · rw [if_pos hc]
      by_cases h2 : digEnd t 0 + 1 < digEnd t (digEnd t 0 + 1)
      · have he : numEnd t 0 = digEnd t (digEnd t 0 + 1) := by unfold numEnd; rw [if_pos ⟨hc.1, hc.2, h2⟩]
        rw [if_pos ⟨by omega, by rw [hf.same _ (by omega)]; exact hc.2⟩]
        rw [hf.digits _ (digEnd t 0 + 1) (by omega) (Nat.le_refl _) (by omega)]
        exact (front_extract hf (by omega)).symm
      · have he : numEnd t 0 = digEnd t 0 := by unfold numEnd; rw [if_neg (fun e => h2 e.2.2)]
        rw [if_neg (fun e => by omega), extract_none _ (by omega)]
    · have he : numEnd t 0 = digEnd t 0 := by unfold numEnd; rw [if_neg (fun e => hc ⟨e.1, e.2.1⟩)]
      rw [if_neg hc, if_neg (fun e => by omega)]
  · rw [above_size]
    refine cutI_at (by omega) (fun j hj => ?_) ?_
    · rw [hf.same j (by omega)]
      exact digit_stroke (digEnd_all t _ 0 (Nat.le_refl _) j (Nat.zero_le _) hj)
    · by_cases hc : digEnd t 0 < t.size ∧ bt t (digEnd t 0) = 124 ∧ digEnd t 0 + 1 < digEnd t (digEnd t 0 + 1)
      · right
        have he : numEnd t 0 = digEnd t (digEnd t 0 + 1) := by unfold numEnd; rw [if_pos hc]
        rw [hf.same _ (by omega)]; exact hc.2.1
      · left
        have he : numEnd t 0 = digEnd t 0 := by unfold numEnd; rw [if_neg hc]
        omega
/-- The token of a text that begins with a digit. -/
theorem token_number {t : ByteArray} (hk : kindAt t 0 = 2) : tokenI t 0 = if longB (above t) (below t) = true then (0, ⟨#[]⟩, numEnd t 0, 4) else if mayB (above t) (below t) = true then (1, t.extract 0 (numEnd t 0), numEnd t 0, 0) else (0, ⟨#[]⟩, numEnd t 0, 5) := by
  obtain ⟨h1, h2, h3, h4⟩ := num_front t
  have hs := numEnd_size t
  have hn := numEnd_range (s := t) (i := 0) (Nat.zero_le _)
  have hz : (t.extract 0 (numEnd t 0)).size = numEnd t 0 := by rw [ByteArray.size_extract]; omega
  unfold tokenI
  rw [if_neg (by omega), if_pos hk, numB_may (t.extract 0 (numEnd t 0)), h1, h2, h3, h4, decide_eq_true rfl, Bool.and_true]
  by_cases hl : longB (above t) (below t) = true
  · rw [if_pos hl, if_pos]
    unfold longB at hl
    simp only [Bool.or_eq_true, decide_eq_true_eq] at hl
    rw [hz, hs]
    split <;> omega
  · rw [if_neg hl, if_neg]
    unfold longB at hl
    simp only [Bool.or_eq_true, decide_eq_true_eq] at hl
    rw [hz, hs]
    split <;> omega
end Go.Proofs.Ytfdheodkipfpeaa
/-
  Contracts of the document's own answers of layer 10 (package talwegref10: kind, digits, word, cut, part, Number, number), at every text of up to a million bytes; memory stays as it is.
-/
namespace Go.Proofs.Ytfdheodkipfpeaa
open Go.RowKit Go.Lib

theorem wrap_smalls {x : Int} (h0 : 0 ≤ x) (h1 : x < 10000000) : wrap64 x = x := by unfold wrap64; omega

set_option maxHeartbeats 4000000 in
theorem ref_lkind {s : ByteArray} (hs : s.size ≤ 1000000) (i : Nat) (j : Int) (hj : (i : Int) = j) (w : World) :
    Calls Try.prog 18 #[.string s, .int .i64 j] w fun e w' => e = .returned (.tuple #[.int .i64 (kindAt s i), .int .i64 (stepAt s i)]) ∧ w = w' := by
  subst hj
  unfold kindAt stepAt
  by_cases h : i < s.size
  · have N1 := fun v => ref_snext hs i h v
    have K1 := fun v => ref_skind (nextR s i) _ rfl v
    rw [if_pos h, if_pos h]
    have h1 : ¬ (s.size : Int) ≤ i := by omega
    generalize kindI (nextR s i) = k at *
    generalize nextR s i = R at *
    generalize nextN s i = M at *
    clear hs h
    go_enter Try.func18, Try.ntmps18
    go_wp2_with (first
      | (go_at_call 35; (with_reducible refine Calls.mono (N1 _) ?_); rintro e v1 ⟨rfl, rfl⟩)
      | (go_at_call 36; (with_reducible refine Calls.mono (K1 _) ?_); rintro e v2 ⟨rfl, rfl⟩))
    go_ret2
    exact ⟨rfl, rfl⟩
  · rw [if_neg h, if_neg h]
    have h1 : (s.size : Int) ≤ i := by omega
    clear hs h
    go_enter Try.func18, Try.ntmps18
    go_wp2
    go_ret2
    exact ⟨rfl, rfl⟩

set_option maxHeartbeats 4000000 in
theorem ref_ldigits {s : ByteArray} (hs : s.size ≤ 1000000) (i : Nat) (hi : i ≤ s.size) (j : Int) (hj : (i : Int) = j) (w : World) :
    Calls Try.prog 42 #[.string s, .int .i64 j] w fun e w' => e = .returned (.int .i64 (digEnd s i)) ∧ w = w' := by
  subst hj
  have KD := fun i j hj v => ref_lkind hs i j hj v
  have K0 := fun v => KD i i rfl v
  have HS : Hid (s.size ≤ 1000000) := hs
  generalize hE : digEnd s i = E
  have HE : Hid (digEnd s i = E) := hE
  clear hE
  have HI : Hid (i ≤ s.size) := hi
  clear hi hs
  go_enter Try.func42, Try.ntmps42
  go_wp2_with (go_at_call 18; (with_reducible refine Calls.mono (K0 _) ?_); rintro e v1 ⟨rfl, rfl⟩)
  go_loopg [1, 5] (s.size - i) (fun g s1 s5 v => ∃ (t : Nat) (k : Int), s1 = .int .i64 t ∧ s5 = .int .i64 k ∧ kindAt s t = k ∧ t ≤ s.size ∧ t + g = s.size ∧ digEnd s t = E ∧ w = v)
  case atStart => exact ⟨i, _, rfl, rfl, rfl, HI.out, by have := HI.out; omega, HE.out, rfl⟩
  case round =>
    obtain ⟨t, k, rfl, rfl, hk, ht, hg, hT, rfl⟩ := hrel
    clear K0 HE HI
    by_cases h2 : k = 2
    · subst h2
      have hd := (kindAt_digit.1 hk).1
      rw [digEnd_step hk] at hT
      have K1 := fun v => KD (t + 1) ((t : Int) + 1) (by omega) v
      have hS := HS.out
      have q1 : 0 ≤ (t : Int) + 1 := by omega
      have q2 : (t : Int) + 1 < 10000000 := by omega
      have HT : Hid (digEnd s (t + 1) = E) := hT
      have HG : Hid (t + gk = s.size ∧ t < s.size) := ⟨hg, hd⟩
      clear hT hk hS KD hg hd ht
      generalize hk1 : kindAt s (t + 1) = k1 at *
      have HK : Hid (kindAt s (t + 1) = k1) := hk1
      clear hk1
      have w1 : wrap64 ((t : Int) + 1) = (t : Int) + 1 := wrap_smalls q1 q2
      go_wp2_with (go_at_call 18; (with_reducible refine Calls.mono (K1 _) ?_); rintro e v1 ⟨rfl, rfl⟩)
      clear w1
      have hG := HG.out
      go_roundg (s.size - (t + 1))
      case measure => omega
      case rel => exact ⟨t + 1, k1, by go_num, rfl, HK.out, by omega, by omega, HT.out, rfl⟩
    · have e2 : (k == 2) = false := by rw [beq_eq_false_iff_ne]; exact h2
      rw [digEnd_here (by rw [hk]; exact h2)] at hT
      subst hT
      clear hk KD hg ht h2
      go_wp2
      go_ret
      exact ⟨rfl, rfl⟩

set_option maxHeartbeats 4000000 in
theorem ref_lword {s : ByteArray} (hs : s.size ≤ 1000000) (i : Nat) (hi : i ≤ s.size) (j : Int) (hj : (i : Int) = j) (w : World) :
    Calls Try.prog 37 #[.string s, .int .i64 j] w fun e w' => e = .returned (.int .i64 (wordEnd s i)) ∧ w = w' := by
  subst hj
  have KD := fun i j hj v => ref_lkind hs i j hj v
  have K0 := fun v => KD i i rfl v
  have HS : Hid (s.size ≤ 1000000) := hs
  generalize hE : wordEnd s i = E
  have HE : Hid (wordEnd s i = E) := hE
  clear hE
  have HI : Hid (i ≤ s.size) := hi
  clear hi hs
  go_enter Try.func37, Try.ntmps37
  go_wp2_with (go_at_call 18; (with_reducible refine Calls.mono (K0 _) ?_); rintro e v1 ⟨rfl, rfl⟩)
  go_loopg [1, 5, 6] (s.size - i) (fun g s1 s5 s6 v => ∃ (t : Nat) (k : Int) (m : Nat), s1 = .int .i64 t ∧ s5 = .int .i64 k ∧ s6 = .int .i64 m ∧ kindAt s t = k ∧ stepAt s t = m ∧ t ≤ s.size ∧ t + g = s.size ∧ wordEnd s t = E ∧ w = v)
  case atStart => exact ⟨i, _, _, rfl, rfl, rfl, rfl, rfl, HI.out, by have := HI.out; omega, HE.out, rfl⟩
  case round =>
    obtain ⟨t, k, m, rfl, rfl, rfl, hk, hm, ht, hg, hT, rfl⟩ := hrel
    clear K0 HE HI
    by_cases h2 : k = 1 ∨ k = 2
    · have hz := stepAt_size (kindAt_in (s := s) (i := t) (by omega))
      rw [wordEnd_step (by rw [hk]; exact h2), hm] at hT
      rw [hm] at hz
      have K1 := fun v => KD (t + m) ((t : Int) + m) (by omega) v
      have hS := HS.out
      have q1 : 0 ≤ (t : Int) + m := by omega
      have q2 : (t : Int) + m < 10000000 := by omega
      have HT : Hid (wordEnd s (t + m) = E) := hT
      have HG : Hid (t + gk = s.size ∧ 1 ≤ m ∧ t + m ≤ s.size) := ⟨hg, hz.1, hz.2.1⟩
      clear hT hk hm hS KD hg ht hz
      generalize hk1 : kindAt s (t + m) = k1 at *
      generalize hm1 : stepAt s (t + m) = m1 at *
      have HK : Hid (kindAt s (t + m) = k1 ∧ stepAt s (t + m) = m1) := ⟨hk1, hm1⟩
      clear hk1 hm1
      have w1 : wrap64 ((t : Int) + m) = (t : Int) + m := wrap_smalls q1 q2
      clear q1 q2
      rcases h2 with rfl | rfl
      all_goals
        go_wp2_with (go_at_call 18; (with_reducible refine Calls.mono (K1 _) ?_); rintro e v1 ⟨rfl, rfl⟩)
        clear w1
        have hG := HG.out
        go_roundg (s.size - (t + m))
        case measure => omega
        case rel => exact ⟨t + m, k1, m1, by go_num, rfl, rfl, HK.out.1, HK.out.2, by omega, by omega, HT.out, rfl⟩
    · have e1 : (k == 1) = false := by rw [beq_eq_false_iff_ne]; exact fun e => h2 (.inl e)
      have e2 : (k == 2) = false := by rw [beq_eq_false_iff_ne]; exact fun e => h2 (.inr e)
      rw [wordEnd_here (by rw [hk]; exact h2)] at hT
      subst hT
      clear hk hm KD hg ht h2
      go_wp2
      go_ret
      exact ⟨rfl, rfl⟩

set_option maxHeartbeats 4000000 in
theorem ref_lcut {s : ByteArray} (hs : s.size ≤ 1000000) (w : World) :
    Calls Try.prog 24 #[.string s] w fun e w' => e = .returned (.int .i64 (cutI s)) ∧ w = w' := by
  have HS : Hid (s.size ≤ 1000000) := hs
  generalize hE : cutI s = E
  have HE : Hid (cutF s (s.size + 1) 0 = E) := hE
  clear hE hs
  go_enter Try.func24, Try.ntmps24
  go_wp2
  go_loopg [3] s.size (fun g s3 v => ∃ t : Nat, s3 = .int .i64 t ∧ t + g = s.size ∧ cutF s (s.size + 1) t = E ∧ w = v)
  case atStart => exact ⟨0, rfl, by omega, HE.out, rfl⟩
  case round =>
    obtain ⟨t, rfl, hg, hT, rfl⟩ := hrel
    clear HE
    have hT' : (if t < s.size then (if bt s t = 124 then t else cutF s s.size (t + 1)) else t) = E := hT
    clear hT
    rcases Nat.lt_or_ge t s.size with h | h
    · have h1 : (t : Int) < s.size := by omega
      rw [if_pos h, bt_get h] at hT'
      by_cases h2 : s[t].toNat = 124
      · have e2 : ((s[t].toNat : Int) == 124) = true := by rw [beq_iff_eq]; omega
        rw [if_pos h2] at hT'
        subst hT'
        clear h2 hg
        go_wp2
        go_ret
        exact ⟨rfl, rfl⟩
      · have e2 : ((s[t].toNat : Int) == 124) = false := by rw [beq_eq_false_iff_ne]; omega
        rw [if_neg h2, cutF_more s s.size (t + 1) (by omega) (s.size + 1) (by omega)] at hT'
        have HT : Hid (cutF s (s.size + 1) (t + 1) = E) := hT'
        have hS := HS.out
        have q1 : 0 ≤ (t : Int) + 1 := by omega
        have q2 : (t : Int) + 1 < 10000000 := by omega
        have HG : Hid (t + gk = s.size ∧ t < s.size) := ⟨hg, h⟩
        clear hT' h2 hS hg
        have w1 : wrap64 ((t : Int) + 1) = (t : Int) + 1 := wrap_smalls q1 q2
        go_wp2
        clear w1
        have hG := HG.out
        go_roundg (s.size - (t + 1))
        case measure => omega
        case rel => exact ⟨t + 1, by go_num, by omega, HT.out, rfl⟩
    · have h1 : ¬ (t : Int) < s.size := by omega
      rw [if_neg (Nat.not_lt.2 h)] at hT'
      obtain rfl : t = s.size := by omega
      subst hT'
      clear hg
      go_wp2
      go_ret
      exact ⟨rfl, rfl⟩
end Go.Proofs.Ytfdheodkipfpeaa
/-
  Contracts of the library's slices.Index and slices.Contains over few numbers, of package lex's span, plain, and of strings.CutPrefix at the stroke: memory that was there stays.
-/
namespace Go.Proofs.Ytfdheodkipfpeaa
open Go.RowKit Go.Lib

/-- A box of numbers. -/
def ks (K : List Int) : Array Value := (K.map fun k => Value.int .i64 k).toArray
theorem ks_get {v : World} {g : Nat} {K : List Int} (h : BoxC v g (ks K) 3) {t : Nat} (ht : t < K.length) : v.cell? ⟨g, t, none⟩ = some (.int .i64 K[t]) := by
  rw [(h.cell t).1]
  unfold ks
  simp [ht]

set_option maxHeartbeats 4000000 in
theorem lib_index (g : Nat) (K : List Int) (w : World) (hB : BoxC w g (ks K) 3) (hl : K.length ≤ 10) (x : Int) :
    Calls Try.prog 51 #[.slice (some ⟨g, 0, none⟩) K.length K.length, .int .i64 x] w fun e w' => ∃ r : Int, e = .returned (.int .i64 r) ∧ (x ∈ K ∧ 0 ≤ r ∨ x ∉ K ∧ r = -1) ∧ w = w' := by
  have HB : Hid (BoxC w g (ks K) 3 ∧ K.length ≤ 10) := ⟨hB, hl⟩
  clear hB hl
  go_enter Try.func51, Try.ntmps51
  go_wp2
  go_loopg [8] K.length (fun q s8 v => ∃ t : Nat, s8 = .int .i64 t ∧ t + q = K.length ∧ (∀ j (h : j < K.length), j < t → K[j] ≠ x) ∧ w = v)
  case atStart => exact ⟨0, rfl, by omega, fun j _ h => absurd h (by omega), rfl⟩
  case round =>
    obtain ⟨t, rfl, hq, hN, rfl⟩ := hrel
    obtain ⟨hB, hl⟩ := HB.out
    rcases Nat.lt_or_ge t K.length with h | h
    · have h1 : (t : Int) < K.length := by omega
      have hc := ks_get hB h
      by_cases h2 : K[t] = x
      · have e2 : (x == K[t]) = true := by rw [beq_iff_eq]; exact h2.symm
        have HM : Hid (x ∈ K) := by show _; rw [← h2]; exact List.getElem_mem h
        generalize K[t] = y at *
        clear hN hB HB hl hq h2
        go_wp2
        go_ret
        exact ⟨_, rfl, .inl ⟨HM.out, by omega⟩, rfl⟩
      · have e2 : (x == K[t]) = false := by rw [beq_eq_false_iff_ne]; exact fun e => h2 e.symm
        have HN : Hid (∀ j (h : j < K.length), j < t + 1 → K[j] ≠ x) := by
          intro j hj hjt
          rcases Nat.lt_or_ge j t with h3 | h3
          · exact hN j hj h3
          · obtain rfl : j = t := by omega
            exact h2
        have q1 : 0 ≤ (t : Int) + 1 := by omega
        have q2 : (t : Int) + 1 < 10000000 := by omega
        have HG : Hid (t + gk = K.length ∧ t < K.length) := ⟨hq, h⟩
        generalize K[t] = y at *
        clear hN hB hl hq h2
        have W1 : Hid (wrap64 ((t : Int) + 1) = (t : Int) + 1) := wrap_smalls q1 q2
        clear q1 q2
        go_wp2
        have hG := HG.out
        go_roundg (K.length - (t + 1))
        case measure => omega
        case rel => exact ⟨t + 1, by rw [W1.out]; go_num, by omega, HN.out, rfl⟩
    · have h1 : ¬ (t : Int) < K.length := by omega
      have HM : Hid (x ∉ K) := by
        intro hm
        obtain ⟨j, hj, e⟩ := List.getElem_of_mem hm
        exact hN j hj (by omega) e
      clear hN hB HB hl hq
      go_wp2
      go_ret
      exact ⟨_, rfl, .inr ⟨HM.out, rfl⟩, rfl⟩

set_option maxHeartbeats 4000000 in
theorem lib_contains (g : Nat) (K : List Int) (w : World) (hB : BoxC w g (ks K) 3) (hl : K.length ≤ 10) (x : Int) :
    Calls Try.prog 43 #[.slice (some ⟨g, 0, none⟩) K.length K.length, .int .i64 x] w fun e w' => e = .returned (.bool (decide (x ∈ K))) ∧ w = w' := by
  have I := lib_index g K w hB hl x
  generalize K.length = n at *
  by_cases hx : x ∈ K
  · have I2 : Calls Try.prog 51 #[.slice (some ⟨g, 0, none⟩) n n, .int .i64 x] w fun e w' => ∃ r : Int, e = .returned (.int .i64 r) ∧ 0 ≤ r ∧ w = w' := by
      refine I.mono ?_
      rintro e w' ⟨r, h1, h2, h3⟩
      exact ⟨r, h1, by rcases h2 with h2 | h2; exact h2.2; exact absurd hx h2.1, h3⟩
    rw [decide_eq_true hx]
    clear I hB hl hx
    go_enter Try.func43, Try.ntmps43
    go_wp2_with (go_at_call 51; (with_reducible refine Calls.mono I2 ?_); rintro e v1 ⟨r, rfl, hr, rfl⟩)
    go_ret
    exact ⟨rfl, rfl⟩
  · have I2 : Calls Try.prog 51 #[.slice (some ⟨g, 0, none⟩) n n, .int .i64 x] w fun e w' => e = .returned (.int .i64 (-1)) ∧ w = w' := by
      refine I.mono ?_
      rintro e w' ⟨r, h1, h2, h3⟩
      rcases h2 with h2 | h2
      · exact absurd h2.1 hx
      · exact ⟨by rw [h1, h2.2], h3⟩
    rw [decide_eq_false hx]
    clear I hB hl hx
    go_enter Try.func43, Try.ntmps43
    go_wp2_with (go_at_call 51; (with_reducible refine Calls.mono I2 ?_); rintro e v1 ⟨rfl, rfl⟩)
    go_ret
    exact ⟨rfl, rfl⟩

set_option maxHeartbeats 8000000 in
/-- Where runes of these kinds end. -/
theorem lex_span (s : ByteArray) (hs : s.size ≤ 1000000) (g : Nat) (K : List Int) (w : World) (hB : BoxC w g (ks K) 3) (hl : K.length ≤ 10) (n : Nat) (hn : K.length = n) :
    Calls Try.prog 28 #[.string s, .slice (some ⟨g, 0, none⟩) n n] w fun e w' => e = .returned (.int .i64 (spanE K s 0)) ∧ Below w.heap.size w w' := by
  subst hn
  have HB : Hid (BoxC w g (ks K) 3 ∧ K.length ≤ 10 ∧ s.size ≤ 1000000) := ⟨hB, hl, hs⟩
  generalize hE : spanE K s 0 = E
  have HE : Hid (spanE K s 0 = E) := hE
  clear hB hl hs hE
  go_enter Try.func28, Try.ntmps28
  go_wp2
  go_loopg [] s.size (fun q v => ∃ i : Nat, i + q = s.size ∧ v.heap[w.heap.size]? = some (.stringIter s i) ∧ Below w.heap.size w v ∧ spanE K s i = E)
  case atStart => exact ⟨0, by omega, iter_new w s, below_iter w s 0, HE.out⟩
  case round =>
    obtain ⟨i, hq, hit, bw, hF⟩ := hrel
    clear HE
    obtain ⟨hB, hl, hs⟩ := HB.out
    rcases Nat.lt_or_ge i s.size with hi | hi
    · have hnx : ∀ ty, (Instr.next (.pointer (some ⟨w.heap.size, 0, none⟩)) true ty).run Try.prog wr = .ok (.tuple #[.bool true, .int .i64 i, .int .i32 (nextR s i)]) (wr.iterAt w.heap.size s (i + nextN s i)) := fun ty => run_next_any_at wr w.heap.size s i ty hit hi
      have hi2 := iterAt_heap wr w.heap.size s i (i + nextN s i) hit
      have bw2 := below_iterAt bw (Nat.le_refl _) s (i + nextN s i)
      have hz := next_size hi
      have C := lib_contains g K _ (hB.more bw2) hl (kindI (nextR s i))
      have KD := fun v => sign_kind (nextR s i) _ rfl v
      have e1 : kindAt s i = kindI (nextR s i) := by unfold kindAt; rw [if_pos hi]
      have e2 : stepAt s i = nextN s i := by unfold stepAt; rw [if_pos hi]
      by_cases hm : kindI (nextR s i) ∈ K
      · have HF : Hid (spanE K s (i + nextN s i) = E) := by
          have := spanE_step (K := K) hi (by rw [e1]; exact hm)
          rw [e2] at this
          exact this.symm.trans hF
        rw [decide_eq_true hm] at C
        have HG : Hid (i + gk = s.size ∧ 1 ≤ nextN s i ∧ i + nextN s i ≤ s.size) := ⟨hq, hz.1, hz.2.2⟩
        generalize kindI (nextR s i) = k at *
        generalize nextR s i = R at *
        generalize nextN s i = M at *
        generalize wr.iterAt w.heap.size s (i + M) = wi at *
        clear hB hl hs hq hit bw hF hz hi e1 e2 hm
        go_wp2_with (first
          | (go_at_call 30; (with_reducible refine Calls.mono (KD _) ?_); rintro e v1 ⟨rfl, rfl⟩)
          | (go_at_call 43; (with_reducible refine Calls.mono C ?_); rintro e v2 ⟨rfl, rfl⟩))
        have hG := HG.out
        go_roundg (s.size - (i + M))
        case measure => omega
        case rel => exact ⟨i + M, by omega, hi2, bw2, HF.out⟩
      · have hE2 := spanE_here (K := K) (s := s) (i := i) (fun e => hm (by rw [← e1]; exact e.2))
        rw [hE2] at hF
        subst hF
        rw [decide_eq_false hm] at C
        generalize kindI (nextR s i) = k at *
        generalize nextR s i = R at *
        generalize nextN s i = M at *
        generalize wr.iterAt w.heap.size s (i + M) = wi at *
        clear hB hl hs hq hit bw hz hi e1 e2 hm hE2
        go_wp2_with (first
          | (go_at_call 30; (with_reducible refine Calls.mono (KD _) ?_); rintro e v1 ⟨rfl, rfl⟩)
          | (go_at_call 43; (with_reducible refine Calls.mono C ?_); rintro e v2 ⟨rfl, rfl⟩))
        go_ret
        exact ⟨rfl, bw2⟩
    · have hnx : ∀ ty, (Instr.next (.pointer (some ⟨w.heap.size, 0, none⟩)) true ty).run Try.prog wr = .ok (.tuple #[.bool false]) wr := fun ty => run_next_end_at wr w.heap.size s i ty hit (by omega)
      rw [spanE_here (fun e => by omega)] at hF
      obtain rfl : i = s.size := by omega
      subst hF
      clear hB hl hs hq hit hi
      go_wp2
      go_ret
      exact ⟨rfl, bw⟩
/-- One kind; two kinds. -/
theorem lex_span1 (s : ByteArray) (hs : s.size ≤ 1000000) (g : Nat) (k : Int) (w : World) (hB : BoxC w g #[.int .i64 k] 3) :
    Calls Try.prog 28 #[.string s, .slice (some ⟨g, 0, none⟩) 1 1] w fun e w' => e = .returned (.int .i64 (spanE [k] s 0)) ∧ Below w.heap.size w w' := lex_span s hs g [k] w hB (by simp) 1 rfl
theorem lex_span2 (s : ByteArray) (hs : s.size ≤ 1000000) (g : Nat) (k l : Int) (w : World) (hB : BoxC w g #[.int .i64 k, .int .i64 l] 3) :
    Calls Try.prog 28 #[.string s, .slice (some ⟨g, 0, none⟩) 2 2] w fun e w' => e = .returned (.int .i64 (spanE [k, l] s 0)) ∧ Below w.heap.size w w' := lex_span s hs g [k, l] w hB (by simp) 2 rfl
end Go.Proofs.Ytfdheodkipfpeaa
/-
  Contracts of package lex's plain, numeralOf, size, long, may and Number, and of strings.CutPrefix at the stroke: memory that was there stays.
-/
namespace Go.Proofs.Ytfdheodkipfpeaa
open Go.RowKit Go.Lib

theorem stroke_first {x : ByteArray} (h : 0 < x.size) : ((x.extract 0 1).toList == [124]) = decide (bt x 0 = 124) := by
  have hz : (x.extract 0 1).size = 1 := by rw [ByteArray.size_extract]; omega
  have hf := front x (e := 1) (by omega)
  have h0 := hf.same 0 (by omega)
  rw [← h0]
  generalize x.extract 0 1 = y at *
  rw [ByteArray.toList_eq]
  obtain ⟨⟨l⟩⟩ := y
  have hl : l.length = 1 := hz
  obtain ⟨b, rfl⟩ := List.length_eq_one_iff.1 hl
  rw [Bool.eq_iff_iff, beq_iff_eq, decide_eq_true_eq]
  show [b] = [124] ↔ b.toNat = 124
  constructor
  · intro e; rw [List.cons.inj e |>.1]; rfl
  · intro e; rw [show b = 124 from UInt8.toNat_inj.1 e]

set_option maxHeartbeats 4000000 in
/-- What is behind the stroke, if a text begins with one. -/
theorem cut_stroke {s u : ByteArray} (hs : s.size ≤ 1000000) {g : Bool} (h : (s.size = 0 ∧ g = false ∧ u = s) ∨ (0 < s.size ∧ g = true ∧ ((s.extract 0 1).toList == [124]) = true ∧ s.extract 1 s.size = u) ∨ (0 < s.size ∧ g = false ∧ ((s.extract 0 1).toList == [124]) = false ∧ u = s)) (w : World) :
    Calls Try.prog 39 #[.string s, .string ⟨#[124]⟩] w fun e w' => e = .returned (.tuple #[.string u, .bool g]) ∧ w = w' := by
  have H : ∀ (q : Bool), ((s.size = 0 ∧ q = false) ∨ (0 < s.size ∧ ((s.extract 0 1).toList == [124]) = q)) → Calls Try.prog 53 #[.string s, .string ⟨#[124]⟩] w fun e w' => e = .returned (.bool q) ∧ w = w' := by
    clear h
    intro q h
    rcases h with ⟨h0, rfl⟩ | ⟨h0, hq⟩
    case' inl => have h1 : ¬ (1 : Int) ≤ s.size := by omega
    case' inr => have h1 : (1 : Int) ≤ s.size := by omega
    all_goals
      go_enter Try.func53, Try.ntmps53
      go_wp2
      go_ret
      exact ⟨rfl, rfl⟩
  have H2 : Calls Try.prog 50 #[.string s, .string ⟨#[124]⟩] w fun e w' => e = .returned (.tuple #[.string u, .bool g]) ∧ w = w' := by
    rcases h with ⟨h0, rfl, rfl⟩ | ⟨h0, rfl, hq, hu⟩ | ⟨h0, rfl, hq, rfl⟩
    case' inl => have H1 := H false (.inl ⟨h0, rfl⟩)
    case' inr.inl =>
      have H1 := H true (.inr ⟨h0, hq⟩)
      have h1 : (1 : Int) ≤ s.size := by omega
    case' inr.inr => have H1 := H false (.inr ⟨h0, hq⟩)
    all_goals
      clear H
      go_enter Try.func50, Try.ntmps50
      go_wp2_with (go_at_call 53; (with_reducible refine Calls.mono H1 ?_); rintro e w1 ⟨rfl, rfl⟩)
      go_ret2
      exact ⟨rfl, rfl⟩
  clear H h
  go_enter Try.func39, Try.ntmps39
  go_wp2_with (go_at_call 50; (with_reducible refine Calls.mono H2 ?_); rintro e w1 ⟨rfl, rfl⟩)
  go_ret2
  exact ⟨rfl, rfl⟩

set_option maxHeartbeats 4000000 in
theorem lex_plain (x : ByteArray) (hx : x.size ≤ 1000000) (r : Bool) (hr : plainB x = r) (w : World) :
    Calls Try.prog 41 #[.string x] w fun e w' => e = .returned (.bool r) ∧ w = w' := by
  unfold plainB at hr
  by_cases h1 : (x.toList == [48]) = true
  · obtain rfl : r = true := by rw [← hr, h1]; rfl
    clear hr
    go_enter Try.func41, Try.ntmps41
    go_wp2
    go_ret
    exact ⟨rfl, rfl⟩
  · have h1' : (x.toList == [48]) = false := by rw [Bool.eq_false_iff]; exact h1
    rw [h1', Bool.false_or] at hr
    by_cases h0 : x.size = 0
    · have e0 : (x.toList == []) = true := by rw [size_zero h0, ByteArray.toList_eq]; rfl
      obtain rfl : r = false := by rw [← hr, decide_eq_false (fun e => e h0)]; rfl
      clear hr h1 h0
      go_enter Try.func41, Try.ntmps41
      go_wp2
      go_ret
      exact ⟨rfl, rfl⟩
    · have e0 : (x.toList == []) = false := text_full (by omega)
      have k0 : 0 < x.size := by omega
      have k1 : (0 : Int) < x.size := by omega
      have e2 : ((x[0].toNat : Int) != 48) = r := by
        rw [← hr, decide_eq_true h0, Bool.true_and, bt_get k0, Bool.eq_iff_iff, bne_iff_ne, decide_eq_true_eq]
        omega
      clear hr h1 h0 hx
      go_enter Try.func41, Try.ntmps41
      go_wp2
      go_ret
      exact ⟨rfl, rfl⟩
end Go.Proofs.Ytfdheodkipfpeaa
