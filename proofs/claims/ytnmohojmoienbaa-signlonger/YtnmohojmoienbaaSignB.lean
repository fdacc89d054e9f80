/-
  Contract of package sign's function Next: the rune at a byte is what the model's own decoding tells; memory that was there stays.
-/
import Derived.Test.YtnmohojmoienbaaSignA
import Derived.Test.YtnmohojmoienbaaStrIter
namespace Go.Proofs.Ytnmohojmoienbaa
open Go.RowKit Go.Lib

theorem ext_bt (s : ByteArray) (i : Nat) (hi : i ≤ s.size) (j : Nat) : bt (s.extract i s.size) j = bt s (i + j) := by
  have hz : (s.extract i s.size).size = s.size - i := by rw [ByteArray.size_extract]; omega
  by_cases h : i + j < s.size
  · rw [bt_get (by omega), bt_get h, ByteArray.getElem_extract]
  · unfold bt
    have e : s.size = s.data.size := rfl
    have e2 : (s.extract i s.size).size = (s.extract i s.size).data.size := rfl
    rw [bt_data, bt_data, getElem!_neg _ _ (by omega), getElem!_neg _ _ (by omega)]
theorem ext_next (s : ByteArray) (i : Nat) (hi : i ≤ s.size) (j : Nat) : nextR (s.extract i s.size) j = nextR s (i + j) ∧ nextN (s.extract i s.size) j = nextN s (i + j) := by
  have hz : (s.extract i s.size).size = s.size - i := by rw [ByteArray.size_extract]; omega
  have e : Utf8.decode (s.extract i s.size) j = Utf8.decode s (i + j) := by
    rw [decode_bt, decode_bt, ext_bt s i hi, ext_bt s i hi, ext_bt s i hi, ext_bt s i hi, hz, Nat.sub_sub]
    rfl
  unfold nextR nextN
  rw [e]; exact ⟨rfl, rfl⟩

theorem text_full {s : ByteArray} (h : 1 ≤ s.size) : (s.toList == []) = false := by
  rw [beq_eq_false_iff_ne, ByteArray.toList_eq]
  intro e
  have : s.data.toList.length = s.size := by simp
  rw [e] at this
  exact absurd this (by simp only [List.length_nil]; omega)

set_option maxHeartbeats 4000000 in
theorem sign_next_no (s : ByteArray) (j : Int) (h : j < 0 ∨ (s.size : Int) ≤ j) (w : World) : Calls Try.prog 13 #[.string s, .int .i64 j] w fun e w' => e = .returned (.tuple #[.int .i32 0, .int .i64 0]) ∧ w = w' := by
  rcases (by omega : j < 0 ∨ (¬ j < 0 ∧ (s.size : Int) ≤ j)) with h | ⟨h, h2⟩
  all_goals
    go_enter Try.func13, Try.ntmps13
    go_wp2
    go_ret2
    exact ⟨rfl, rfl⟩

set_option maxHeartbeats 4000000 in
theorem sign_next (s : ByteArray) (i : Nat) (w : World) (hs : s.size ≤ 1000000) (hi : i < s.size) : Calls Try.prog 13 #[.string s, .int .i64 i] w fun e w' => e = .returned (.tuple #[.int .i32 (nextR s i), .int .i64 (nextN s i)]) ∧ Below w.heap.size w w' := by
  have k0 : ¬ (i : Int) < 0 := by omega
  have k1 : ¬ (s.size : Int) ≤ i := by omega
  have k2 : (i : Int) ≤ s.size := by omega
  have hz := next_size hi
  have hT : (s.extract i s.size).size = s.size - i := by rw [ByteArray.size_extract]; omega
  obtain ⟨hR, hN⟩ := ext_next s i (Nat.le_of_lt hi) 0
  rw [Nat.add_zero] at hR hN
  have HH : Hid (nextR (s.extract i s.size) 0 = nextR s i ∧ nextN (s.extract i s.size) 0 = nextN s i ∧ 1 ≤ nextN s i ∧ nextN s i ≤ (s.extract i s.size).size ∧ (s.extract i s.size).size ≤ 1000000) := ⟨hR, hN, hz.1, by omega, by omega⟩
  clear hR hN hz hT hs hi
  generalize nextR s i = R at *
  generalize nextN s i = M at *
  go_enter Try.func13, Try.ntmps13
  go_wp2
  generalize s.extract i s.size = u at *
  go_loopg [4] u.size (fun g s4 v => ∃ (pos : Nat) (x : Int), s4 = .int .i32 x ∧ pos + g = u.size ∧ v.heap[w.heap.size]? = some (.stringIter u pos) ∧ Below w.heap.size w v ∧ (pos = 0 ∨ pos = M ∧ x = R))
  case atStart => exact ⟨0, 0, rfl, by omega, iter_new w u, below_iter w u 0, .inl rfl⟩
  case round =>
    obtain ⟨pos, x, rfl, hg, hit, bw, hp⟩ := hrel
    obtain ⟨h1, h2, h3, h4, h5⟩ := HH.out
    rcases hp with rfl | ⟨rfl, rfl⟩
    · have hnx : ∀ ty, (Instr.next (.pointer (some ⟨w.heap.size, 0, none⟩)) true ty).run Try.prog wr = .ok (.tuple #[.bool true, .int .i64 (0 : Nat), .int .i32 (nextR u 0)]) (wr.iterAt w.heap.size u (0 + nextN u 0)) := fun ty => run_next_any_at wr w.heap.size u 0 ty hit (by omega)
      have hi2 := iterAt_heap wr w.heap.size u 0 (0 + nextN u 0) hit
      have bw2 := below_iterAt bw (Nat.le_refl _) u (0 + nextN u 0)
      rw [h1, h2, Nat.zero_add] at hnx
      rw [h2, Nat.zero_add] at hi2 bw2
      generalize wr.iterAt w.heap.size u M = wi at *
      have HG : Hid (0 + gk = u.size) := hg
      clear hit bw h1 h2 h3 h4 h5 hg
      go_wp2
      have hg := HG.out
      obtain ⟨h1, h2, h3, h4, h5⟩ := HH.out
      go_roundg (u.size - M)
      case measure => omega
      case rel => exact ⟨M, R, rfl, by omega, hi2, bw2, .inr ⟨rfl, rfl⟩⟩
    · rcases Nat.lt_or_ge pos u.size with hp | hp
      · have hnx : ∀ ty, (Instr.next (.pointer (some ⟨w.heap.size, 0, none⟩)) true ty).run Try.prog wr = .ok (.tuple #[.bool true, .int .i64 pos, .int .i32 (nextR u pos)]) (wr.iterAt w.heap.size u (pos + nextN u pos)) := fun ty => run_next_any_at wr w.heap.size u pos ty hit hp
        have bw2 := below_iterAt bw (Nat.le_refl _) u (pos + nextN u pos)
        have k3 : 0 < (pos : Int) := by omega
        generalize wr.iterAt w.heap.size u (pos + nextN u pos) = wi at *
        clear hit bw h1 h2 h3 h4 h5 hg hp
        go_wp2
        go_ret2
        exact ⟨rfl, bw2⟩
      · obtain rfl : pos = u.size := by omega
        have hnx : ∀ ty, (Instr.next (.pointer (some ⟨w.heap.size, 0, none⟩)) true ty).run Try.prog wr = .ok (.tuple #[.bool false]) wr := fun ty => run_next_end_at wr w.heap.size u u.size ty hit (Nat.lt_irrefl _)
        clear hit h1 h2 h3 h4 h5 hg hp
        go_wp2
        go_ret2
        exact ⟨rfl, bw⟩

set_option maxHeartbeats 8000000 in
theorem sign_name (s : ByteArray) (w : World) (hs : s.size ≤ 1000000) (r : Bool) (hr : nameB s = r) : Calls Try.prog 17 #[.string s] w fun e w' => e = .returned (.bool r) ∧ Below w.heap.size w w' := by
  have KY := fun v => sign_key s _ rfl v
  unfold nameB at hr
  rcases (by by_cases h1 : s.size < 1 <;> by_cases h2 : 40 < s.size <;> by_cases h3 : keyB s = true <;> simp [h1, h2, h3] : s.size < 1 ∨ (¬ s.size < 1 ∧ 40 < s.size) ∨ (¬ s.size < 1 ∧ ¬ 40 < s.size ∧ keyB s = true) ∨ (¬ s.size < 1 ∧ ¬ 40 < s.size ∧ keyB s = false)) with h | ⟨h, h2⟩ | ⟨h, h2, h3⟩ | ⟨h, h2, h3⟩
  · have e0 : (s.toList == []) = true := by
      have : s.data.toList = [] := List.eq_nil_of_length_eq_zero ((show s.data.toList.length = s.size by simp).trans (by omega))
      rw [ByteArray.toList_eq, this]; rfl
    obtain rfl : r = false := by rw [← hr, decide_eq_false (by omega)]; rfl
    clear hr hs KY
    go_enter Try.func17, Try.ntmps17
    go_wp2
    go_ret
    exact ⟨rfl, Below.refl _ _⟩
  · have e0 : (s.toList == []) = false := text_full (by omega)
    obtain rfl : r = false := by rw [← hr, decide_eq_false (by omega)]; rfl
    have k2 : 40 < (s.size : Int) := by omega
    clear hr hs KY
    go_enter Try.func17, Try.ntmps17
    go_wp2
    go_ret
    exact ⟨rfl, Below.refl _ _⟩
  · have e0 : (s.toList == []) = false := text_full (by omega)
    obtain rfl : r = false := by rw [← hr, h3]; simp
    have k2 : ¬ 40 < (s.size : Int) := by omega
    rw [h3] at KY
    clear hr hs h3
    go_enter Try.func17, Try.ntmps17
    go_wp2_with (go_at_call 19; (with_reducible refine Calls.mono (KY _) ?_); rintro e v1 ⟨rfl, rfl⟩)
    go_ret
    exact ⟨rfl, Below.refl _ _⟩
  · have e0 : (s.toList == []) = false := text_full (by omega)
    have k2 : ¬ 40 < (s.size : Int) := by omega
    have hF : nameF s (s.size + 1) 0 = r := by rw [← hr, h3, decide_eq_true (by omega : 1 ≤ s.size ∧ s.size ≤ 40)]; rfl
    have HF : Hid (nameF s (s.size + 1) 0 = r) := hF
    rw [h3] at KY
    clear hr h3 hF hs h h2
    go_enter Try.func17, Try.ntmps17
    go_wp2_with (go_at_call 19; (with_reducible refine Calls.mono (KY _) ?_); rintro e v1 ⟨rfl, rfl⟩)
    go_loopg [2] s.size (fun g s2 v => ∃ i : Nat, s2 = .bool false ∧ i + g = s.size ∧ v.heap[w.heap.size]? = some (.stringIter s i) ∧ Below w.heap.size w v ∧ nameF s (s.size + 1) i = r)
    case atStart => exact ⟨0, rfl, by omega, iter_new w s, below_iter w s 0, HF.out⟩
    case round =>
      obtain ⟨i, rfl, hg, hit, bw, hF⟩ := hrel
      clear HF KY
      have HF : Hid (nameF s (s.size + 1) i = r) := hF
      clear hF
      rcases Nat.lt_or_ge i s.size with hi | hi
      · have hnx : ∀ ty, (Instr.next (.pointer (some ⟨w.heap.size, 0, none⟩)) true ty).run Try.prog wr = .ok (.tuple #[.bool true, .int .i64 i, .int .i32 (nextR s i)]) (wr.iterAt w.heap.size s (i + nextN s i)) := fun ty => run_next_any_at wr w.heap.size s i ty hit hi
        have hi2 := iterAt_heap wr w.heap.size s i (i + nextN s i) hit
        have bw2 := below_iterAt bw (Nat.le_refl _) s (i + nextN s i)
        have hz := next_size hi
        have HS : Hid (nameF s (s.size + 1) i = if (kindI (nextR s i) ≠ 1 ∧ kindI (nextR s i) ≠ 2) ∨ (kindI (nextR s i) = 2 ∧ i = 0) then false else nameF s (s.size + 1) (i + nextN s i)) := nameF_step hi
        have K1 := fun v => sign_kind (nextR s i) _ rfl v
        have hk := kindI_range (nextR s i)
        have HZ : Hid (1 ≤ nextN s i ∧ i + nextN s i ≤ s.size) := ⟨hz.1, hz.2.2⟩
        generalize wr.iterAt w.heap.size s (i + nextN s i) = wi at *
        generalize kindI (nextR s i) = k at *
        generalize nextR s i = R at *
        generalize nextN s i = M at *
        clear hz hit bw hi
        rcases (by omega : ((k = 0 ∨ k = 3 ∨ k = 4) ∨ (k = 2 ∧ i = 0)) ∨ (k = 1 ∨ (k = 2 ∧ i ≠ 0))) with hA | hB
        · obtain rfl : r = false := by rw [← HF.out, HS.out, if_pos (by omega)]
          clear hk HS HF
          rcases hA with (rfl | rfl | rfl) | ⟨rfl, h0⟩
          all_goals
            (try (have e0 : ((i : Int) == 0) = true := by (rw [beq_iff_eq]; omega)); clear h0)
            go_wp2_with (go_at_call 11; (with_reducible refine Calls.mono (K1 _) ?_); rintro e v2 ⟨rfl, rfl⟩)
            go_ret
            exact ⟨rfl, bw2⟩
        · have HR : Hid (nameF s (s.size + 1) (i + M) = r) := by show _ = _; rw [← HF.out, HS.out, if_neg (by omega)]
          clear hk HS HF
          rcases hB with rfl | ⟨rfl, h0⟩
          all_goals
            (try (have e0 : ((i : Int) == 0) = false := by (rw [beq_eq_false_iff_ne]; omega)); clear h0)
            go_wp2_with (go_at_call 11; (with_reducible refine Calls.mono (K1 _) ?_); rintro e v2 ⟨rfl, rfl⟩)
            have hZ := HZ.out
            go_roundg (s.size - (i + M))
            case measure => omega
            case rel => exact ⟨i + M, rfl, by omega, hi2, bw2, HR.out⟩
      · have hnx : ∀ ty, (Instr.next (.pointer (some ⟨w.heap.size, 0, none⟩)) true ty).run Try.prog wr = .ok (.tuple #[.bool false]) wr := fun ty => run_next_end_at wr w.heap.size s i ty hit (by omega)
        obtain rfl : r = true := by rw [← HF.out, nameF_end (by omega)]
        clear HF hit
        go_wp2
        go_ret
        exact ⟨rfl, bw⟩
end Go.Proofs.Ytnmohojmoienbaa
