/-
  Contract of package sign's function Place: a byte's place, at every text of up to a million bytes and every number; memory that was there stays. So package sign keeps all its contracts.
-/
import Derived.Test.YtnmohojmoienbaaSignB
import Derived.Test.YtnmohojmoienbaaSignWalksD
namespace Go.Proofs.Ytnmohojmoienbaa
open Go.RowKit Go.Lib

theorem placeF_above (s : ByteArray) {j : Int} (h : (s.size : Int) ≤ j) : ∀ f i l c, placeF s j f i l c = placeF s s.size f i l c := by
  intro f
  induction f with
  | zero => intro i l c; rfl
  | succ f ih =>
    intro i l c
    unfold placeF
    by_cases hi : i < s.size
    · have := next_size hi
      rw [if_pos hi, if_pos hi, if_neg (show ¬ j < (i : Int) + nextN s i by omega), if_neg (show ¬ (s.size : Int) < (i : Int) + nextN s i by omega), ih]
    · rw [if_neg hi, if_neg hi]

set_option maxHeartbeats 8000000 in
theorem sign_place (s : ByteArray) (j : Int) (w : World) (hs : s.size ≤ 1000000) (hj0 : -9223372036854775808 ≤ j) (hj1 : j < 9223372036854775808) :
    Calls Try.prog 15 #[.string s, .int .i64 j] w (AnsL w (placeI s j)) := by
  obtain ⟨a, ha, hp, hc⟩ : ∃ a : Nat, a ≤ s.size ∧ placeI s j = placeI s a ∧ ((j < 0 ∧ a = 0) ∨ (¬ j < 0 ∧ ¬ (s.size : Int) < j ∧ j = a) ∨ (¬ j < 0 ∧ (s.size : Int) < j ∧ a = s.size)) := by
    rcases (by omega : j < 0 ∨ (0 ≤ j ∧ j ≤ s.size) ∨ (0 ≤ j ∧ (s.size : Int) < j)) with h | ⟨h0, h⟩ | ⟨h0, h⟩
    · exact ⟨0, Nat.zero_le _, (place_low s h).trans (place_zero s).symm, .inl ⟨h, rfl⟩⟩
    · obtain ⟨a, rfl⟩ := Int.eq_ofNat_of_zero_le h0
      exact ⟨a, by omega, rfl, .inr (.inl ⟨by omega, by omega, rfl⟩)⟩
    · exact ⟨s.size, Nat.le_refl _, placeF_above s (Int.le_of_lt h) _ _ _ _, .inr (.inr ⟨by omega, h, rfl⟩)⟩
  rw [hp]
  clear hp hj0 hj1
  generalize hP : placeI s a = P
  have HP : Hid (placeI s a = P ∧ a ≤ s.size ∧ s.size ≤ 1000000) := ⟨hP, ha, hs⟩
  clear hP ha hs
  obtain ⟨B1, B2, B3, bV, hb⟩ := boxes3 w #[.int .i64 0, .int .i64 0] #[.int .i64 0, .int .i64 0] #[.int .i64 1, .int .i64 1] 32 32 32
  have hV : (((w.alloc (.cells #[.int .i64 0, .int .i64 0] 32)).alloc (.cells #[.int .i64 0, .int .i64 0] 32)).alloc (.cells #[.int .i64 1, .int .i64 1] 32)).heap.size = w.heap.size + 1 + 1 + 1 := by simp [World.size_alloc]
  clear hb
  rcases hc with ⟨c1, c2⟩ | ⟨c1, c2, rfl⟩ | ⟨c1, c2, c3⟩
  · go_enter Try.func15, Try.ntmps15
    go_wp2
    generalize ((w.alloc (.cells #[.int .i64 0, .int .i64 0] 32)).alloc (.cells #[.int .i64 0, .int .i64 0] 32)).alloc (.cells #[.int .i64 1, .int .i64 1] 32) = V at *
    have hit0 := iter_new V s
    have bI := below_more bV (below_iter V s 0)
    have BI1 := B1.more (below_iter V s 0)
    have BI2 := B2.more (below_iter V s 0)
    have BI3 := B3.more (below_iter V s 0)
    rw [hV] at hit0
    clear B1 B2 B3 bV hV
    go_loopg [7] s.size (fun g _ v => ∃ (pos : Nat) (l c l0 c0 : Int), pos + g = s.size ∧ v.heap[w.heap.size + 1 + 1 + 1]? = some (.stringIter s pos) ∧ BoxC v w.heap.size #[.int .i64 0, .int .i64 0] 32 ∧ BoxC v (w.heap.size + 1) #[.int .i64 l0, .int .i64 c0] 32 ∧ BoxC v (w.heap.size + 1 + 1) #[.int .i64 l, .int .i64 c] 32 ∧ Below w.heap.size w v ∧ At s pos l c ∧ 1 ≤ l ∧ l ≤ pos + 1 ∧ 1 ≤ c ∧ c ≤ pos + 1 ∧ (pos ≤ a ∨ (l0, c0) = P))
    case atStart => exact ⟨0, 1, 1, 0, 0, by omega, hit0, BI1, BI2, BI3, bI, At.zero s, by omega, by omega, by omega, by omega, .inl (Nat.zero_le _)⟩
    case round =>
      obtain ⟨pos, l, c, l0, c0, hg, hit, X1, X2, X3, bw, hA, hl1, hl2, hc1, hc2, hp⟩ := hrel
      clear hit0 BI1 BI2 BI3 bI
      obtain ⟨h1, h2, h3⟩ := HP.out
      rcases Nat.lt_or_ge pos s.size with hs | hs
      · have hnx : ∀ ty, (Instr.next (.pointer (some ⟨w.heap.size + 1 + 1 + 1, 0, none⟩)) true ty).run Try.prog wr = .ok (.tuple #[.bool true, .int .i64 pos, .int .i32 (nextR s pos)]) (wr.iterAt (w.heap.size + 1 + 1 + 1) s (pos + nextN s pos)) := fun ty => run_next_any_at wr (w.heap.size + 1 + 1 + 1) s pos ty hit hs
        have hi2 := iterAt_heap wr (w.heap.size + 1 + 1 + 1) s pos (pos + nextN s pos) hit
        have bw2 := below_iterAt bw (show w.heap.size ≤ w.heap.size + 1 + 1 + 1 by omega) s (pos + nextN s pos)
        have Y1 := X1.iterAt (g := w.heap.size + 1 + 1 + 1) s (pos + nextN s pos) (by omega)
        have Y2 := X2.iterAt (g := w.heap.size + 1 + 1 + 1) s (pos + nextN s pos) (by omega)
        have Y3 := X3.iterAt (g := w.heap.size + 1 + 1 + 1) s (pos + nextN s pos) (by omega)
        have hz := next_size hs
        by_cases hpa : a < pos
        · have hpa' : 0 < (pos : Int) := by omega
          have hlc : (l0, c0) = P := by rcases hp with hp | hp; omega; exact hp
          subst hlc
          obtain ⟨x0, x1, x2, x3⟩ := Y1.cells2
          obtain ⟨y0, y1, y2, y3⟩ := Y2.cells2
          generalize wr.iterAt (w.heap.size + 1 + 1 + 1) s (pos + nextN s pos) = wi at *
          clear hit X1 X2 X3 bw hA hp hpa Y1 Y2 Y3 hi2 hz h1 h2 h3 c1 c2
          go_wp2
          exact bodyPost_ret (v := .agg #[.int .i64 l0, .int .i64 c0]) (by simp [results, Try.results15, go_sem, x0, x1]) rfl ⟨rfl, (bw2.setCell (p := ⟨w.heap.size, 0, none⟩) (Nat.le_refl _) _).setCell (p := ⟨w.heap.size, 1, none⟩) (Nat.le_refl _) _⟩
        · have hpa' : ¬ 0 < (pos : Int) := by omega
          have HA : Hid (At s (pos + nextN s pos) (if nextR s pos = 10 then l + 1 else l) (if nextR s pos = 10 then 1 else c + 1)) := hA.next hs
          have HE : Hid (pos + nextN s pos ≤ a ∨ (l, c) = P) := by
            rcases Nat.lt_or_ge a (pos + nextN s pos) with q | q
            · exact .inr ((hA.here (at_ := (a : Int)) (by omega) (by omega) hs).symm.trans h1)
            · exact .inl q
          have HB : Hid (pos + gk = s.size ∧ pos + nextN s pos ≤ s.size ∧ 1 ≤ nextN s pos ∧ nextN s pos ≤ 4 ∧ 1 ≤ l ∧ l ≤ pos + 1 ∧ 1 ≤ c ∧ c ≤ pos + 1) := ⟨hg, hz.2.2, hz.1, hz.2.1, hl1, hl2, hc1, hc2⟩
          have CB := fun v => sign_behind l c (nextR s pos) (by omega) (by omega) (by omega) (by omega) v
          generalize wr.iterAt (w.heap.size + 1 + 1 + 1) s (pos + nextN s pos) = wi at *
          generalize nextR s pos = R at *
          generalize nextN s pos = M at *
          clear hit X1 X2 X3 bw hA hp hpa hz h1 h2 h3 hl1 hl2 hc1 hc2 hg c1 c2
          unfold AnsL at CB
          obtain ⟨p0, p1, p2, p3⟩ := Y3.drew.cells2
          obtain ⟨q0, q1, q2, q3⟩ := Y2.drew.cells2
          by_cases h10 : R = 10
          · have HA2 : Hid (At s (pos + M) (l + 1) (1)) := by have := HA.out; rw [if_pos h10, if_pos h10] at this; exact this
            rw [if_pos h10, if_pos h10] at CB
            dsimp only at CB
            clear HA h10
            go_wp2
            go_region_with (go_at_call 26; (with_reducible refine Calls.mono (CB _) ?_); rintro e w4' ⟨rfl, b4⟩; obtain ⟨p0, p1, p2, p3⟩ := (Y3.drew.more b4).cells2; obtain ⟨q0, q1, q2, q3⟩ := (Y2.drew.more b4).cells2)
            all_goals
              go_wp2
              have hB := HB.out
              have m1 : w.heap.size ≤ w.heap.size + 1 := by omega
              have m2 : w.heap.size ≤ w.heap.size + 1 + 1 := by omega
              go_roundg (s.size - (pos + M))
              case measure => omega
              case rel => exact ⟨pos + M, l + 1, 1, l, c, by omega, iter_set (iter_set (iter_set (iter_set (iter_more (show wi.drew.heap[w.heap.size + 1 + 1 + 1]? = _ from hi2) b4) (by omega) _) (by omega) _) (by omega) _) (by omega) _, (((((Y1.drew.more b4).other (by omega) _).other (by omega) _).other (by omega) _).other (by omega) _), (((((Y2.drew.more b4).set 0 (.int .i64 l)).set 1 (.int .i64 c)).other (by omega) _).other (by omega) _), (((((Y3.drew.more b4).other (by omega) _).other (by omega) _).set 0 (.int .i64 (l + 1))).set 1 (.int .i64 (1))), (((((below_more bw2.drew b4).setCell (p := ⟨w.heap.size + 1, 0, none⟩) m1 _).setCell (p := ⟨w.heap.size + 1, 1, none⟩) m1 _).setCell (p := ⟨w.heap.size + 1 + 1, 0, none⟩) m2 _).setCell (p := ⟨w.heap.size + 1 + 1, 1, none⟩) m2 _), HA2.out, by omega, by omega, by omega, by omega, HE.out⟩
          · have HA2 : Hid (At s (pos + M) (l) (c + 1)) := by have := HA.out; rw [if_neg h10, if_neg h10] at this; exact this
            rw [if_neg h10, if_neg h10] at CB
            dsimp only at CB
            clear HA h10
            go_wp2
            go_region_with (go_at_call 26; (with_reducible refine Calls.mono (CB _) ?_); rintro e w4' ⟨rfl, b4⟩; obtain ⟨p0, p1, p2, p3⟩ := (Y3.drew.more b4).cells2; obtain ⟨q0, q1, q2, q3⟩ := (Y2.drew.more b4).cells2)
            all_goals
              go_wp2
              have hB := HB.out
              have m1 : w.heap.size ≤ w.heap.size + 1 := by omega
              have m2 : w.heap.size ≤ w.heap.size + 1 + 1 := by omega
              go_roundg (s.size - (pos + M))
              case measure => omega
              case rel => exact ⟨pos + M, l, c + 1, l, c, by omega, iter_set (iter_set (iter_set (iter_set (iter_more (show wi.drew.heap[w.heap.size + 1 + 1 + 1]? = _ from hi2) b4) (by omega) _) (by omega) _) (by omega) _) (by omega) _, (((((Y1.drew.more b4).other (by omega) _).other (by omega) _).other (by omega) _).other (by omega) _), (((((Y2.drew.more b4).set 0 (.int .i64 l)).set 1 (.int .i64 c)).other (by omega) _).other (by omega) _), (((((Y3.drew.more b4).other (by omega) _).other (by omega) _).set 0 (.int .i64 (l))).set 1 (.int .i64 (c + 1))), (((((below_more bw2.drew b4).setCell (p := ⟨w.heap.size + 1, 0, none⟩) m1 _).setCell (p := ⟨w.heap.size + 1, 1, none⟩) m1 _).setCell (p := ⟨w.heap.size + 1 + 1, 0, none⟩) m2 _).setCell (p := ⟨w.heap.size + 1 + 1, 1, none⟩) m2 _), HA2.out, by omega, by omega, by omega, by omega, HE.out⟩
      · have hnx : ∀ ty, (Instr.next (.pointer (some ⟨w.heap.size + 1 + 1 + 1, 0, none⟩)) true ty).run Try.prog wr = .ok (.tuple #[.bool false]) wr := fun ty => run_next_end_at wr (w.heap.size + 1 + 1 + 1) s pos ty hit (by omega)
        obtain rfl : pos = s.size := by omega
        obtain ⟨x0, x1, x2, x3⟩ := X1.cells2
        obtain ⟨y0, y1, y2, y3⟩ := X2.cells2
        obtain ⟨z0, z1, z2, z3⟩ := X3.cells2
        by_cases hpa : a = s.size
        · have e : (0 == (s.size : Int)) = true := by rw [beq_iff_eq]; omega
          have hlc : (l, c) = P := by rw [← h1, hpa]; exact (hA.last (Int.le_refl _)).symm
          subst hlc
          clear hit X1 X2 X3 hA hp hpa h1 h2 h3 hg hs hl1 hl2 hc1 hc2 c1 c2
          go_wp2
          exact bodyPost_ret (v := .agg #[.int .i64 l, .int .i64 c]) (by simp [results, Try.results15, go_sem, x0, x1]) rfl ⟨rfl, (bw.setCell (p := ⟨w.heap.size, 0, none⟩) (Nat.le_refl _) _).setCell (p := ⟨w.heap.size, 1, none⟩) (Nat.le_refl _) _⟩
        · have e : (0 == (s.size : Int)) = false := by rw [beq_eq_false_iff_ne]; omega
          have hlc : (l0, c0) = P := by rcases hp with hp | hp; omega; exact hp
          subst hlc
          clear hit X1 X2 X3 hA hp hpa h1 h2 h3 hg hs hl1 hl2 hc1 hc2 c1 c2
          go_wp2
          exact bodyPost_ret (v := .agg #[.int .i64 l0, .int .i64 c0]) (by simp [results, Try.results15, go_sem, x0, x1]) rfl ⟨rfl, (bw.setCell (p := ⟨w.heap.size, 0, none⟩) (Nat.le_refl _) _).setCell (p := ⟨w.heap.size, 1, none⟩) (Nat.le_refl _) _⟩
  · go_enter Try.func15, Try.ntmps15
    go_wp2
    generalize ((w.alloc (.cells #[.int .i64 0, .int .i64 0] 32)).alloc (.cells #[.int .i64 0, .int .i64 0] 32)).alloc (.cells #[.int .i64 1, .int .i64 1] 32) = V at *
    have hit0 := iter_new V s
    have bI := below_more bV (below_iter V s 0)
    have BI1 := B1.more (below_iter V s 0)
    have BI2 := B2.more (below_iter V s 0)
    have BI3 := B3.more (below_iter V s 0)
    rw [hV] at hit0
    clear B1 B2 B3 bV hV
    go_loopg [7] s.size (fun g _ v => ∃ (pos : Nat) (l c l0 c0 : Int), pos + g = s.size ∧ v.heap[w.heap.size + 1 + 1 + 1]? = some (.stringIter s pos) ∧ BoxC v w.heap.size #[.int .i64 0, .int .i64 0] 32 ∧ BoxC v (w.heap.size + 1) #[.int .i64 l0, .int .i64 c0] 32 ∧ BoxC v (w.heap.size + 1 + 1) #[.int .i64 l, .int .i64 c] 32 ∧ Below w.heap.size w v ∧ At s pos l c ∧ 1 ≤ l ∧ l ≤ pos + 1 ∧ 1 ≤ c ∧ c ≤ pos + 1 ∧ (pos ≤ a ∨ (l0, c0) = P))
    case atStart => exact ⟨0, 1, 1, 0, 0, by omega, hit0, BI1, BI2, BI3, bI, At.zero s, by omega, by omega, by omega, by omega, .inl (Nat.zero_le _)⟩
    case round =>
      obtain ⟨pos, l, c, l0, c0, hg, hit, X1, X2, X3, bw, hA, hl1, hl2, hc1, hc2, hp⟩ := hrel
      clear hit0 BI1 BI2 BI3 bI
      obtain ⟨h1, h2, h3⟩ := HP.out
      rcases Nat.lt_or_ge pos s.size with hs | hs
      · have hnx : ∀ ty, (Instr.next (.pointer (some ⟨w.heap.size + 1 + 1 + 1, 0, none⟩)) true ty).run Try.prog wr = .ok (.tuple #[.bool true, .int .i64 pos, .int .i32 (nextR s pos)]) (wr.iterAt (w.heap.size + 1 + 1 + 1) s (pos + nextN s pos)) := fun ty => run_next_any_at wr (w.heap.size + 1 + 1 + 1) s pos ty hit hs
        have hi2 := iterAt_heap wr (w.heap.size + 1 + 1 + 1) s pos (pos + nextN s pos) hit
        have bw2 := below_iterAt bw (show w.heap.size ≤ w.heap.size + 1 + 1 + 1 by omega) s (pos + nextN s pos)
        have Y1 := X1.iterAt (g := w.heap.size + 1 + 1 + 1) s (pos + nextN s pos) (by omega)
        have Y2 := X2.iterAt (g := w.heap.size + 1 + 1 + 1) s (pos + nextN s pos) (by omega)
        have Y3 := X3.iterAt (g := w.heap.size + 1 + 1 + 1) s (pos + nextN s pos) (by omega)
        have hz := next_size hs
        by_cases hpa : a < pos
        · have hpa' : (a : Int) < (pos : Int) := by omega
          have hlc : (l0, c0) = P := by rcases hp with hp | hp; omega; exact hp
          subst hlc
          obtain ⟨x0, x1, x2, x3⟩ := Y1.cells2
          obtain ⟨y0, y1, y2, y3⟩ := Y2.cells2
          generalize wr.iterAt (w.heap.size + 1 + 1 + 1) s (pos + nextN s pos) = wi at *
          clear hit X1 X2 X3 bw hA hp hpa Y1 Y2 Y3 hi2 hz h1 h2 h3 c1 c2
          go_wp2
          exact bodyPost_ret (v := .agg #[.int .i64 l0, .int .i64 c0]) (by simp [results, Try.results15, go_sem, x0, x1]) rfl ⟨rfl, (bw2.setCell (p := ⟨w.heap.size, 0, none⟩) (Nat.le_refl _) _).setCell (p := ⟨w.heap.size, 1, none⟩) (Nat.le_refl _) _⟩
        · have hpa' : ¬ (a : Int) < (pos : Int) := by omega
          have HA : Hid (At s (pos + nextN s pos) (if nextR s pos = 10 then l + 1 else l) (if nextR s pos = 10 then 1 else c + 1)) := hA.next hs
          have HE : Hid (pos + nextN s pos ≤ a ∨ (l, c) = P) := by
            rcases Nat.lt_or_ge a (pos + nextN s pos) with q | q
            · exact .inr ((hA.here (at_ := (a : Int)) (by omega) (by omega) hs).symm.trans h1)
            · exact .inl q
          have HB : Hid (pos + gk = s.size ∧ pos + nextN s pos ≤ s.size ∧ 1 ≤ nextN s pos ∧ nextN s pos ≤ 4 ∧ 1 ≤ l ∧ l ≤ pos + 1 ∧ 1 ≤ c ∧ c ≤ pos + 1) := ⟨hg, hz.2.2, hz.1, hz.2.1, hl1, hl2, hc1, hc2⟩
          have CB := fun v => sign_behind l c (nextR s pos) (by omega) (by omega) (by omega) (by omega) v
          generalize wr.iterAt (w.heap.size + 1 + 1 + 1) s (pos + nextN s pos) = wi at *
          generalize nextR s pos = R at *
          generalize nextN s pos = M at *
          clear hit X1 X2 X3 bw hA hp hpa hz h1 h2 h3 hl1 hl2 hc1 hc2 hg c1 c2
          unfold AnsL at CB
          obtain ⟨p0, p1, p2, p3⟩ := Y3.drew.cells2
          obtain ⟨q0, q1, q2, q3⟩ := Y2.drew.cells2
          by_cases h10 : R = 10
          · have HA2 : Hid (At s (pos + M) (l + 1) (1)) := by have := HA.out; rw [if_pos h10, if_pos h10] at this; exact this
            rw [if_pos h10, if_pos h10] at CB
            dsimp only at CB
            clear HA h10
            go_wp2
            go_region_with (go_at_call 26; (with_reducible refine Calls.mono (CB _) ?_); rintro e w4' ⟨rfl, b4⟩; obtain ⟨p0, p1, p2, p3⟩ := (Y3.drew.more b4).cells2; obtain ⟨q0, q1, q2, q3⟩ := (Y2.drew.more b4).cells2)
            all_goals
              go_wp2
              have hB := HB.out
              have m1 : w.heap.size ≤ w.heap.size + 1 := by omega
              have m2 : w.heap.size ≤ w.heap.size + 1 + 1 := by omega
              go_roundg (s.size - (pos + M))
              case measure => omega
              case rel => exact ⟨pos + M, l + 1, 1, l, c, by omega, iter_set (iter_set (iter_set (iter_set (iter_more (show wi.drew.heap[w.heap.size + 1 + 1 + 1]? = _ from hi2) b4) (by omega) _) (by omega) _) (by omega) _) (by omega) _, (((((Y1.drew.more b4).other (by omega) _).other (by omega) _).other (by omega) _).other (by omega) _), (((((Y2.drew.more b4).set 0 (.int .i64 l)).set 1 (.int .i64 c)).other (by omega) _).other (by omega) _), (((((Y3.drew.more b4).other (by omega) _).other (by omega) _).set 0 (.int .i64 (l + 1))).set 1 (.int .i64 (1))), (((((below_more bw2.drew b4).setCell (p := ⟨w.heap.size + 1, 0, none⟩) m1 _).setCell (p := ⟨w.heap.size + 1, 1, none⟩) m1 _).setCell (p := ⟨w.heap.size + 1 + 1, 0, none⟩) m2 _).setCell (p := ⟨w.heap.size + 1 + 1, 1, none⟩) m2 _), HA2.out, by omega, by omega, by omega, by omega, HE.out⟩
          · have HA2 : Hid (At s (pos + M) (l) (c + 1)) := by have := HA.out; rw [if_neg h10, if_neg h10] at this; exact this
            rw [if_neg h10, if_neg h10] at CB
            dsimp only at CB
            clear HA h10
            go_wp2
            go_region_with (go_at_call 26; (with_reducible refine Calls.mono (CB _) ?_); rintro e w4' ⟨rfl, b4⟩; obtain ⟨p0, p1, p2, p3⟩ := (Y3.drew.more b4).cells2; obtain ⟨q0, q1, q2, q3⟩ := (Y2.drew.more b4).cells2)
            all_goals
              go_wp2
              have hB := HB.out
              have m1 : w.heap.size ≤ w.heap.size + 1 := by omega
              have m2 : w.heap.size ≤ w.heap.size + 1 + 1 := by omega
              go_roundg (s.size - (pos + M))
              case measure => omega
              case rel => exact ⟨pos + M, l, c + 1, l, c, by omega, iter_set (iter_set (iter_set (iter_set (iter_more (show wi.drew.heap[w.heap.size + 1 + 1 + 1]? = _ from hi2) b4) (by omega) _) (by omega) _) (by omega) _) (by omega) _, (((((Y1.drew.more b4).other (by omega) _).other (by omega) _).other (by omega) _).other (by omega) _), (((((Y2.drew.more b4).set 0 (.int .i64 l)).set 1 (.int .i64 c)).other (by omega) _).other (by omega) _), (((((Y3.drew.more b4).other (by omega) _).other (by omega) _).set 0 (.int .i64 (l))).set 1 (.int .i64 (c + 1))), (((((below_more bw2.drew b4).setCell (p := ⟨w.heap.size + 1, 0, none⟩) m1 _).setCell (p := ⟨w.heap.size + 1, 1, none⟩) m1 _).setCell (p := ⟨w.heap.size + 1 + 1, 0, none⟩) m2 _).setCell (p := ⟨w.heap.size + 1 + 1, 1, none⟩) m2 _), HA2.out, by omega, by omega, by omega, by omega, HE.out⟩
      · have hnx : ∀ ty, (Instr.next (.pointer (some ⟨w.heap.size + 1 + 1 + 1, 0, none⟩)) true ty).run Try.prog wr = .ok (.tuple #[.bool false]) wr := fun ty => run_next_end_at wr (w.heap.size + 1 + 1 + 1) s pos ty hit (by omega)
        obtain rfl : pos = s.size := by omega
        obtain ⟨x0, x1, x2, x3⟩ := X1.cells2
        obtain ⟨y0, y1, y2, y3⟩ := X2.cells2
        obtain ⟨z0, z1, z2, z3⟩ := X3.cells2
        by_cases hpa : a = s.size
        · have e : ((a : Int) == (s.size : Int)) = true := by rw [beq_iff_eq]; omega
          have hlc : (l, c) = P := by rw [← h1, hpa]; exact (hA.last (Int.le_refl _)).symm
          subst hlc
          clear hit X1 X2 X3 hA hp hpa h1 h2 h3 hg hs hl1 hl2 hc1 hc2 c1 c2
          go_wp2
          exact bodyPost_ret (v := .agg #[.int .i64 l, .int .i64 c]) (by simp [results, Try.results15, go_sem, x0, x1]) rfl ⟨rfl, (bw.setCell (p := ⟨w.heap.size, 0, none⟩) (Nat.le_refl _) _).setCell (p := ⟨w.heap.size, 1, none⟩) (Nat.le_refl _) _⟩
        · have e : ((a : Int) == (s.size : Int)) = false := by rw [beq_eq_false_iff_ne]; omega
          have hlc : (l0, c0) = P := by rcases hp with hp | hp; omega; exact hp
          subst hlc
          clear hit X1 X2 X3 hA hp hpa h1 h2 h3 hg hs hl1 hl2 hc1 hc2 c1 c2
          go_wp2
          exact bodyPost_ret (v := .agg #[.int .i64 l0, .int .i64 c0]) (by simp [results, Try.results15, go_sem, x0, x1]) rfl ⟨rfl, (bw.setCell (p := ⟨w.heap.size, 0, none⟩) (Nat.le_refl _) _).setCell (p := ⟨w.heap.size, 1, none⟩) (Nat.le_refl _) _⟩
  · go_enter Try.func15, Try.ntmps15
    go_wp2
    generalize ((w.alloc (.cells #[.int .i64 0, .int .i64 0] 32)).alloc (.cells #[.int .i64 0, .int .i64 0] 32)).alloc (.cells #[.int .i64 1, .int .i64 1] 32) = V at *
    have hit0 := iter_new V s
    have bI := below_more bV (below_iter V s 0)
    have BI1 := B1.more (below_iter V s 0)
    have BI2 := B2.more (below_iter V s 0)
    have BI3 := B3.more (below_iter V s 0)
    rw [hV] at hit0
    clear B1 B2 B3 bV hV
    go_loopg [7] s.size (fun g _ v => ∃ (pos : Nat) (l c l0 c0 : Int), pos + g = s.size ∧ v.heap[w.heap.size + 1 + 1 + 1]? = some (.stringIter s pos) ∧ BoxC v w.heap.size #[.int .i64 0, .int .i64 0] 32 ∧ BoxC v (w.heap.size + 1) #[.int .i64 l0, .int .i64 c0] 32 ∧ BoxC v (w.heap.size + 1 + 1) #[.int .i64 l, .int .i64 c] 32 ∧ Below w.heap.size w v ∧ At s pos l c ∧ 1 ≤ l ∧ l ≤ pos + 1 ∧ 1 ≤ c ∧ c ≤ pos + 1 ∧ (pos ≤ a ∨ (l0, c0) = P))
    case atStart => exact ⟨0, 1, 1, 0, 0, by omega, hit0, BI1, BI2, BI3, bI, At.zero s, by omega, by omega, by omega, by omega, .inl (Nat.zero_le _)⟩
    case round =>
      obtain ⟨pos, l, c, l0, c0, hg, hit, X1, X2, X3, bw, hA, hl1, hl2, hc1, hc2, hp⟩ := hrel
      clear hit0 BI1 BI2 BI3 bI
      obtain ⟨h1, h2, h3⟩ := HP.out
      rcases Nat.lt_or_ge pos s.size with hs | hs
      · have hnx : ∀ ty, (Instr.next (.pointer (some ⟨w.heap.size + 1 + 1 + 1, 0, none⟩)) true ty).run Try.prog wr = .ok (.tuple #[.bool true, .int .i64 pos, .int .i32 (nextR s pos)]) (wr.iterAt (w.heap.size + 1 + 1 + 1) s (pos + nextN s pos)) := fun ty => run_next_any_at wr (w.heap.size + 1 + 1 + 1) s pos ty hit hs
        have hi2 := iterAt_heap wr (w.heap.size + 1 + 1 + 1) s pos (pos + nextN s pos) hit
        have bw2 := below_iterAt bw (show w.heap.size ≤ w.heap.size + 1 + 1 + 1 by omega) s (pos + nextN s pos)
        have Y1 := X1.iterAt (g := w.heap.size + 1 + 1 + 1) s (pos + nextN s pos) (by omega)
        have Y2 := X2.iterAt (g := w.heap.size + 1 + 1 + 1) s (pos + nextN s pos) (by omega)
        have Y3 := X3.iterAt (g := w.heap.size + 1 + 1 + 1) s (pos + nextN s pos) (by omega)
        have hz := next_size hs
        by_cases hpa : a < pos
        · exact absurd hpa (by omega)
        · have hpa' : ¬ (s.size : Int) < (pos : Int) := by omega
          have HA : Hid (At s (pos + nextN s pos) (if nextR s pos = 10 then l + 1 else l) (if nextR s pos = 10 then 1 else c + 1)) := hA.next hs
          have HE : Hid (pos + nextN s pos ≤ a ∨ (l, c) = P) := by
            rcases Nat.lt_or_ge a (pos + nextN s pos) with q | q
            · exact .inr ((hA.here (at_ := (a : Int)) (by omega) (by omega) hs).symm.trans h1)
            · exact .inl q
          have HB : Hid (pos + gk = s.size ∧ pos + nextN s pos ≤ s.size ∧ 1 ≤ nextN s pos ∧ nextN s pos ≤ 4 ∧ 1 ≤ l ∧ l ≤ pos + 1 ∧ 1 ≤ c ∧ c ≤ pos + 1) := ⟨hg, hz.2.2, hz.1, hz.2.1, hl1, hl2, hc1, hc2⟩
          have CB := fun v => sign_behind l c (nextR s pos) (by omega) (by omega) (by omega) (by omega) v
          generalize wr.iterAt (w.heap.size + 1 + 1 + 1) s (pos + nextN s pos) = wi at *
          generalize nextR s pos = R at *
          generalize nextN s pos = M at *
          clear hit X1 X2 X3 bw hA hp hpa hz h1 h2 h3 hl1 hl2 hc1 hc2 hg c1 c2
          unfold AnsL at CB
          obtain ⟨p0, p1, p2, p3⟩ := Y3.drew.cells2
          obtain ⟨q0, q1, q2, q3⟩ := Y2.drew.cells2
          by_cases h10 : R = 10
          · have HA2 : Hid (At s (pos + M) (l + 1) (1)) := by have := HA.out; rw [if_pos h10, if_pos h10] at this; exact this
            rw [if_pos h10, if_pos h10] at CB
            dsimp only at CB
            clear HA h10
            go_wp2
            go_region_with (go_at_call 26; (with_reducible refine Calls.mono (CB _) ?_); rintro e w4' ⟨rfl, b4⟩; obtain ⟨p0, p1, p2, p3⟩ := (Y3.drew.more b4).cells2; obtain ⟨q0, q1, q2, q3⟩ := (Y2.drew.more b4).cells2)
            all_goals
              go_wp2
              have hB := HB.out
              have m1 : w.heap.size ≤ w.heap.size + 1 := by omega
              have m2 : w.heap.size ≤ w.heap.size + 1 + 1 := by omega
              go_roundg (s.size - (pos + M))
              case measure => omega
              case rel => exact ⟨pos + M, l + 1, 1, l, c, by omega, iter_set (iter_set (iter_set (iter_set (iter_more (show wi.drew.heap[w.heap.size + 1 + 1 + 1]? = _ from hi2) b4) (by omega) _) (by omega) _) (by omega) _) (by omega) _, (((((Y1.drew.more b4).other (by omega) _).other (by omega) _).other (by omega) _).other (by omega) _), (((((Y2.drew.more b4).set 0 (.int .i64 l)).set 1 (.int .i64 c)).other (by omega) _).other (by omega) _), (((((Y3.drew.more b4).other (by omega) _).other (by omega) _).set 0 (.int .i64 (l + 1))).set 1 (.int .i64 (1))), (((((below_more bw2.drew b4).setCell (p := ⟨w.heap.size + 1, 0, none⟩) m1 _).setCell (p := ⟨w.heap.size + 1, 1, none⟩) m1 _).setCell (p := ⟨w.heap.size + 1 + 1, 0, none⟩) m2 _).setCell (p := ⟨w.heap.size + 1 + 1, 1, none⟩) m2 _), HA2.out, by omega, by omega, by omega, by omega, HE.out⟩
          · have HA2 : Hid (At s (pos + M) (l) (c + 1)) := by have := HA.out; rw [if_neg h10, if_neg h10] at this; exact this
            rw [if_neg h10, if_neg h10] at CB
            dsimp only at CB
            clear HA h10
            go_wp2
            go_region_with (go_at_call 26; (with_reducible refine Calls.mono (CB _) ?_); rintro e w4' ⟨rfl, b4⟩; obtain ⟨p0, p1, p2, p3⟩ := (Y3.drew.more b4).cells2; obtain ⟨q0, q1, q2, q3⟩ := (Y2.drew.more b4).cells2)
            all_goals
              go_wp2
              have hB := HB.out
              have m1 : w.heap.size ≤ w.heap.size + 1 := by omega
              have m2 : w.heap.size ≤ w.heap.size + 1 + 1 := by omega
              go_roundg (s.size - (pos + M))
              case measure => omega
              case rel => exact ⟨pos + M, l, c + 1, l, c, by omega, iter_set (iter_set (iter_set (iter_set (iter_more (show wi.drew.heap[w.heap.size + 1 + 1 + 1]? = _ from hi2) b4) (by omega) _) (by omega) _) (by omega) _) (by omega) _, (((((Y1.drew.more b4).other (by omega) _).other (by omega) _).other (by omega) _).other (by omega) _), (((((Y2.drew.more b4).set 0 (.int .i64 l)).set 1 (.int .i64 c)).other (by omega) _).other (by omega) _), (((((Y3.drew.more b4).other (by omega) _).other (by omega) _).set 0 (.int .i64 (l))).set 1 (.int .i64 (c + 1))), (((((below_more bw2.drew b4).setCell (p := ⟨w.heap.size + 1, 0, none⟩) m1 _).setCell (p := ⟨w.heap.size + 1, 1, none⟩) m1 _).setCell (p := ⟨w.heap.size + 1 + 1, 0, none⟩) m2 _).setCell (p := ⟨w.heap.size + 1 + 1, 1, none⟩) m2 _), HA2.out, by omega, by omega, by omega, by omega, HE.out⟩
      · have hnx : ∀ ty, (Instr.next (.pointer (some ⟨w.heap.size + 1 + 1 + 1, 0, none⟩)) true ty).run Try.prog wr = .ok (.tuple #[.bool false]) wr := fun ty => run_next_end_at wr (w.heap.size + 1 + 1 + 1) s pos ty hit (by omega)
        obtain rfl : pos = s.size := by omega
        obtain ⟨x0, x1, x2, x3⟩ := X1.cells2
        obtain ⟨y0, y1, y2, y3⟩ := X2.cells2
        obtain ⟨z0, z1, z2, z3⟩ := X3.cells2
        by_cases hpa : a = s.size
        · have e : ((s.size : Int) == (s.size : Int)) = true := by rw [beq_iff_eq]
          have hlc : (l, c) = P := by rw [← h1, hpa]; exact (hA.last (Int.le_refl _)).symm
          subst hlc
          clear hit X1 X2 X3 hA hp hpa h1 h2 h3 hg hs hl1 hl2 hc1 hc2 c1 c2
          go_wp2
          exact bodyPost_ret (v := .agg #[.int .i64 l, .int .i64 c]) (by simp [results, Try.results15, go_sem, x0, x1]) rfl ⟨rfl, (bw.setCell (p := ⟨w.heap.size, 0, none⟩) (Nat.le_refl _) _).setCell (p := ⟨w.heap.size, 1, none⟩) (Nat.le_refl _) _⟩
        · exact absurd c3 hpa
/-- Package sign keeps its contracts. -/
theorem sign_ok : SignOk where
  kind := fun r w _ _ k hk => (sign_kind r k hk w).mono fun _ _ h => ⟨h.1, h.2 ▸ Below.refl _ _⟩
  next := fun s i w hs hi => sign_next s i w hs hi
  next_no := fun s j w _ _ _ h => (sign_next_no s j h w).mono fun _ _ h => ⟨h.1, h.2 ▸ Below.refl _ _⟩
  place := fun s j w hs h0 h1 => sign_place s j w hs h0 h1
  key := fun s w _ r hr => (sign_key s r hr w).mono fun _ _ h => ⟨h.1, h.2 ▸ Below.refl _ _⟩
  name := fun s w hs r hr => sign_name s w hs r hr
end Go.Proofs.Ytnmohojmoienbaa
