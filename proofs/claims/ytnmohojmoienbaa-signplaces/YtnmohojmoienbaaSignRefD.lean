/-
  Contract of the document's own Place (package talwegref09), at every text of up to a million bytes and every number: memory that was there stays.
-/
import Derived.Test.YtnmohojmoienbaaSignRefC
namespace Go.Proofs.Ytnmohojmoienbaa
open Go.RowKit Go.Lib

theorem placeF_step {s : ByteArray} {at_ : Int} {i : Nat} {l c : Int} (h : i < s.size) : placeF s at_ (s.size + 1) i l c = if at_ < i + nextN s i then (l, c) else placeF s at_ (s.size + 1) (i + nextN s i) (if nextR s i = 10 then l + 1 else l) (if nextR s i = 10 then 1 else c + 1) := by
  have hn := next_size h
  show (if i < s.size then _ else _) = _
  rw [if_pos h, placeF_more s at_ s.size (i + nextN s i) _ _ (by omega) (s.size + 1) (by omega)]
theorem placeF_end {s : ByteArray} {at_ : Int} {i : Nat} {l c : Int} (h : ¬ i < s.size) : placeF s at_ (s.size + 1) i l c = (l, c) := by
  show (if i < s.size then _ else _) = _
  rw [if_neg h]

/-- The answer is this place. -/
def AnsL (W : World) (p : Int × Int) (e : Ending) (w' : World) : Prop := e = .returned (.agg #[.int .i64 p.1, .int .i64 p.2]) ∧ Below W.heap.size W w'

set_option maxHeartbeats 8000000 in
theorem ref_splace {s : ByteArray} (hs : s.size ≤ 1000000) (j : Int) (w : World) :
    Calls Try.prog 16 #[.string s, .int .i64 j] w (AnsL w (placeI s j)) := by
  have NX := fun i (h : i < s.size) v => ref_snext hs i h v
  obtain ⟨B4, B5, bV, hb⟩ := boxes2 w #[.int .i64 0, .int .i64 0] #[.int .i64 1, .int .i64 1] 32 32
  have HS : Hid (s.size ≤ 1000000) := hs
  clear hs
  generalize hp : placeI s j = P
  have HP : Hid (placeF s j (s.size + 1) 0 1 1 = P) := hp
  clear hp
  go_enter Try.func16, Try.ntmps16
  go_wp2
  generalize (w.alloc (.cells #[.int .i64 0, .int .i64 0] 32)).alloc (.cells #[.int .i64 1, .int .i64 1] 32) = V at *
  go_loopg [6] s.size (fun g s6 v => ∃ (i : Nat) (l c : Int), s6 = .int .i64 i ∧ i + g = s.size ∧ 1 ≤ l ∧ l ≤ i + 1 ∧ 1 ≤ c ∧ c ≤ i + 1 ∧ placeF s j (s.size + 1) i l c = P ∧ BoxC v (w.heap.size + 1) #[.int .i64 l, .int .i64 c] 32 ∧ BoxC v w.heap.size #[.int .i64 0, .int .i64 0] 32 ∧ Below w.heap.size w v)
  case atStart => exact ⟨0, 1, 1, rfl, by omega, by omega, by omega, by omega, by omega, HP.out, B5, B4, bV⟩
  case round =>
    obtain ⟨i, l, c, rfl, hg, hl1, hl2, hc1, hc2, hF, B5, B4, bv⟩ := hrel
    clear HP
    have HF : Hid (placeF s j (s.size + 1) i l c = P) := hF
    clear hF
    obtain ⟨x0, x1, x2, x3⟩ := B5.cells2
    obtain ⟨y0, y1, y2, y3⟩ := B4.cells2
    rcases Nat.lt_or_ge i s.size with hi | hi
    · have hi' : (i : Int) < s.size := by omega
      have N1 := fun v => NX i hi v
      have hz := next_size hi
      have hS := HS.out
      have hT := placeF_step (at_ := j) (l := l) (c := c) hi
      rw [HF.out] at hT
      have hw : wrap64 ((i : Int) + nextN s i) = (i : Int) + nextN s i := by unfold wrap64; omega
      have wl : wrap64 (l + 1) = l + 1 := by unfold wrap64; omega
      have wc : wrap64 (c + 1) = c + 1 := by unfold wrap64; omega
      have HZ : Hid (1 ≤ nextN s i ∧ i + nextN s i ≤ s.size) := ⟨hz.1, hz.2.2⟩
      have HG : Hid (i + gk = s.size ∧ 1 ≤ l ∧ l ≤ i + 1 ∧ 1 ≤ c ∧ c ≤ i + 1) := ⟨hg, hl1, hl2, hc1, hc2⟩
      have HB : Hid (BoxC wr (w.heap.size + 1) #[.int .i64 l, .int .i64 c] 32 ∧ BoxC wr w.heap.size #[.int .i64 0, .int .i64 0] 32) := ⟨B5, B4⟩
      clear hg hl1 hl2 hc1 hc2 hS hz NX HF B5 B4
      generalize nextR s i = R at *
      generalize nextN s i = M at *
      by_cases hj : j < (i : Int) + M
      · rw [if_pos hj] at hT
        subst hT
        go_wp2_with (go_at_call 14; (with_reducible refine Calls.mono (N1 _) ?_); rintro e v1 ⟨rfl, rfl⟩)
        exact bodyPost_ret (v := .agg #[.int .i64 l, .int .i64 c]) (by simp [results, Try.results16, go_sem, y0, y1]) rfl ⟨rfl, (bv.setCell (p := ⟨w.heap.size, 0, none⟩) (Nat.le_refl _) _).setCell (p := ⟨w.heap.size, 1, none⟩) (Nat.le_refl _) _⟩
      · rw [if_neg hj] at hT
        have HT : Hid (P = placeF s j (s.size + 1) (i + M) (if R = 10 then l + 1 else l) (if R = 10 then 1 else c + 1)) := hT
        clear hT
        by_cases h10 : R = 10
        · have e10 : (R == 10) = true := by rw [beq_iff_eq]; exact h10
          have HT2 : Hid (placeF s j (s.size + 1) (i + M) (l + 1) 1 = P) := by show _ = _; rw [HT.out, if_pos h10, if_pos h10]
          clear HT h10
          go_wp2_with (go_at_call 14; (with_reducible refine Calls.mono (N1 _) ?_); rintro e v1 ⟨rfl, rfl⟩)
          have hZ := HZ.out
          have hG := HG.out
          go_roundg (s.size - (i + M))
          case measure => omega
          case rel => exact ⟨i + M, l + 1, 1, by go_num, by omega, by omega, by omega, by omega, by omega, HT2.out, ((HB.out.1.set 1 (.int .i64 (c + 1))).set 0 (.int .i64 (l + 1))).set 1 (.int .i64 1), ((HB.out.2.other (by omega) _).other (by omega) _).other (by omega) _, ((bv.setCell (p := ⟨w.heap.size + 1, 1, none⟩) (show w.heap.size ≤ w.heap.size + 1 by omega) _).setCell (p := ⟨w.heap.size + 1, 0, none⟩) (show w.heap.size ≤ w.heap.size + 1 by omega) _).setCell (p := ⟨w.heap.size + 1, 1, none⟩) (show w.heap.size ≤ w.heap.size + 1 by omega) _⟩
        · have e10 : (R == 10) = false := by rw [beq_eq_false_iff_ne]; exact h10
          have HT2 : Hid (placeF s j (s.size + 1) (i + M) l (c + 1) = P) := by show _ = _; rw [HT.out, if_neg h10, if_neg h10]
          clear HT h10
          go_wp2_with (go_at_call 14; (with_reducible refine Calls.mono (N1 _) ?_); rintro e v1 ⟨rfl, rfl⟩)
          have hZ := HZ.out
          have hG := HG.out
          go_roundg (s.size - (i + M))
          case measure => omega
          case rel => exact ⟨i + M, l, c + 1, by go_num, by omega, by omega, by omega, by omega, by omega, HT2.out, HB.out.1.set 1 (.int .i64 (c + 1)), HB.out.2.other (by omega) _, bv.setCell (p := ⟨w.heap.size + 1, 1, none⟩) (show w.heap.size ≤ w.heap.size + 1 by omega) _⟩
    · have hi' : ¬ (i : Int) < s.size := by omega
      have hT := placeF_end (s := s) (at_ := j) (l := l) (c := c) (Nat.not_lt.2 hi)
      rw [HF.out] at hT
      subst hT
      clear HF NX B5 B4
      go_wp2
      exact bodyPost_ret (v := .agg #[.int .i64 l, .int .i64 c]) (by simp [results, Try.results16, go_sem, y0, y1]) rfl ⟨rfl, (bv.setCell (p := ⟨w.heap.size, 0, none⟩) (Nat.le_refl _) _).setCell (p := ⟨w.heap.size, 1, none⟩) (Nat.le_refl _) _⟩
end Go.Proofs.Ytnmohojmoienbaa
