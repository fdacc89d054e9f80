/-
  The walk of the statement SignLonger, for whatever package sign keeps its contracts: it returns true; memory that was there stays.
-/
import Derived.Test.YtnmohojmoienbaaSignWalksA
import Derived.Laws.IdiomStrings
namespace Go.Proofs.Ytnmohojmoienbaa
open Go.RowKit Go.Lib

/-- string([]byte{x}), of one byte in a new block. -/
theorem conv_sbyte (v : World) (d : UInt8) (x : Int) (hx : (d.toNat : Int) = x) :
    Sem.run Try.prog (convert 37 9 (.slice (some ⟨v.heap.size, 0, none⟩) 1 1)) (v.alloc (.cells #[.int .u8 x] 5)) = .ok (.string ⟨#[d]⟩) (v.alloc (.cells #[.int .u8 x] 5)) := by
  have h := run_convert_bytes_back (P := Try.prog) (v.alloc (.cells #[.int .u8 x] 5)) 37 9 5 ⟨v.heap.size, 0, none⟩ 1 [d] Try.underlying37 Try.underlying5 Try.underlying9 (fun j hj => by
    rw [Go.WideShapes.add_plain]
    have : j = 0 := by simp at hj; omega
    subst this
    simp [hx])
  exact h
theorem wf_s8 {a : Int} (h : (Lit.int .u8 a).wf = true) : 0 ≤ a ∧ a < 256 := by
  simp [Lit.wf, IntKind.min, IntKind.max, IntKind.signed, IntKind.bits] at h; omega


set_option maxHeartbeats 8000000 in
theorem walk_SignLonger (K : SignOk) (s : ByteArray) (b : Int) (w : World) (_hs : s.size ≤ maxLen) (h0 : (Lit.int .u8 b).wf = true) :
    Calls Try.prog 9 #[.string s, .int .u8 b] w fun e w' => e = .returned (.bool true) ∧ Below w.heap.size w w' := by
  obtain ⟨b0, b1⟩ := wf_s8 h0
  have AW := fun v => sign_awake K v
  by_cases h2 : 60 < s.size
  · have k2 : 60 < (s.size : Int) := by omega
    clear _hs h0 K
    go_enter Try.func9, Try.ntmps9
    go_wp2_with (go_at_call 10; (with_reducible refine Calls.mono (AW _) ?_); rintro e w1 ⟨rfl, q1⟩)
    go_ret
    exact ⟨rfl, q1⟩
  have k2 : ¬ 60 < (s.size : Int) := by omega
  by_cases hn : nameB s = true
  case neg =>
    have hn : nameB s = false := by simpa using hn
    have c1 := fun v => K.name s v (by omega) _ hn
    clear _hs h0 K hn h2
    go_enter Try.func9, Try.ntmps9
    go_wp2_with (first
      | (go_at_call 10; (with_reducible refine Calls.mono (AW _) ?_); rintro e w1 ⟨rfl, q1⟩)
      | (go_at_call 17; (with_reducible refine Calls.mono (c1 _) ?_); rintro e w2 ⟨rfl, q2⟩))
    go_ret
    exact ⟨rfl, below_more q1 q2⟩
  case pos =>
  have hd : ((UInt8.ofNat b.toNat).toNat : Int) = b := by
    rw [UInt8.toNat_ofNat']
    omega
  have CV := fun v => conv_sbyte v (UInt8.ofNat b.toNat) b hd
  have hB := nameB_byte (UInt8.ofNat b.toNat) hn
  rw [hd] at hB
  generalize UInt8.ofNat b.toNat = d at *
  have z1 : (s ++ ⟨#[d]⟩).size = s.size + 1 := ByteArray.size_append
  have z2 : (⟨#[48]⟩ ++ s : ByteArray).size = s.size + 1 := by rw [ByteArray.size_append]; show 1 + s.size = _; omega
  have z3 : (s ++ ⟨#[32]⟩).size = s.size + 1 := ByteArray.size_append
  have c1 := fun v => K.name s v (by omega) _ hn
  have c2 := fun v => K.kind b v (by omega) (by omega) _ rfl
  have c3 := fun v => K.key (s ++ ⟨#[d]⟩) v (by omega) _ rfl
  have c4 := fun v => K.name (s ++ ⟨#[d]⟩) v (by omega) _ rfl
  have c5 := fun v => K.name (⟨#[48]⟩ ++ s) v (by omega) _ (nameB_zero s)
  have c6 := fun v => K.name (s ++ ⟨#[32]⟩) v (by omega) _ (nameB_blank hn)
  have hk := kindI_range b
  have y2 : (1 : Int) + (s.size : Int) ≤ 9223372036854775807 := by omega
  have e1 : decide (d.toNat < 128 ∧ (kindI b = 1 ∨ kindI b = 2)) = decide (b < 128 ∧ (kindI b = 1 ∨ kindI b = 2)) := by
    rw [Bool.eq_iff_iff]; simp only [decide_eq_true_eq]; omega
  have e2 : decide ((s ++ ⟨#[d]⟩).size ≤ 40) = decide ((s.size : Int) + 1 ≤ 40) := by
    rw [Bool.eq_iff_iff]; simp only [decide_eq_true_eq]; omega
  rw [e1, e2] at hB
  clear e1 e2
  generalize nameB (s ++ ⟨#[d]⟩) = nn at *
  generalize kindI b = k at *
  generalize keyB (s ++ ⟨#[d]⟩) = ky at *
  clear _hs h0 K hn h2 hd z1 z2 z3
  have H1 : ¬ (b < 128 ∧ (k = 1 ∨ k = 2)) → nn = false := fun h => by rw [hB, decide_eq_false h]; rfl
  have H2 : ¬ (s.size : Int) + 1 ≤ 40 → nn = false := fun h => by rw [hB, decide_eq_false h]; simp
  have H3 : (b < 128 ∧ (k = 1 ∨ k = 2)) → (s.size : Int) + 1 ≤ 40 → nn = !ky := fun h h' => by rw [hB, decide_eq_true h, decide_eq_true h']; rfl
  have hcase : (¬ b < 128 ∧ nn = false) ∨ (b < 128 ∧ k = 1 ∧ (s.size : Int) + 1 ≤ 40 ∧ nn = !ky) ∨ (b < 128 ∧ k = 1 ∧ ¬ (s.size : Int) + 1 ≤ 40 ∧ nn = false) ∨ (b < 128 ∧ k = 2 ∧ (s.size : Int) + 1 ≤ 40 ∧ nn = !ky) ∨ (b < 128 ∧ k = 2 ∧ ¬ (s.size : Int) + 1 ≤ 40 ∧ nn = false) ∨ (b < 128 ∧ (k = 0 ∨ k = 3 ∨ k = 4) ∧ nn = false) := by
    by_cases g1 : b < 128
    · by_cases g2 : (s.size : Int) + 1 ≤ 40
      · rcases (by omega : k = 1 ∨ k = 2 ∨ (k = 0 ∨ k = 3 ∨ k = 4)) with h | h | h
        · exact .inr (.inl ⟨g1, h, g2, H3 ⟨g1, .inl h⟩ g2⟩)
        · exact .inr (.inr (.inr (.inl ⟨g1, h, g2, H3 ⟨g1, .inr h⟩ g2⟩)))
        · exact .inr (.inr (.inr (.inr (.inr ⟨g1, h, H1 (by omega)⟩))))
      · rcases (by omega : k = 1 ∨ k = 2 ∨ (k = 0 ∨ k = 3 ∨ k = 4)) with h | h | h
        · exact .inr (.inr (.inl ⟨g1, h, g2, H2 g2⟩))
        · exact .inr (.inr (.inr (.inr (.inl ⟨g1, h, g2, H2 g2⟩))))
        · exact .inr (.inr (.inr (.inr (.inr ⟨g1, h, H2 g2⟩))))
    · exact .inl ⟨g1, H1 (by omega)⟩
  clear H1 H2 H3
  rcases hcase with ⟨g1, rfl⟩ | ⟨g1, rfl, g2, rfl⟩ | ⟨g1, rfl, g2, rfl⟩ | ⟨g1, rfl, g2, rfl⟩ | ⟨g1, rfl, g2, rfl⟩ | ⟨g1, rfl | rfl | rfl, rfl⟩
  all_goals
    clear hB hk
    go_enter Try.func9, Try.ntmps9
    go_wp2_with (first
      | (go_at_call 10; (with_reducible refine Calls.mono (AW _) ?_); rintro e w1 ⟨rfl, q1⟩)
      | (go_at_call 17; (with_reducible refine Calls.mono (c1 _) ?_); rintro e w2 ⟨rfl, q2⟩; replace q1 := below_more q1 q2; have q3 := fun o => q1.alloc q1.size o)
      | (go_at_call 11; (with_reducible refine Calls.mono (c2 _) ?_); rintro e w3 ⟨rfl, q4⟩; have qq := below_more (q3 _) q4)
      | (go_at_call 19; (with_reducible refine Calls.mono (c3 _) ?_); rintro e w4 ⟨rfl, q5⟩; replace qq := below_more qq q5)
      | (go_at_call 17; (with_reducible refine Calls.mono (c4 _) ?_); rintro e w5 ⟨rfl, q6⟩; replace qq := below_more qq q6)
      | (go_at_call 17; (with_reducible refine Calls.mono (c5 _) ?_); rintro e w6 ⟨rfl, q7⟩; replace qq := below_more qq q7)
      | (go_at_call 17; (with_reducible refine Calls.mono (c6 _) ?_); rintro e w7 ⟨rfl, q8⟩; replace qq := below_more qq q8))
    go_ret
    exact ⟨by simp, qq⟩
end Go.Proofs.Ytnmohojmoienbaa
