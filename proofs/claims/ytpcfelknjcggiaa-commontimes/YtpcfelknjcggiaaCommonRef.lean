/-
  Contracts of the document's own answers of layer 5 (package talwegref05: odd, Gcd, Lowest, Lcm), for every two lists of up to three thousand words: as numbers; memory that was there stays, and what is answered is the call's own.
-/
import Derived.Test.YtpcfelknjcggiaaCommonF
import Derived.Test.YtpcfelknjcggiaaShiftRef
import Derived.Test.YtpcfelknjcggiaaNatRefC
import Derived.Deep.LoopGhost
namespace Go.Proofs.Ytpcfelknjcggiaa
open Go.RowKit

theorem natOf_low {A : Nat} (h : 0 < A) : (natOf A).getD 0 0 = ((A % 4294967296 : Nat) : Int) := by rw [natOf_pos (by omega)]; rfl

/-- Halving is a step down. -/
theorem half_step {A1 k A : Nat} (h : A1 * 2 ^ k = A) (he : A1 % 2 = 0) : A1 / 2 * 2 ^ (k + 1) = A := by
  have e : A1 = A1 / 2 * 2 := by omega
  rw [← h, Nat.pow_succ]
  conv => rhs; rw [e]
  rw [Nat.mul_assoc, Nat.mul_comm 2]
theorem twos_le {A1 k A : Nat} (h : A1 * 2 ^ k = A) (hA : 0 < A) : 0 < A1 ∧ k < nbits A + 1 := by
  have h1 : 0 < A1 := by
    rcases Nat.eq_zero_or_pos A1 with e | e
    · rw [e] at h; omega
    · exact e
  refine ⟨h1, ?_⟩
  rcases Nat.lt_or_ge (nbits A) k with h2 | h2
  · have h3 := lt_nbits A
    have h4 : 2 ^ nbits A ≤ 2 ^ k := Nat.pow_le_pow_right (by omega) (by omega)
    have h5 : 2 ^ k ≤ A1 * 2 ^ k := Nat.le_mul_of_pos_left _ h1
    omega
  · omega
theorem nbits_words (A : Nat) : nbits A ≤ 32 * nl A := nbits_le _ _ (by rw [← pow_word]; exact lt_nl A)

set_option maxHeartbeats 2000000 in
theorem ref_odd (W : World) (a : Option Addr) (c A : Nat) (w : World) (o : Own W w (.slice a (nl A) c) (nl A) (natOf A)) (hA : 0 < A) (hL : nl A ≤ 3000) :
    Calls Try.prog 25 #[.slice a (nl A) c] w fun e w' => ∃ (A1 k : Nat) (a1 : Option Addr) (c1 : Nat), e = .returned (.tuple #[.slice a1 (nl A1) c1, .int .i64 k]) ∧ Own W w' (.slice a1 (nl A1) c1) (nl A1) (natOf A1) ∧ Below w.heap.size w w' ∧ A1 * 2 ^ k = A ∧ A1 % 2 = 1 ∧ k ≤ 96000 := by
  have hN := nbits_words A
  have HT : Hid (∀ A1 k, A1 * 2 ^ k = A → 0 < A1 ∧ k ≤ 96000 ∧ nl A1 ≤ 3000) := fun A1 k h => by
    obtain ⟨h1, h2⟩ := twos_le h hA
    exact ⟨h1, by omega, Nat.le_trans (nl_mono (by rw [← h]; exact Nat.le_mul_of_pos_right _ (Nat.pow_pos (by omega)))) hL⟩
  clear hN
  go_enter Try.func25, Try.ntmps25
  go_wp2
  go_loopg [0, 4] A (fun A1 s0 s4 v => ∃ (k : Nat) (a1 : Option Addr) (c1 : Nat), s0 = .slice a1 (nl A1) c1 ∧ s4 = .int .i64 k ∧ Own W v (.slice a1 (nl A1) c1) (nl A1) (natOf A1) ∧ Below w.heap.size w v ∧ A1 * 2 ^ k = A)
  case atStart => exact ⟨0, a, c, rfl, rfl, o, Below.refl _ _, by simp⟩
  case round =>
    obtain ⟨k, a1, c1, rfl, rfl, o1, b1, hk⟩ := hrel
    clear o
    obtain ⟨p1, k1, l1⟩ := HT.out gk k hk
    have hnl : 0 < nl gk := nl_pos p1
    obtain ⟨g, rfl⟩ := o1.at0 hnl
    obtain ⟨hc, hf, -, -⟩ := o1.cell 0 hnl
    rw [natOf_low p1] at hc
    have S := fun v (q : IsWords v (.slice (some ⟨g, 0, none⟩) (nl gk) c1) (natOf gk)) => ref_small4 _ _ _ _ 2 v q (wd_natOf gk) (by omega) (by omega) (by omega)
    rw [val_natOf, show (2 : Int).toNat = 2 from rfl] at S
    unfold AnsSmall at S
    obtain ⟨z, hz, z0, z1, hz2⟩ : ∃ z : Int, ((gk % 4294967296 : Nat) : Int) = z ∧ 0 ≤ z ∧ z < 4294967296 ∧ z % 2 = ((gk % 2 : Nat) : Int) := ⟨_, rfl, by omega, by omega, by omega⟩
    rw [hz] at hc
    clear hz
    have HK : Hid (gk * 2 ^ k = A) := hk
    clear hk hA hL
    rcases (by omega : gk % 2 = 0 ∨ gk % 2 = 1) with he | he
    · rw [he, show ((0 : Nat) : Int) = 0 from rfl] at hz2
      have HE : Hid (gk % 2 = 0 ∧ 0 < gk) := ⟨he, p1⟩
      clear he p1 l1
      go_wp2_with (first
        | (go_at_call 48; (with_reducible refine Calls.mono (S wr o1.words) ?_); rintro e w2 ⟨a2, c2, rfl, o2⟩))
      obtain ⟨f1, f2⟩ := HE.out
      go_roundg (gk / 2)
      case measure => omega
      case rel => exact ⟨k + 1, a2, c2, rfl, by go_num, o2.outer o1.below, below_more b1 o2.below, half_step HK.out f1⟩
    · rw [he, show ((1 : Nat) : Int) = 1 from rfl] at hz2
      have HE : Hid (gk % 2 = 1) := he
      clear he p1 l1 S
      go_wp2
      go_ret2
      exact ⟨gk, k, some ⟨g, 0, none⟩, c1, rfl, o1, b1, HK.out, HE.out, k1⟩
end Go.Proofs.Ytpcfelknjcggiaa
