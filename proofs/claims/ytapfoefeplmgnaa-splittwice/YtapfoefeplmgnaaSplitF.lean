/-
  Contracts of package split's functions aboveRoot and Root, for every list of words: the root rounded down. Memory that was there stays, and what is answered is the call's own.
-/
import Derived.Test.YtapfoefeplmgnaaSplitE
import Derived.Test.YtapfoefeplmgnaaWordsDrop
namespace Go.Proofs.Ytapfoefeplmgnaa
open Go.RowKit

/-- There is a root. -/
theorem root_ex (A : Nat) : ∃ s, s * s ≤ A ∧ A < (s + 1) * (s + 1) := by
  induction A with
  | zero => exact ⟨0, by omega, by omega⟩
  | succ A ih =>
    obtain ⟨s, h1, h2⟩ := ih
    rcases Nat.lt_or_ge (A + 1) ((s + 1) * (s + 1)) with h | h
    · exact ⟨s, by omega, h⟩
    · refine ⟨s + 1, h, ?_⟩
      have e : (s + 1 + 1) * (s + 1 + 1) = (s + 1) * (s + 1) + 2 * (s + 1) + 1 := by
        generalize s + 1 = x
        rw [Nat.add_mul, Nat.mul_add]; omega
      omega

theorem sq_lt {x y : Nat} (h : x * x < y * y) : x < y := Nat.lt_of_not_le fun hle => by
  have := Nat.mul_le_mul hle hle; omega

theorem amgm0 (a z : Nat) : 4 * (a * (a + z)) ≤ (a + (a + z)) * (a + (a + z)) := by
  simp only [Nat.add_mul, Nat.mul_add, Nat.mul_comm z a]
  generalize a * a = p
  generalize a * z = q
  generalize z * z = r
  omega
theorem amgm (x y : Nat) : 4 * (y * x) ≤ (x + y) * (x + y) := by
  rcases Nat.le_total x y with h | h
  · obtain ⟨z, rfl⟩ : ∃ z, y = x + z := ⟨y - x, by omega⟩
    rw [Nat.mul_comm (x + z)]; exact amgm0 x z
  · obtain ⟨z, rfl⟩ : ∃ z, x = y + z := ⟨x - y, by omega⟩
    rw [Nat.add_comm (y + z)]; exact amgm0 y z

/-- A step of Newton's from above does not go below the root. -/
theorem newton_ge {A s X : Nat} (hs : s * s ≤ A) (hX : 0 < X) : s ≤ (X + A / X) / 2 := by
  have h1 : 2 * s - X ≤ A / X := by
    rw [Nat.le_div_iff_mul_le hX]
    refine Nat.le_trans ?_ hs
    rcases Nat.lt_or_ge (2 * s) X with h | h
    · rw [show 2 * s - X = 0 by omega, Nat.zero_mul]; exact Nat.zero_le _
    · obtain ⟨y, hy⟩ : ∃ y, 2 * s = X + y := ⟨2 * s - X, by omega⟩
      have e1 : 4 * (s * s) = (2 * s) * (2 * s) := by rw [Nat.mul_mul_mul_comm]
      have h4 := amgm X y
      rw [← hy, ← e1] at h4
      rw [hy, Nat.add_sub_cancel_left]
      exact Nat.le_of_mul_le_mul_left h4 (by omega)
  generalize A / X = q at h1
  omega
/-- Where it does not go down, it stands at the root. -/
theorem newton_end {A s X : Nat} (h2 : A < (s + 1) * (s + 1)) (hX : 0 < X) (hge : s ≤ X) (hn : X ≤ (X + A / X) / 2) : X = s := by
  have h1 : X ≤ A / X := by omega
  rw [Nat.le_div_iff_mul_le hX] at h1
  have := sq_lt (Nat.lt_of_le_of_lt h1 h2)
  omega

/-- A first number above the root, of few words: from the number of bits. -/
theorem above_bits {A : Nat} (hA : 0 < A) : A < 2 ^ ((nbits A + 1) / 2) * 2 ^ ((nbits A + 1) / 2) ∧ 2 ^ ((nbits A + 1) / 2) ≤ 2 * A := by
  have h1 := lt_nbits A
  constructor
  · rw [← Nat.pow_add]
    exact Nat.lt_of_lt_of_le h1 (Nat.pow_le_pow_right (by omega) (by omega))
  · have h2 : nbits A = nbits A - 1 + 1 := by rw [nbits_pos (by omega)]; omega
    have h3 : 2 ^ (nbits A - 1) ≤ A := by
      rcases Nat.lt_or_ge A (2 ^ (nbits A - 1)) with h | h
      · have := nbits_le _ _ h; omega
      · exact h
    have h4 : 2 ^ ((nbits A + 1) / 2) ≤ 2 ^ (nbits A - 1 + 1) := Nat.pow_le_pow_right (by omega) (by omega)
    rw [Nat.pow_succ] at h4
    omega
/-- From the root of the highest words. -/
theorem above_high {A H B2 s p : Nat} (hB : B2 = p * p) (hA : A < (H + 1) * B2) (hA2 : H * B2 ≤ A) (hH : 0 < H) (hp : 0 < p) (h1 : s * s ≤ H) (h2 : H < (s + 1) * (s + 1)) : A < (s + 1) * p * ((s + 1) * p) ∧ (s + 1) * p ≤ 2 * A := by
  constructor
  · rw [Nat.mul_mul_mul_comm, ← hB]
    exact Nat.lt_of_lt_of_le hA (Nat.mul_le_mul_right _ h2)
  · have h3 : s ≤ H := by
      rcases Nat.eq_zero_or_pos s with h | h
      · omega
      · exact Nat.le_trans (Nat.le_mul_of_pos_left s h) h1
    have h4 : (s + 1) * p ≤ 2 * H * p := Nat.mul_le_mul_right _ (by omega)
    have h5 : 2 * H * p ≤ 2 * H * (p * p) := Nat.mul_le_mul_left _ (Nat.le_mul_of_pos_left p hp)
    rw [← hB, Nat.mul_assoc 2 H B2] at h5
    exact Nat.le_trans h4 (Nat.le_trans h5 (Nat.mul_le_mul_left _ hA2))
end Go.Proofs.Ytapfoefeplmgnaa
