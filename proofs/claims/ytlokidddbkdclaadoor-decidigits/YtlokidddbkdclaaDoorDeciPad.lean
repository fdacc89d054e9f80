/-
  Plain mathematics of decimal digits in groups: so many digits of a number, also the 0s ahead; the digits of a text without the 0s ahead. No conditions of the program.
-/
import Derived.Test.YtlokidddbkdclaaDoorDeciMath
namespace Go.Proofs.YtlokidddbkdclaaDoor

/-- The last k digits of a number, also the 0s ahead. -/
def pad : Nat → Nat → List UInt8
  | 0, _ => []
  | k + 1, g => pad k (g / 10) ++ [UInt8.ofNat (48 + g % 10)]

theorem pad_len (k g : Nat) : (pad k g).length = k := by
  induction k generalizing g with
  | zero => rfl
  | succ k ih => rw [pad, List.length_append, ih, List.length_singleton]
theorem digS_pad (k g : Nat) : DigS (pad k g) := by
  induction k generalizing g with
  | zero => intro c hc; cases hc
  | succ k ih => rw [pad, digS_append, digS_one, digit_nat]; exact ⟨ih _, by omega⟩
theorem valD_pad (k g : Nat) : valD (pad k g) = g % 10 ^ k := by
  induction k generalizing g with
  | zero => rw [Nat.pow_zero, Nat.mod_one]; rfl
  | succ k ih =>
    rw [pad, valD_snoc, ih, digit_nat, Nat.pow_succ, Nat.mul_comm (10 ^ k) 10, Nat.mod_mul]
    omega
/-- One group more. -/
theorem valD_group (l : List UInt8) {k g : Nat} (h : g < 10 ^ k) : valD (l ++ pad k g) = valD l * 10 ^ k + g := by
  rw [valD_append, pad_len, valD_pad, Nat.mod_eq_of_lt h]
/-- Without the 0s ahead a text of digits is its number's. -/
theorem trim_dg {l : List UInt8} (h : DigS l) : l.dropWhile (· == 48) = dg (valD l) := by
  induction l with
  | nil => rw [valD_nil, dg_zero]; rfl
  | cons c l ih =>
    obtain ⟨hc, hl⟩ := digS_cons.1 h
    by_cases e : c = 48
    · subst e
      rw [List.dropWhile_cons_of_pos (by decide), ih hl, valD_cons]
      congr 1
      simp
    · rw [List.dropWhile_cons_of_neg (by simpa using e)]
      exact (dg_valD h (by simpa using e)).symm
/-- The groups of a number, told from the highest one on: what has been told, and one more. -/
theorem told_step (N B j : Nat) : N / B ^ (j + 1) * B + N / B ^ j % B = N / B ^ j := by
  rw [Nat.pow_succ, ← Nat.div_div_eq_div_mul]
  have := Nat.div_add_mod (N / B ^ j) B
  rw [Nat.mul_comm] at this
  exact this
end Go.Proofs.YtlokidddbkdclaaDoor
