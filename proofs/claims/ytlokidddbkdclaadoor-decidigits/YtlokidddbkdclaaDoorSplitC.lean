/-
  Contract of package split's function firstGuess, for every two lists of words: a digit's first guess is not less than the right one. Memory that was there stays.
-/
import Derived.Test.YtlokidddbkdclaaDoorSplitA
import Derived.Deep.RegionWith
import Derived.Deep.DrawnRows
namespace Go.Proofs.YtlokidddbkdclaaDoor
open Go.RowKit

/-- By the highest words a digit is not more than the guess. -/
theorem guess_le {ss ys : List Int} {t n : Nat} {h1 h0 b1 : Int} (hs : Wd ss) (hb : 0 < b1) (e1 : ss.getD (t + n + 1) 0 = h1) (e0 : ss.getD (t + n) 0 = h0) (eb : ys.getD n 0 = b1) (hl : ys.length = n + 1) (hv : val ss < 4294967296 ^ (t + (n + 1) + 1))
    (q : Nat) (hq : q * val ys * 4294967296 ^ t ≤ val ss) : (q : Int) ≤ (h1 * 4294967296 + h0) / b1 := by
  have w1 := wd_getD hs (t + n + 1)
  have w0 := wd_getD hs (t + n)
  rw [e1] at w1
  rw [e0] at w0
  have s1 : val ss = val (ss.take (t + n)) + (h0.toNat + 4294967296 * h1.toNat) * 4294967296 ^ (t + n) := by
    have a1 := val_take_all ss (t + n + 1 + 1) (by rw [show t + n + 1 + 1 = t + (n + 1) + 1 by omega]; exact hv)
    rw [val_take_succ, val_take_succ, e1, e0, Nat.pow_succ] at a1
    rw [← a1, Nat.add_mul, Nat.mul_comm (4294967296 ^ (t + n)), ← Nat.mul_assoc, Nat.mul_comm h1.toNat]
    omega
  have s2 := val_take_lt ss hs (t + n)
  have s3 : b1.toNat * 4294967296 ^ n ≤ val ys := by
    have a1 : ys.take (n + 1) = ys := List.take_of_length_le (by omega)
    have a2 := val_take_succ ys n
    rw [a1, eb] at a2
    omega
  have s4 : q * b1.toNat * 4294967296 ^ (t + n) ≤ val ss := by
    refine Nat.le_trans ?_ hq
    rw [Nat.pow_add, Nat.mul_comm (4294967296 ^ t), ← Nat.mul_assoc, Nat.mul_assoc q]
    exact Nat.mul_le_mul_right _ (Nat.mul_le_mul_left _ s3)
  have s5 : q * b1.toNat * 4294967296 ^ (t + n) < (h0.toNat + 4294967296 * h1.toNat + 1) * 4294967296 ^ (t + n) := by
    rw [Nat.add_mul (h0.toNat + 4294967296 * h1.toNat) 1]
    omega
  have s6 := Nat.lt_of_mul_lt_mul_right s5
  rw [Int.le_ediv_iff_mul_le hb]
  have s7 : (q : Int) * b1 = ((q * b1.toNat : Nat) : Int) := by
    rw [Int.natCast_mul, Int.toNat_of_nonneg (by omega)]
  rw [s7]
  omega

section
attribute [local go_sem ↓] Go.wp_at_zero Go.wp_at_succ
end
end Go.Proofs.YtlokidddbkdclaaDoor
