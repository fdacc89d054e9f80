/-
  Contract of package split's function digits, for every two lists of words, the second one's last word not 0: how often it goes in, and what is left in its place. Nothing older than the caller's turns.
-/
import Derived.Test.YtlokidddbkdclaaDoorSplitB
import Derived.Test.YtlokidddbkdclaaDoorSplitC
import Derived.Deep.LoopGhost
namespace Go.Proofs.YtlokidddbkdclaaDoor
open Go.RowKit

/-- The first line taken: what is left, with the guess e above the digit. -/
theorem take_first {S S1 d e b P Y q V : Nat} (hS : S = d * (Y * q) + V) (hV : V < Y * q) (h1 : S1 < P) (hb : b ≤ 1) (h : S1 + Y * (d + e) * q = S + b * P) :
    e = 0 ∧ b = 0 ∧ S1 = V ∨ 0 < e ∧ b = 1 ∧ S1 + e * (Y * q) = V + P := by
  have e1 : Y * (d + e) * q = d * (Y * q) + e * (Y * q) := by rw [Nat.mul_comm Y, Nat.mul_assoc, Nat.add_mul]
  rw [e1, hS] at h
  rcases Nat.eq_zero_or_pos e with rfl | he
  · rcases (by omega : b = 0 ∨ b = 1) with rfl | rfl
    · exact .inl ⟨rfl, rfl, by omega⟩
    · omega
  · have h2 : 1 * (Y * q) ≤ e * (Y * q) := Nat.mul_le_mul_right _ he
    rcases (by omega : b = 0 ∨ b = 1) with rfl | rfl
    · omega
    · exact .inr ⟨he, rfl, by omega⟩
/-- One line put back. -/
theorem back_first {S1 S2 e b P p V : Nat} (hV : V < p) (h1 : S1 + (e + 1) * p = V + P) (h2 : S2 + b * P = S1 + p) (hb : b ≤ 1) (h3 : S2 < P) :
    e = 0 ∧ b = 1 ∧ S2 = V ∨ 0 < e ∧ b = 0 ∧ S2 + e * p = V + P := by
  rw [Nat.add_mul, Nat.one_mul] at h1
  rcases Nat.eq_zero_or_pos e with rfl | he
  · rcases (by omega : b = 0 ∨ b = 1) with rfl | rfl
    · omega
    · exact .inl ⟨rfl, rfl, by omega⟩
  · have h2 : 1 * p ≤ e * p := Nat.mul_le_mul_right _ he
    rcases (by omega : b = 0 ∨ b = 1) with rfl | rfl
    · exact .inr ⟨he, rfl, by omega⟩
    · omega

/-- All digits are found. -/
theorem digits_end {A S Y Q R : Nat} (h : A * Y + S = Q * Y + R) (hS : S < Y) (hR : R < Y) : A = Q ∧ S = R := by
  have h1 : (Y * A + S) / Y = (Y * Q + R) / Y := by rw [Nat.mul_comm Y A, Nat.mul_comm Y Q, h]
  rw [Nat.mul_add_div (by omega), Nat.mul_add_div (by omega), Nat.div_eq_of_lt hS, Nat.div_eq_of_lt hR] at h1
  have h2 : A = Q := by omega
  subst h2
  exact ⟨rfl, by omega⟩

theorem getD_top (Y n : Nat) (h : nl Y = n + 1) : (natOf Y).getD n 0 ≠ 0 := by
  have h1 := right_nat Y
  have h2 := lowN_top (natOf Y) (nl Y)
  rw [h1] at h2
  rcases h2 with h2 | h2
  · omega
  · rw [h] at h2; exact h2

theorem IsWords.block {w : World} {a : Option Addr} {n c : Nat} {zs : List Int} (h : IsWords w (.slice a n c) zs) (hn : 0 < n) (x : Addr) (hx : a = some x) : x.block < w.heap.size := by
  rcases h with ⟨e, -⟩ | ⟨y, cap, e, -, -, hc⟩
  · simp only [Value.slice.injEq] at e; omega
  · simp only [Value.slice.injEq] at e
    have h0 := World.block_lt_of_cell? w _ (hc 0 (by omega))
    rw [add_block] at h0
    have : y = x := by have := e.1; rw [hx] at this; simpa using this.symm
    rw [← this]; exact h0

end Go.Proofs.YtlokidddbkdclaaDoor
