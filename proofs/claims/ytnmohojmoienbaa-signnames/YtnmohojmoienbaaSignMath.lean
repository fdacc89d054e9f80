/-
  Laws of no function: kinds of runes, the rune at a byte (by the model's own decoding), places, names: as functions of numbers and texts. No conditions of the program.
-/
import Derived.Test.YtnmohojmoienbaaOwn
import Derived.Lib.DecodeN
namespace Go.Proofs.Ytnmohojmoienbaa
open Go.Lib

/-- The kind of a number. -/
def kindI (r : Int) : Int :=
  if 97 ≤ r ∧ r ≤ 122 ∨ 65 ≤ r ∧ r ≤ 90 ∨ r = 95 ∨ 128 ≤ r ∧ r ≤ 1114111 ∧ r ≠ 65533 then 1
  else if 48 ≤ r ∧ r ≤ 57 then 2
  else if r = 9 ∨ r = 10 ∨ r = 13 ∨ r = 32 then 3
  else if r = 43 ∨ r = 45 ∨ r = 42 ∨ r = 47 ∨ r = 94 ∨ r = 40 ∨ r = 41 ∨ r = 61 ∨ r = 59 ∨ r = 44 then 4
  else 0

theorem kindI_range (r : Int) : 0 ≤ kindI r ∧ kindI r ≤ 4 := by
  unfold kindI; repeat' split
  all_goals omega

/-- The rune at a byte, and how many bytes it has. -/
def nextR (s : ByteArray) (i : Nat) : Int := (Utf8.decode s i).1
def nextN (s : ByteArray) (i : Nat) : Nat := (Utf8.decode s i).2

theorem decodeN_one {n b0 b1 b2 b3 : Nat} (h : b0 < 128) : decodeN n b0 b1 b2 b3 = (b0, 1) := by unfold decodeN; rw [if_pos h]
set_option maxRecDepth 100000 in
set_option maxHeartbeats 4000000 in
theorem decodeN_two {n b0 b1 b2 b3 : Nat} (h : 194 ≤ b0 ∧ b0 ≤ 223) (h1 : 1 < n ∧ 128 ≤ b1 ∧ b1 ≤ 191) : decodeN n b0 b1 b2 b3 = ((b0 - 192) * 64 + b1 % 64, 2) := by
  unfold decodeN; repeat' split
  all_goals first | (exfalso; omega) | (apply Prod.ext <;> simp only <;> omega)
set_option maxRecDepth 100000 in
set_option maxHeartbeats 4000000 in
theorem decodeN_three {n b0 b1 b2 b3 : Nat} (h : 224 ≤ b0 ∧ b0 ≤ 239) (h1 : 1 < n ∧ (if b0 = 224 then 160 else 128) ≤ b1 ∧ b1 ≤ (if b0 = 237 then 159 else 191)) (h2 : 2 < n ∧ 128 ≤ b2 ∧ b2 ≤ 191) :
    decodeN n b0 b1 b2 b3 = ((b0 - 224) * 4096 + b1 % 64 * 64 + b2 % 64, 3) := by
  unfold decodeN; repeat' split
  all_goals first | (exfalso; split at h1 <;> split at h1 <;> omega) | (apply Prod.ext <;> simp only <;> split at h1 <;> split at h1 <;> omega)
set_option maxRecDepth 100000 in
set_option maxHeartbeats 4000000 in
theorem decodeN_four {n b0 b1 b2 b3 : Nat} (h : 240 ≤ b0 ∧ b0 ≤ 244) (h1 : 1 < n ∧ (if b0 = 240 then 144 else 128) ≤ b1 ∧ b1 ≤ (if b0 = 244 then 143 else 191)) (h2 : 2 < n ∧ 128 ≤ b2 ∧ b2 ≤ 191) (h3 : 3 < n ∧ 128 ≤ b3 ∧ b3 ≤ 191) :
    decodeN n b0 b1 b2 b3 = ((b0 - 240) * 262144 + b1 % 64 * 4096 + b2 % 64 * 64 + b3 % 64, 4) := by
  unfold decodeN; repeat' split
  all_goals first | (exfalso; split at h1 <;> split at h1 <;> omega) | (apply Prod.ext <;> simp only <;> split at h1 <;> split at h1 <;> omega)
set_option maxRecDepth 100000 in
set_option maxHeartbeats 4000000 in
theorem decodeN_none {n b0 b1 b2 b3 : Nat} (hb : b0 < 256) (h0 : ¬ b0 < 128) (h2 : ¬ ((194 ≤ b0 ∧ b0 ≤ 223) ∧ (1 < n ∧ 128 ≤ b1 ∧ b1 ≤ 191)))
    (h3 : ¬ ((224 ≤ b0 ∧ b0 ≤ 239) ∧ (1 < n ∧ (if b0 = 224 then 160 else 128) ≤ b1 ∧ b1 ≤ (if b0 = 237 then 159 else 191)) ∧ (2 < n ∧ 128 ≤ b2 ∧ b2 ≤ 191)))
    (h4 : ¬ ((240 ≤ b0 ∧ b0 ≤ 244) ∧ (1 < n ∧ (if b0 = 240 then 144 else 128) ≤ b1 ∧ b1 ≤ (if b0 = 244 then 143 else 191)) ∧ (2 < n ∧ 128 ≤ b2 ∧ b2 ≤ 191) ∧ (3 < n ∧ 128 ≤ b3 ∧ b3 ≤ 191))) :
    decodeN n b0 b1 b2 b3 = (65533, 1) := by
  have e3 : ¬ (b0 = 224) ∨ b0 = 224 := by omega
  unfold decodeN
  split
  · omega
  split
  · split
    · exfalso; omega
    · rfl
  split
  · split
    · exfalso
      apply h3
      refine ⟨by omega, ⟨by omega, ?_, ?_⟩, by omega⟩
      · split <;> omega
      · split <;> omega
    · rfl
  split
  · split
    · exfalso
      apply h4
      refine ⟨by omega, ⟨by omega, ?_, ?_⟩, by omega, by omega⟩
      · split <;> omega
      · split <;> omega
    · rfl
  · rfl
end Go.Proofs.Ytnmohojmoienbaa
