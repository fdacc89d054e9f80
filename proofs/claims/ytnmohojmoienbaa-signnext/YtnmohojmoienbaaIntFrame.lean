/-
  Laws of no function: how an Int, and a Rat, that came in reads: a bool, and slices of words. No conditions of the program.
-/
import Derived.Test.YtnmohojmoienbaaCame
import Derived.ProofKit
import Derived.Lib.SmallJoins
namespace Go.Proofs.Ytnmohojmoienbaa
open Go.ChangeShapes Go.WideShapes Go.ChangeAt Go.RowKit Go.Joins

end Go.Proofs.Ytnmohojmoienbaa
