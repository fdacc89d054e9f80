/-
  No cell of these rows narrows 'for every input' (looked for: loops, veiled, ifaces, maps, wideKeys, modest, calm, conditions, laid).
  DERIVED. THE GIVEN ROWS OF THIS SEAT. 7 by the template 'for every input the law returns true; each argument reads behind the call as it read before'; 0 by the template 'total and deterministic' (their statements: YtnmohojmoienbaaTotals.lean).
  GIVEN WITH THE SEED: the statements are not yours to turn. If you find one false, say at which input.
  Laid BY PROGRAM, IN A SANDBOX (cutbox-rows.mjs): the forced cells as the released guide's own fill.sh prints them over the translation 284d037c1bdf8ef1… (all of the seat's roots in one cut). By AI agents, Wed Nov 11 2026. No macro, syntax, notation, axiom, sorry.
-/
import Derived.Test.YtnmohojmoienbaaChecked
import GoSem.Claim
import GoSem.ClaimJoined
import GoSem.ClaimMapViews
import Derived.JoinedTies
import Derived.KernelRfl
namespace Go.Proofs.Ytnmohojmoienbaa
/- THE CELL 'sum', in the pinned program and in every row, IS THE sha256 OF THE DUMP (.gsa) THAT YtnmohojmoienbaaProg.lean LOADS. Nothing in Lean hashes anything: it is a label: what it is worth is what the hold of that sum in a sandbox is worth. -/
noncomputable def Try.pinned : Pinned := { name := "ytnmohojmoienbaa", sum := "284d037c1bdf8ef1b5196fe35ed852cbdf0f42dcb8daaf7efea3ea96ab15a50b", checked := Try.checked }
namespace Rows
def none {H : Type} : Left H := { results := [], args := [] }

/-- 'talweglaw09.SignKinds': WHATEVER THE INPUT: true; the input reads as it did. -/
def signKindsSpec : ChangeSpec := { name := "signKinds", fn := fun _ => fun
  | [d] => { results := [.lit (.bool true)], args := [d] }
  | _ => none }
def signKindsRow : OpenClaim := { program := "ytnmohojmoienbaa", sum := "284d037c1bdf8ef1b5196fe35ed852cbdf0f42dcb8daaf7efea3ea96ab15a50b", func := "talweg/talweglaw09.SignKinds", spec := "signKinds", apart := false }
def SignKindsSaid : Prop := signKindsRow.holds Try.pinned (OpenSpec.ofChange signKindsSpec)

/-- ITS FALSE NEIGHBOUR: 'it returns false'. Refute it at one input. -/
def signKindsWrong : ChangeSpec := { name := "signKinds", fn := fun _ => fun
  | [d] => { results := [.lit (.bool false)], args := [d] }
  | _ => none }
def SignKindsWrongFalsely : Prop := signKindsRow.holds Try.pinned (OpenSpec.ofChange signKindsWrong)

/-- 'talweglaw09.SignNext': WHATEVER THE INPUT: true; the input reads as it did. -/
def signNextSpec : ChangeSpec := { name := "signNext", fn := fun _ => fun
  | [d1, d2] => { results := [.lit (.bool true)], args := [d1, d2] }
  | _ => none }
def signNextRow : OpenClaim := { program := "ytnmohojmoienbaa", sum := "284d037c1bdf8ef1b5196fe35ed852cbdf0f42dcb8daaf7efea3ea96ab15a50b", func := "talweg/talweglaw09.SignNext", spec := "signNext", apart := false }
def SignNextSaid : Prop := signNextRow.holds Try.pinned (OpenSpec.ofChange signNextSpec)

/-- ITS FALSE NEIGHBOUR: 'it returns false'. Refute it at one input. -/
def signNextWrong : ChangeSpec := { name := "signNext", fn := fun _ => fun
  | [d1, d2] => { results := [.lit (.bool false)], args := [d1, d2] }
  | _ => none }
def SignNextWrongFalsely : Prop := signNextRow.holds Try.pinned (OpenSpec.ofChange signNextWrong)

/-- 'talweglaw09.SignPlaces': WHATEVER THE INPUT: true; the input reads as it did. -/
def signPlacesSpec : ChangeSpec := { name := "signPlaces", fn := fun _ => fun
  | [d1, d2] => { results := [.lit (.bool true)], args := [d1, d2] }
  | _ => none }
def signPlacesRow : OpenClaim := { program := "ytnmohojmoienbaa", sum := "284d037c1bdf8ef1b5196fe35ed852cbdf0f42dcb8daaf7efea3ea96ab15a50b", func := "talweg/talweglaw09.SignPlaces", spec := "signPlaces", apart := false }
def SignPlacesSaid : Prop := signPlacesRow.holds Try.pinned (OpenSpec.ofChange signPlacesSpec)

/-- ITS FALSE NEIGHBOUR: 'it returns false'. Refute it at one input. -/
def signPlacesWrong : ChangeSpec := { name := "signPlaces", fn := fun _ => fun
  | [d1, d2] => { results := [.lit (.bool false)], args := [d1, d2] }
  | _ => none }
def SignPlacesWrongFalsely : Prop := signPlacesRow.holds Try.pinned (OpenSpec.ofChange signPlacesWrong)

/-- 'talweglaw09.SignNames': WHATEVER THE INPUT: true; the input reads as it did. -/
def signNamesSpec : ChangeSpec := { name := "signNames", fn := fun _ => fun
  | [d] => { results := [.lit (.bool true)], args := [d] }
  | _ => none }
def signNamesRow : OpenClaim := { program := "ytnmohojmoienbaa", sum := "284d037c1bdf8ef1b5196fe35ed852cbdf0f42dcb8daaf7efea3ea96ab15a50b", func := "talweg/talweglaw09.SignNames", spec := "signNames", apart := false }
def SignNamesSaid : Prop := signNamesRow.holds Try.pinned (OpenSpec.ofChange signNamesSpec)

/-- ITS FALSE NEIGHBOUR: 'it returns false'. Refute it at one input. -/
def signNamesWrong : ChangeSpec := { name := "signNames", fn := fun _ => fun
  | [d] => { results := [.lit (.bool false)], args := [d] }
  | _ => none }
def SignNamesWrongFalsely : Prop := signNamesRow.holds Try.pinned (OpenSpec.ofChange signNamesWrong)

/-- 'talweglaw09.SignWhole': WHATEVER THE INPUT: true; the input reads as it did. -/
def signWholeSpec : ChangeSpec := { name := "signWhole", fn := fun _ => fun
  | [d] => { results := [.lit (.bool true)], args := [d] }
  | _ => none }
def signWholeRow : OpenClaim := { program := "ytnmohojmoienbaa", sum := "284d037c1bdf8ef1b5196fe35ed852cbdf0f42dcb8daaf7efea3ea96ab15a50b", func := "talweg/talweglaw09.SignWhole", spec := "signWhole", apart := false }
def SignWholeSaid : Prop := signWholeRow.holds Try.pinned (OpenSpec.ofChange signWholeSpec)

/-- ITS FALSE NEIGHBOUR: 'it returns false'. Refute it at one input. -/
def signWholeWrong : ChangeSpec := { name := "signWhole", fn := fun _ => fun
  | [d] => { results := [.lit (.bool false)], args := [d] }
  | _ => none }
def SignWholeWrongFalsely : Prop := signWholeRow.holds Try.pinned (OpenSpec.ofChange signWholeWrong)

/-- 'talweglaw09.SignLines': WHATEVER THE INPUT: true; the input reads as it did. -/
def signLinesSpec : ChangeSpec := { name := "signLines", fn := fun _ => fun
  | [d1, d2, d3] => { results := [.lit (.bool true)], args := [d1, d2, d3] }
  | _ => none }
def signLinesRow : OpenClaim := { program := "ytnmohojmoienbaa", sum := "284d037c1bdf8ef1b5196fe35ed852cbdf0f42dcb8daaf7efea3ea96ab15a50b", func := "talweg/talweglaw09.SignLines", spec := "signLines", apart := false }
def SignLinesSaid : Prop := signLinesRow.holds Try.pinned (OpenSpec.ofChange signLinesSpec)

/-- ITS FALSE NEIGHBOUR: 'it returns false'. Refute it at one input. -/
def signLinesWrong : ChangeSpec := { name := "signLines", fn := fun _ => fun
  | [d1, d2, d3] => { results := [.lit (.bool false)], args := [d1, d2, d3] }
  | _ => none }
def SignLinesWrongFalsely : Prop := signLinesRow.holds Try.pinned (OpenSpec.ofChange signLinesWrong)

/-- 'talweglaw09.SignLonger': WHATEVER THE INPUT: true; the input reads as it did. -/
def signLongerSpec : ChangeSpec := { name := "signLonger", fn := fun _ => fun
  | [d1, d2] => { results := [.lit (.bool true)], args := [d1, d2] }
  | _ => none }
def signLongerRow : OpenClaim := { program := "ytnmohojmoienbaa", sum := "284d037c1bdf8ef1b5196fe35ed852cbdf0f42dcb8daaf7efea3ea96ab15a50b", func := "talweg/talweglaw09.SignLonger", spec := "signLonger", apart := false }
def SignLongerSaid : Prop := signLongerRow.holds Try.pinned (OpenSpec.ofChange signLongerSpec)

/-- ITS FALSE NEIGHBOUR: 'it returns false'. Refute it at one input. -/
def signLongerWrong : ChangeSpec := { name := "signLonger", fn := fun _ => fun
  | [d1, d2] => { results := [.lit (.bool false)], args := [d1, d2] }
  | _ => none }
def SignLongerWrongFalsely : Prop := signLongerRow.holds Try.pinned (OpenSpec.ofChange signLongerWrong)

/- THE SECOND FORM. 'bulk': how many values and letters a reading holds, each counted each time it is reached (what is shared counts as often as it is met; a slice's spare places count too). A statement '..UptoSaid' is the law's where the arguments, and the package variables that the reading takes, are together of bulk at most 1048576: NARROWER than '..Said'. Prove '..Said' where nothing that the law and all that it calls make is longer than what came in: it says more and counts as full. Else prove '..UptoSaid'. A law counts once. -/
mutual
def uptoBulk {H : Type} : DataW H → Nat
  | .lit (.string bytes) => bytes.length + 1
  | .lit _ => 1
  | .nil => 1
  | .ptr d => uptoBulk d + 1
  | .slice elems spare => uptoBulkAll elems + uptoBulkAll spare + 1
  | .agg parts => uptoBulkAll parts + 1
  | .iface _ d => uptoBulk d + 1
  | .map entries => uptoBulkEntries entries + 1
  | .held _ => 1
def uptoBulkAll {H : Type} : List (DataW H) → Nat
  | [] => 0
  | d :: r => uptoBulk d + uptoBulkAll r
def uptoBulkEntries {H : Type} : List (Lit × DataW H) → Nat
  | [] => 0
  | x :: r => uptoBulkEntry x + uptoBulkEntries r
def uptoBulkEntry {H : Type} : Lit × DataW H → Nat
  | (.string bytes, d) => bytes.length + uptoBulk d + 1
  | (_, d) => uptoBulk d + 1
 end
def uptoSmall : (H : Type) → List (DataW H) → Bool := fun _ ds => decide (uptoBulkAll ds ≤ 1048576)
def OpenSpec.upto (s : _root_.Go.ChangeSpec) : _root_.Go.OpenSpec := { _root_.Go.OpenSpec.ofChange s with cond := some uptoSmall }

/-- 'talweglaw09.SignKinds', WHERE WHAT IT READS IS OF BULK AT MOST 1048576: true; the input reads as it did. -/
def signKindsUptoRow : OpenClaim := { program := "ytnmohojmoienbaa", sum := "284d037c1bdf8ef1b5196fe35ed852cbdf0f42dcb8daaf7efea3ea96ab15a50b", func := "talweg/talweglaw09.SignKinds", spec := "signKinds", apart := false, narrowed := true }
def SignKindsUptoSaid : Prop := signKindsUptoRow.holds Try.pinned (OpenSpec.upto signKindsSpec)

/-- 'talweglaw09.SignNext', WHERE WHAT IT READS IS OF BULK AT MOST 1048576: true; the input reads as it did. -/
def signNextUptoRow : OpenClaim := { program := "ytnmohojmoienbaa", sum := "284d037c1bdf8ef1b5196fe35ed852cbdf0f42dcb8daaf7efea3ea96ab15a50b", func := "talweg/talweglaw09.SignNext", spec := "signNext", apart := false, narrowed := true }
def SignNextUptoSaid : Prop := signNextUptoRow.holds Try.pinned (OpenSpec.upto signNextSpec)

/-- 'talweglaw09.SignPlaces', WHERE WHAT IT READS IS OF BULK AT MOST 1048576: true; the input reads as it did. -/
def signPlacesUptoRow : OpenClaim := { program := "ytnmohojmoienbaa", sum := "284d037c1bdf8ef1b5196fe35ed852cbdf0f42dcb8daaf7efea3ea96ab15a50b", func := "talweg/talweglaw09.SignPlaces", spec := "signPlaces", apart := false, narrowed := true }
def SignPlacesUptoSaid : Prop := signPlacesUptoRow.holds Try.pinned (OpenSpec.upto signPlacesSpec)

/-- 'talweglaw09.SignNames', WHERE WHAT IT READS IS OF BULK AT MOST 1048576: true; the input reads as it did. -/
def signNamesUptoRow : OpenClaim := { program := "ytnmohojmoienbaa", sum := "284d037c1bdf8ef1b5196fe35ed852cbdf0f42dcb8daaf7efea3ea96ab15a50b", func := "talweg/talweglaw09.SignNames", spec := "signNames", apart := false, narrowed := true }
def SignNamesUptoSaid : Prop := signNamesUptoRow.holds Try.pinned (OpenSpec.upto signNamesSpec)

/-- 'talweglaw09.SignWhole', WHERE WHAT IT READS IS OF BULK AT MOST 1048576: true; the input reads as it did. -/
def signWholeUptoRow : OpenClaim := { program := "ytnmohojmoienbaa", sum := "284d037c1bdf8ef1b5196fe35ed852cbdf0f42dcb8daaf7efea3ea96ab15a50b", func := "talweg/talweglaw09.SignWhole", spec := "signWhole", apart := false, narrowed := true }
def SignWholeUptoSaid : Prop := signWholeUptoRow.holds Try.pinned (OpenSpec.upto signWholeSpec)

/-- 'talweglaw09.SignLines', WHERE WHAT IT READS IS OF BULK AT MOST 1048576: true; the input reads as it did. -/
def signLinesUptoRow : OpenClaim := { program := "ytnmohojmoienbaa", sum := "284d037c1bdf8ef1b5196fe35ed852cbdf0f42dcb8daaf7efea3ea96ab15a50b", func := "talweg/talweglaw09.SignLines", spec := "signLines", apart := false, narrowed := true }
def SignLinesUptoSaid : Prop := signLinesUptoRow.holds Try.pinned (OpenSpec.upto signLinesSpec)

/-- 'talweglaw09.SignLonger', WHERE WHAT IT READS IS OF BULK AT MOST 1048576: true; the input reads as it did. -/
def signLongerUptoRow : OpenClaim := { program := "ytnmohojmoienbaa", sum := "284d037c1bdf8ef1b5196fe35ed852cbdf0f42dcb8daaf7efea3ea96ab15a50b", func := "talweg/talweglaw09.SignLonger", spec := "signLonger", apart := false, narrowed := true }
def SignLongerUptoSaid : Prop := signLongerUptoRow.holds Try.pinned (OpenSpec.upto signLongerSpec)

end Rows
end Go.Proofs.Ytnmohojmoienbaa
