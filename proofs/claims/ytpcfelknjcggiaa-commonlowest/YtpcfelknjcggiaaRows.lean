/-
  No cell of these rows narrows 'for every input' (looked for: loops, veiled, ifaces, maps, wideKeys, modest, calm, conditions, laid).
  DERIVED. THE GIVEN ROWS OF THIS SEAT. 5 by the template 'for every input the law returns true; each argument reads behind the call as it read before'; 0 by the template 'total and deterministic' (their statements: YtpcfelknjcggiaaTotals.lean).
  GIVEN WITH THE SEED: the statements are not yours to turn. If you find one false, say at which input.
  Laid BY PROGRAM, IN A SANDBOX (cutbox-rows.mjs): the forced cells as the released guide's own fill.sh prints them over the translation e418b34c38e85442… (all of the seat's roots in one cut). By AI agents, Wed Nov 11 2026. No macro, syntax, notation, axiom, sorry.
-/
import Derived.Test.YtpcfelknjcggiaaChecked
import GoSem.Claim
import GoSem.ClaimJoined
import GoSem.ClaimMapViews
import Derived.JoinedTies
import Derived.KernelRfl
namespace Go.Proofs.Ytpcfelknjcggiaa
/- THE CELL 'sum', in the pinned program and in every row, IS THE sha256 OF THE DUMP (.gsa) THAT YtpcfelknjcggiaaProg.lean LOADS. Nothing in Lean hashes anything: it is a label: what it is worth is what the hold of that sum in a sandbox is worth. -/
noncomputable def Try.pinned : Pinned := { name := "ytpcfelknjcggiaa", sum := "e418b34c38e854420c19156efc0ea0c200be50d193ac7ddda72d6057571c6bb3", checked := Try.checked }
namespace Rows
def none {H : Type} : Left H := { results := [], args := [] }

/-- 'talweglaw05.CommonTells': WHATEVER THE INPUT: true; the input reads as it did. -/
def commonTellsSpec : ChangeSpec := { name := "commonTells", fn := fun _ => fun
  | [d1, d2] => { results := [.lit (.bool true)], args := [d1, d2] }
  | _ => none }
def commonTellsRow : OpenClaim := { program := "ytpcfelknjcggiaa", sum := "e418b34c38e854420c19156efc0ea0c200be50d193ac7ddda72d6057571c6bb3", func := "talweg/talweglaw05.CommonTells", spec := "commonTells", unfollowed := true, recurses := true, apart := false }
def CommonTellsSaid : Prop := commonTellsRow.holds Try.pinned (OpenSpec.ofChange commonTellsSpec)

/-- ITS FALSE NEIGHBOUR: 'it returns false'. Refute it at one input. -/
def commonTellsWrong : ChangeSpec := { name := "commonTells", fn := fun _ => fun
  | [d1, d2] => { results := [.lit (.bool false)], args := [d1, d2] }
  | _ => none }
def CommonTellsWrongFalsely : Prop := commonTellsRow.holds Try.pinned (OpenSpec.ofChange commonTellsWrong)

/-- 'talweglaw05.CommonDivides': WHATEVER THE INPUT: true; the input reads as it did. -/
def commonDividesSpec : ChangeSpec := { name := "commonDivides", fn := fun _ => fun
  | [d1, d2, d3] => { results := [.lit (.bool true)], args := [d1, d2, d3] }
  | _ => none }
def commonDividesRow : OpenClaim := { program := "ytpcfelknjcggiaa", sum := "e418b34c38e854420c19156efc0ea0c200be50d193ac7ddda72d6057571c6bb3", func := "talweg/talweglaw05.CommonDivides", spec := "commonDivides", unfollowed := true, recurses := true, apart := false }
def CommonDividesSaid : Prop := commonDividesRow.holds Try.pinned (OpenSpec.ofChange commonDividesSpec)

/-- ITS FALSE NEIGHBOUR: 'it returns false'. Refute it at one input. -/
def commonDividesWrong : ChangeSpec := { name := "commonDivides", fn := fun _ => fun
  | [d1, d2, d3] => { results := [.lit (.bool false)], args := [d1, d2, d3] }
  | _ => none }
def CommonDividesWrongFalsely : Prop := commonDividesRow.holds Try.pinned (OpenSpec.ofChange commonDividesWrong)

/-- 'talweglaw05.CommonTimes': WHATEVER THE INPUT: true; the input reads as it did. -/
def commonTimesSpec : ChangeSpec := { name := "commonTimes", fn := fun _ => fun
  | [d1, d2, d3] => { results := [.lit (.bool true)], args := [d1, d2, d3] }
  | _ => none }
def commonTimesRow : OpenClaim := { program := "ytpcfelknjcggiaa", sum := "e418b34c38e854420c19156efc0ea0c200be50d193ac7ddda72d6057571c6bb3", func := "talweg/talweglaw05.CommonTimes", spec := "commonTimes", unfollowed := true, recurses := true, apart := false }
def CommonTimesSaid : Prop := commonTimesRow.holds Try.pinned (OpenSpec.ofChange commonTimesSpec)

/-- ITS FALSE NEIGHBOUR: 'it returns false'. Refute it at one input. -/
def commonTimesWrong : ChangeSpec := { name := "commonTimes", fn := fun _ => fun
  | [d1, d2, d3] => { results := [.lit (.bool false)], args := [d1, d2, d3] }
  | _ => none }
def CommonTimesWrongFalsely : Prop := commonTimesRow.holds Try.pinned (OpenSpec.ofChange commonTimesWrong)

/-- 'talweglaw05.CommonProduct': WHATEVER THE INPUT: true; the input reads as it did. -/
def commonProductSpec : ChangeSpec := { name := "commonProduct", fn := fun _ => fun
  | [d1, d2] => { results := [.lit (.bool true)], args := [d1, d2] }
  | _ => none }
def commonProductRow : OpenClaim := { program := "ytpcfelknjcggiaa", sum := "e418b34c38e854420c19156efc0ea0c200be50d193ac7ddda72d6057571c6bb3", func := "talweg/talweglaw05.CommonProduct", spec := "commonProduct", unfollowed := true, recurses := true, apart := false }
def CommonProductSaid : Prop := commonProductRow.holds Try.pinned (OpenSpec.ofChange commonProductSpec)

/-- ITS FALSE NEIGHBOUR: 'it returns false'. Refute it at one input. -/
def commonProductWrong : ChangeSpec := { name := "commonProduct", fn := fun _ => fun
  | [d1, d2] => { results := [.lit (.bool false)], args := [d1, d2] }
  | _ => none }
def CommonProductWrongFalsely : Prop := commonProductRow.holds Try.pinned (OpenSpec.ofChange commonProductWrong)

/-- 'talweglaw05.CommonLowest': WHATEVER THE INPUT: true; the input reads as it did. -/
def commonLowestSpec : ChangeSpec := { name := "commonLowest", fn := fun _ => fun
  | [d1, d2, d3] => { results := [.lit (.bool true)], args := [d1, d2, d3] }
  | _ => none }
def commonLowestRow : OpenClaim := { program := "ytpcfelknjcggiaa", sum := "e418b34c38e854420c19156efc0ea0c200be50d193ac7ddda72d6057571c6bb3", func := "talweg/talweglaw05.CommonLowest", spec := "commonLowest", unfollowed := true, recurses := true, apart := false }
def CommonLowestSaid : Prop := commonLowestRow.holds Try.pinned (OpenSpec.ofChange commonLowestSpec)

/-- ITS FALSE NEIGHBOUR: 'it returns false'. Refute it at one input. -/
def commonLowestWrong : ChangeSpec := { name := "commonLowest", fn := fun _ => fun
  | [d1, d2, d3] => { results := [.lit (.bool false)], args := [d1, d2, d3] }
  | _ => none }
def CommonLowestWrongFalsely : Prop := commonLowestRow.holds Try.pinned (OpenSpec.ofChange commonLowestWrong)

/- THE SECOND FORM. 'bulk': how many values and letters a reading holds, each counted each time it is reached (what is shared counts as often as it is met; a slice's spare places count too). A statement '..UptoSaid' is the law's where the arguments, and the package variables that the reading takes, are together of bulk at most 1048576: NARROWER than '..Said'. Prove '..Said' where nothing that the law and all that it calls make is longer than what came in: it says more and counts as full. Else prove '..UptoSaid'. A law counts once. -/
mutual
def uptoBulk {H : Type} : DataW H → Nat
  | .lit (.string bytes) => bytes.length + 1
  | .lit _ => 1
  | .nil => 1
  | .ptr d => uptoBulk d + 1
  | .slice elems spare => uptoBulkAll elems + uptoBulkAll spare + 1
  | .agg parts => uptoBulkAll parts + 1
  | .iface _ d => uptoBulk d + 1
  | .map entries => uptoBulkEntries entries + 1
  | .held _ => 1
def uptoBulkAll {H : Type} : List (DataW H) → Nat
  | [] => 0
  | d :: r => uptoBulk d + uptoBulkAll r
def uptoBulkEntries {H : Type} : List (Lit × DataW H) → Nat
  | [] => 0
  | x :: r => uptoBulkEntry x + uptoBulkEntries r
def uptoBulkEntry {H : Type} : Lit × DataW H → Nat
  | (.string bytes, d) => bytes.length + uptoBulk d + 1
  | (_, d) => uptoBulk d + 1
 end
def uptoSmall : (H : Type) → List (DataW H) → Bool := fun _ ds => decide (uptoBulkAll ds ≤ 1048576)
def OpenSpec.upto (s : _root_.Go.ChangeSpec) : _root_.Go.OpenSpec := { _root_.Go.OpenSpec.ofChange s with cond := some uptoSmall }

/-- 'talweglaw05.CommonTells', WHERE WHAT IT READS IS OF BULK AT MOST 1048576: true; the input reads as it did. -/
def commonTellsUptoRow : OpenClaim := { program := "ytpcfelknjcggiaa", sum := "e418b34c38e854420c19156efc0ea0c200be50d193ac7ddda72d6057571c6bb3", func := "talweg/talweglaw05.CommonTells", spec := "commonTells", unfollowed := true, recurses := true, apart := false, narrowed := true }
def CommonTellsUptoSaid : Prop := commonTellsUptoRow.holds Try.pinned (OpenSpec.upto commonTellsSpec)

/-- 'talweglaw05.CommonDivides', WHERE WHAT IT READS IS OF BULK AT MOST 1048576: true; the input reads as it did. -/
def commonDividesUptoRow : OpenClaim := { program := "ytpcfelknjcggiaa", sum := "e418b34c38e854420c19156efc0ea0c200be50d193ac7ddda72d6057571c6bb3", func := "talweg/talweglaw05.CommonDivides", spec := "commonDivides", unfollowed := true, recurses := true, apart := false, narrowed := true }
def CommonDividesUptoSaid : Prop := commonDividesUptoRow.holds Try.pinned (OpenSpec.upto commonDividesSpec)

/-- 'talweglaw05.CommonTimes', WHERE WHAT IT READS IS OF BULK AT MOST 1048576: true; the input reads as it did. -/
def commonTimesUptoRow : OpenClaim := { program := "ytpcfelknjcggiaa", sum := "e418b34c38e854420c19156efc0ea0c200be50d193ac7ddda72d6057571c6bb3", func := "talweg/talweglaw05.CommonTimes", spec := "commonTimes", unfollowed := true, recurses := true, apart := false, narrowed := true }
def CommonTimesUptoSaid : Prop := commonTimesUptoRow.holds Try.pinned (OpenSpec.upto commonTimesSpec)

/-- 'talweglaw05.CommonProduct', WHERE WHAT IT READS IS OF BULK AT MOST 1048576: true; the input reads as it did. -/
def commonProductUptoRow : OpenClaim := { program := "ytpcfelknjcggiaa", sum := "e418b34c38e854420c19156efc0ea0c200be50d193ac7ddda72d6057571c6bb3", func := "talweg/talweglaw05.CommonProduct", spec := "commonProduct", unfollowed := true, recurses := true, apart := false, narrowed := true }
def CommonProductUptoSaid : Prop := commonProductUptoRow.holds Try.pinned (OpenSpec.upto commonProductSpec)

/-- 'talweglaw05.CommonLowest', WHERE WHAT IT READS IS OF BULK AT MOST 1048576: true; the input reads as it did. -/
def commonLowestUptoRow : OpenClaim := { program := "ytpcfelknjcggiaa", sum := "e418b34c38e854420c19156efc0ea0c200be50d193ac7ddda72d6057571c6bb3", func := "talweg/talweglaw05.CommonLowest", spec := "commonLowest", unfollowed := true, recurses := true, apart := false, narrowed := true }
def CommonLowestUptoSaid : Prop := commonLowestUptoRow.holds Try.pinned (OpenSpec.upto commonLowestSpec)

end Rows
end Go.Proofs.Ytpcfelknjcggiaa
