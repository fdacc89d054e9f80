/-
  NARROWER THAN 'FOR EVERY INPUT', by the rows' own cells (each row's printed sentence says how): DeciParses: laid · DeciPrints: laid · DeciBack: laid · DeciJoins: laid · DeciDigits: laid · DeciLong: laid.
  DERIVED. THE GIVEN ROWS OF THIS SEAT. 6 by the template 'for every input the law returns true; each argument reads behind the call as it read before'; 0 by the template 'total and deterministic' (their statements: YtlokidddbkdclaaDoorTotals.lean).
  GIVEN WITH THE SEED: the statements are not yours to turn. If you find one false, say at which input.
  Laid BY PROGRAM, IN A SANDBOX (cutbox-rows.mjs): the forced cells as the released guide's own fill.sh prints them over the translation a02a4187536c270c… (all of the seat's roots in one cut). By AI agents, Wed Nov 11 2026. No macro, syntax, notation, axiom, sorry.
-/
import Derived.Test.YtlokidddbkdclaaDoorChecked
import GoSem.PinnedTables
import GoSem.Claim
import GoSem.ClaimJoined
import GoSem.ClaimMapViews
import Derived.JoinedTies
import Derived.KernelRfl
namespace Go.Proofs.YtlokidddbkdclaaDoor
/- THE CELL 'sum', in the pinned program and in every row, IS THE sha256 OF THE DUMP (.gsa) THAT YtlokidddbkdclaaDoorProg.lean LOADS. Nothing in Lean hashes anything: it is a label: what it is worth is what the hold of that sum in a sandbox is worth. -/
noncomputable def Tryd.pinned : Pinned := { name := "ytlokidddbkdclaadoor", sum := "a02a4187536c270ca19a31b71ea8ae14a71a110169c0f6f0371162f2e5469365", checked := Tryd.checked }
namespace Rows
def none {H : Type} : Left H := { results := [], args := [] }

/- WHAT THE LISTED PACKAGE-LEVEL VARIABLES READ AS WHEN THE CALL BEGINS. Each datum BY PROGRAM (the guide's laid-datum.mjs) off the statement by which the dump's own 'gosem.cut.vars' lays the variable. In a bare row this is a premise. The card (YtlokidddbkdclaaDoorCards.lean) ties it to the program's text. -/
def laid_unicode_utf8_acceptRanges {H : Type} : DataW H := .agg [.agg [.lit (.int .u8 128), .lit (.int .u8 191)], .agg [.lit (.int .u8 160), .lit (.int .u8 191)], .agg [.lit (.int .u8 128), .lit (.int .u8 159)], .agg [.lit (.int .u8 144), .lit (.int .u8 191)], .agg [.lit (.int .u8 128), .lit (.int .u8 143)], .agg [.lit (.int .u8 0), .lit (.int .u8 0)], .agg [.lit (.int .u8 0), .lit (.int .u8 0)], .agg [.lit (.int .u8 0), .lit (.int .u8 0)], .agg [.lit (.int .u8 0), .lit (.int .u8 0)], .agg [.lit (.int .u8 0), .lit (.int .u8 0)], .agg [.lit (.int .u8 0), .lit (.int .u8 0)], .agg [.lit (.int .u8 0), .lit (.int .u8 0)], .agg [.lit (.int .u8 0), .lit (.int .u8 0)], .agg [.lit (.int .u8 0), .lit (.int .u8 0)], .agg [.lit (.int .u8 0), .lit (.int .u8 0)], .agg [.lit (.int .u8 0), .lit (.int .u8 0)]]
/-- One of Go's own tables, pinned by name: the form's constant. -/
def laid_unicode_utf8_first : DataW Unit := Go.Pinned.utf8First

/-- 'talweglaw06.DeciParses': WHATEVER THE INPUT: true; the input reads as it did. -/
def deciParsesSpec : ChangeSpec := { name := "deciParses", fn := fun _ => fun
  | [d] => { results := [.lit (.bool true)], args := [d] }
  | _ => none }
def deciParsesRow : OpenClaim := { program := "ytlokidddbkdclaadoor", sum := "a02a4187536c270ca19a31b71ea8ae14a71a110169c0f6f0371162f2e5469365", func := "talweg/talweglaw06.DeciParses", spec := "deciParses", inPlace := ["internal/bytealg.IndexByteString", "internal/bytealg.IndexString"], unfollowed := true, recurses := true, named := ["unicode/utf8.first", "unicode/utf8.acceptRanges", "internal/bytealg.MaxLen"], apart := false, laid := [("unicode/utf8.acceptRanges", laid_unicode_utf8_acceptRanges), ("unicode/utf8.first", laid_unicode_utf8_first)] }
def DeciParsesSaid : Prop := deciParsesRow.holds Tryd.pinned (OpenSpec.ofChange deciParsesSpec)

/-- ITS FALSE NEIGHBOUR: 'it returns false'. Refute it at one input. -/
def deciParsesWrong : ChangeSpec := { name := "deciParses", fn := fun _ => fun
  | [d] => { results := [.lit (.bool false)], args := [d] }
  | _ => none }
def DeciParsesWrongFalsely : Prop := deciParsesRow.holds Tryd.pinned (OpenSpec.ofChange deciParsesWrong)

/-- 'talweglaw06.DeciPrints': WHATEVER THE INPUT: true; the input reads as it did. -/
def deciPrintsSpec : ChangeSpec := { name := "deciPrints", fn := fun _ => fun
  | [d] => { results := [.lit (.bool true)], args := [d] }
  | _ => none }
def deciPrintsRow : OpenClaim := { program := "ytlokidddbkdclaadoor", sum := "a02a4187536c270ca19a31b71ea8ae14a71a110169c0f6f0371162f2e5469365", func := "talweg/talweglaw06.DeciPrints", spec := "deciPrints", inPlace := ["internal/bytealg.IndexByteString", "internal/bytealg.IndexString"], unfollowed := true, recurses := true, named := ["unicode/utf8.first", "unicode/utf8.acceptRanges", "internal/bytealg.MaxLen"], apart := false, laid := [("unicode/utf8.acceptRanges", laid_unicode_utf8_acceptRanges), ("unicode/utf8.first", laid_unicode_utf8_first)] }
def DeciPrintsSaid : Prop := deciPrintsRow.holds Tryd.pinned (OpenSpec.ofChange deciPrintsSpec)

/-- ITS FALSE NEIGHBOUR: 'it returns false'. Refute it at one input. -/
def deciPrintsWrong : ChangeSpec := { name := "deciPrints", fn := fun _ => fun
  | [d] => { results := [.lit (.bool false)], args := [d] }
  | _ => none }
def DeciPrintsWrongFalsely : Prop := deciPrintsRow.holds Tryd.pinned (OpenSpec.ofChange deciPrintsWrong)

/-- 'talweglaw06.DeciBack': WHATEVER THE INPUT: true; the input reads as it did. -/
def deciBackSpec : ChangeSpec := { name := "deciBack", fn := fun _ => fun
  | [d1, d2] => { results := [.lit (.bool true)], args := [d1, d2] }
  | _ => none }
def deciBackRow : OpenClaim := { program := "ytlokidddbkdclaadoor", sum := "a02a4187536c270ca19a31b71ea8ae14a71a110169c0f6f0371162f2e5469365", func := "talweg/talweglaw06.DeciBack", spec := "deciBack", inPlace := ["internal/bytealg.IndexByteString", "internal/bytealg.IndexString"], unfollowed := true, recurses := true, named := ["unicode/utf8.first", "unicode/utf8.acceptRanges", "internal/bytealg.MaxLen"], apart := false, laid := [("unicode/utf8.acceptRanges", laid_unicode_utf8_acceptRanges), ("unicode/utf8.first", laid_unicode_utf8_first)] }
def DeciBackSaid : Prop := deciBackRow.holds Tryd.pinned (OpenSpec.ofChange deciBackSpec)

/-- ITS FALSE NEIGHBOUR: 'it returns false'. Refute it at one input. -/
def deciBackWrong : ChangeSpec := { name := "deciBack", fn := fun _ => fun
  | [d1, d2] => { results := [.lit (.bool false)], args := [d1, d2] }
  | _ => none }
def DeciBackWrongFalsely : Prop := deciBackRow.holds Tryd.pinned (OpenSpec.ofChange deciBackWrong)

/-- 'talweglaw06.DeciJoins': WHATEVER THE INPUT: true; the input reads as it did. -/
def deciJoinsSpec : ChangeSpec := { name := "deciJoins", fn := fun _ => fun
  | [d1, d2] => { results := [.lit (.bool true)], args := [d1, d2] }
  | _ => none }
def deciJoinsRow : OpenClaim := { program := "ytlokidddbkdclaadoor", sum := "a02a4187536c270ca19a31b71ea8ae14a71a110169c0f6f0371162f2e5469365", func := "talweg/talweglaw06.DeciJoins", spec := "deciJoins", inPlace := ["internal/bytealg.IndexByteString", "internal/bytealg.IndexString"], unfollowed := true, recurses := true, named := ["unicode/utf8.first", "unicode/utf8.acceptRanges", "internal/bytealg.MaxLen"], apart := false, laid := [("unicode/utf8.acceptRanges", laid_unicode_utf8_acceptRanges), ("unicode/utf8.first", laid_unicode_utf8_first)] }
def DeciJoinsSaid : Prop := deciJoinsRow.holds Tryd.pinned (OpenSpec.ofChange deciJoinsSpec)

/-- ITS FALSE NEIGHBOUR: 'it returns false'. Refute it at one input. -/
def deciJoinsWrong : ChangeSpec := { name := "deciJoins", fn := fun _ => fun
  | [d1, d2] => { results := [.lit (.bool false)], args := [d1, d2] }
  | _ => none }
def DeciJoinsWrongFalsely : Prop := deciJoinsRow.holds Tryd.pinned (OpenSpec.ofChange deciJoinsWrong)

/-- 'talweglaw06.DeciDigits': WHATEVER THE INPUT: true; the input reads as it did. -/
def deciDigitsSpec : ChangeSpec := { name := "deciDigits", fn := fun _ => fun
  | [d1, d2] => { results := [.lit (.bool true)], args := [d1, d2] }
  | _ => none }
def deciDigitsRow : OpenClaim := { program := "ytlokidddbkdclaadoor", sum := "a02a4187536c270ca19a31b71ea8ae14a71a110169c0f6f0371162f2e5469365", func := "talweg/talweglaw06.DeciDigits", spec := "deciDigits", inPlace := ["internal/bytealg.IndexByteString", "internal/bytealg.IndexString"], unfollowed := true, recurses := true, named := ["unicode/utf8.first", "unicode/utf8.acceptRanges", "internal/bytealg.MaxLen"], apart := false, laid := [("unicode/utf8.acceptRanges", laid_unicode_utf8_acceptRanges), ("unicode/utf8.first", laid_unicode_utf8_first)] }
def DeciDigitsSaid : Prop := deciDigitsRow.holds Tryd.pinned (OpenSpec.ofChange deciDigitsSpec)

/-- ITS FALSE NEIGHBOUR: 'it returns false'. Refute it at one input. -/
def deciDigitsWrong : ChangeSpec := { name := "deciDigits", fn := fun _ => fun
  | [d1, d2] => { results := [.lit (.bool false)], args := [d1, d2] }
  | _ => none }
def DeciDigitsWrongFalsely : Prop := deciDigitsRow.holds Tryd.pinned (OpenSpec.ofChange deciDigitsWrong)

/-- 'talweglaw06.DeciLong': WHATEVER THE INPUT: true; the input reads as it did. -/
def deciLongSpec : ChangeSpec := { name := "deciLong", fn := fun _ => fun
  | [d1, d2] => { results := [.lit (.bool true)], args := [d1, d2] }
  | _ => none }
def deciLongRow : OpenClaim := { program := "ytlokidddbkdclaadoor", sum := "a02a4187536c270ca19a31b71ea8ae14a71a110169c0f6f0371162f2e5469365", func := "talweg/talweglaw06.DeciLong", spec := "deciLong", inPlace := ["internal/bytealg.IndexByteString", "internal/bytealg.IndexString"], unfollowed := true, recurses := true, named := ["unicode/utf8.first", "unicode/utf8.acceptRanges", "internal/bytealg.MaxLen"], apart := false, laid := [("unicode/utf8.acceptRanges", laid_unicode_utf8_acceptRanges), ("unicode/utf8.first", laid_unicode_utf8_first)] }
def DeciLongSaid : Prop := deciLongRow.holds Tryd.pinned (OpenSpec.ofChange deciLongSpec)

/-- ITS FALSE NEIGHBOUR: 'it returns false'. Refute it at one input. -/
def deciLongWrong : ChangeSpec := { name := "deciLong", fn := fun _ => fun
  | [d1, d2] => { results := [.lit (.bool false)], args := [d1, d2] }
  | _ => none }
def DeciLongWrongFalsely : Prop := deciLongRow.holds Tryd.pinned (OpenSpec.ofChange deciLongWrong)

/- THE SECOND FORM. 'bulk': how many values and letters a reading holds, each counted each time it is reached (what is shared counts as often as it is met; a slice's spare places count too). A statement '..UptoSaid' is the law's where the arguments, and the package variables that the reading takes, are together of bulk at most 1048576: NARROWER than '..Said'. Prove '..Said' where nothing that the law and all that it calls make is longer than what came in: it says more and counts as full. Else prove '..UptoSaid'. A law counts once. -/
mutual
def uptoBulk {H : Type} : DataW H → Nat
  | .lit (.string bytes) => bytes.length + 1
  | .lit _ => 1
  | .nil => 1
  | .ptr d => uptoBulk d + 1
  | .slice elems spare => uptoBulkAll elems + uptoBulkAll spare + 1
  | .agg parts => uptoBulkAll parts + 1
  | .iface _ d => uptoBulk d + 1
  | .map entries => uptoBulkEntries entries + 1
  | .held _ => 1
def uptoBulkAll {H : Type} : List (DataW H) → Nat
  | [] => 0
  | d :: r => uptoBulk d + uptoBulkAll r
def uptoBulkEntries {H : Type} : List (Lit × DataW H) → Nat
  | [] => 0
  | x :: r => uptoBulkEntry x + uptoBulkEntries r
def uptoBulkEntry {H : Type} : Lit × DataW H → Nat
  | (.string bytes, d) => bytes.length + uptoBulk d + 1
  | (_, d) => uptoBulk d + 1
 end
def uptoSmall : (H : Type) → List (DataW H) → Bool := fun _ ds => decide (uptoBulkAll ds ≤ 1048576)
def OpenSpec.upto (s : _root_.Go.ChangeSpec) : _root_.Go.OpenSpec := { _root_.Go.OpenSpec.ofChange s with cond := some uptoSmall }

/-- 'talweglaw06.DeciParses', WHERE WHAT IT READS IS OF BULK AT MOST 1048576: true; the input reads as it did. -/
def deciParsesUptoRow : OpenClaim := { program := "ytlokidddbkdclaadoor", sum := "a02a4187536c270ca19a31b71ea8ae14a71a110169c0f6f0371162f2e5469365", func := "talweg/talweglaw06.DeciParses", spec := "deciParses", inPlace := ["internal/bytealg.IndexByteString", "internal/bytealg.IndexString"], unfollowed := true, recurses := true, named := ["unicode/utf8.first", "unicode/utf8.acceptRanges", "internal/bytealg.MaxLen"], apart := false, laid := [("unicode/utf8.acceptRanges", laid_unicode_utf8_acceptRanges), ("unicode/utf8.first", laid_unicode_utf8_first)], narrowed := true }
def DeciParsesUptoSaid : Prop := deciParsesUptoRow.holds Tryd.pinned (OpenSpec.upto deciParsesSpec)

/-- 'talweglaw06.DeciPrints', WHERE WHAT IT READS IS OF BULK AT MOST 1048576: true; the input reads as it did. -/
def deciPrintsUptoRow : OpenClaim := { program := "ytlokidddbkdclaadoor", sum := "a02a4187536c270ca19a31b71ea8ae14a71a110169c0f6f0371162f2e5469365", func := "talweg/talweglaw06.DeciPrints", spec := "deciPrints", inPlace := ["internal/bytealg.IndexByteString", "internal/bytealg.IndexString"], unfollowed := true, recurses := true, named := ["unicode/utf8.first", "unicode/utf8.acceptRanges", "internal/bytealg.MaxLen"], apart := false, laid := [("unicode/utf8.acceptRanges", laid_unicode_utf8_acceptRanges), ("unicode/utf8.first", laid_unicode_utf8_first)], narrowed := true }
def DeciPrintsUptoSaid : Prop := deciPrintsUptoRow.holds Tryd.pinned (OpenSpec.upto deciPrintsSpec)

/-- 'talweglaw06.DeciBack', WHERE WHAT IT READS IS OF BULK AT MOST 1048576: true; the input reads as it did. -/
def deciBackUptoRow : OpenClaim := { program := "ytlokidddbkdclaadoor", sum := "a02a4187536c270ca19a31b71ea8ae14a71a110169c0f6f0371162f2e5469365", func := "talweg/talweglaw06.DeciBack", spec := "deciBack", inPlace := ["internal/bytealg.IndexByteString", "internal/bytealg.IndexString"], unfollowed := true, recurses := true, named := ["unicode/utf8.first", "unicode/utf8.acceptRanges", "internal/bytealg.MaxLen"], apart := false, laid := [("unicode/utf8.acceptRanges", laid_unicode_utf8_acceptRanges), ("unicode/utf8.first", laid_unicode_utf8_first)], narrowed := true }
def DeciBackUptoSaid : Prop := deciBackUptoRow.holds Tryd.pinned (OpenSpec.upto deciBackSpec)

/-- 'talweglaw06.DeciJoins', WHERE WHAT IT READS IS OF BULK AT MOST 1048576: true; the input reads as it did. -/
def deciJoinsUptoRow : OpenClaim := { program := "ytlokidddbkdclaadoor", sum := "a02a4187536c270ca19a31b71ea8ae14a71a110169c0f6f0371162f2e5469365", func := "talweg/talweglaw06.DeciJoins", spec := "deciJoins", inPlace := ["internal/bytealg.IndexByteString", "internal/bytealg.IndexString"], unfollowed := true, recurses := true, named := ["unicode/utf8.first", "unicode/utf8.acceptRanges", "internal/bytealg.MaxLen"], apart := false, laid := [("unicode/utf8.acceptRanges", laid_unicode_utf8_acceptRanges), ("unicode/utf8.first", laid_unicode_utf8_first)], narrowed := true }
def DeciJoinsUptoSaid : Prop := deciJoinsUptoRow.holds Tryd.pinned (OpenSpec.upto deciJoinsSpec)

/-- 'talweglaw06.DeciDigits', WHERE WHAT IT READS IS OF BULK AT MOST 1048576: true; the input reads as it did. -/
def deciDigitsUptoRow : OpenClaim := { program := "ytlokidddbkdclaadoor", sum := "a02a4187536c270ca19a31b71ea8ae14a71a110169c0f6f0371162f2e5469365", func := "talweg/talweglaw06.DeciDigits", spec := "deciDigits", inPlace := ["internal/bytealg.IndexByteString", "internal/bytealg.IndexString"], unfollowed := true, recurses := true, named := ["unicode/utf8.first", "unicode/utf8.acceptRanges", "internal/bytealg.MaxLen"], apart := false, laid := [("unicode/utf8.acceptRanges", laid_unicode_utf8_acceptRanges), ("unicode/utf8.first", laid_unicode_utf8_first)], narrowed := true }
def DeciDigitsUptoSaid : Prop := deciDigitsUptoRow.holds Tryd.pinned (OpenSpec.upto deciDigitsSpec)

/-- 'talweglaw06.DeciLong', WHERE WHAT IT READS IS OF BULK AT MOST 1048576: true; the input reads as it did. -/
def deciLongUptoRow : OpenClaim := { program := "ytlokidddbkdclaadoor", sum := "a02a4187536c270ca19a31b71ea8ae14a71a110169c0f6f0371162f2e5469365", func := "talweg/talweglaw06.DeciLong", spec := "deciLong", inPlace := ["internal/bytealg.IndexByteString", "internal/bytealg.IndexString"], unfollowed := true, recurses := true, named := ["unicode/utf8.first", "unicode/utf8.acceptRanges", "internal/bytealg.MaxLen"], apart := false, laid := [("unicode/utf8.acceptRanges", laid_unicode_utf8_acceptRanges), ("unicode/utf8.first", laid_unicode_utf8_first)], narrowed := true }
def DeciLongUptoSaid : Prop := deciLongUptoRow.holds Tryd.pinned (OpenSpec.upto deciLongSpec)

end Rows
end Go.Proofs.YtlokidddbkdclaaDoor
