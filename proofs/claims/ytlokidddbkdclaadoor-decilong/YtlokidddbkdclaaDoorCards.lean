/-
  DERIVED. GIVEN WITH THE SEED: THE CARDS: each row of YtlokidddbkdclaaDoorRows.lean that lists a variable, with what it lists TIED to the program's text (the seventh form; the later family's looks); each row that meets fmt, with fmt's text TOLD by the authors' own Lean function (tested against real Go, not proved from fmt's source: count such statements apart). THE CARD IS WHAT COUNTS. Prove the row's statement (the work); the ties are given (YtlokidddbkdclaaDoorTie.lean); close each card by the builder's one call (the guide's Derived/Test/ToyasCard.lean, 'card_holds'). Laid BY PROGRAM, IN A SANDBOX (cutbox-door.mjs). By AI agents, Wed Nov 11 2026. No macro, syntax, notation, axiom, sorry.
-/
import Derived.Test.YtlokidddbkdclaaDoorRows
import GoSem.ClaimSeven
namespace Go.Proofs.YtlokidddbkdclaaDoor
namespace Rows

/-- THE TIED CARD OF 'talweglaw06.DeciParses'. -/
def deciParsesCard : Claim7 := { stood := { row := deciParsesRow, standIns := [], harness := (true, "e582b6ccafee4e5c45390b6621c71ea6f8d9fb384ea3142e3cffa63e280ed560"), looks := false }, kinds := [], alts := [], laidByText := true, laidKinds := [.data, .pinned], laidTests := true, laidLooks := .later }
def DeciParsesCardSaid : Prop := Claim7.holds Tryd.pinned (.plain (OpenSpec.ofChange deciParsesSpec)) deciParsesCard

/-- THE TIED CARD OF 'talweglaw06.DeciPrints'. -/
def deciPrintsCard : Claim7 := { stood := { row := deciPrintsRow, standIns := [], harness := (true, "e582b6ccafee4e5c45390b6621c71ea6f8d9fb384ea3142e3cffa63e280ed560"), looks := false }, kinds := [], alts := [], laidByText := true, laidKinds := [.data, .pinned], laidTests := true, laidLooks := .later }
def DeciPrintsCardSaid : Prop := Claim7.holds Tryd.pinned (.plain (OpenSpec.ofChange deciPrintsSpec)) deciPrintsCard

/-- THE TIED CARD OF 'talweglaw06.DeciBack'. -/
def deciBackCard : Claim7 := { stood := { row := deciBackRow, standIns := [], harness := (true, "e582b6ccafee4e5c45390b6621c71ea6f8d9fb384ea3142e3cffa63e280ed560"), looks := false }, kinds := [], alts := [], laidByText := true, laidKinds := [.data, .pinned], laidTests := true, laidLooks := .later }
def DeciBackCardSaid : Prop := Claim7.holds Tryd.pinned (.plain (OpenSpec.ofChange deciBackSpec)) deciBackCard

/-- THE TIED CARD OF 'talweglaw06.DeciJoins'. -/
def deciJoinsCard : Claim7 := { stood := { row := deciJoinsRow, standIns := [], harness := (true, "e582b6ccafee4e5c45390b6621c71ea6f8d9fb384ea3142e3cffa63e280ed560"), looks := false }, kinds := [], alts := [], laidByText := true, laidKinds := [.data, .pinned], laidTests := true, laidLooks := .later }
def DeciJoinsCardSaid : Prop := Claim7.holds Tryd.pinned (.plain (OpenSpec.ofChange deciJoinsSpec)) deciJoinsCard

/-- THE TIED CARD OF 'talweglaw06.DeciDigits'. -/
def deciDigitsCard : Claim7 := { stood := { row := deciDigitsRow, standIns := [], harness := (true, "e582b6ccafee4e5c45390b6621c71ea6f8d9fb384ea3142e3cffa63e280ed560"), looks := false }, kinds := [], alts := [], laidByText := true, laidKinds := [.data, .pinned], laidTests := true, laidLooks := .later }
def DeciDigitsCardSaid : Prop := Claim7.holds Tryd.pinned (.plain (OpenSpec.ofChange deciDigitsSpec)) deciDigitsCard

/-- THE TIED CARD OF 'talweglaw06.DeciLong'. -/
def deciLongCard : Claim7 := { stood := { row := deciLongRow, standIns := [], harness := (true, "e582b6ccafee4e5c45390b6621c71ea6f8d9fb384ea3142e3cffa63e280ed560"), looks := false }, kinds := [], alts := [], laidByText := true, laidKinds := [.data, .pinned], laidTests := true, laidLooks := .later }
def DeciLongCardSaid : Prop := Claim7.holds Tryd.pinned (.plain (OpenSpec.ofChange deciLongSpec)) deciLongCard

/-- THE SECOND FORM's CARD OF 'talweglaw06.DeciParses'. -/
def deciParsesUptoCard : Claim7 := { stood := { row := deciParsesUptoRow, standIns := [], harness := (true, "e582b6ccafee4e5c45390b6621c71ea6f8d9fb384ea3142e3cffa63e280ed560"), looks := false }, kinds := [], alts := [], laidByText := true, laidKinds := [.data, .pinned], laidTests := true, laidLooks := .later }
def DeciParsesUptoCardSaid : Prop := Claim7.holds Tryd.pinned (.plain (OpenSpec.upto deciParsesSpec)) deciParsesUptoCard

/-- THE SECOND FORM's CARD OF 'talweglaw06.DeciPrints'. -/
def deciPrintsUptoCard : Claim7 := { stood := { row := deciPrintsUptoRow, standIns := [], harness := (true, "e582b6ccafee4e5c45390b6621c71ea6f8d9fb384ea3142e3cffa63e280ed560"), looks := false }, kinds := [], alts := [], laidByText := true, laidKinds := [.data, .pinned], laidTests := true, laidLooks := .later }
def DeciPrintsUptoCardSaid : Prop := Claim7.holds Tryd.pinned (.plain (OpenSpec.upto deciPrintsSpec)) deciPrintsUptoCard

/-- THE SECOND FORM's CARD OF 'talweglaw06.DeciBack'. -/
def deciBackUptoCard : Claim7 := { stood := { row := deciBackUptoRow, standIns := [], harness := (true, "e582b6ccafee4e5c45390b6621c71ea6f8d9fb384ea3142e3cffa63e280ed560"), looks := false }, kinds := [], alts := [], laidByText := true, laidKinds := [.data, .pinned], laidTests := true, laidLooks := .later }
def DeciBackUptoCardSaid : Prop := Claim7.holds Tryd.pinned (.plain (OpenSpec.upto deciBackSpec)) deciBackUptoCard

/-- THE SECOND FORM's CARD OF 'talweglaw06.DeciJoins'. -/
def deciJoinsUptoCard : Claim7 := { stood := { row := deciJoinsUptoRow, standIns := [], harness := (true, "e582b6ccafee4e5c45390b6621c71ea6f8d9fb384ea3142e3cffa63e280ed560"), looks := false }, kinds := [], alts := [], laidByText := true, laidKinds := [.data, .pinned], laidTests := true, laidLooks := .later }
def DeciJoinsUptoCardSaid : Prop := Claim7.holds Tryd.pinned (.plain (OpenSpec.upto deciJoinsSpec)) deciJoinsUptoCard

/-- THE SECOND FORM's CARD OF 'talweglaw06.DeciDigits'. -/
def deciDigitsUptoCard : Claim7 := { stood := { row := deciDigitsUptoRow, standIns := [], harness := (true, "e582b6ccafee4e5c45390b6621c71ea6f8d9fb384ea3142e3cffa63e280ed560"), looks := false }, kinds := [], alts := [], laidByText := true, laidKinds := [.data, .pinned], laidTests := true, laidLooks := .later }
def DeciDigitsUptoCardSaid : Prop := Claim7.holds Tryd.pinned (.plain (OpenSpec.upto deciDigitsSpec)) deciDigitsUptoCard

/-- THE SECOND FORM's CARD OF 'talweglaw06.DeciLong'. -/
def deciLongUptoCard : Claim7 := { stood := { row := deciLongUptoRow, standIns := [], harness := (true, "e582b6ccafee4e5c45390b6621c71ea6f8d9fb384ea3142e3cffa63e280ed560"), looks := false }, kinds := [], alts := [], laidByText := true, laidKinds := [.data, .pinned], laidTests := true, laidLooks := .later }
def DeciLongUptoCardSaid : Prop := Claim7.holds Tryd.pinned (.plain (OpenSpec.upto deciLongSpec)) deciLongUptoCard
end Rows
end Go.Proofs.YtlokidddbkdclaaDoor
