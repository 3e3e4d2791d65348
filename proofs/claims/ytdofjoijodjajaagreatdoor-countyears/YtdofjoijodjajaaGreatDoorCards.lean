/-
  DERIVED. GIVEN WITH THE SEED: THE CARDS: each row of YtdofjoijodjajaaGreatDoorRows.lean that lists a variable, with what it lists TIED to the program's text (the seventh form; the later family's looks); each row that meets fmt, with fmt's text TOLD by the authors' own Lean function (tested against real Go, not proved from fmt's source: count such statements apart). THE CARD IS WHAT COUNTS. Prove the row's statement (the work); the ties are given (YtdofjoijodjajaaGreatDoorTie.lean); close each card by the builder's one call (the guide's Derived/Test/ToyasCard.lean, 'card_holds'). Laid BY PROGRAM, IN A SANDBOX (cutbox-door.mjs). By AI agents, Wed Nov 11 2026. No macro, syntax, notation, axiom, sorry.
-/
import Derived.Test.YtdofjoijodjajaaGreatDoorRows
import GoSem.ClaimSeven
namespace Go.Proofs.YtdofjoijodjajaaGreatDoor
namespace Rows

/-- THE TIED CARD OF 'chattellaw11.CountTells'. -/
def countTellsCard : Claim7 := { stood := { row := countTellsRow, standIns := [], harness := (true, "90dcc65ac58d9503c4da4a6045e63608848e44f1d3309b2521a56a4aad975ae1"), looks := false }, kinds := [], alts := [], laidByText := true, laidKinds := [.data, .data, .data, .pinned], laidTests := true, laidLooks := .later }
def CountTellsCardSaid : Prop := Claim7.holds Tryz.pinned (.plain (OpenSpec.ofChange countTellsSpec)) countTellsCard

/-- THE TIED CARD OF 'chattellaw11.CountParts'. -/
def countPartsCard : Claim7 := { stood := { row := countPartsRow, standIns := [], harness := (true, "90dcc65ac58d9503c4da4a6045e63608848e44f1d3309b2521a56a4aad975ae1"), looks := false }, kinds := [], alts := [], laidByText := true, laidKinds := [.data, .data, .data, .pinned], laidTests := true, laidLooks := .later }
def CountPartsCardSaid : Prop := Claim7.holds Tryz.pinned (.plain (OpenSpec.ofChange countPartsSpec)) countPartsCard

/-- THE TIED CARD OF 'chattellaw11.CountYears'. -/
def countYearsCard : Claim7 := { stood := { row := countYearsRow, standIns := [], harness := (true, "90dcc65ac58d9503c4da4a6045e63608848e44f1d3309b2521a56a4aad975ae1"), looks := false }, kinds := [], alts := [], laidByText := true, laidKinds := [.data, .data, .data, .pinned], laidTests := true, laidLooks := .later }
def CountYearsCardSaid : Prop := Claim7.holds Tryz.pinned (.plain (OpenSpec.ofChange countYearsSpec)) countYearsCard

/-- THE SECOND FORM's CARD OF 'chattellaw11.CountTells'. -/
def countTellsUptoCard : Claim7 := { stood := { row := countTellsUptoRow, standIns := [], harness := (true, "90dcc65ac58d9503c4da4a6045e63608848e44f1d3309b2521a56a4aad975ae1"), looks := false }, kinds := [], alts := [], laidByText := true, laidKinds := [.data, .data, .data, .pinned], laidTests := true, laidLooks := .later }
def CountTellsUptoCardSaid : Prop := Claim7.holds Tryz.pinned (.plain (OpenSpec.upto countTellsSpec)) countTellsUptoCard

/-- THE SECOND FORM's CARD OF 'chattellaw11.CountParts'. -/
def countPartsUptoCard : Claim7 := { stood := { row := countPartsUptoRow, standIns := [], harness := (true, "90dcc65ac58d9503c4da4a6045e63608848e44f1d3309b2521a56a4aad975ae1"), looks := false }, kinds := [], alts := [], laidByText := true, laidKinds := [.data, .data, .data, .pinned], laidTests := true, laidLooks := .later }
def CountPartsUptoCardSaid : Prop := Claim7.holds Tryz.pinned (.plain (OpenSpec.upto countPartsSpec)) countPartsUptoCard

/-- THE SECOND FORM's CARD OF 'chattellaw11.CountYears'. -/
def countYearsUptoCard : Claim7 := { stood := { row := countYearsUptoRow, standIns := [], harness := (true, "90dcc65ac58d9503c4da4a6045e63608848e44f1d3309b2521a56a4aad975ae1"), looks := false }, kinds := [], alts := [], laidByText := true, laidKinds := [.data, .data, .data, .pinned], laidTests := true, laidLooks := .later }
def CountYearsUptoCardSaid : Prop := Claim7.holds Tryz.pinned (.plain (OpenSpec.upto countYearsSpec)) countYearsUptoCard
end Rows
end Go.Proofs.YtdofjoijodjajaaGreatDoor
