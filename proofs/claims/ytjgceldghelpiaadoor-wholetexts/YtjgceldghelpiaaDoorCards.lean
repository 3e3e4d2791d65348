/-
  DERIVED. GIVEN WITH THE SEED: THE CARDS: each row of YtjgceldghelpiaaDoorRows.lean that lists a variable, with what it lists TIED to the program's text (the seventh form; the later family's looks); each row that meets fmt, with fmt's text TOLD by the authors' own Lean function (tested against real Go, not proved from fmt's source: count such statements apart). THE CARD IS WHAT COUNTS. Prove the row's statement (the work); the ties are given (YtjgceldghelpiaaDoorTie.lean); close each card by the builder's one call (the guide's Derived/Test/ToyasCard.lean, 'card_holds'). Laid BY PROGRAM, IN A SANDBOX (cutbox-door.mjs). By AI agents, Wed Nov 11 2026. No macro, syntax, notation, axiom, sorry.
-/
import Derived.Test.YtjgceldghelpiaaDoorRows
import GoSem.ClaimSeven
namespace Go.Proofs.YtjgceldghelpiaaDoor
namespace Rows

/-- THE TIED CARD OF 'chattellaw04.WholeSums'. -/
def wholeSumsCard : Claim7 := { stood := { row := wholeSumsRow, standIns := [], harness := (true, "29648619f33febf7b0349ba48e5cbdea2e2f529753c2eac354ce73e536a90eb5"), looks := false }, kinds := [], alts := [], laidByText := true, laidKinds := [.data, .pinned], laidTests := true, laidLooks := .later }
def WholeSumsCardSaid : Prop := Claim7.holds Tryd.pinned (.plain (OpenSpec.ofChange wholeSumsSpec)) wholeSumsCard

/-- THE TIED CARD OF 'chattellaw04.WholeFloors'. -/
def wholeFloorsCard : Claim7 := { stood := { row := wholeFloorsRow, standIns := [], harness := (true, "29648619f33febf7b0349ba48e5cbdea2e2f529753c2eac354ce73e536a90eb5"), looks := false }, kinds := [], alts := [], laidByText := true, laidKinds := [.data, .pinned], laidTests := true, laidLooks := .later }
def WholeFloorsCardSaid : Prop := Claim7.holds Tryd.pinned (.plain (OpenSpec.ofChange wholeFloorsSpec)) wholeFloorsCard

/-- THE TIED CARD OF 'chattellaw04.WholeInts'. -/
def wholeIntsCard : Claim7 := { stood := { row := wholeIntsRow, standIns := [], harness := (true, "29648619f33febf7b0349ba48e5cbdea2e2f529753c2eac354ce73e536a90eb5"), looks := false }, kinds := [], alts := [], laidByText := true, laidKinds := [.data, .pinned], laidTests := true, laidLooks := .later }
def WholeIntsCardSaid : Prop := Claim7.holds Tryd.pinned (.plain (OpenSpec.ofChange wholeIntsSpec)) wholeIntsCard

/-- THE TIED CARD OF 'chattellaw04.WholeTexts'. -/
def wholeTextsCard : Claim7 := { stood := { row := wholeTextsRow, standIns := [], harness := (true, "29648619f33febf7b0349ba48e5cbdea2e2f529753c2eac354ce73e536a90eb5"), looks := false }, kinds := [], alts := [], laidByText := true, laidKinds := [.data, .pinned], laidTests := true, laidLooks := .later }
def WholeTextsCardSaid : Prop := Claim7.holds Tryd.pinned (.plain (OpenSpec.ofChange wholeTextsSpec)) wholeTextsCard

/-- THE TIED CARD OF 'chattellaw04.WholeRules'. -/
def wholeRulesCard : Claim7 := { stood := { row := wholeRulesRow, standIns := [], harness := (true, "29648619f33febf7b0349ba48e5cbdea2e2f529753c2eac354ce73e536a90eb5"), looks := false }, kinds := [], alts := [], laidByText := true, laidKinds := [.data, .pinned], laidTests := true, laidLooks := .later }
def WholeRulesCardSaid : Prop := Claim7.holds Tryd.pinned (.plain (OpenSpec.ofChange wholeRulesSpec)) wholeRulesCard

/-- THE SECOND FORM's CARD OF 'chattellaw04.WholeSums'. -/
def wholeSumsUptoCard : Claim7 := { stood := { row := wholeSumsUptoRow, standIns := [], harness := (true, "29648619f33febf7b0349ba48e5cbdea2e2f529753c2eac354ce73e536a90eb5"), looks := false }, kinds := [], alts := [], laidByText := true, laidKinds := [.data, .pinned], laidTests := true, laidLooks := .later }
def WholeSumsUptoCardSaid : Prop := Claim7.holds Tryd.pinned (.plain (OpenSpec.upto wholeSumsSpec)) wholeSumsUptoCard

/-- THE SECOND FORM's CARD OF 'chattellaw04.WholeFloors'. -/
def wholeFloorsUptoCard : Claim7 := { stood := { row := wholeFloorsUptoRow, standIns := [], harness := (true, "29648619f33febf7b0349ba48e5cbdea2e2f529753c2eac354ce73e536a90eb5"), looks := false }, kinds := [], alts := [], laidByText := true, laidKinds := [.data, .pinned], laidTests := true, laidLooks := .later }
def WholeFloorsUptoCardSaid : Prop := Claim7.holds Tryd.pinned (.plain (OpenSpec.upto wholeFloorsSpec)) wholeFloorsUptoCard

/-- THE SECOND FORM's CARD OF 'chattellaw04.WholeInts'. -/
def wholeIntsUptoCard : Claim7 := { stood := { row := wholeIntsUptoRow, standIns := [], harness := (true, "29648619f33febf7b0349ba48e5cbdea2e2f529753c2eac354ce73e536a90eb5"), looks := false }, kinds := [], alts := [], laidByText := true, laidKinds := [.data, .pinned], laidTests := true, laidLooks := .later }
def WholeIntsUptoCardSaid : Prop := Claim7.holds Tryd.pinned (.plain (OpenSpec.upto wholeIntsSpec)) wholeIntsUptoCard

/-- THE SECOND FORM's CARD OF 'chattellaw04.WholeTexts'. -/
def wholeTextsUptoCard : Claim7 := { stood := { row := wholeTextsUptoRow, standIns := [], harness := (true, "29648619f33febf7b0349ba48e5cbdea2e2f529753c2eac354ce73e536a90eb5"), looks := false }, kinds := [], alts := [], laidByText := true, laidKinds := [.data, .pinned], laidTests := true, laidLooks := .later }
def WholeTextsUptoCardSaid : Prop := Claim7.holds Tryd.pinned (.plain (OpenSpec.upto wholeTextsSpec)) wholeTextsUptoCard

/-- THE SECOND FORM's CARD OF 'chattellaw04.WholeRules'. -/
def wholeRulesUptoCard : Claim7 := { stood := { row := wholeRulesUptoRow, standIns := [], harness := (true, "29648619f33febf7b0349ba48e5cbdea2e2f529753c2eac354ce73e536a90eb5"), looks := false }, kinds := [], alts := [], laidByText := true, laidKinds := [.data, .pinned], laidTests := true, laidLooks := .later }
def WholeRulesUptoCardSaid : Prop := Claim7.holds Tryd.pinned (.plain (OpenSpec.upto wholeRulesSpec)) wholeRulesUptoCard
end Rows
end Go.Proofs.YtjgceldghelpiaaDoor
