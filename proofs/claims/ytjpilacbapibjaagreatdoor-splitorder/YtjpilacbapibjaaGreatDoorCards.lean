/-
  DERIVED. GIVEN WITH THE SEED: THE CARDS: each row of YtjpilacbapibjaaGreatDoorRows.lean that lists a variable, with what it lists TIED to the program's text (the seventh form; the later family's looks); each row that meets fmt, with fmt's text TOLD by the authors' own Lean function (tested against real Go, not proved from fmt's source: count such statements apart). THE CARD IS WHAT COUNTS. Prove the row's statement (the work); the ties are given (YtjpilacbapibjaaGreatDoorTie.lean); close each card by the builder's one call (the guide's Derived/Test/ToyasCard.lean, 'card_holds'). Laid BY PROGRAM, IN A SANDBOX (cutbox-door.mjs). By AI agents, Wed Nov 11 2026. No macro, syntax, notation, axiom, sorry.
-/
import Derived.Test.YtjpilacbapibjaaGreatDoorRows
import GoSem.ClaimSeven
namespace Go.Proofs.YtjpilacbapibjaaGreatDoor
namespace Rows

/-- THE TIED CARD OF 'chattellaw12.SplitTells'. -/
def splitTellsCard : Claim7 := { stood := { row := splitTellsRow, standIns := [], harness := (true, "e5dcb1ad1ed442af4d330c212e0e70b7b5598dcb7b7f90e3a9f9292f2a828aa1"), looks := false }, kinds := [], alts := [], laidByText := true, laidKinds := [.data, .data, .pinned], laidTests := true, laidLooks := .later }
def SplitTellsCardSaid : Prop := Claim7.holds Tryz.pinned (.plain (OpenSpec.ofChange splitTellsSpec)) splitTellsCard

/-- THE TIED CARD OF 'chattellaw12.SplitSums'. -/
def splitSumsCard : Claim7 := { stood := { row := splitSumsRow, standIns := [], harness := (true, "e5dcb1ad1ed442af4d330c212e0e70b7b5598dcb7b7f90e3a9f9292f2a828aa1"), looks := false }, kinds := [], alts := [], laidByText := true, laidKinds := [.data, .data, .pinned], laidTests := true, laidLooks := .later }
def SplitSumsCardSaid : Prop := Claim7.holds Tryz.pinned (.plain (OpenSpec.ofChange splitSumsSpec)) splitSumsCard

/-- THE TIED CARD OF 'chattellaw12.SplitWhole'. -/
def splitWholeCard : Claim7 := { stood := { row := splitWholeRow, standIns := [], harness := (true, "e5dcb1ad1ed442af4d330c212e0e70b7b5598dcb7b7f90e3a9f9292f2a828aa1"), looks := false }, kinds := [], alts := [], laidByText := true, laidKinds := [.data, .data, .pinned], laidTests := true, laidLooks := .later }
def SplitWholeCardSaid : Prop := Claim7.holds Tryz.pinned (.plain (OpenSpec.ofChange splitWholeSpec)) splitWholeCard

/-- THE TIED CARD OF 'chattellaw12.SplitRefuses'. -/
def splitRefusesCard : Claim7 := { stood := { row := splitRefusesRow, standIns := [], harness := (true, "e5dcb1ad1ed442af4d330c212e0e70b7b5598dcb7b7f90e3a9f9292f2a828aa1"), looks := false }, kinds := [], alts := [], laidByText := true, laidKinds := [.data, .data, .pinned], laidTests := true, laidLooks := .later }
def SplitRefusesCardSaid : Prop := Claim7.holds Tryz.pinned (.plain (OpenSpec.ofChange splitRefusesSpec)) splitRefusesCard

/-- THE TIED CARD OF 'chattellaw12.SplitOrder'. -/
def splitOrderCard : Claim7 := { stood := { row := splitOrderRow, standIns := [], harness := (true, "e5dcb1ad1ed442af4d330c212e0e70b7b5598dcb7b7f90e3a9f9292f2a828aa1"), looks := false }, kinds := [], alts := [], laidByText := true, laidKinds := [.data, .data, .pinned], laidTests := true, laidLooks := .later }
def SplitOrderCardSaid : Prop := Claim7.holds Tryz.pinned (.plain (OpenSpec.ofChange splitOrderSpec)) splitOrderCard

/-- THE SECOND FORM's CARD OF 'chattellaw12.SplitTells'. -/
def splitTellsUptoCard : Claim7 := { stood := { row := splitTellsUptoRow, standIns := [], harness := (true, "e5dcb1ad1ed442af4d330c212e0e70b7b5598dcb7b7f90e3a9f9292f2a828aa1"), looks := false }, kinds := [], alts := [], laidByText := true, laidKinds := [.data, .data, .pinned], laidTests := true, laidLooks := .later }
def SplitTellsUptoCardSaid : Prop := Claim7.holds Tryz.pinned (.plain (OpenSpec.upto splitTellsSpec)) splitTellsUptoCard

/-- THE SECOND FORM's CARD OF 'chattellaw12.SplitSums'. -/
def splitSumsUptoCard : Claim7 := { stood := { row := splitSumsUptoRow, standIns := [], harness := (true, "e5dcb1ad1ed442af4d330c212e0e70b7b5598dcb7b7f90e3a9f9292f2a828aa1"), looks := false }, kinds := [], alts := [], laidByText := true, laidKinds := [.data, .data, .pinned], laidTests := true, laidLooks := .later }
def SplitSumsUptoCardSaid : Prop := Claim7.holds Tryz.pinned (.plain (OpenSpec.upto splitSumsSpec)) splitSumsUptoCard

/-- THE SECOND FORM's CARD OF 'chattellaw12.SplitWhole'. -/
def splitWholeUptoCard : Claim7 := { stood := { row := splitWholeUptoRow, standIns := [], harness := (true, "e5dcb1ad1ed442af4d330c212e0e70b7b5598dcb7b7f90e3a9f9292f2a828aa1"), looks := false }, kinds := [], alts := [], laidByText := true, laidKinds := [.data, .data, .pinned], laidTests := true, laidLooks := .later }
def SplitWholeUptoCardSaid : Prop := Claim7.holds Tryz.pinned (.plain (OpenSpec.upto splitWholeSpec)) splitWholeUptoCard

/-- THE SECOND FORM's CARD OF 'chattellaw12.SplitRefuses'. -/
def splitRefusesUptoCard : Claim7 := { stood := { row := splitRefusesUptoRow, standIns := [], harness := (true, "e5dcb1ad1ed442af4d330c212e0e70b7b5598dcb7b7f90e3a9f9292f2a828aa1"), looks := false }, kinds := [], alts := [], laidByText := true, laidKinds := [.data, .data, .pinned], laidTests := true, laidLooks := .later }
def SplitRefusesUptoCardSaid : Prop := Claim7.holds Tryz.pinned (.plain (OpenSpec.upto splitRefusesSpec)) splitRefusesUptoCard

/-- THE SECOND FORM's CARD OF 'chattellaw12.SplitOrder'. -/
def splitOrderUptoCard : Claim7 := { stood := { row := splitOrderUptoRow, standIns := [], harness := (true, "e5dcb1ad1ed442af4d330c212e0e70b7b5598dcb7b7f90e3a9f9292f2a828aa1"), looks := false }, kinds := [], alts := [], laidByText := true, laidKinds := [.data, .data, .pinned], laidTests := true, laidLooks := .later }
def SplitOrderUptoCardSaid : Prop := Claim7.holds Tryz.pinned (.plain (OpenSpec.upto splitOrderSpec)) splitOrderUptoCard
end Rows
end Go.Proofs.YtjpilacbapibjaaGreatDoor
