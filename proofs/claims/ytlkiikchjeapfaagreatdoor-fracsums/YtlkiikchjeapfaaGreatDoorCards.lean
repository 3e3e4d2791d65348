/-
  DERIVED. GIVEN WITH THE SEED: THE CARDS: each row of YtlkiikchjeapfaaGreatDoorRows.lean that lists a variable, with what it lists TIED to the program's text (the seventh form; the later family's looks); each row that meets fmt, with fmt's text TOLD by the authors' own Lean function (tested against real Go, not proved from fmt's source: count such statements apart). THE CARD IS WHAT COUNTS. Prove the row's statement (the work); the ties are given (YtlkiikchjeapfaaGreatDoorTie.lean); close each card by the builder's one call (the guide's Derived/Test/ToyasCard.lean, 'card_holds'). Laid BY PROGRAM, IN A SANDBOX (cutbox-door.mjs). By AI agents, Wed Nov 11 2026. No macro, syntax, notation, axiom, sorry.
-/
import Derived.Test.YtlkiikchjeapfaaGreatDoorRows
import GoSem.ClaimSeven
namespace Go.Proofs.YtlkiikchjeapfaaGreatDoor
namespace Rows

/-- THE TIED CARD OF 'chattellaw05.FracSums'. -/
def fracSumsCard : Claim7 := { stood := { row := fracSumsRow, standIns := [], harness := (true, "4c0f55c4acfb10aa11d5d48a2491d22619863af6443b973a4fe80c30aa9626b9"), looks := false }, kinds := [], alts := [], laidByText := true, laidKinds := [.data, .pinned], laidTests := true, laidLooks := .later }
def FracSumsCardSaid : Prop := Claim7.holds Tryz.pinned (.plain (OpenSpec.ofChange fracSumsSpec)) fracSumsCard

/-- THE TIED CARD OF 'chattellaw05.FracLowest'. -/
def fracLowestCard : Claim7 := { stood := { row := fracLowestRow, standIns := [], harness := (true, "4c0f55c4acfb10aa11d5d48a2491d22619863af6443b973a4fe80c30aa9626b9"), looks := false }, kinds := [], alts := [], laidByText := true, laidKinds := [.data, .pinned], laidTests := true, laidLooks := .later }
def FracLowestCardSaid : Prop := Claim7.holds Tryz.pinned (.plain (OpenSpec.ofChange fracLowestSpec)) fracLowestCard

/-- THE SECOND FORM's CARD OF 'chattellaw05.FracSums'. -/
def fracSumsUptoCard : Claim7 := { stood := { row := fracSumsUptoRow, standIns := [], harness := (true, "4c0f55c4acfb10aa11d5d48a2491d22619863af6443b973a4fe80c30aa9626b9"), looks := false }, kinds := [], alts := [], laidByText := true, laidKinds := [.data, .pinned], laidTests := true, laidLooks := .later }
def FracSumsUptoCardSaid : Prop := Claim7.holds Tryz.pinned (.plain (OpenSpec.upto fracSumsSpec)) fracSumsUptoCard

/-- THE SECOND FORM's CARD OF 'chattellaw05.FracLowest'. -/
def fracLowestUptoCard : Claim7 := { stood := { row := fracLowestUptoRow, standIns := [], harness := (true, "4c0f55c4acfb10aa11d5d48a2491d22619863af6443b973a4fe80c30aa9626b9"), looks := false }, kinds := [], alts := [], laidByText := true, laidKinds := [.data, .pinned], laidTests := true, laidLooks := .later }
def FracLowestUptoCardSaid : Prop := Claim7.holds Tryz.pinned (.plain (OpenSpec.upto fracLowestSpec)) fracLowestUptoCard
end Rows
end Go.Proofs.YtlkiikchjeapfaaGreatDoor
