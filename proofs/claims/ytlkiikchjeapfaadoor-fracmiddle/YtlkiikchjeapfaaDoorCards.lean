/-
  DERIVED. GIVEN WITH THE SEED: THE CARDS: each row of YtlkiikchjeapfaaDoorRows.lean that lists a variable, with what it lists TIED to the program's text (the seventh form; the later family's looks); each row that meets fmt, with fmt's text TOLD by the authors' own Lean function (tested against real Go, not proved from fmt's source: count such statements apart). THE CARD IS WHAT COUNTS. Prove the row's statement (the work); the ties are given (YtlkiikchjeapfaaDoorTie.lean); close each card by the builder's one call (the guide's Derived/Test/ToyasCard.lean, 'card_holds'). Laid BY PROGRAM, IN A SANDBOX (cutbox-door.mjs). By AI agents, Wed Nov 11 2026. No macro, syntax, notation, axiom, sorry.
-/
import Derived.Test.YtlkiikchjeapfaaDoorRows
import GoSem.ClaimSeven
namespace Go.Proofs.YtlkiikchjeapfaaDoor
namespace Rows

/-- THE TIED CARD OF 'chattellaw05.FracRules'. -/
def fracRulesCard : Claim7 := { stood := { row := fracRulesRow, standIns := [], harness := (true, "2bed7769bd87531803e4f3fb5e0658d654bcb5fa54bde11d08c0aa50d34b882a"), looks := false }, kinds := [], alts := [], laidByText := true, laidKinds := [.data, .pinned], laidTests := true, laidLooks := .later }
def FracRulesCardSaid : Prop := Claim7.holds Tryd.pinned (.plain (OpenSpec.ofChange fracRulesSpec)) fracRulesCard

/-- THE TIED CARD OF 'chattellaw05.FracFloors'. -/
def fracFloorsCard : Claim7 := { stood := { row := fracFloorsRow, standIns := [], harness := (true, "2bed7769bd87531803e4f3fb5e0658d654bcb5fa54bde11d08c0aa50d34b882a"), looks := false }, kinds := [], alts := [], laidByText := true, laidKinds := [.data, .pinned], laidTests := true, laidLooks := .later }
def FracFloorsCardSaid : Prop := Claim7.holds Tryd.pinned (.plain (OpenSpec.ofChange fracFloorsSpec)) fracFloorsCard

/-- THE TIED CARD OF 'chattellaw05.FracMiddle'. -/
def fracMiddleCard : Claim7 := { stood := { row := fracMiddleRow, standIns := [], harness := (true, "2bed7769bd87531803e4f3fb5e0658d654bcb5fa54bde11d08c0aa50d34b882a"), looks := false }, kinds := [], alts := [], laidByText := true, laidKinds := [.data, .pinned], laidTests := true, laidLooks := .later }
def FracMiddleCardSaid : Prop := Claim7.holds Tryd.pinned (.plain (OpenSpec.ofChange fracMiddleSpec)) fracMiddleCard

/-- THE SECOND FORM's CARD OF 'chattellaw05.FracRules'. -/
def fracRulesUptoCard : Claim7 := { stood := { row := fracRulesUptoRow, standIns := [], harness := (true, "2bed7769bd87531803e4f3fb5e0658d654bcb5fa54bde11d08c0aa50d34b882a"), looks := false }, kinds := [], alts := [], laidByText := true, laidKinds := [.data, .pinned], laidTests := true, laidLooks := .later }
def FracRulesUptoCardSaid : Prop := Claim7.holds Tryd.pinned (.plain (OpenSpec.upto fracRulesSpec)) fracRulesUptoCard

/-- THE SECOND FORM's CARD OF 'chattellaw05.FracFloors'. -/
def fracFloorsUptoCard : Claim7 := { stood := { row := fracFloorsUptoRow, standIns := [], harness := (true, "2bed7769bd87531803e4f3fb5e0658d654bcb5fa54bde11d08c0aa50d34b882a"), looks := false }, kinds := [], alts := [], laidByText := true, laidKinds := [.data, .pinned], laidTests := true, laidLooks := .later }
def FracFloorsUptoCardSaid : Prop := Claim7.holds Tryd.pinned (.plain (OpenSpec.upto fracFloorsSpec)) fracFloorsUptoCard

/-- THE SECOND FORM's CARD OF 'chattellaw05.FracMiddle'. -/
def fracMiddleUptoCard : Claim7 := { stood := { row := fracMiddleUptoRow, standIns := [], harness := (true, "2bed7769bd87531803e4f3fb5e0658d654bcb5fa54bde11d08c0aa50d34b882a"), looks := false }, kinds := [], alts := [], laidByText := true, laidKinds := [.data, .pinned], laidTests := true, laidLooks := .later }
def FracMiddleUptoCardSaid : Prop := Claim7.holds Tryd.pinned (.plain (OpenSpec.upto fracMiddleSpec)) fracMiddleUptoCard
end Rows
end Go.Proofs.YtlkiikchjeapfaaDoor
