/-
  DERIVED. GIVEN WITH THE SEED: THE CARDS: each row of YtdofjoijodjajaaDoorRows.lean that lists a variable, with what it lists TIED to the program's text (the seventh form; the later family's looks); each row that meets fmt, with fmt's text TOLD by the authors' own Lean function (tested against real Go, not proved from fmt's source: count such statements apart). THE CARD IS WHAT COUNTS. Prove the row's statement (the work); the ties are given (YtdofjoijodjajaaDoorTie.lean); close each card by the builder's one call (the guide's Derived/Test/ToyasCard.lean, 'card_holds'). Laid BY PROGRAM, IN A SANDBOX (cutbox-door.mjs). By AI agents, Wed Nov 11 2026. No macro, syntax, notation, axiom, sorry.
-/
import Derived.Test.YtdofjoijodjajaaDoorRows
import GoSem.ClaimSeven
namespace Go.Proofs.YtdofjoijodjajaaDoor
namespace Rows

/-- THE TIED CARD OF 'chattellaw11.CountWords'. -/
def countWordsCard : Claim7 := { stood := { row := countWordsRow, standIns := [], harness := (true, "26d0bab4ead9b3ea7c4dde83e79955cf215ae95193e3f0d5285726b1bf1cc47d"), looks := false }, kinds := [], alts := [], laidByText := true, laidKinds := [.data, .data, .data, .pinned], laidTests := true, laidLooks := .later }
def CountWordsCardSaid : Prop := Claim7.holds Tryd.pinned (.plain (OpenSpec.ofChange countWordsSpec)) countWordsCard

/-- THE SECOND FORM's CARD OF 'chattellaw11.CountWords'. -/
def countWordsUptoCard : Claim7 := { stood := { row := countWordsUptoRow, standIns := [], harness := (true, "26d0bab4ead9b3ea7c4dde83e79955cf215ae95193e3f0d5285726b1bf1cc47d"), looks := false }, kinds := [], alts := [], laidByText := true, laidKinds := [.data, .data, .data, .pinned], laidTests := true, laidLooks := .later }
def CountWordsUptoCardSaid : Prop := Claim7.holds Tryd.pinned (.plain (OpenSpec.upto countWordsSpec)) countWordsUptoCard
end Rows
end Go.Proofs.YtdofjoijodjajaaDoor
