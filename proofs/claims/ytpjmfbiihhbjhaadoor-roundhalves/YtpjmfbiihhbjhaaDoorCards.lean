/-
  DERIVED. GIVEN WITH THE SEED: THE CARDS: each row of YtpjmfbiihhbjhaaDoorRows.lean that lists a variable, with what it lists TIED to the program's text (the seventh form; the later family's looks); each row that meets fmt, with fmt's text TOLD by the authors' own Lean function (tested against real Go, not proved from fmt's source: count such statements apart). THE CARD IS WHAT COUNTS. Prove the row's statement (the work); the ties are given (YtpjmfbiihhbjhaaDoorTie.lean); close each card by the builder's one call (the guide's Derived/Test/ToyasCard.lean, 'card_holds'). Laid BY PROGRAM, IN A SANDBOX (cutbox-door.mjs). By AI agents, Wed Nov 11 2026. No macro, syntax, notation, axiom, sorry.
-/
import Derived.Test.YtpjmfbiihhbjhaaDoorRows
import GoSem.ClaimSeven
namespace Go.Proofs.YtpjmfbiihhbjhaaDoor
namespace Rows

/-- THE TIED CARD OF 'chattellaw06.RoundHalves'. -/
def roundHalvesCard : Claim7 := { stood := { row := roundHalvesRow, standIns := [], harness := (true, "7d69942dce206ce4105c2064cc1e492d5cf9cb98ae840e719d1d8af3b31b4352"), looks := false }, kinds := [], alts := [], laidByText := true, laidKinds := [.data, .data, .pinned], laidTests := true, laidLooks := .later }
def RoundHalvesCardSaid : Prop := Claim7.holds Tryd.pinned (.plain (OpenSpec.ofChange roundHalvesSpec)) roundHalvesCard

/-- THE TIED CARD OF 'chattellaw06.RoundWords'. -/
def roundWordsCard : Claim7 := { stood := { row := roundWordsRow, standIns := [], harness := (true, "7d69942dce206ce4105c2064cc1e492d5cf9cb98ae840e719d1d8af3b31b4352"), looks := false }, kinds := [], alts := [], laidByText := true, laidKinds := [.data, .data, .pinned], laidTests := true, laidLooks := .later }
def RoundWordsCardSaid : Prop := Claim7.holds Tryd.pinned (.plain (OpenSpec.ofChange roundWordsSpec)) roundWordsCard

/-- THE SECOND FORM's CARD OF 'chattellaw06.RoundHalves'. -/
def roundHalvesUptoCard : Claim7 := { stood := { row := roundHalvesUptoRow, standIns := [], harness := (true, "7d69942dce206ce4105c2064cc1e492d5cf9cb98ae840e719d1d8af3b31b4352"), looks := false }, kinds := [], alts := [], laidByText := true, laidKinds := [.data, .data, .pinned], laidTests := true, laidLooks := .later }
def RoundHalvesUptoCardSaid : Prop := Claim7.holds Tryd.pinned (.plain (OpenSpec.upto roundHalvesSpec)) roundHalvesUptoCard

/-- THE SECOND FORM's CARD OF 'chattellaw06.RoundWords'. -/
def roundWordsUptoCard : Claim7 := { stood := { row := roundWordsUptoRow, standIns := [], harness := (true, "7d69942dce206ce4105c2064cc1e492d5cf9cb98ae840e719d1d8af3b31b4352"), looks := false }, kinds := [], alts := [], laidByText := true, laidKinds := [.data, .data, .pinned], laidTests := true, laidLooks := .later }
def RoundWordsUptoCardSaid : Prop := Claim7.holds Tryd.pinned (.plain (OpenSpec.upto roundWordsSpec)) roundWordsUptoCard
end Rows
end Go.Proofs.YtpjmfbiihhbjhaaDoor
