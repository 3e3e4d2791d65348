/-
  DERIVED. GIVEN WITH THE SEED: THE CARDS: each row of YthebilnlljkfeaaGreatDoorRows.lean that lists a variable, with what it lists TIED to the program's text (the seventh form; the later family's looks); each row that meets fmt, with fmt's text TOLD by the authors' own Lean function (tested against real Go, not proved from fmt's source: count such statements apart). THE CARD IS WHAT COUNTS. Prove the row's statement (the work); the ties are given (YthebilnlljkfeaaGreatDoorTie.lean); close each card by the builder's one call (the guide's Derived/Test/ToyasCard.lean, 'card_holds'). Laid BY PROGRAM, IN A SANDBOX (cutbox-door.mjs). By AI agents, Wed Nov 11 2026. No macro, syntax, notation, axiom, sorry.
-/
import Derived.Test.YthebilnlljkfeaaGreatDoorRows
import GoSem.ClaimSeven
namespace Go.Proofs.YthebilnlljkfeaaGreatDoor
namespace Rows

/-- THE TIED CARD OF 'chattellaw13.PowerTells'. -/
def powerTellsCard : Claim7 := { stood := { row := powerTellsRow, standIns := [], harness := (true, "8096641c789cb5c1cd110588deedcc13ffc71740cd967b7bdac8b51fd4925c86"), looks := false }, kinds := [], alts := [], laidByText := true, laidKinds := [.data, .pinned], laidTests := true, laidLooks := .later }
def PowerTellsCardSaid : Prop := Claim7.holds Tryz.pinned (.plain (OpenSpec.ofChange powerTellsSpec)) powerTellsCard

/-- THE TIED CARD OF 'chattellaw13.PowerLevels'. -/
def powerLevelsCard : Claim7 := { stood := { row := powerLevelsRow, standIns := [], harness := (true, "8096641c789cb5c1cd110588deedcc13ffc71740cd967b7bdac8b51fd4925c86"), looks := false }, kinds := [], alts := [], laidByText := true, laidKinds := [.data, .pinned], laidTests := true, laidLooks := .later }
def PowerLevelsCardSaid : Prop := Claim7.holds Tryz.pinned (.plain (OpenSpec.ofChange powerLevelsSpec)) powerLevelsCard

/-- THE TIED CARD OF 'chattellaw13.PowerPays'. -/
def powerPaysCard : Claim7 := { stood := { row := powerPaysRow, standIns := [], harness := (true, "8096641c789cb5c1cd110588deedcc13ffc71740cd967b7bdac8b51fd4925c86"), looks := false }, kinds := [], alts := [], laidByText := true, laidKinds := [.data, .pinned], laidTests := true, laidLooks := .later }
def PowerPaysCardSaid : Prop := Claim7.holds Tryz.pinned (.plain (OpenSpec.ofChange powerPaysSpec)) powerPaysCard

/-- THE TIED CARD OF 'chattellaw13.PowerPolys'. -/
def powerPolysCard : Claim7 := { stood := { row := powerPolysRow, standIns := [], harness := (true, "8096641c789cb5c1cd110588deedcc13ffc71740cd967b7bdac8b51fd4925c86"), looks := false }, kinds := [], alts := [], laidByText := true, laidKinds := [.data, .pinned], laidTests := true, laidLooks := .later }
def PowerPolysCardSaid : Prop := Claim7.holds Tryz.pinned (.plain (OpenSpec.ofChange powerPolysSpec)) powerPolysCard

/-- THE TIED CARD OF 'chattellaw13.PowerAdds'. -/
def powerAddsCard : Claim7 := { stood := { row := powerAddsRow, standIns := [], harness := (true, "8096641c789cb5c1cd110588deedcc13ffc71740cd967b7bdac8b51fd4925c86"), looks := false }, kinds := [], alts := [], laidByText := true, laidKinds := [.data, .pinned], laidTests := true, laidLooks := .later }
def PowerAddsCardSaid : Prop := Claim7.holds Tryz.pinned (.plain (OpenSpec.ofChange powerAddsSpec)) powerAddsCard

/-- THE SECOND FORM's CARD OF 'chattellaw13.PowerTells'. -/
def powerTellsUptoCard : Claim7 := { stood := { row := powerTellsUptoRow, standIns := [], harness := (true, "8096641c789cb5c1cd110588deedcc13ffc71740cd967b7bdac8b51fd4925c86"), looks := false }, kinds := [], alts := [], laidByText := true, laidKinds := [.data, .pinned], laidTests := true, laidLooks := .later }
def PowerTellsUptoCardSaid : Prop := Claim7.holds Tryz.pinned (.plain (OpenSpec.upto powerTellsSpec)) powerTellsUptoCard

/-- THE SECOND FORM's CARD OF 'chattellaw13.PowerLevels'. -/
def powerLevelsUptoCard : Claim7 := { stood := { row := powerLevelsUptoRow, standIns := [], harness := (true, "8096641c789cb5c1cd110588deedcc13ffc71740cd967b7bdac8b51fd4925c86"), looks := false }, kinds := [], alts := [], laidByText := true, laidKinds := [.data, .pinned], laidTests := true, laidLooks := .later }
def PowerLevelsUptoCardSaid : Prop := Claim7.holds Tryz.pinned (.plain (OpenSpec.upto powerLevelsSpec)) powerLevelsUptoCard

/-- THE SECOND FORM's CARD OF 'chattellaw13.PowerPays'. -/
def powerPaysUptoCard : Claim7 := { stood := { row := powerPaysUptoRow, standIns := [], harness := (true, "8096641c789cb5c1cd110588deedcc13ffc71740cd967b7bdac8b51fd4925c86"), looks := false }, kinds := [], alts := [], laidByText := true, laidKinds := [.data, .pinned], laidTests := true, laidLooks := .later }
def PowerPaysUptoCardSaid : Prop := Claim7.holds Tryz.pinned (.plain (OpenSpec.upto powerPaysSpec)) powerPaysUptoCard

/-- THE SECOND FORM's CARD OF 'chattellaw13.PowerPolys'. -/
def powerPolysUptoCard : Claim7 := { stood := { row := powerPolysUptoRow, standIns := [], harness := (true, "8096641c789cb5c1cd110588deedcc13ffc71740cd967b7bdac8b51fd4925c86"), looks := false }, kinds := [], alts := [], laidByText := true, laidKinds := [.data, .pinned], laidTests := true, laidLooks := .later }
def PowerPolysUptoCardSaid : Prop := Claim7.holds Tryz.pinned (.plain (OpenSpec.upto powerPolysSpec)) powerPolysUptoCard

/-- THE SECOND FORM's CARD OF 'chattellaw13.PowerAdds'. -/
def powerAddsUptoCard : Claim7 := { stood := { row := powerAddsUptoRow, standIns := [], harness := (true, "8096641c789cb5c1cd110588deedcc13ffc71740cd967b7bdac8b51fd4925c86"), looks := false }, kinds := [], alts := [], laidByText := true, laidKinds := [.data, .pinned], laidTests := true, laidLooks := .later }
def PowerAddsUptoCardSaid : Prop := Claim7.holds Tryz.pinned (.plain (OpenSpec.upto powerAddsSpec)) powerAddsUptoCard
end Rows
end Go.Proofs.YthebilnlljkfeaaGreatDoor
