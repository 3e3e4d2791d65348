/-
  DERIVED. GIVEN WITH THE SEED: THE CARDS: each row of YtalcafbeepimgaaGreatDoorRows.lean that lists a variable, with what it lists TIED to the program's text (the seventh form; the later family's looks); each row that meets fmt, with fmt's text TOLD by the authors' own Lean function (tested against real Go, not proved from fmt's source: count such statements apart). THE CARD IS WHAT COUNTS. Prove the row's statement (the work); the ties are given (YtalcafbeepimgaaGreatDoorTie.lean); close each card by the builder's one call (the guide's Derived/Test/ToyasCard.lean, 'card_holds'). Laid BY PROGRAM, IN A SANDBOX (cutbox-door.mjs). By AI agents, Wed Nov 11 2026. No macro, syntax, notation, axiom, sorry.
-/
import Derived.Test.YtalcafbeepimgaaGreatDoorRows
import GoSem.ClaimSeven
namespace Go.Proofs.YtalcafbeepimgaaGreatDoor
namespace Rows

/-- THE TIED CARD OF 'chattellaw07.DecSums'. -/
def decSumsCard : Claim7 := { stood := { row := decSumsRow, standIns := [], harness := (true, "49b69e47a9b21132f6987e3c32afa273c18bcb8b25d54aac71df47bfb1dcaab6"), looks := false }, kinds := [], alts := [], laidByText := true, laidKinds := [.data, .pinned], laidTests := true, laidLooks := .later }
def DecSumsCardSaid : Prop := Claim7.holds Tryz.pinned (.plain (OpenSpec.ofChange decSumsSpec)) decSumsCard

/-- THE TIED CARD OF 'chattellaw07.DecRounds'. -/
def decRoundsCard : Claim7 := { stood := { row := decRoundsRow, standIns := [], harness := (true, "49b69e47a9b21132f6987e3c32afa273c18bcb8b25d54aac71df47bfb1dcaab6"), looks := false }, kinds := [], alts := [], laidByText := true, laidKinds := [.data, .pinned], laidTests := true, laidLooks := .later }
def DecRoundsCardSaid : Prop := Claim7.holds Tryz.pinned (.plain (OpenSpec.ofChange decRoundsSpec)) decRoundsCard

/-- THE TIED CARD OF 'chattellaw07.DecTexts'. -/
def decTextsCard : Claim7 := { stood := { row := decTextsRow, standIns := [], harness := (true, "49b69e47a9b21132f6987e3c32afa273c18bcb8b25d54aac71df47bfb1dcaab6"), looks := false }, kinds := [], alts := [], laidByText := true, laidKinds := [.data, .pinned], laidTests := true, laidLooks := .later }
def DecTextsCardSaid : Prop := Claim7.holds Tryz.pinned (.plain (OpenSpec.ofChange decTextsSpec)) decTextsCard

/-- THE TIED CARD OF 'chattellaw07.DecRefuses'. -/
def decRefusesCard : Claim7 := { stood := { row := decRefusesRow, standIns := [], harness := (true, "49b69e47a9b21132f6987e3c32afa273c18bcb8b25d54aac71df47bfb1dcaab6"), looks := false }, kinds := [], alts := [], laidByText := true, laidKinds := [.data, .pinned], laidTests := true, laidLooks := .later }
def DecRefusesCardSaid : Prop := Claim7.holds Tryz.pinned (.plain (OpenSpec.ofChange decRefusesSpec)) decRefusesCard

/-- THE TIED CARD OF 'chattellaw07.DecRules'. -/
def decRulesCard : Claim7 := { stood := { row := decRulesRow, standIns := [], harness := (true, "49b69e47a9b21132f6987e3c32afa273c18bcb8b25d54aac71df47bfb1dcaab6"), looks := false }, kinds := [], alts := [], laidByText := true, laidKinds := [.data, .pinned], laidTests := true, laidLooks := .later }
def DecRulesCardSaid : Prop := Claim7.holds Tryz.pinned (.plain (OpenSpec.ofChange decRulesSpec)) decRulesCard

/-- THE SECOND FORM's CARD OF 'chattellaw07.DecSums'. -/
def decSumsUptoCard : Claim7 := { stood := { row := decSumsUptoRow, standIns := [], harness := (true, "49b69e47a9b21132f6987e3c32afa273c18bcb8b25d54aac71df47bfb1dcaab6"), looks := false }, kinds := [], alts := [], laidByText := true, laidKinds := [.data, .pinned], laidTests := true, laidLooks := .later }
def DecSumsUptoCardSaid : Prop := Claim7.holds Tryz.pinned (.plain (OpenSpec.upto decSumsSpec)) decSumsUptoCard

/-- THE SECOND FORM's CARD OF 'chattellaw07.DecRounds'. -/
def decRoundsUptoCard : Claim7 := { stood := { row := decRoundsUptoRow, standIns := [], harness := (true, "49b69e47a9b21132f6987e3c32afa273c18bcb8b25d54aac71df47bfb1dcaab6"), looks := false }, kinds := [], alts := [], laidByText := true, laidKinds := [.data, .pinned], laidTests := true, laidLooks := .later }
def DecRoundsUptoCardSaid : Prop := Claim7.holds Tryz.pinned (.plain (OpenSpec.upto decRoundsSpec)) decRoundsUptoCard

/-- THE SECOND FORM's CARD OF 'chattellaw07.DecTexts'. -/
def decTextsUptoCard : Claim7 := { stood := { row := decTextsUptoRow, standIns := [], harness := (true, "49b69e47a9b21132f6987e3c32afa273c18bcb8b25d54aac71df47bfb1dcaab6"), looks := false }, kinds := [], alts := [], laidByText := true, laidKinds := [.data, .pinned], laidTests := true, laidLooks := .later }
def DecTextsUptoCardSaid : Prop := Claim7.holds Tryz.pinned (.plain (OpenSpec.upto decTextsSpec)) decTextsUptoCard

/-- THE SECOND FORM's CARD OF 'chattellaw07.DecRefuses'. -/
def decRefusesUptoCard : Claim7 := { stood := { row := decRefusesUptoRow, standIns := [], harness := (true, "49b69e47a9b21132f6987e3c32afa273c18bcb8b25d54aac71df47bfb1dcaab6"), looks := false }, kinds := [], alts := [], laidByText := true, laidKinds := [.data, .pinned], laidTests := true, laidLooks := .later }
def DecRefusesUptoCardSaid : Prop := Claim7.holds Tryz.pinned (.plain (OpenSpec.upto decRefusesSpec)) decRefusesUptoCard

/-- THE SECOND FORM's CARD OF 'chattellaw07.DecRules'. -/
def decRulesUptoCard : Claim7 := { stood := { row := decRulesUptoRow, standIns := [], harness := (true, "49b69e47a9b21132f6987e3c32afa273c18bcb8b25d54aac71df47bfb1dcaab6"), looks := false }, kinds := [], alts := [], laidByText := true, laidKinds := [.data, .pinned], laidTests := true, laidLooks := .later }
def DecRulesUptoCardSaid : Prop := Claim7.holds Tryz.pinned (.plain (OpenSpec.upto decRulesSpec)) decRulesUptoCard
end Rows
end Go.Proofs.YtalcafbeepimgaaGreatDoor
