/-
  DERIVED. GIVEN WITH THE SEED: THE CARDS: each row of YtckcjiojfpaikaaDoorRows.lean that lists a variable, with what it lists TIED to the program's text (the seventh form; the later family's looks); each row that meets fmt, with fmt's text TOLD by the authors' own Lean function (tested against real Go, not proved from fmt's source: count such statements apart). THE CARD IS WHAT COUNTS. Prove the row's statement (the work); the ties are given (YtckcjiojfpaikaaDoorTie.lean); close each card by the builder's one call (the guide's Derived/Test/ToyasCard.lean, 'card_holds'). Laid BY PROGRAM, IN A SANDBOX (cutbox-door.mjs). By AI agents, Wed Nov 11 2026. No macro, syntax, notation, axiom, sorry.
-/
import Derived.Test.YtckcjiojfpaikaaDoorRows
import GoSem.ClaimSeven
namespace Go.Proofs.YtckcjiojfpaikaaDoor
namespace Rows

/-- THE TIED CARD OF 'chattellaw03.DigitsPrint'. -/
def digitsPrintCard : Claim7 := { stood := { row := digitsPrintRow, standIns := [], harness := (true, "14e2f453af4cd876627edaa335e80960ceb45c3e31d946d982125acb0130ee04"), looks := false }, kinds := [], alts := [], laidByText := true, laidKinds := [.data, .pinned], laidTests := true, laidLooks := .later }
def DigitsPrintCardSaid : Prop := Claim7.holds Tryd.pinned (.plain (OpenSpec.ofChange digitsPrintSpec)) digitsPrintCard

/-- THE TIED CARD OF 'chattellaw03.DigitsParse'. -/
def digitsParseCard : Claim7 := { stood := { row := digitsParseRow, standIns := [], harness := (true, "14e2f453af4cd876627edaa335e80960ceb45c3e31d946d982125acb0130ee04"), looks := false }, kinds := [], alts := [], laidByText := true, laidKinds := [.data, .pinned], laidTests := true, laidLooks := .later }
def DigitsParseCardSaid : Prop := Claim7.holds Tryd.pinned (.plain (OpenSpec.ofChange digitsParseSpec)) digitsParseCard

/-- THE TIED CARD OF 'chattellaw03.DigitsPow'. -/
def digitsPowCard : Claim7 := { stood := { row := digitsPowRow, standIns := [], harness := (true, "14e2f453af4cd876627edaa335e80960ceb45c3e31d946d982125acb0130ee04"), looks := false }, kinds := [], alts := [], laidByText := true, laidKinds := [.data, .pinned], laidTests := true, laidLooks := .later }
def DigitsPowCardSaid : Prop := Claim7.holds Tryd.pinned (.plain (OpenSpec.ofChange digitsPowSpec)) digitsPowCard

/-- THE TIED CARD OF 'chattellaw03.DigitsLong'. -/
def digitsLongCard : Claim7 := { stood := { row := digitsLongRow, standIns := [], harness := (true, "14e2f453af4cd876627edaa335e80960ceb45c3e31d946d982125acb0130ee04"), looks := false }, kinds := [], alts := [], laidByText := true, laidKinds := [.data, .pinned], laidTests := true, laidLooks := .later }
def DigitsLongCardSaid : Prop := Claim7.holds Tryd.pinned (.plain (OpenSpec.ofChange digitsLongSpec)) digitsLongCard

/-- THE TIED CARD OF 'chattellaw03.DigitsAdd'. -/
def digitsAddCard : Claim7 := { stood := { row := digitsAddRow, standIns := [], harness := (true, "14e2f453af4cd876627edaa335e80960ceb45c3e31d946d982125acb0130ee04"), looks := false }, kinds := [], alts := [], laidByText := true, laidKinds := [.data, .pinned], laidTests := true, laidLooks := .later }
def DigitsAddCardSaid : Prop := Claim7.holds Tryd.pinned (.plain (OpenSpec.ofChange digitsAddSpec)) digitsAddCard

/-- THE SECOND FORM's CARD OF 'chattellaw03.DigitsPrint'. -/
def digitsPrintUptoCard : Claim7 := { stood := { row := digitsPrintUptoRow, standIns := [], harness := (true, "14e2f453af4cd876627edaa335e80960ceb45c3e31d946d982125acb0130ee04"), looks := false }, kinds := [], alts := [], laidByText := true, laidKinds := [.data, .pinned], laidTests := true, laidLooks := .later }
def DigitsPrintUptoCardSaid : Prop := Claim7.holds Tryd.pinned (.plain (OpenSpec.upto digitsPrintSpec)) digitsPrintUptoCard

/-- THE SECOND FORM's CARD OF 'chattellaw03.DigitsParse'. -/
def digitsParseUptoCard : Claim7 := { stood := { row := digitsParseUptoRow, standIns := [], harness := (true, "14e2f453af4cd876627edaa335e80960ceb45c3e31d946d982125acb0130ee04"), looks := false }, kinds := [], alts := [], laidByText := true, laidKinds := [.data, .pinned], laidTests := true, laidLooks := .later }
def DigitsParseUptoCardSaid : Prop := Claim7.holds Tryd.pinned (.plain (OpenSpec.upto digitsParseSpec)) digitsParseUptoCard

/-- THE SECOND FORM's CARD OF 'chattellaw03.DigitsPow'. -/
def digitsPowUptoCard : Claim7 := { stood := { row := digitsPowUptoRow, standIns := [], harness := (true, "14e2f453af4cd876627edaa335e80960ceb45c3e31d946d982125acb0130ee04"), looks := false }, kinds := [], alts := [], laidByText := true, laidKinds := [.data, .pinned], laidTests := true, laidLooks := .later }
def DigitsPowUptoCardSaid : Prop := Claim7.holds Tryd.pinned (.plain (OpenSpec.upto digitsPowSpec)) digitsPowUptoCard

/-- THE SECOND FORM's CARD OF 'chattellaw03.DigitsLong'. -/
def digitsLongUptoCard : Claim7 := { stood := { row := digitsLongUptoRow, standIns := [], harness := (true, "14e2f453af4cd876627edaa335e80960ceb45c3e31d946d982125acb0130ee04"), looks := false }, kinds := [], alts := [], laidByText := true, laidKinds := [.data, .pinned], laidTests := true, laidLooks := .later }
def DigitsLongUptoCardSaid : Prop := Claim7.holds Tryd.pinned (.plain (OpenSpec.upto digitsLongSpec)) digitsLongUptoCard

/-- THE SECOND FORM's CARD OF 'chattellaw03.DigitsAdd'. -/
def digitsAddUptoCard : Claim7 := { stood := { row := digitsAddUptoRow, standIns := [], harness := (true, "14e2f453af4cd876627edaa335e80960ceb45c3e31d946d982125acb0130ee04"), looks := false }, kinds := [], alts := [], laidByText := true, laidKinds := [.data, .pinned], laidTests := true, laidLooks := .later }
def DigitsAddUptoCardSaid : Prop := Claim7.holds Tryd.pinned (.plain (OpenSpec.upto digitsAddSpec)) digitsAddUptoCard
end Rows
end Go.Proofs.YtckcjiojfpaikaaDoor
