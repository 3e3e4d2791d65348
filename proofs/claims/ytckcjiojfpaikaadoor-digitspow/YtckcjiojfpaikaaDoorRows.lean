/-
  NARROWER THAN 'FOR EVERY INPUT', by the rows' own cells (each row's printed sentence says how): DigitsPrint: laid · DigitsParse: laid · DigitsPow: laid · DigitsLong: laid · DigitsAdd: laid.
  DERIVED. THE GIVEN ROWS OF THIS SEAT. 5 by the template 'for every input the law returns true; each argument reads behind the call as it read before'; 0 by the template 'total and deterministic' (their statements: YtckcjiojfpaikaaDoorTotals.lean).
  GIVEN WITH THE SEED: the statements are not yours to turn. If you find one false, say at which input.
  Laid BY PROGRAM, IN A SANDBOX (cutbox-rows.mjs): the forced cells as the released guide's own fill.sh prints them over the translation cd46e8c80e958f6b… (all of the seat's roots in one cut). By AI agents, Wed Nov 11 2026. No macro, syntax, notation, axiom, sorry.
-/
import Derived.Test.YtckcjiojfpaikaaDoorChecked
import GoSem.PinnedTables
import GoSem.Claim
import GoSem.ClaimJoined
import GoSem.ClaimMapViews
import Derived.JoinedTies
import Derived.KernelRfl
namespace Go.Proofs.YtckcjiojfpaikaaDoor
/- THE CELL 'sum', in the pinned program and in every row, IS THE sha256 OF THE DUMP (.gsa) THAT YtckcjiojfpaikaaDoorProg.lean LOADS. Nothing in Lean hashes anything: it is a label: what it is worth is what the hold of that sum in a sandbox is worth. -/
noncomputable def Tryd.pinned : Pinned := { name := "ytckcjiojfpaikaadoor", sum := "cd46e8c80e958f6b2758bda3873480d8cac751bd4171072dd3772aa70f1a8e09", checked := Tryd.checked }
namespace Rows
def none {H : Type} : Left H := { results := [], args := [] }

/- WHAT THE LISTED PACKAGE-LEVEL VARIABLES READ AS WHEN THE CALL BEGINS. Each datum BY PROGRAM (the guide's laid-datum.mjs) off the statement by which the dump's own 'gosem.cut.vars' lays the variable. In a bare row this is a premise. The card (YtckcjiojfpaikaaDoorCards.lean) ties it to the program's text. -/
def laid_unicode_utf8_acceptRanges {H : Type} : DataW H := .agg [.agg [.lit (.int .u8 128), .lit (.int .u8 191)], .agg [.lit (.int .u8 160), .lit (.int .u8 191)], .agg [.lit (.int .u8 128), .lit (.int .u8 159)], .agg [.lit (.int .u8 144), .lit (.int .u8 191)], .agg [.lit (.int .u8 128), .lit (.int .u8 143)], .agg [.lit (.int .u8 0), .lit (.int .u8 0)], .agg [.lit (.int .u8 0), .lit (.int .u8 0)], .agg [.lit (.int .u8 0), .lit (.int .u8 0)], .agg [.lit (.int .u8 0), .lit (.int .u8 0)], .agg [.lit (.int .u8 0), .lit (.int .u8 0)], .agg [.lit (.int .u8 0), .lit (.int .u8 0)], .agg [.lit (.int .u8 0), .lit (.int .u8 0)], .agg [.lit (.int .u8 0), .lit (.int .u8 0)], .agg [.lit (.int .u8 0), .lit (.int .u8 0)], .agg [.lit (.int .u8 0), .lit (.int .u8 0)], .agg [.lit (.int .u8 0), .lit (.int .u8 0)]]
/-- One of Go's own tables, pinned by name: the form's constant. -/
def laid_unicode_utf8_first : DataW Unit := Go.Pinned.utf8First

/-- 'chattellaw03.DigitsPrint': WHATEVER THE INPUT: true; the input reads as it did. -/
def digitsPrintSpec : ChangeSpec := { name := "digitsPrint", fn := fun _ => fun
  | [d] => { results := [.lit (.bool true)], args := [d] }
  | _ => none }
def digitsPrintRow : OpenClaim := { program := "ytckcjiojfpaikaadoor", sum := "cd46e8c80e958f6b2758bda3873480d8cac751bd4171072dd3772aa70f1a8e09", func := "chattel/chattellaw03.DigitsPrint", spec := "digitsPrint", inPlace := ["math/bits.Add64", "math/bits.Sub64", "internal/bytealg.IndexByteString", "internal/bytealg.IndexString"], recurses := true, named := ["math/bits.divideError", "math/bits.overflowError", "unicode/utf8.first", "unicode/utf8.acceptRanges", "internal/bytealg.MaxLen"], apart := false, laid := [("unicode/utf8.acceptRanges", laid_unicode_utf8_acceptRanges), ("unicode/utf8.first", laid_unicode_utf8_first)] }
def DigitsPrintSaid : Prop := digitsPrintRow.holds Tryd.pinned (OpenSpec.ofChange digitsPrintSpec)

/-- ITS FALSE NEIGHBOUR: 'it returns false'. Refute it at one input. -/
def digitsPrintWrong : ChangeSpec := { name := "digitsPrint", fn := fun _ => fun
  | [d] => { results := [.lit (.bool false)], args := [d] }
  | _ => none }
def DigitsPrintWrongFalsely : Prop := digitsPrintRow.holds Tryd.pinned (OpenSpec.ofChange digitsPrintWrong)

/-- 'chattellaw03.DigitsParse': WHATEVER THE INPUT: true; the input reads as it did. -/
def digitsParseSpec : ChangeSpec := { name := "digitsParse", fn := fun _ => fun
  | [d] => { results := [.lit (.bool true)], args := [d] }
  | _ => none }
def digitsParseRow : OpenClaim := { program := "ytckcjiojfpaikaadoor", sum := "cd46e8c80e958f6b2758bda3873480d8cac751bd4171072dd3772aa70f1a8e09", func := "chattel/chattellaw03.DigitsParse", spec := "digitsParse", inPlace := ["math/bits.Add64", "math/bits.Sub64", "internal/bytealg.IndexByteString", "internal/bytealg.IndexString"], recurses := true, named := ["math/bits.divideError", "math/bits.overflowError", "unicode/utf8.first", "unicode/utf8.acceptRanges", "internal/bytealg.MaxLen"], apart := false, laid := [("unicode/utf8.acceptRanges", laid_unicode_utf8_acceptRanges), ("unicode/utf8.first", laid_unicode_utf8_first)] }
def DigitsParseSaid : Prop := digitsParseRow.holds Tryd.pinned (OpenSpec.ofChange digitsParseSpec)

/-- ITS FALSE NEIGHBOUR: 'it returns false'. Refute it at one input. -/
def digitsParseWrong : ChangeSpec := { name := "digitsParse", fn := fun _ => fun
  | [d] => { results := [.lit (.bool false)], args := [d] }
  | _ => none }
def DigitsParseWrongFalsely : Prop := digitsParseRow.holds Tryd.pinned (OpenSpec.ofChange digitsParseWrong)

/-- 'chattellaw03.DigitsPow': WHATEVER THE INPUT: true; the input reads as it did. -/
def digitsPowSpec : ChangeSpec := { name := "digitsPow", fn := fun _ => fun
  | [d1, d2] => { results := [.lit (.bool true)], args := [d1, d2] }
  | _ => none }
def digitsPowRow : OpenClaim := { program := "ytckcjiojfpaikaadoor", sum := "cd46e8c80e958f6b2758bda3873480d8cac751bd4171072dd3772aa70f1a8e09", func := "chattel/chattellaw03.DigitsPow", spec := "digitsPow", inPlace := ["math/bits.Add64", "math/bits.Sub64", "internal/bytealg.IndexByteString", "internal/bytealg.IndexString", "internal/abi.NoEscape", "internal/bytealg.MakeNoZero"], recurses := true, named := ["math/bits.divideError", "math/bits.overflowError", "unicode/utf8.first", "unicode/utf8.acceptRanges", "internal/bytealg.MaxLen"], apart := false, laid := [("unicode/utf8.acceptRanges", laid_unicode_utf8_acceptRanges), ("unicode/utf8.first", laid_unicode_utf8_first)] }
def DigitsPowSaid : Prop := digitsPowRow.holds Tryd.pinned (OpenSpec.ofChange digitsPowSpec)

/-- ITS FALSE NEIGHBOUR: 'it returns false'. Refute it at one input. -/
def digitsPowWrong : ChangeSpec := { name := "digitsPow", fn := fun _ => fun
  | [d1, d2] => { results := [.lit (.bool false)], args := [d1, d2] }
  | _ => none }
def DigitsPowWrongFalsely : Prop := digitsPowRow.holds Tryd.pinned (OpenSpec.ofChange digitsPowWrong)

/-- 'chattellaw03.DigitsLong': WHATEVER THE INPUT: true; the input reads as it did. -/
def digitsLongSpec : ChangeSpec := { name := "digitsLong", fn := fun _ => fun
  | [d1, d2] => { results := [.lit (.bool true)], args := [d1, d2] }
  | _ => none }
def digitsLongRow : OpenClaim := { program := "ytckcjiojfpaikaadoor", sum := "cd46e8c80e958f6b2758bda3873480d8cac751bd4171072dd3772aa70f1a8e09", func := "chattel/chattellaw03.DigitsLong", spec := "digitsLong", inPlace := ["internal/abi.NoEscape", "internal/bytealg.MakeNoZero", "math/bits.Add64", "math/bits.Sub64", "internal/bytealg.IndexByteString", "internal/bytealg.IndexString"], recurses := true, named := ["math/bits.divideError", "math/bits.overflowError", "unicode/utf8.first", "unicode/utf8.acceptRanges", "internal/bytealg.MaxLen"], apart := false, laid := [("unicode/utf8.acceptRanges", laid_unicode_utf8_acceptRanges), ("unicode/utf8.first", laid_unicode_utf8_first)] }
def DigitsLongSaid : Prop := digitsLongRow.holds Tryd.pinned (OpenSpec.ofChange digitsLongSpec)

/-- ITS FALSE NEIGHBOUR: 'it returns false'. Refute it at one input. -/
def digitsLongWrong : ChangeSpec := { name := "digitsLong", fn := fun _ => fun
  | [d1, d2] => { results := [.lit (.bool false)], args := [d1, d2] }
  | _ => none }
def DigitsLongWrongFalsely : Prop := digitsLongRow.holds Tryd.pinned (OpenSpec.ofChange digitsLongWrong)

/-- 'chattellaw03.DigitsAdd': WHATEVER THE INPUT: true; the input reads as it did. -/
def digitsAddSpec : ChangeSpec := { name := "digitsAdd", fn := fun _ => fun
  | [d1, d2, d3] => { results := [.lit (.bool true)], args := [d1, d2, d3] }
  | _ => none }
def digitsAddRow : OpenClaim := { program := "ytckcjiojfpaikaadoor", sum := "cd46e8c80e958f6b2758bda3873480d8cac751bd4171072dd3772aa70f1a8e09", func := "chattel/chattellaw03.DigitsAdd", spec := "digitsAdd", inPlace := ["math/bits.Add64", "math/bits.Sub64", "internal/bytealg.IndexByteString", "internal/bytealg.IndexString"], recurses := true, named := ["math/bits.divideError", "math/bits.overflowError", "unicode/utf8.first", "unicode/utf8.acceptRanges", "internal/bytealg.MaxLen"], apart := false, laid := [("unicode/utf8.acceptRanges", laid_unicode_utf8_acceptRanges), ("unicode/utf8.first", laid_unicode_utf8_first)] }
def DigitsAddSaid : Prop := digitsAddRow.holds Tryd.pinned (OpenSpec.ofChange digitsAddSpec)

/-- ITS FALSE NEIGHBOUR: 'it returns false'. Refute it at one input. -/
def digitsAddWrong : ChangeSpec := { name := "digitsAdd", fn := fun _ => fun
  | [d1, d2, d3] => { results := [.lit (.bool false)], args := [d1, d2, d3] }
  | _ => none }
def DigitsAddWrongFalsely : Prop := digitsAddRow.holds Tryd.pinned (OpenSpec.ofChange digitsAddWrong)

/- THE SECOND FORM. 'bulk': how many values and letters a reading holds, each counted each time it is reached (what is shared counts as often as it is met; a slice's spare places count too). A statement '..UptoSaid' is the law's where the arguments, and the package variables that the reading takes, are together of bulk at most 1048576: NARROWER than '..Said'. Prove '..Said' where nothing that the law and all that it calls make is longer than what came in: it says more and counts as full. Else prove '..UptoSaid'. A law counts once. -/
mutual
def uptoBulk {H : Type} : DataW H → Nat
  | .lit (.string bytes) => bytes.length + 1
  | .lit _ => 1
  | .nil => 1
  | .ptr d => uptoBulk d + 1
  | .slice elems spare => uptoBulkAll elems + uptoBulkAll spare + 1
  | .agg parts => uptoBulkAll parts + 1
  | .iface _ d => uptoBulk d + 1
  | .map entries => uptoBulkEntries entries + 1
  | .held _ => 1
def uptoBulkAll {H : Type} : List (DataW H) → Nat
  | [] => 0
  | d :: r => uptoBulk d + uptoBulkAll r
def uptoBulkEntries {H : Type} : List (Lit × DataW H) → Nat
  | [] => 0
  | x :: r => uptoBulkEntry x + uptoBulkEntries r
def uptoBulkEntry {H : Type} : Lit × DataW H → Nat
  | (.string bytes, d) => bytes.length + uptoBulk d + 1
  | (_, d) => uptoBulk d + 1
 end
def uptoSmall : (H : Type) → List (DataW H) → Bool := fun _ ds => decide (uptoBulkAll ds ≤ 1048576)
def OpenSpec.upto (s : _root_.Go.ChangeSpec) : _root_.Go.OpenSpec := { _root_.Go.OpenSpec.ofChange s with cond := some uptoSmall }

/-- 'chattellaw03.DigitsPrint', WHERE WHAT IT READS IS OF BULK AT MOST 1048576: true; the input reads as it did. -/
def digitsPrintUptoRow : OpenClaim := { program := "ytckcjiojfpaikaadoor", sum := "cd46e8c80e958f6b2758bda3873480d8cac751bd4171072dd3772aa70f1a8e09", func := "chattel/chattellaw03.DigitsPrint", spec := "digitsPrint", inPlace := ["math/bits.Add64", "math/bits.Sub64", "internal/bytealg.IndexByteString", "internal/bytealg.IndexString"], recurses := true, named := ["math/bits.divideError", "math/bits.overflowError", "unicode/utf8.first", "unicode/utf8.acceptRanges", "internal/bytealg.MaxLen"], apart := false, laid := [("unicode/utf8.acceptRanges", laid_unicode_utf8_acceptRanges), ("unicode/utf8.first", laid_unicode_utf8_first)], narrowed := true }
def DigitsPrintUptoSaid : Prop := digitsPrintUptoRow.holds Tryd.pinned (OpenSpec.upto digitsPrintSpec)

/-- 'chattellaw03.DigitsParse', WHERE WHAT IT READS IS OF BULK AT MOST 1048576: true; the input reads as it did. -/
def digitsParseUptoRow : OpenClaim := { program := "ytckcjiojfpaikaadoor", sum := "cd46e8c80e958f6b2758bda3873480d8cac751bd4171072dd3772aa70f1a8e09", func := "chattel/chattellaw03.DigitsParse", spec := "digitsParse", inPlace := ["math/bits.Add64", "math/bits.Sub64", "internal/bytealg.IndexByteString", "internal/bytealg.IndexString"], recurses := true, named := ["math/bits.divideError", "math/bits.overflowError", "unicode/utf8.first", "unicode/utf8.acceptRanges", "internal/bytealg.MaxLen"], apart := false, laid := [("unicode/utf8.acceptRanges", laid_unicode_utf8_acceptRanges), ("unicode/utf8.first", laid_unicode_utf8_first)], narrowed := true }
def DigitsParseUptoSaid : Prop := digitsParseUptoRow.holds Tryd.pinned (OpenSpec.upto digitsParseSpec)

/-- 'chattellaw03.DigitsPow', WHERE WHAT IT READS IS OF BULK AT MOST 1048576: true; the input reads as it did. -/
def digitsPowUptoRow : OpenClaim := { program := "ytckcjiojfpaikaadoor", sum := "cd46e8c80e958f6b2758bda3873480d8cac751bd4171072dd3772aa70f1a8e09", func := "chattel/chattellaw03.DigitsPow", spec := "digitsPow", inPlace := ["math/bits.Add64", "math/bits.Sub64", "internal/bytealg.IndexByteString", "internal/bytealg.IndexString", "internal/abi.NoEscape", "internal/bytealg.MakeNoZero"], recurses := true, named := ["math/bits.divideError", "math/bits.overflowError", "unicode/utf8.first", "unicode/utf8.acceptRanges", "internal/bytealg.MaxLen"], apart := false, laid := [("unicode/utf8.acceptRanges", laid_unicode_utf8_acceptRanges), ("unicode/utf8.first", laid_unicode_utf8_first)], narrowed := true }
def DigitsPowUptoSaid : Prop := digitsPowUptoRow.holds Tryd.pinned (OpenSpec.upto digitsPowSpec)

/-- 'chattellaw03.DigitsLong', WHERE WHAT IT READS IS OF BULK AT MOST 1048576: true; the input reads as it did. -/
def digitsLongUptoRow : OpenClaim := { program := "ytckcjiojfpaikaadoor", sum := "cd46e8c80e958f6b2758bda3873480d8cac751bd4171072dd3772aa70f1a8e09", func := "chattel/chattellaw03.DigitsLong", spec := "digitsLong", inPlace := ["internal/abi.NoEscape", "internal/bytealg.MakeNoZero", "math/bits.Add64", "math/bits.Sub64", "internal/bytealg.IndexByteString", "internal/bytealg.IndexString"], recurses := true, named := ["math/bits.divideError", "math/bits.overflowError", "unicode/utf8.first", "unicode/utf8.acceptRanges", "internal/bytealg.MaxLen"], apart := false, laid := [("unicode/utf8.acceptRanges", laid_unicode_utf8_acceptRanges), ("unicode/utf8.first", laid_unicode_utf8_first)], narrowed := true }
def DigitsLongUptoSaid : Prop := digitsLongUptoRow.holds Tryd.pinned (OpenSpec.upto digitsLongSpec)

/-- 'chattellaw03.DigitsAdd', WHERE WHAT IT READS IS OF BULK AT MOST 1048576: true; the input reads as it did. -/
def digitsAddUptoRow : OpenClaim := { program := "ytckcjiojfpaikaadoor", sum := "cd46e8c80e958f6b2758bda3873480d8cac751bd4171072dd3772aa70f1a8e09", func := "chattel/chattellaw03.DigitsAdd", spec := "digitsAdd", inPlace := ["math/bits.Add64", "math/bits.Sub64", "internal/bytealg.IndexByteString", "internal/bytealg.IndexString"], recurses := true, named := ["math/bits.divideError", "math/bits.overflowError", "unicode/utf8.first", "unicode/utf8.acceptRanges", "internal/bytealg.MaxLen"], apart := false, laid := [("unicode/utf8.acceptRanges", laid_unicode_utf8_acceptRanges), ("unicode/utf8.first", laid_unicode_utf8_first)], narrowed := true }
def DigitsAddUptoSaid : Prop := digitsAddUptoRow.holds Tryd.pinned (OpenSpec.upto digitsAddSpec)

end Rows
end Go.Proofs.YtckcjiojfpaikaaDoor
