/-
  No cell of these rows narrows 'for every input' (looked for: loops, veiled, ifaces, maps, wideKeys, modest, calm, conditions, laid).
  DERIVED. THE GIVEN ROWS OF THIS SEAT. 5 by the template 'for every input the law returns true; each argument reads behind the call as it read before'; 0 by the template 'total and deterministic' (their statements: YtdfdlmhllonggaaTotals.lean).
  GIVEN WITH THE SEED: the statements are not yours to turn. If you find one false, say at which input.
  Laid BY PROGRAM, IN A SANDBOX (cutbox-rows.mjs): the forced cells as the released guide's own fill.sh prints them over the translation 2ea19138277f956c… (all of the seat's roots in one cut). By AI agents, Wed Nov 11 2026. No macro, syntax, notation, axiom, sorry.
-/
import Derived.Test.YtdfdlmhllonggaaChecked
import GoSem.Claim
import GoSem.ClaimJoined
import GoSem.ClaimMapViews
import Derived.JoinedTies
import Derived.KernelRfl
namespace Go.Proofs.Ytdfdlmhllonggaa
/- THE CELL 'sum', in the pinned program and in every row, IS THE sha256 OF THE DUMP (.gsa) THAT YtdfdlmhllonggaaProg.lean LOADS. Nothing in Lean hashes anything: it is a label: what it is worth is what the hold of that sum in a sandbox is worth. -/
noncomputable def Try.pinned : Pinned := { name := "ytdfdlmhllonggaa", sum := "2ea19138277f956c7958c92342d3badab71958acb48d40c5873fa26657f07d59", checked := Try.checked }
namespace Rows
def none {H : Type} : Left H := { results := [], args := [] }

/-- 'chattellaw01.NatSums': WHATEVER THE INPUT: true; the input reads as it did. -/
def natSumsSpec : ChangeSpec := { name := "natSums", fn := fun _ => fun
  | [d1, d2] => { results := [.lit (.bool true)], args := [d1, d2] }
  | _ => none }
def natSumsRow : OpenClaim := { program := "ytdfdlmhllonggaa", sum := "2ea19138277f956c7958c92342d3badab71958acb48d40c5873fa26657f07d59", func := "chattel/chattellaw01.NatSums", spec := "natSums", inPlace := ["math/bits.Sub64", "math/bits.Add64"], apart := false }
def NatSumsSaid : Prop := natSumsRow.holds Try.pinned (OpenSpec.ofChange natSumsSpec)

/-- ITS FALSE NEIGHBOUR: 'it returns false'. Refute it at one input. -/
def natSumsWrong : ChangeSpec := { name := "natSums", fn := fun _ => fun
  | [d1, d2] => { results := [.lit (.bool false)], args := [d1, d2] }
  | _ => none }
def NatSumsWrongFalsely : Prop := natSumsRow.holds Try.pinned (OpenSpec.ofChange natSumsWrong)

/-- 'chattellaw01.NatLimbs': WHATEVER THE INPUT: true; the input reads as it did. -/
def natLimbsSpec : ChangeSpec := { name := "natLimbs", fn := fun _ => fun
  | [d1, d2] => { results := [.lit (.bool true)], args := [d1, d2] }
  | _ => none }
def natLimbsRow : OpenClaim := { program := "ytdfdlmhllonggaa", sum := "2ea19138277f956c7958c92342d3badab71958acb48d40c5873fa26657f07d59", func := "chattel/chattellaw01.NatLimbs", spec := "natLimbs", inPlace := ["math/bits.Add64"], apart := false }
def NatLimbsSaid : Prop := natLimbsRow.holds Try.pinned (OpenSpec.ofChange natLimbsSpec)

/-- ITS FALSE NEIGHBOUR: 'it returns false'. Refute it at one input. -/
def natLimbsWrong : ChangeSpec := { name := "natLimbs", fn := fun _ => fun
  | [d1, d2] => { results := [.lit (.bool false)], args := [d1, d2] }
  | _ => none }
def NatLimbsWrongFalsely : Prop := natLimbsRow.holds Try.pinned (OpenSpec.ofChange natLimbsWrong)

/-- 'chattellaw01.NatRules': WHATEVER THE INPUT: true; the input reads as it did. -/
def natRulesSpec : ChangeSpec := { name := "natRules", fn := fun _ => fun
  | [d1, d2, d3] => { results := [.lit (.bool true)], args := [d1, d2, d3] }
  | _ => none }
def natRulesRow : OpenClaim := { program := "ytdfdlmhllonggaa", sum := "2ea19138277f956c7958c92342d3badab71958acb48d40c5873fa26657f07d59", func := "chattel/chattellaw01.NatRules", spec := "natRules", inPlace := ["math/bits.Add64", "math/bits.Sub64"], apart := false }
def NatRulesSaid : Prop := natRulesRow.holds Try.pinned (OpenSpec.ofChange natRulesSpec)

/-- ITS FALSE NEIGHBOUR: 'it returns false'. Refute it at one input. -/
def natRulesWrong : ChangeSpec := { name := "natRules", fn := fun _ => fun
  | [d1, d2, d3] => { results := [.lit (.bool false)], args := [d1, d2, d3] }
  | _ => none }
def NatRulesWrongFalsely : Prop := natRulesRow.holds Try.pinned (OpenSpec.ofChange natRulesWrong)

/-- 'chattellaw01.NatCarries': WHATEVER THE INPUT: true; the input reads as it did. -/
def natCarriesSpec : ChangeSpec := { name := "natCarries", fn := fun _ => fun
  | [d] => { results := [.lit (.bool true)], args := [d] }
  | _ => none }
def natCarriesRow : OpenClaim := { program := "ytdfdlmhllonggaa", sum := "2ea19138277f956c7958c92342d3badab71958acb48d40c5873fa26657f07d59", func := "chattel/chattellaw01.NatCarries", spec := "natCarries", inPlace := ["math/bits.Add64", "math/bits.Sub64"], apart := false }
def NatCarriesSaid : Prop := natCarriesRow.holds Try.pinned (OpenSpec.ofChange natCarriesSpec)

/-- ITS FALSE NEIGHBOUR: 'it returns false'. Refute it at one input. -/
def natCarriesWrong : ChangeSpec := { name := "natCarries", fn := fun _ => fun
  | [d] => { results := [.lit (.bool false)], args := [d] }
  | _ => none }
def NatCarriesWrongFalsely : Prop := natCarriesRow.holds Try.pinned (OpenSpec.ofChange natCarriesWrong)

/-- 'chattellaw01.NatBits': WHATEVER THE INPUT: true; the input reads as it did. -/
def natBitsSpec : ChangeSpec := { name := "natBits", fn := fun _ => fun
  | [d1, d2] => { results := [.lit (.bool true)], args := [d1, d2] }
  | _ => none }
def natBitsRow : OpenClaim := { program := "ytdfdlmhllonggaa", sum := "2ea19138277f956c7958c92342d3badab71958acb48d40c5873fa26657f07d59", func := "chattel/chattellaw01.NatBits", spec := "natBits", inPlace := ["math/bits.Add64"], apart := false }
def NatBitsSaid : Prop := natBitsRow.holds Try.pinned (OpenSpec.ofChange natBitsSpec)

/-- ITS FALSE NEIGHBOUR: 'it returns false'. Refute it at one input. -/
def natBitsWrong : ChangeSpec := { name := "natBits", fn := fun _ => fun
  | [d1, d2] => { results := [.lit (.bool false)], args := [d1, d2] }
  | _ => none }
def NatBitsWrongFalsely : Prop := natBitsRow.holds Try.pinned (OpenSpec.ofChange natBitsWrong)

/- THE SECOND FORM. 'bulk': how many values and letters a reading holds, each counted each time it is reached (what is shared counts as often as it is met; a slice's spare places count too). A statement '..UptoSaid' is the law's where the arguments, and the package variables that the reading takes, are together of bulk at most 1048576: NARROWER than '..Said'. Prove '..Said' where nothing that the law and all that it calls make is longer than what came in: it says more and counts as full. Else prove '..UptoSaid'. A law counts once. -/
mutual
def uptoBulk {H : Type} : DataW H → Nat
  | .lit (.string bytes) => bytes.length + 1
  | .lit _ => 1
  | .nil => 1
  | .ptr d => uptoBulk d + 1
  | .slice elems spare => uptoBulkAll elems + uptoBulkAll spare + 1
  | .agg parts => uptoBulkAll parts + 1
  | .iface _ d => uptoBulk d + 1
  | .map entries => uptoBulkEntries entries + 1
  | .held _ => 1
def uptoBulkAll {H : Type} : List (DataW H) → Nat
  | [] => 0
  | d :: r => uptoBulk d + uptoBulkAll r
def uptoBulkEntries {H : Type} : List (Lit × DataW H) → Nat
  | [] => 0
  | x :: r => uptoBulkEntry x + uptoBulkEntries r
def uptoBulkEntry {H : Type} : Lit × DataW H → Nat
  | (.string bytes, d) => bytes.length + uptoBulk d + 1
  | (_, d) => uptoBulk d + 1
 end
def uptoSmall : (H : Type) → List (DataW H) → Bool := fun _ ds => decide (uptoBulkAll ds ≤ 1048576)
def OpenSpec.upto (s : _root_.Go.ChangeSpec) : _root_.Go.OpenSpec := { _root_.Go.OpenSpec.ofChange s with cond := some uptoSmall }

/-- 'chattellaw01.NatSums', WHERE WHAT IT READS IS OF BULK AT MOST 1048576: true; the input reads as it did. -/
def natSumsUptoRow : OpenClaim := { program := "ytdfdlmhllonggaa", sum := "2ea19138277f956c7958c92342d3badab71958acb48d40c5873fa26657f07d59", func := "chattel/chattellaw01.NatSums", spec := "natSums", inPlace := ["math/bits.Sub64", "math/bits.Add64"], apart := false, narrowed := true }
def NatSumsUptoSaid : Prop := natSumsUptoRow.holds Try.pinned (OpenSpec.upto natSumsSpec)

/-- 'chattellaw01.NatLimbs', WHERE WHAT IT READS IS OF BULK AT MOST 1048576: true; the input reads as it did. -/
def natLimbsUptoRow : OpenClaim := { program := "ytdfdlmhllonggaa", sum := "2ea19138277f956c7958c92342d3badab71958acb48d40c5873fa26657f07d59", func := "chattel/chattellaw01.NatLimbs", spec := "natLimbs", inPlace := ["math/bits.Add64"], apart := false, narrowed := true }
def NatLimbsUptoSaid : Prop := natLimbsUptoRow.holds Try.pinned (OpenSpec.upto natLimbsSpec)

/-- 'chattellaw01.NatRules', WHERE WHAT IT READS IS OF BULK AT MOST 1048576: true; the input reads as it did. -/
def natRulesUptoRow : OpenClaim := { program := "ytdfdlmhllonggaa", sum := "2ea19138277f956c7958c92342d3badab71958acb48d40c5873fa26657f07d59", func := "chattel/chattellaw01.NatRules", spec := "natRules", inPlace := ["math/bits.Add64", "math/bits.Sub64"], apart := false, narrowed := true }
def NatRulesUptoSaid : Prop := natRulesUptoRow.holds Try.pinned (OpenSpec.upto natRulesSpec)

/-- 'chattellaw01.NatCarries', WHERE WHAT IT READS IS OF BULK AT MOST 1048576: true; the input reads as it did. -/
def natCarriesUptoRow : OpenClaim := { program := "ytdfdlmhllonggaa", sum := "2ea19138277f956c7958c92342d3badab71958acb48d40c5873fa26657f07d59", func := "chattel/chattellaw01.NatCarries", spec := "natCarries", inPlace := ["math/bits.Add64", "math/bits.Sub64"], apart := false, narrowed := true }
def NatCarriesUptoSaid : Prop := natCarriesUptoRow.holds Try.pinned (OpenSpec.upto natCarriesSpec)

/-- 'chattellaw01.NatBits', WHERE WHAT IT READS IS OF BULK AT MOST 1048576: true; the input reads as it did. -/
def natBitsUptoRow : OpenClaim := { program := "ytdfdlmhllonggaa", sum := "2ea19138277f956c7958c92342d3badab71958acb48d40c5873fa26657f07d59", func := "chattel/chattellaw01.NatBits", spec := "natBits", inPlace := ["math/bits.Add64"], apart := false, narrowed := true }
def NatBitsUptoSaid : Prop := natBitsUptoRow.holds Try.pinned (OpenSpec.upto natBitsSpec)

end Rows
end Go.Proofs.Ytdfdlmhllonggaa
