/-
  NARROWER THAN 'FOR EVERY INPUT', by the rows' own cells (each row's printed sentence says how): MonthAdds: laid · MonthSeries: laid · MonthRises: laid · MonthBetween: laid · MonthTwice: laid.
  DERIVED. THE GIVEN ROWS OF THIS SEAT. 5 by the template 'for every input the law returns true; each argument reads behind the call as it read before'; 0 by the template 'total and deterministic' (their statements: YtmklkjjnkejakaaDoorTotals.lean).
  GIVEN WITH THE SEED: the statements are not yours to turn. If you find one false, say at which input.
  Laid BY PROGRAM, IN A SANDBOX (cutbox-rows.mjs): the forced cells as the released guide's own fill.sh prints them over the translation 916bc6b340a3b6bb… (all of the seat's roots in one cut). By AI agents, Wed Nov 11 2026. No macro, syntax, notation, axiom, sorry.
-/
import Derived.Test.YtmklkjjnkejakaaDoorChecked
import GoSem.Claim
import GoSem.ClaimJoined
import GoSem.ClaimMapViews
import Derived.JoinedTies
import Derived.KernelRfl
namespace Go.Proofs.YtmklkjjnkejakaaDoor
/- THE CELL 'sum', in the pinned program and in every row, IS THE sha256 OF THE DUMP (.gsa) THAT YtmklkjjnkejakaaDoorProg.lean LOADS. Nothing in Lean hashes anything: it is a label: what it is worth is what the hold of that sum in a sandbox is worth. -/
noncomputable def Tryd.pinned : Pinned := { name := "ytmklkjjnkejakaadoor", sum := "916bc6b340a3b6bb6366c060b1b14898c9f5b7bf7e4a919feebb809f4ea02f03", checked := Tryd.checked }
namespace Rows
def none {H : Type} : Left H := { results := [], args := [] }

/- WHAT THE LISTED PACKAGE-LEVEL VARIABLES READ AS WHEN THE CALL BEGINS. Each datum BY PROGRAM (the guide's laid-datum.mjs) off the statement by which the dump's own 'gosem.cut.vars' lays the variable. In a bare row this is a premise. The card (YtmklkjjnkejakaaDoorCards.lean) ties it to the program's text. -/
def laid_chattel_date_monthDays {H : Type} : DataW H := .agg [.lit (.int .i64 31), .lit (.int .i64 28), .lit (.int .i64 31), .lit (.int .i64 30), .lit (.int .i64 31), .lit (.int .i64 30), .lit (.int .i64 31), .lit (.int .i64 31), .lit (.int .i64 30), .lit (.int .i64 31), .lit (.int .i64 30), .lit (.int .i64 31)]

/-- 'chattellaw10.MonthAdds': WHATEVER THE INPUT: true; the input reads as it did. -/
def monthAddsSpec : ChangeSpec := { name := "monthAdds", fn := fun _ => fun
  | [d1, d2] => { results := [.lit (.bool true)], args := [d1, d2] }
  | _ => none }
def monthAddsRow : OpenClaim := { program := "ytmklkjjnkejakaadoor", sum := "916bc6b340a3b6bb6366c060b1b14898c9f5b7bf7e4a919feebb809f4ea02f03", func := "chattel/chattellaw10.MonthAdds", spec := "monthAdds", unfollowed := true, recurses := true, named := ["chattel/date.monthDays"], apart := false, laid := [("chattel/date.monthDays", laid_chattel_date_monthDays)] }
def MonthAddsSaid : Prop := monthAddsRow.holds Tryd.pinned (OpenSpec.ofChange monthAddsSpec)

/-- ITS FALSE NEIGHBOUR: 'it returns false'. Refute it at one input. -/
def monthAddsWrong : ChangeSpec := { name := "monthAdds", fn := fun _ => fun
  | [d1, d2] => { results := [.lit (.bool false)], args := [d1, d2] }
  | _ => none }
def MonthAddsWrongFalsely : Prop := monthAddsRow.holds Tryd.pinned (OpenSpec.ofChange monthAddsWrong)

/-- 'chattellaw10.MonthSeries': WHATEVER THE INPUT: true; the input reads as it did. -/
def monthSeriesSpec : ChangeSpec := { name := "monthSeries", fn := fun _ => fun
  | [d1, d2, d3] => { results := [.lit (.bool true)], args := [d1, d2, d3] }
  | _ => none }
def monthSeriesRow : OpenClaim := { program := "ytmklkjjnkejakaadoor", sum := "916bc6b340a3b6bb6366c060b1b14898c9f5b7bf7e4a919feebb809f4ea02f03", func := "chattel/chattellaw10.MonthSeries", spec := "monthSeries", named := ["chattel/date.monthDays"], apart := false, laid := [("chattel/date.monthDays", laid_chattel_date_monthDays)] }
def MonthSeriesSaid : Prop := monthSeriesRow.holds Tryd.pinned (OpenSpec.ofChange monthSeriesSpec)

/-- ITS FALSE NEIGHBOUR: 'it returns false'. Refute it at one input. -/
def monthSeriesWrong : ChangeSpec := { name := "monthSeries", fn := fun _ => fun
  | [d1, d2, d3] => { results := [.lit (.bool false)], args := [d1, d2, d3] }
  | _ => none }
def MonthSeriesWrongFalsely : Prop := monthSeriesRow.holds Tryd.pinned (OpenSpec.ofChange monthSeriesWrong)

/-- 'chattellaw10.MonthRises': WHATEVER THE INPUT: true; the input reads as it did. -/
def monthRisesSpec : ChangeSpec := { name := "monthRises", fn := fun _ => fun
  | [d1, d2, d3] => { results := [.lit (.bool true)], args := [d1, d2, d3] }
  | _ => none }
def monthRisesRow : OpenClaim := { program := "ytmklkjjnkejakaadoor", sum := "916bc6b340a3b6bb6366c060b1b14898c9f5b7bf7e4a919feebb809f4ea02f03", func := "chattel/chattellaw10.MonthRises", spec := "monthRises", named := ["chattel/date.monthDays"], apart := false, laid := [("chattel/date.monthDays", laid_chattel_date_monthDays)] }
def MonthRisesSaid : Prop := monthRisesRow.holds Tryd.pinned (OpenSpec.ofChange monthRisesSpec)

/-- ITS FALSE NEIGHBOUR: 'it returns false'. Refute it at one input. -/
def monthRisesWrong : ChangeSpec := { name := "monthRises", fn := fun _ => fun
  | [d1, d2, d3] => { results := [.lit (.bool false)], args := [d1, d2, d3] }
  | _ => none }
def MonthRisesWrongFalsely : Prop := monthRisesRow.holds Tryd.pinned (OpenSpec.ofChange monthRisesWrong)

/-- 'chattellaw10.MonthBetween': WHATEVER THE INPUT: true; the input reads as it did. -/
def monthBetweenSpec : ChangeSpec := { name := "monthBetween", fn := fun _ => fun
  | [d1, d2] => { results := [.lit (.bool true)], args := [d1, d2] }
  | _ => none }
def monthBetweenRow : OpenClaim := { program := "ytmklkjjnkejakaadoor", sum := "916bc6b340a3b6bb6366c060b1b14898c9f5b7bf7e4a919feebb809f4ea02f03", func := "chattel/chattellaw10.MonthBetween", spec := "monthBetween", unfollowed := true, recurses := true, named := ["chattel/date.monthDays"], apart := false, laid := [("chattel/date.monthDays", laid_chattel_date_monthDays)] }
def MonthBetweenSaid : Prop := monthBetweenRow.holds Tryd.pinned (OpenSpec.ofChange monthBetweenSpec)

/-- ITS FALSE NEIGHBOUR: 'it returns false'. Refute it at one input. -/
def monthBetweenWrong : ChangeSpec := { name := "monthBetween", fn := fun _ => fun
  | [d1, d2] => { results := [.lit (.bool false)], args := [d1, d2] }
  | _ => none }
def MonthBetweenWrongFalsely : Prop := monthBetweenRow.holds Tryd.pinned (OpenSpec.ofChange monthBetweenWrong)

/-- 'chattellaw10.MonthTwice': WHATEVER THE INPUT: true; the input reads as it did. -/
def monthTwiceSpec : ChangeSpec := { name := "monthTwice", fn := fun _ => fun
  | [d1, d2, d3] => { results := [.lit (.bool true)], args := [d1, d2, d3] }
  | _ => none }
def monthTwiceRow : OpenClaim := { program := "ytmklkjjnkejakaadoor", sum := "916bc6b340a3b6bb6366c060b1b14898c9f5b7bf7e4a919feebb809f4ea02f03", func := "chattel/chattellaw10.MonthTwice", spec := "monthTwice", named := ["chattel/date.monthDays"], apart := false, laid := [("chattel/date.monthDays", laid_chattel_date_monthDays)] }
def MonthTwiceSaid : Prop := monthTwiceRow.holds Tryd.pinned (OpenSpec.ofChange monthTwiceSpec)

/-- ITS FALSE NEIGHBOUR: 'it returns false'. Refute it at one input. -/
def monthTwiceWrong : ChangeSpec := { name := "monthTwice", fn := fun _ => fun
  | [d1, d2, d3] => { results := [.lit (.bool false)], args := [d1, d2, d3] }
  | _ => none }
def MonthTwiceWrongFalsely : Prop := monthTwiceRow.holds Tryd.pinned (OpenSpec.ofChange monthTwiceWrong)

/- THE SECOND FORM. 'bulk': how many values and letters a reading holds, each counted each time it is reached (what is shared counts as often as it is met; a slice's spare places count too). A statement '..UptoSaid' is the law's where the arguments, and the package variables that the reading takes, are together of bulk at most 1048576: NARROWER than '..Said'. Prove '..Said' where nothing that the law and all that it calls make is longer than what came in: it says more and counts as full. Else prove '..UptoSaid'. A law counts once. -/
mutual
def uptoBulk {H : Type} : DataW H → Nat
  | .lit (.string bytes) => bytes.length + 1
  | .lit _ => 1
  | .nil => 1
  | .ptr d => uptoBulk d + 1
  | .slice elems spare => uptoBulkAll elems + uptoBulkAll spare + 1
  | .agg parts => uptoBulkAll parts + 1
  | .iface _ d => uptoBulk d + 1
  | .map entries => uptoBulkEntries entries + 1
  | .held _ => 1
def uptoBulkAll {H : Type} : List (DataW H) → Nat
  | [] => 0
  | d :: r => uptoBulk d + uptoBulkAll r
def uptoBulkEntries {H : Type} : List (Lit × DataW H) → Nat
  | [] => 0
  | x :: r => uptoBulkEntry x + uptoBulkEntries r
def uptoBulkEntry {H : Type} : Lit × DataW H → Nat
  | (.string bytes, d) => bytes.length + uptoBulk d + 1
  | (_, d) => uptoBulk d + 1
 end
def uptoSmall : (H : Type) → List (DataW H) → Bool := fun _ ds => decide (uptoBulkAll ds ≤ 1048576)
def OpenSpec.upto (s : _root_.Go.ChangeSpec) : _root_.Go.OpenSpec := { _root_.Go.OpenSpec.ofChange s with cond := some uptoSmall }

/-- 'chattellaw10.MonthAdds', WHERE WHAT IT READS IS OF BULK AT MOST 1048576: true; the input reads as it did. -/
def monthAddsUptoRow : OpenClaim := { program := "ytmklkjjnkejakaadoor", sum := "916bc6b340a3b6bb6366c060b1b14898c9f5b7bf7e4a919feebb809f4ea02f03", func := "chattel/chattellaw10.MonthAdds", spec := "monthAdds", unfollowed := true, recurses := true, named := ["chattel/date.monthDays"], apart := false, laid := [("chattel/date.monthDays", laid_chattel_date_monthDays)], narrowed := true }
def MonthAddsUptoSaid : Prop := monthAddsUptoRow.holds Tryd.pinned (OpenSpec.upto monthAddsSpec)

/-- 'chattellaw10.MonthSeries', WHERE WHAT IT READS IS OF BULK AT MOST 1048576: true; the input reads as it did. -/
def monthSeriesUptoRow : OpenClaim := { program := "ytmklkjjnkejakaadoor", sum := "916bc6b340a3b6bb6366c060b1b14898c9f5b7bf7e4a919feebb809f4ea02f03", func := "chattel/chattellaw10.MonthSeries", spec := "monthSeries", named := ["chattel/date.monthDays"], apart := false, laid := [("chattel/date.monthDays", laid_chattel_date_monthDays)], narrowed := true }
def MonthSeriesUptoSaid : Prop := monthSeriesUptoRow.holds Tryd.pinned (OpenSpec.upto monthSeriesSpec)

/-- 'chattellaw10.MonthRises', WHERE WHAT IT READS IS OF BULK AT MOST 1048576: true; the input reads as it did. -/
def monthRisesUptoRow : OpenClaim := { program := "ytmklkjjnkejakaadoor", sum := "916bc6b340a3b6bb6366c060b1b14898c9f5b7bf7e4a919feebb809f4ea02f03", func := "chattel/chattellaw10.MonthRises", spec := "monthRises", named := ["chattel/date.monthDays"], apart := false, laid := [("chattel/date.monthDays", laid_chattel_date_monthDays)], narrowed := true }
def MonthRisesUptoSaid : Prop := monthRisesUptoRow.holds Tryd.pinned (OpenSpec.upto monthRisesSpec)

/-- 'chattellaw10.MonthBetween', WHERE WHAT IT READS IS OF BULK AT MOST 1048576: true; the input reads as it did. -/
def monthBetweenUptoRow : OpenClaim := { program := "ytmklkjjnkejakaadoor", sum := "916bc6b340a3b6bb6366c060b1b14898c9f5b7bf7e4a919feebb809f4ea02f03", func := "chattel/chattellaw10.MonthBetween", spec := "monthBetween", unfollowed := true, recurses := true, named := ["chattel/date.monthDays"], apart := false, laid := [("chattel/date.monthDays", laid_chattel_date_monthDays)], narrowed := true }
def MonthBetweenUptoSaid : Prop := monthBetweenUptoRow.holds Tryd.pinned (OpenSpec.upto monthBetweenSpec)

/-- 'chattellaw10.MonthTwice', WHERE WHAT IT READS IS OF BULK AT MOST 1048576: true; the input reads as it did. -/
def monthTwiceUptoRow : OpenClaim := { program := "ytmklkjjnkejakaadoor", sum := "916bc6b340a3b6bb6366c060b1b14898c9f5b7bf7e4a919feebb809f4ea02f03", func := "chattel/chattellaw10.MonthTwice", spec := "monthTwice", named := ["chattel/date.monthDays"], apart := false, laid := [("chattel/date.monthDays", laid_chattel_date_monthDays)], narrowed := true }
def MonthTwiceUptoSaid : Prop := monthTwiceUptoRow.holds Tryd.pinned (OpenSpec.upto monthTwiceSpec)

end Rows
end Go.Proofs.YtmklkjjnkejakaaDoor
