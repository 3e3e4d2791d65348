/-
  DERIVED. GIVEN WITH THE SEED: THE CARDS: each row of YtmklkjjnkejakaaDoorRows.lean that lists a variable, with what it lists TIED to the program's text (the seventh form; the later family's looks); each row that meets fmt, with fmt's text TOLD by the authors' own Lean function (tested against real Go, not proved from fmt's source: count such statements apart). THE CARD IS WHAT COUNTS. Prove the row's statement (the work); the ties are given (YtmklkjjnkejakaaDoorTie.lean); close each card by the builder's one call (the guide's Derived/Test/ToyasCard.lean, 'card_holds'). Laid BY PROGRAM, IN A SANDBOX (cutbox-door.mjs). By AI agents, Wed Nov 11 2026. No macro, syntax, notation, axiom, sorry.
-/
import Derived.Test.YtmklkjjnkejakaaDoorRows
import GoSem.ClaimSeven
namespace Go.Proofs.YtmklkjjnkejakaaDoor
namespace Rows

/-- THE TIED CARD OF 'chattellaw10.MonthAdds'. -/
def monthAddsCard : Claim7 := { stood := { row := monthAddsRow, standIns := [], harness := (true, "1832774fc9c405a6688ff4215f7819596968147659dde10a5332974c7c9230e6"), looks := false }, kinds := [], alts := [], laidByText := true, laidKinds := [.data], laidTests := true, laidLooks := .later }
def MonthAddsCardSaid : Prop := Claim7.holds Tryd.pinned (.plain (OpenSpec.ofChange monthAddsSpec)) monthAddsCard

/-- THE TIED CARD OF 'chattellaw10.MonthSeries'. -/
def monthSeriesCard : Claim7 := { stood := { row := monthSeriesRow, standIns := [], harness := (true, "1832774fc9c405a6688ff4215f7819596968147659dde10a5332974c7c9230e6"), looks := false }, kinds := [], alts := [], laidByText := true, laidKinds := [.data], laidTests := true, laidLooks := .later }
def MonthSeriesCardSaid : Prop := Claim7.holds Tryd.pinned (.plain (OpenSpec.ofChange monthSeriesSpec)) monthSeriesCard

/-- THE TIED CARD OF 'chattellaw10.MonthRises'. -/
def monthRisesCard : Claim7 := { stood := { row := monthRisesRow, standIns := [], harness := (true, "1832774fc9c405a6688ff4215f7819596968147659dde10a5332974c7c9230e6"), looks := false }, kinds := [], alts := [], laidByText := true, laidKinds := [.data], laidTests := true, laidLooks := .later }
def MonthRisesCardSaid : Prop := Claim7.holds Tryd.pinned (.plain (OpenSpec.ofChange monthRisesSpec)) monthRisesCard

/-- THE TIED CARD OF 'chattellaw10.MonthBetween'. -/
def monthBetweenCard : Claim7 := { stood := { row := monthBetweenRow, standIns := [], harness := (true, "1832774fc9c405a6688ff4215f7819596968147659dde10a5332974c7c9230e6"), looks := false }, kinds := [], alts := [], laidByText := true, laidKinds := [.data], laidTests := true, laidLooks := .later }
def MonthBetweenCardSaid : Prop := Claim7.holds Tryd.pinned (.plain (OpenSpec.ofChange monthBetweenSpec)) monthBetweenCard

/-- THE TIED CARD OF 'chattellaw10.MonthTwice'. -/
def monthTwiceCard : Claim7 := { stood := { row := monthTwiceRow, standIns := [], harness := (true, "1832774fc9c405a6688ff4215f7819596968147659dde10a5332974c7c9230e6"), looks := false }, kinds := [], alts := [], laidByText := true, laidKinds := [.data], laidTests := true, laidLooks := .later }
def MonthTwiceCardSaid : Prop := Claim7.holds Tryd.pinned (.plain (OpenSpec.ofChange monthTwiceSpec)) monthTwiceCard

/-- THE SECOND FORM's CARD OF 'chattellaw10.MonthAdds'. -/
def monthAddsUptoCard : Claim7 := { stood := { row := monthAddsUptoRow, standIns := [], harness := (true, "1832774fc9c405a6688ff4215f7819596968147659dde10a5332974c7c9230e6"), looks := false }, kinds := [], alts := [], laidByText := true, laidKinds := [.data], laidTests := true, laidLooks := .later }
def MonthAddsUptoCardSaid : Prop := Claim7.holds Tryd.pinned (.plain (OpenSpec.upto monthAddsSpec)) monthAddsUptoCard

/-- THE SECOND FORM's CARD OF 'chattellaw10.MonthSeries'. -/
def monthSeriesUptoCard : Claim7 := { stood := { row := monthSeriesUptoRow, standIns := [], harness := (true, "1832774fc9c405a6688ff4215f7819596968147659dde10a5332974c7c9230e6"), looks := false }, kinds := [], alts := [], laidByText := true, laidKinds := [.data], laidTests := true, laidLooks := .later }
def MonthSeriesUptoCardSaid : Prop := Claim7.holds Tryd.pinned (.plain (OpenSpec.upto monthSeriesSpec)) monthSeriesUptoCard

/-- THE SECOND FORM's CARD OF 'chattellaw10.MonthRises'. -/
def monthRisesUptoCard : Claim7 := { stood := { row := monthRisesUptoRow, standIns := [], harness := (true, "1832774fc9c405a6688ff4215f7819596968147659dde10a5332974c7c9230e6"), looks := false }, kinds := [], alts := [], laidByText := true, laidKinds := [.data], laidTests := true, laidLooks := .later }
def MonthRisesUptoCardSaid : Prop := Claim7.holds Tryd.pinned (.plain (OpenSpec.upto monthRisesSpec)) monthRisesUptoCard

/-- THE SECOND FORM's CARD OF 'chattellaw10.MonthBetween'. -/
def monthBetweenUptoCard : Claim7 := { stood := { row := monthBetweenUptoRow, standIns := [], harness := (true, "1832774fc9c405a6688ff4215f7819596968147659dde10a5332974c7c9230e6"), looks := false }, kinds := [], alts := [], laidByText := true, laidKinds := [.data], laidTests := true, laidLooks := .later }
def MonthBetweenUptoCardSaid : Prop := Claim7.holds Tryd.pinned (.plain (OpenSpec.upto monthBetweenSpec)) monthBetweenUptoCard

/-- THE SECOND FORM's CARD OF 'chattellaw10.MonthTwice'. -/
def monthTwiceUptoCard : Claim7 := { stood := { row := monthTwiceUptoRow, standIns := [], harness := (true, "1832774fc9c405a6688ff4215f7819596968147659dde10a5332974c7c9230e6"), looks := false }, kinds := [], alts := [], laidByText := true, laidKinds := [.data], laidTests := true, laidLooks := .later }
def MonthTwiceUptoCardSaid : Prop := Claim7.holds Tryd.pinned (.plain (OpenSpec.upto monthTwiceSpec)) monthTwiceUptoCard
end Rows
end Go.Proofs.YtmklkjjnkejakaaDoor
