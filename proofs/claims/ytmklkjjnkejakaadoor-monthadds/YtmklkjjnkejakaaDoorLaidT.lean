/- What the listed tables say of the memory: the months' days, the powers of ten. -/
import Derived.Test.YtmklkjjnkejakaaDoorLaid
import Derived.Test.YtmklkjjnkejakaaDoorBXk
import Derived.Stop.LaidErr
namespace Go.Proofs.YtmklkjjnkejakaaDoor
open Go.RowKit
theorem tab_of_laid {P : Program} {W : World} {name : String} {d : DataW Unit} {k : IntKind} {zs : List Int} {g : Nat} {t e : TypeId} {n : Nat}
    (hg : P.globalNamed name = some g) (hty : (P.globals[g]?).map (·.type) = some t) (ht : P.underlying t = some (.array n e)) (he : P.underlying e = some (.int k)) (hce : P.cellsOf e = 1) (hct : P.cellsOf t = n) (hd : d = Lib.tabData k zs) :
    ∀ {l : List (String × DataW Unit)}, laidMet P l W → (name, d) ∈ l → Lib.TabIs P W name k zs := by
  intro l
  induction l with
  | nil => intro _ h; cases h
  | cons x r ih =>
    intro h hm
    rcases List.mem_cons.1 hm with rfl | hm
    · rw [hd] at h
      exact Lib.tabIs_of_head hg hty ht he hce hct h
    · exact ih (laidMet.tail h) hm
theorem tb_of {W : World} (hS : W.ShapedOpen Tryd.prog) (hL : laidMetH Tryd.prog laidList W) : X.isTb W undef := by
  have h' : laidMet Tryd.prog laidList W := hL
  have h10 : X.isP10 W := trivial
  have hm : Lib.TabIs Tryd.prog W "chattel/date.monthDays" .i64 X.mdL := tab_of_laid (g := 0) (t := 58) (e := 3) (n := 12) (by kernel_rfl) (by kernel_rfl) (by kernel_rfl) (by kernel_rfl) (by kernel_rfl) (by kernel_rfl) (d := Rows.laid_chattel_date_monthDays) (by kernel_rfl) h' (by unfold laidList; simp)
  have hg : 0 < Tryd.prog.globals.size := by decide +kernel
  have h0 : ((begin Tryd.prog (fun _ _ => 0) default).world.heap[0]?).bind Obj.row? = some (#[.int .i64 0, .int .i64 0, .int .i64 0, .int .i64 0, .int .i64 0, .int .i64 0, .int .i64 0, .int .i64 0, .int .i64 0, .int .i64 0, .int .i64 0, .int .i64 0], 58) := by kernel_rfl
  obtain ⟨cs, hh, _⟩ := hS.1 0 _ _ hg h0
  refine ⟨h10, cs, (0, 0), hh, fun j x hx => ?_⟩
  unfold Lib.TabIs World.var? at hm
  rw [show Tryd.prog.globalNamed "chattel/date.monthDays" = some 0 from by kernel_rfl] at hm
  simp only [Option.bind_some, hh, Option.some.injEq] at hm
  rw [hm]
  simp [hx]
end Go.Proofs.YtmklkjjnkejakaaDoor
