/- Loads and stores of numbers' variables, as steps of a region (Rgf). -/
import Derived.Test.YtckcjiojfpaikaaDoorRgNat
import Derived.Test.YtckcjiojfpaikaaDoorRgf
namespace Go.Proofs.YtckcjiojfpaikaaDoor.Rg
open Go.RowKit

section
variable {ops : Array Oper} {Q : Exit → Act → World → Prop} {F : Facts2} {a0 : Act} {w0 : World}

/-- The load of a variable that the region does not turn. -/
theorem load2 {i d p : Nat} {b : Addr} {A : Option Addr} {L C : Nat} (h : info ops i = some (some d, .load 24 (.tmp p), none)) (hp : a0.tmps.getD p undef = .pointer (some b)) (hnd : (dsts ops).contains p = false) (hc : w0.cell? b = some (.slice A L C))
    (hf : ∀ f w, Grow w0 w → F d f w (.agg #[.slice A L C])) : Step2 Tryd.prog ops Q F a0 w0 i :=
  step2N h fun o a w ho hd hg ha D => valOf (F := fun d w v => F d (vals a) w v) (v := .agg #[.slice A L C]) (w' := w) (by
    have e : a.eval (.tmp p) = .pointer (some b) := (ha.2.2 p hnd).trans hp
    simp only [execOp, ho, e, Sem.run_bind, load_nat w b A L C (hg.cells1 hc)]
    rfl) hd (hf _ _ hg) (Grow.refl w)

/-- A store into a variable, the last operation. -/
theorem store_last {k p x : Nat} {b : Addr} {A A' : Option Addr} {L C L' C' : Nat} {a : Act} {w : World} (h : info ops k = some (none, .store 24 (.tmp p) (.tmp x), none)) (hp : a.tmps.getD p undef = .pointer (some b))
    (hx : a.tmps.getD x undef = .agg #[.slice A' L' C']) (hc : w.cell? b = some (.slice A L C)) (hf : w.frozen? b = false) (hq : Q .normal a (w.setCell b (.slice A' L' C'))) : wpOp Tryd.prog ops Q k (fun a' w' => Q .normal a' w') a w := by
  cases ho : ops[k]? with
  | none => rw [info, ho] at h; cases h
  | some o =>
    obtain ⟨h1, h2, h3⟩ := info_parts h ho
    refine run_wanted ho (by simp [Region.wanted, h3]) ?_
    unfold Oper.wp
    have hrun : (execOp a.eval o).run Tryd.prog w = .ok .skip (w.setCell b (.slice A' L' C')) := by
      simp only [Array.getD_eq_getD_getElem?] at hp hx
      simp [execOp, h2, go_sem, Act.eval, hp, hx, hc, hf]
    rw [hrun, Oper.upon_skip, h1]
    exact hq
end
end Go.Proofs.YtckcjiojfpaikaaDoor.Rg
