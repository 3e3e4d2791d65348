/- The rule region, where edges that do not bind may lead to later operations. No program is named here. -/
import Derived.Test.YtjgceldghelpiaaDoorRgx
namespace Go.Proofs.YtjgceldghelpiaaDoor.Rg
open Go.RowKit
variable {P : Program} {ops : Array Oper} {Q : Exit → Act → World → Prop}
/-- No kind of variables at all. -/
def X.none (P : Program) : X.KD P where
  ok _ := false
  Lv _ _ _ := False
  St _ w _ _ := w
  Hl _ _ _ _ := False
  Sh _ _ := False
  lt h := h.elim
  lvGrow h _ := h
  hlGrow h _ := h
  lvSt h _ _ _ := h.elim
  hlSt h _ := h.elim
  hlOther h _ _ _ := h.elim
  stOs := rfl
  stTape := rfl
  stOut := rfl
  stSize := rfl
  stBlock _ := rfl
  run h _ _ _ _ := h.elim
  al h _ := by cases h
section
variable {F : Facts} {a0 : Act} {w0 : World} {n : Nat}
/-- As the rule region, where edges that do not bind may lead to later operations. -/
theorem regionV {id : Nat} (hm : P.follows .mixedOrders = true) (hn : a0.tmps.size = n) (hwf : wfV n ops = true) (hF : ∀ d w w' v, F d w v → Grow w w' → F d w' v) (step : ∀ i, i < ops.size → Step P ops Q F a0 w0 i)
    (fin : ∀ a w, Grow w0 w → Agree ops a0 a → (∀ d, (dsts ops).contains d = true → F d w (a.tmps.getD d undef)) → Q .normal a w) : (Code.region id ops true).wp P Q a0 w0 := by
  refine X.region5 (F := fun d _ w v => F d w v) (X.none P) ⟨[], [], [], fun _ => 0⟩ [] [] (dsts ops) hm hn hwf (by simp [X.vsB]) rfl rfl (fun d _ w w' v h g => hF d w w' v h g) (fun _ _ _ _ _ h _ => h) (fun _ _ _ _ _ _ _ _ h => h.elim) (fun _ _ h => by cases h) (fun _ _ _ h => by cases h) (fun _ h => by cases h) (fun _ _ h => by cases h) (fun i hi _ _ => ?_) ?_
  · intro o ho a w hg ha hd
    exact step i hi o ho a w hg.toGrow ha fun d hdd => hd d hdd rfl
  · intro f w hg hf _ _ _ _
    have hlt : ∀ d, (dsts ops).contains d = true → d < a0.tmps.size := by
      intro d hd
      simp only [wfV, Bool.and_eq_true] at hwf
      have := List.all_eq_true.1 hwf.1.1 d (by simpa using hd)
      rw [hn]
      simpa using this
    refine fin _ w hg.toGrow ⟨puts_defers f _ a0, puts_size f _ a0, fun d hd => ?_⟩ fun d hd => ?_
    · by_cases h : d < a0.tmps.size
      · rw [puts_get f _ a0 d h, hd]; rfl
      · rw [Array.getD_eq_getD_getElem?, Array.getD_eq_getD_getElem?, Array.getElem?_eq_none (by rw [puts_size]; omega), Array.getElem?_eq_none (by omega)]
    · rw [puts_get f _ a0 d (hlt d hd), hd]
      exact hf d hd rfl
end
end Go.Proofs.YtjgceldghelpiaaDoor.Rg
