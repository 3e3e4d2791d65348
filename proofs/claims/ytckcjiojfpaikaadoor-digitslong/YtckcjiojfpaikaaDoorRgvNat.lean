/- Steps of a region that makes variables of type Nat: quot.Div. -/
import Derived.Test.YtckcjiojfpaikaaDoorRgv
import Derived.Test.YtckcjiojfpaikaaDoorNatV
import Derived.Test.YtckcjiojfpaikaaDoorQuoN
namespace Go.Proofs.YtckcjiojfpaikaaDoor
open Go.RowKit

theorem IsN.store {w : World} {v : Value} {n b : Nat} (h : IsN w v n b) {p : Addr} {A' : Option Addr} {k c : Nat} (hp : w.cell? p = some (.slice A' k c)) (u : Value) : IsN (w.setCell p u) v n b := ⟨h.1.store hp u, h.2⟩
/-- A quotient, a rest, and no error. -/
def IsQR (w : World) (v : Value) (q r j k : Nat) : Prop := ∃ x y, v = .tuple #[x, y, .int .i64 0] ∧ IsN w x q j ∧ IsN w y r k
theorem IsQR.grow {w w' : World} {v : Value} {q r j k : Nat} (h : IsQR w v q r j k) (g : Grow w w') : IsQR w' v q r j k := by
  obtain ⟨x, y, e, h1, h2⟩ := h
  exact ⟨x, y, e, h1.grow g, h2.grow g⟩
theorem IsQR.store {w : World} {v : Value} {q r j b : Nat} (h : IsQR w v q r j b) {p : Addr} {A' : Option Addr} {k c : Nat} (hp : w.cell? p = some (.slice A' k c)) (u : Value) : IsQR (w.setCell p u) v q r j b := by
  obtain ⟨x, y, e, h1, h2⟩ := h
  exact ⟨x, y, e, h1.store hp u, h2.store hp u⟩

namespace Rg
section
variable {ops : Array Oper} {Q : Exit → Act → World → Prop} {F : Facts} {a0 : Act} {w0 : World} {V : VS}
theorem en_div : Enters Tryd.prog 57 := enters_of Tryd.func57 (by kernel_rfl) rfl
theorem callDiv {i d x y n m k j : Nat} {ts : Array TypeId} (dx : depI ops i x = true) (dy : depI ops i y = true) (hx : ∀ w v, F x w v → IsN w v n k) (hy : ∀ w v, F y w v → IsN w v m j) (hk : k ≤ 1073741824) (hm : m ≠ 0)
    (hF : ∀ w v, IsQR w v (n / m) (n % m) k j → F d w v) : Owes Tryd.prog ops Q F a0 w0 i (some d) (.call { callee := .value (.func 57), args := #[.tmp x, .tmp y], argTypes := ts }) :=
  fun _ _ _ ho hd _ _ D => call2 ho en_div hd (div_n (hx _ _ (D x dx)) (hy _ _ (D y dy)) hk hm) fun _ _ ⟨v, e, h, g⟩ => ⟨v, e, hF _ _ h, g⟩
theorem extract0 {i d x q r j k : Nat} (dx : depI ops i x = true) (hx : ∀ w v, F x w v → IsQR w v q r j k) (hF : ∀ w v, IsN w v q j → F d w v) : Owes Tryd.prog ops Q F a0 w0 i (some d) (.extract (.tmp x) 0) :=
  fun o a w ho hd hg ha D => by
    obtain ⟨u, z, e, h1, h2⟩ := hx _ _ (D x dx)
    refine valOf (v := u) (w' := w) ?_ hd (hF _ _ h1) (Grow.refl w)
    simp only [Array.getD_eq_getD_getElem?] at e
    simp [execOp, ho, go_sem, Act.eval, e]
theorem extract1 {i d x q r j k : Nat} (dx : depI ops i x = true) (hx : ∀ w v, F x w v → IsQR w v q r j k) (hF : ∀ w v, IsN w v r k → F d w v) : Owes Tryd.prog ops Q F a0 w0 i (some d) (.extract (.tmp x) 1) :=
  fun o a w ho hd hg ha D => by
    obtain ⟨u, z, e, h1, h2⟩ := hx _ _ (D x dx)
    refine valOf (v := z) (w' := w) ?_ hd (hF _ _ h2) (Grow.refl w)
    simp only [Array.getD_eq_getD_getElem?] at e
    simp [execOp, ho, go_sem, Act.eval, e]
theorem extract2 {i d x q r j k : Nat} (dx : depI ops i x = true) (hx : ∀ w v, F x w v → IsQR w v q r j k) (hF : ∀ w v, v = .int .i64 0 → F d w v) : Owes Tryd.prog ops Q F a0 w0 i (some d) (.extract (.tmp x) 2) :=
  fun o a w ho hd hg ha D => by
    obtain ⟨u, z, e, h1, h2⟩ := hx _ _ (D x dx)
    refine valOf (v := .int .i64 0) (w' := w) ?_ hd (hF _ _ rfl) (Grow.refl w)
    simp only [Array.getD_eq_getD_getElem?] at e
    simp [execOp, ho, go_sem, Act.eval, e]

/-- A step of Rg as a step among variables. -/
theorem step4N {i : Nat} {dst : Option Nat} {op : Op} (h : info ops i = some (dst, op, none)) (hal : ∀ d, (V.al.map (·.2)).contains d = true → ∀ w v, F d w v) (hs : Owes Tryd.prog ops Q F a0 w0 i dst op) : Step4 ops Q (fun d _ w v => F d w v) V [] a0 w0 i := by
  intro o ho a w hg ha hd
  obtain ⟨h1, h2, h3⟩ := info_parts h ho
  refine run_wanted ho (by simp [Region.wanted, h3]) (hs o a w h2 h1 hg.toGrow ha fun d hdi => ?_)
  cases hc : (V.al.map (·.2)).contains d with
  | true => exact hal d hc _ _
  | false => exact hd d (by rw [← depI_eq ho]; exact hdi) hc
end
end Rg

end Go.Proofs.YtckcjiojfpaikaaDoor
