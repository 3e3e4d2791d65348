/- Int's answers and parts of tuples, as steps of a region whose order is open. -/
import Derived.Test.YtjgceldghelpiaaDoorRgV
namespace Go.Proofs.YtjgceldghelpiaaDoor.Rg
open Go.RowKit
section
variable {ops : Array Oper} {Q : Exit → Act → World → Prop} {F : Facts} {a0 : Act} {w0 : World}
theorem extractV {i d x j : Nat} {vs : Array Value} {u : Value} (dx : depI ops i x = true) (hx : ∀ w v, F x w v → v = .tuple vs) (hu : vs[j]? = some u) (hF : ∀ w v, v = u → F d w v) :
    Owes Tryd.prog ops Q F a0 w0 i (some d) (.extract (.tmp x) j) :=
  fun o a w ho hd hg ha D => valOf (v := u) (w' := w) (by
    have e : a.tmps.getD x undef = .tuple vs := hx _ _ (D x dx)
    simp only [Array.getD_eq_getD_getElem?] at e
    simp [execOp, ho, go_sem, Act.eval, e, hu]) hd (hF _ _ rfl) (Grow.refl w)
theorem en_IntW : Enters Tryd.prog 29 := enters_of Tryd.func29 (by kernel_rfl) rfl
theorem callIntNo {i d x k : Nat} {n : Int} {ts : Array TypeId} (dx : depI ops i x = true) (hx : ∀ w v, F x w v → IsW w v n k) (hk : k ≤ 4294967296) (hn : n < -9223372036854775808 ∨ 9223372036854775807 < n)
    (hF : ∀ w v, v = .tuple #[.int .i64 0, .bool false] → F d w v) : Owes Tryd.prog ops Q F a0 w0 i (some d) (.call { callee := .value (.func 29), args := #[.tmp x], argTypes := ts }) :=
  fun _ _ _ ho hd _ _ D => call1 ho en_IntW hd (int_no (hx _ _ (D x dx)) hk hn) fun _ _ ⟨v, e, h, g⟩ => ⟨v, e, hF _ _ h, g⟩
end
end Go.Proofs.YtjgceldghelpiaaDoor.Rg
