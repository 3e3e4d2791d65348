/- Calls of the reference, as steps of a region whose order is open. -/
import Derived.Test.YtfeijnbmaehniaaRefF
import Derived.Test.YtfeijnbmaehniaaRgNat
namespace Go.Proofs.Ytfeijnbmaehniaa
open Go.RowKit

namespace Rg
section
variable {ops : Array Oper} {Q : Exit → Act → World → Prop} {F : Facts} {a0 : Act} {w0 : World}
theorem st_D (n k : Nat) : Stable (fun w v => IsD w v n k) := fun _ _ _ h g => h.grow g
theorem en_refOf : Enters Try.prog 11 := enters_of Try.func11 (by kernel_rfl) rfl
theorem en_refCmp : Enters Try.prog 37 := enters_of Try.func37 (by kernel_rfl) rfl
theorem callRefOf {i d x k : Nat} {l : List Nat} {ts : Array TypeId} (dx : depI ops i x = true) (hx : ∀ w v, F x w v → Sl w v l) (hl : l.length ≤ 1048576) (hk : 8 * l.length ≤ k)
    (hF : ∀ w v, IsD w v (Mx.val l) k → F d w v) : Owes Try.prog ops Q F a0 w0 i (some d) (.call { callee := .value (.func 11), args := #[.tmp x], argTypes := ts }) :=
  fun _ _ _ ho hd _ _ D => call1 ho en_refOf hd (refOf_any _ _ _ hl (hx _ _ (D x dx))) fun _ _ ⟨v, e, h, g⟩ => ⟨v, e, hF _ _ (h.more hk), g⟩
theorem callRefCmp {i d x y n m k j : Nat} {ts : Array TypeId} (dx : depI ops i x = true) (dy : depI ops i y = true) (hx : ∀ w v, F x w v → IsD w v n k) (hy : ∀ w v, F y w v → IsD w v m j) (hk : k ≤ 4294967296)
    (hF : ∀ w v, v = .int .i64 (Mx.cmp n m) → F d w v) : Owes Try.prog ops Q F a0 w0 i (some d) (.call { callee := .value (.func 37), args := #[.tmp x, .tmp y], argTypes := ts }) :=
  fun _ _ _ ho hd _ _ D => call2 ho en_refCmp hd (refCmp_any _ _ _ _ _ _ _ hk (hx _ _ (D x dx)) (hy _ _ (D y dy))) fun _ _ ⟨v, e, h, g⟩ => ⟨v, e, hF _ _ h, g⟩
theorem neg_cmp (n m : Nat) : IntKind.i64.wrap (-(Mx.cmp n m)) = -(Mx.cmp n m) := IntWalk.i64_in _ (by have := Mx.cmp_bd n m; omega)
theorem negI {i d x : Nat} {m r : Int} (dx : depI ops i x = true) (hx : ∀ w v, F x w v → v = .int .i64 m) (hr : IntKind.i64.wrap (-m) = r) (hF : ∀ w v, v = .int .i64 r → F d w v) :
    Owes Try.prog ops Q F a0 w0 i (some d) (.unOp .neg 3 (.tmp x)) :=
  fun o a w ho hd hg ha D => valOf (v := .int .i64 r) (w' := w) (by
    have e : a.tmps.getD x undef = .int .i64 m := hx _ _ (D x dx)
    simp only [Array.getD_eq_getD_getElem?] at e
    simp [execOp, ho, go_sem, Act.eval, e, hr]) hd (hF _ _ rfl) (Grow.refl w)
end
end Rg
end Go.Proofs.Ytfeijnbmaehniaa
