/- The reference's Read and Pow, the laws' same, as steps of a region whose order is open. -/
import Derived.Test.YtckcjiojfpaikaaDoorRefR
import Derived.Test.YtckcjiojfpaikaaDoorBRef
namespace Go.Proofs.YtckcjiojfpaikaaDoor.Rg
open Go.RowKit

section
variable {ops : Array Oper} {Q : Exit → Act → World → Prop} {F : Facts} {a0 : Act} {w0 : World}
theorem en_refRead : Enters Tryd.prog 19 := enters_of Tryd.func19 (by kernel_rfl) rfl
theorem en_same3 : Enters Tryd.prog 18 := enters_of Tryd.func18 (by kernel_rfl) rfl
theorem en_refPow : Enters Tryd.prog 24 := enters_of Tryd.func24 (by kernel_rfl) rfl
theorem callRead {i d x : Nat} {l : List UInt8} {ts : Array TypeId} (dx : depI ops i x = true) (hx : ∀ w v, F x w v → v = .string (str l)) (hl : l.length ≤ 4096) (hd : ∀ b ∈ l, Tx.isDig b)
    (hF : ∀ w v, IsD w v (Tx.rd l) 2000 → F d w v) : Owes Tryd.prog ops Q F a0 w0 i (some d) (.call { callee := .value (.func 19), args := #[.tmp x], argTypes := ts }) :=
  fun _ a w ho hd' _ _ D => by
    have e : a.tmps.getD x undef = .string (str l) := hx _ _ (D x dx)
    refine call1 ho en_refRead hd' (R := Ret w fun v' w' => IsD w' v' (Tx.rd l) 2000) ?_ fun _ _ ⟨v, e, h, g⟩ => ⟨v, e, hF _ _ h, g⟩
    rw [e]
    exact refRead_any w (str l) (by rw [str_size]; exact hl) hd
theorem callSame3 {i d x y n m k j : Nat} {ts : Array TypeId} (dx : depI ops i x = true) (dy : depI ops i y = true) (hx : ∀ w v, F x w v → IsN w v n k) (hy : ∀ w v, F y w v → IsD w v m j) (hk : k ≤ 1048576) (he : n = m)
    (hF : ∀ w v, v = .bool true → F d w v) : Owes Tryd.prog ops Q F a0 w0 i (some d) (.call { callee := .value (.func 18), args := #[.tmp x, .tmp y], argTypes := ts }) :=
  fun _ _ w ho hd _ _ D => call2 ho en_same3 hd (same3_any w _ _ n k j hk (hx _ _ (D x dx)) (he ▸ hy _ _ (D y dy))) fun _ _ ⟨v, e, h, g⟩ => ⟨v, e, hF _ _ h, g⟩
theorem callRefPow {i d x y n k t : Nat} {ts : Array TypeId} (dx : depI ops i x = true) (dy : depI ops i y = true) (hx : ∀ w v, F x w v → IsD w v n k) (hy : ∀ w v, F y w v → v = .int .i64 (t : Int)) (hk : k ≤ 1000) (ht : t ≤ 1000)
    (hF : ∀ w v, IsD w v (n ^ t) ((k + 1) * t + 1) → F d w v) : Owes Tryd.prog ops Q F a0 w0 i (some d) (.call { callee := .value (.func 24), args := #[.tmp x, .tmp y], argTypes := ts }) :=
  fun _ a w ho hd _ _ D => by
    have e : a.tmps.getD y undef = .int .i64 (t : Int) := hy _ _ (D y dy)
    refine call2 ho en_refPow hd (R := Ret w fun v' w' => IsD w' v' (n ^ t) ((k + 1) * t + 1)) ?_ fun _ _ ⟨v, e, h, g⟩ => ⟨v, e, hF _ _ h, g⟩
    rw [e]
    exact refPow_any w _ n k t (hx _ _ (D x dx)) hk ht
end
end Go.Proofs.YtckcjiojfpaikaaDoor.Rg
