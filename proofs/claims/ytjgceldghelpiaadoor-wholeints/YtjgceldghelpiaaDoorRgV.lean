/- Calls of the reference of layer 4, and loads of its Ints, as steps of a region whose order is open. -/
import Derived.Test.YtjgceldghelpiaaDoorLaw4A
namespace Go.Proofs.YtjgceldghelpiaaDoor.Rg
open Go.RowKit
section
variable {ops : Array Oper} {Q : Exit → Act → World → Prop} {F : Facts} {a0 : Act} {w0 : World}
theorem st_V (z : Int) (k : Nat) : Stable (fun w v => IsV w v z k) := fun _ _ _ h g => h.grow g
theorem loadV {i d p b k : Nat} {z : Int} (hp : a0.tmps.getD p undef = .pointer (some ⟨b, 0, none⟩)) (hnd : (dsts ops).contains p = false) (hv : VarV w0 b z k) (hF : ∀ w v, IsV w v z k → F d w v) :
    Owes Tryd.prog ops Q F a0 w0 i (some d) (.load 31 (.tmp p)) :=
  fun o a w ho hd hg ha _ => by
    obtain ⟨A, l, c, x, h0, h1, h2⟩ := hv.grow hg
    refine valOf (v := .agg #[.slice A l c, .bool x]) (w' := w) ?_ hd (hF _ _ h2) (Grow.refl w)
    have e : a.tmps.getD p undef = .pointer (some ⟨b, 0, none⟩) := (ha.2.2 p hnd).trans hp
    simp only [Array.getD_eq_getD_getElem?] at e
    simp [execOp, ho, go_sem, Act.eval, e, h0, h1]
theorem en_AddV : Enters Tryd.prog 13 := enters_of Tryd.func13 (by kernel_rfl) rfl
theorem en_SubV : Enters Tryd.prog 15 := enters_of Tryd.func15 (by kernel_rfl) rfl
theorem en_MulV : Enters Tryd.prog 17 := enters_of Tryd.func17 (by kernel_rfl) rfl
theorem en_NegV : Enters Tryd.prog 21 := enters_of Tryd.func21 (by kernel_rfl) rfl
theorem en_SignV : Enters Tryd.prog 23 := enters_of Tryd.func23 (by kernel_rfl) rfl
theorem en_CmpV : Enters Tryd.prog 19 := enters_of Tryd.func19 (by kernel_rfl) rfl
theorem en_PrintV : Enters Tryd.prog 12 := enters_of Tryd.func12 (by kernel_rfl) rfl
theorem callAddV {i d x y k j : Nat} {n m : Int} {ts : Array TypeId} (dx : depI ops i x = true) (dy : depI ops i y = true) (hx : ∀ w v, F x w v → IsV w v n k) (hy : ∀ w v, F y w v → IsV w v m j) (hk : k ≤ 4294967296) (hj : j ≤ 4294967296)
    (hF : ∀ w v, IsV w v (n + m) (max k j + 1) → F d w v) : Owes Tryd.prog ops Q F a0 w0 i (some d) (.call { callee := .value (.func 13), args := #[.tmp x, .tmp y], argTypes := ts }) :=
  fun _ _ _ ho hd _ _ D => call2 ho en_AddV hd (addV (hx _ _ (D x dx)) (hy _ _ (D y dy)) hk hj) fun _ _ ⟨v, e, h, g⟩ => ⟨v, e, hF _ _ h, g⟩
theorem callSubV {i d x y k j : Nat} {n m : Int} {ts : Array TypeId} (dx : depI ops i x = true) (dy : depI ops i y = true) (hx : ∀ w v, F x w v → IsV w v n k) (hy : ∀ w v, F y w v → IsV w v m j) (hk : k ≤ 4294967296) (hj : j ≤ 4294967296)
    (hF : ∀ w v, IsV w v (n - m) (max k j + 1) → F d w v) : Owes Tryd.prog ops Q F a0 w0 i (some d) (.call { callee := .value (.func 15), args := #[.tmp x, .tmp y], argTypes := ts }) :=
  fun _ _ _ ho hd _ _ D => call2 ho en_SubV hd (subV (hx _ _ (D x dx)) (hy _ _ (D y dy)) hk hj) fun _ _ ⟨v, e, h, g⟩ => ⟨v, e, hF _ _ h, g⟩
theorem callMulV {i d x y k j : Nat} {n m : Int} {ts : Array TypeId} (dx : depI ops i x = true) (dy : depI ops i y = true) (hx : ∀ w v, F x w v → IsV w v n k) (hy : ∀ w v, F y w v → IsV w v m j) (hk : k ≤ 4294967296) (hj : j ≤ 4294967296)
    (hF : ∀ w v, IsV w v (n * m) (k + j + 1) → F d w v) : Owes Tryd.prog ops Q F a0 w0 i (some d) (.call { callee := .value (.func 17), args := #[.tmp x, .tmp y], argTypes := ts }) :=
  fun _ _ _ ho hd _ _ D => call2 ho en_MulV hd (mulV (hx _ _ (D x dx)) (hy _ _ (D y dy)) hk hj) fun _ _ ⟨v, e, h, g⟩ => ⟨v, e, hF _ _ h, g⟩
theorem callCmpV {i d x y k j : Nat} {n m : Int} {ts : Array TypeId} (dx : depI ops i x = true) (dy : depI ops i y = true) (hx : ∀ w v, F x w v → IsV w v n k) (hy : ∀ w v, F y w v → IsV w v m j) (hk : k ≤ 4294967296) (hj : j ≤ 4294967296)
    (hF : ∀ w v, v = .int .i64 (n - m).sign → F d w v) : Owes Tryd.prog ops Q F a0 w0 i (some d) (.call { callee := .value (.func 19), args := #[.tmp x, .tmp y], argTypes := ts }) :=
  fun _ _ _ ho hd _ _ D => call2 ho en_CmpV hd (cmpV (hx _ _ (D x dx)) (hy _ _ (D y dy)) hk hj) fun _ _ ⟨v, e, h, g⟩ => ⟨v, e, hF _ _ h, g⟩
theorem callNegV {i d x k : Nat} {n : Int} {ts : Array TypeId} (dx : depI ops i x = true) (hx : ∀ w v, F x w v → IsV w v n k)
    (hF : ∀ w v, IsV w v (-n) k → F d w v) : Owes Tryd.prog ops Q F a0 w0 i (some d) (.call { callee := .value (.func 21), args := #[.tmp x], argTypes := ts }) :=
  fun _ _ _ ho hd _ _ D => call1 ho en_NegV hd (negV (hx _ _ (D x dx))) fun _ _ ⟨v, e, h, g⟩ => ⟨v, e, hF _ _ h, g⟩
theorem callSignV {i d x k : Nat} {n : Int} {ts : Array TypeId} (dx : depI ops i x = true) (hx : ∀ w v, F x w v → IsV w v n k)
    (hF : ∀ w v, v = .int .i64 n.sign → F d w v) : Owes Tryd.prog ops Q F a0 w0 i (some d) (.call { callee := .value (.func 23), args := #[.tmp x], argTypes := ts }) :=
  fun _ _ _ ho hd _ _ D => call1 ho en_SignV hd (signV (hx _ _ (D x dx))) fun _ _ ⟨v, e, h, g⟩ => ⟨v, e, hF _ _ h, g⟩
theorem callPrintV {i d x k : Nat} {n : Int} {ts : Array TypeId} (dx : depI ops i x = true) (hx : ∀ w v, F x w v → IsV w v n k) (hk : k ≤ 1000000)
    (hF : ∀ w v, v = .string (str (ztext n)) → F d w v) : Owes Tryd.prog ops Q F a0 w0 i (some d) (.call { callee := .value (.func 12), args := #[.tmp x], argTypes := ts }) :=
  fun _ _ _ ho hd _ _ D => call1 ho en_PrintV hd (printV (hx _ _ (D x dx)) hk) fun _ _ ⟨v, e, h, g⟩ => ⟨v, e, hF _ _ h, g⟩
end
end Go.Proofs.YtjgceldghelpiaaDoor.Rg
