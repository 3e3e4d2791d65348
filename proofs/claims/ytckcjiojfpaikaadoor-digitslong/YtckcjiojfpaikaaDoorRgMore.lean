/- More steps of a region whose order is open: tests of errors' numbers and of texts; the calls of digits. -/
import Derived.Test.YtckcjiojfpaikaaDoorDgJ
import Derived.Test.YtckcjiojfpaikaaDoorRgNat
namespace Go.Proofs.YtckcjiojfpaikaaDoor.Rg
open Go.RowKit

section
variable {ops : Array Oper} {Q : Exit → Act → World → Prop} {F : Facts} {a0 : Act} {w0 : World}
theorem notB {i d x : Nat} {b c : Bool} (dx : depI ops i x = true) (hx : ∀ w v, F x w v → v = .bool b) (hb : (!b) = c) (hF : ∀ w v, v = .bool c → F d w v) :
    Owes Tryd.prog ops Q F a0 w0 i (some d) (.unOp .not 4 (.tmp x)) :=
  fun o a w ho hd hg ha D => valOf (v := .bool c) (w' := w) (by
    have e : a.tmps.getD x undef = .bool b := hx _ _ (D x dx)
    subst hb
    simp only [Array.getD_eq_getD_getElem?] at e
    simp [execOp, ho, go_sem, Act.eval, e]) hd (hF _ _ rfl) (Grow.refl w)
theorem neqI {i d x : Nat} {m c : Int} {b : Bool} (dx : depI ops i x = true) (hx : ∀ w v, F x w v → v = .int .i64 m) (hb : (m != c) = b) (hF : ∀ w v, v = .bool b → F d w v) :
    Owes Tryd.prog ops Q F a0 w0 i (some d) (.binOp .neq 3 (.tmp x) (.const (.int .i64 c)) 3) :=
  fun o a w ho hd hg ha D => valOf (v := .bool b) (w' := w) (by
    have e : a.tmps.getD x undef = .int .i64 m := hx _ _ (D x dx)
    subst hb
    simp only [Array.getD_eq_getD_getElem?] at e
    simp [execOp, ho, go_sem, Act.eval, e]) hd (hF _ _ rfl) (Grow.refl w)
theorem neqII {i d x y : Nat} {m c : Int} {b : Bool} (dx : depI ops i x = true) (dy : depI ops i y = true) (hx : ∀ w v, F x w v → v = .int .i64 m) (hy : ∀ w v, F y w v → v = .int .i64 c) (hb : (m != c) = b) (hF : ∀ w v, v = .bool b → F d w v) :
    Owes Tryd.prog ops Q F a0 w0 i (some d) (.binOp .neq 3 (.tmp x) (.tmp y) 3) :=
  fun o a w ho hd hg ha D => valOf (v := .bool b) (w' := w) (by
    have e : a.tmps.getD x undef = .int .i64 m := hx _ _ (D x dx)
    have e2 : a.tmps.getD y undef = .int .i64 c := hy _ _ (D y dy)
    subst hb
    simp only [Array.getD_eq_getD_getElem?] at e e2
    simp [execOp, ho, go_sem, Act.eval, e, e2]) hd (hF _ _ rfl) (Grow.refl w)
theorem neqE {i d x : Nat} {m c : Int} {b : Bool} (dx : depI ops i x = true) (hx : ∀ w v, F x w v → v = .int .i64 m) (hb : (m != c) = b) (hF : ∀ w v, v = .bool b → F d w v) :
    Owes Tryd.prog ops Q F a0 w0 i (some d) (.binOp .neq 27 (.tmp x) (.const (.int .i64 c)) 27) :=
  fun o a w ho hd hg ha D => valOf (v := .bool b) (w' := w) (by
    have e : a.tmps.getD x undef = .int .i64 m := hx _ _ (D x dx)
    subst hb
    simp only [Array.getD_eq_getD_getElem?] at e
    simp [execOp, ho, go_sem, Act.eval, e]) hd (hF _ _ rfl) (Grow.refl w)
theorem subII {i d x y : Nat} {m c r : Int} (dx : depI ops i x = true) (dy : depI ops i y = true) (hx : ∀ w v, F x w v → v = .int .i64 m) (hy : ∀ w v, F y w v → v = .int .i64 c) (hr : IntKind.i64.wrap (m - c) = r) (hF : ∀ w v, v = .int .i64 r → F d w v) :
    Owes Tryd.prog ops Q F a0 w0 i (some d) (.binOp .sub 3 (.tmp x) (.tmp y) 3) :=
  fun o a w ho hd hg ha D => valOf (v := .int .i64 r) (w' := w) (by
    have e : a.tmps.getD x undef = .int .i64 m := hx _ _ (D x dx)
    have e2 : a.tmps.getD y undef = .int .i64 c := hy _ _ (D y dy)
    simp only [Array.getD_eq_getD_getElem?] at e e2
    simp [execOp, ho, go_sem, Act.eval, e, e2, hr]) hd (hF _ _ rfl) (Grow.refl w)
theorem str_beq (l r : List UInt8) : ((str l).toList == (str r).toList) = (l == r) := by rw [Lib.toList_data, Lib.toList_data]
theorem eqlStr {i d x : Nat} {l r : List UInt8} {b : Bool} (dx : depI ops i x = true) (hx : ∀ w v, F x w v → v = .string (str l)) (hb : (l == r) = b) (hF : ∀ w v, v = .bool b → F d w v) :
    Owes Tryd.prog ops Q F a0 w0 i (some d) (.binOp .eql 9 (.tmp x) (.const (.string (str r))) 9) :=
  fun o a w ho hd hg ha D => valOf (v := .bool b) (w' := w) (by
    have e : a.tmps.getD x undef = .string (str l) := hx _ _ (D x dx)
    have h := str_beq l r
    rw [hb] at h
    clear hb
    generalize str l = s at *
    generalize str r = t at *
    simp only [Array.getD_eq_getD_getElem?] at e
    simp [execOp, ho, go_sem, Act.eval, e, h]) hd (hF _ _ rfl) (Grow.refl w)
theorem eqlStrII {i d x y : Nat} {l r : List UInt8} {b : Bool} (dx : depI ops i x = true) (dy : depI ops i y = true) (hx : ∀ w v, F x w v → v = .string (str l)) (hy : ∀ w v, F y w v → v = .string (str r)) (hb : (l == r) = b) (hF : ∀ w v, v = .bool b → F d w v) :
    Owes Tryd.prog ops Q F a0 w0 i (some d) (.binOp .eql 9 (.tmp x) (.tmp y) 9) :=
  fun o a w ho hd hg ha D => valOf (v := .bool b) (w' := w) (by
    have e : a.tmps.getD x undef = .string (str l) := hx _ _ (D x dx)
    have e2 : a.tmps.getD y undef = .string (str r) := hy _ _ (D y dy)
    have h := str_beq l r
    rw [hb] at h
    clear hb
    generalize str l = s at *
    generalize str r = t at *
    simp only [Array.getD_eq_getD_getElem?] at e e2
    simp [execOp, ho, go_sem, Act.eval, e, e2, h]) hd (hF _ _ rfl) (Grow.refl w)
theorem en_print : Enters Tryd.prog 9 := enters_of Tryd.func9 (by kernel_rfl) rfl
theorem en_length : Enters Tryd.prog 14 := enters_of Tryd.func14 (by kernel_rfl) rfl
theorem callPrint {i d x n k : Nat} {ts : Array TypeId} (dx : depI ops i x = true) (hx : ∀ w v, F x w v → IsN w v n k) (hk : k ≤ 536870912)
    (hF : ∀ w v, v = .string (str (Tx.text n)) → F d w v) : Owes Tryd.prog ops Q F a0 w0 i (some d) (.call { callee := .value (.func 9), args := #[.tmp x], argTypes := ts }) :=
  fun _ _ _ ho hd _ _ D => call1 ho en_print hd (print_any _ _ n k (hx _ _ (D x dx)) hk) fun _ _ ⟨v, e, h, g⟩ => ⟨v, e, hF _ _ h, g⟩
theorem callLength {i d x n k : Nat} {ts : Array TypeId} (dx : depI ops i x = true) (hx : ∀ w v, F x w v → IsN w v n k) (hk : k ≤ 536870912)
    (hF : ∀ w v, v = .int .i64 ((Tx.digs n : Nat) : Int) → F d w v) : Owes Tryd.prog ops Q F a0 w0 i (some d) (.call { callee := .value (.func 14), args := #[.tmp x], argTypes := ts }) :=
  fun _ _ _ ho hd _ _ D => call1 ho en_length hd (length_any _ _ n k (hx _ _ (D x dx)) hk) fun _ _ ⟨v, e, h, g⟩ => ⟨v, e, hF _ _ h, g⟩
end
end Go.Proofs.YtckcjiojfpaikaaDoor.Rg
