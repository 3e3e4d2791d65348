/- Calls of whole, and loads of Ints, as steps of a region whose order is open. -/
import Derived.Test.YtlkiikchjeapfaaDoorWhH
namespace Go.Proofs.YtlkiikchjeapfaaDoor
open Go.RowKit
/-- A variable at block b holds the whole number z. -/
def VarW (w : World) (b : Nat) (z : Int) (k : Nat) : Prop := ∃ A l c x, w.cell? ⟨b, 0, none⟩ = some (.slice A l c) ∧ w.cell? ⟨b, 1, none⟩ = some (.bool x) ∧ IsW w (.agg #[.slice A l c, .bool x]) z k
theorem VarW.grow {w w' : World} {b : Nat} {z : Int} {k : Nat} (h : VarW w b z k) (g : Grow w w') : VarW w' b z k := by
  obtain ⟨A, l, c, x, h0, h1, h2⟩ := h
  exact ⟨A, l, c, x, g.cells1 h0, g.cells1 h1, h2.grow g⟩
theorem VarW.mk {w : World} {b : Nat} {z : Int} {k : Nat} {A : Option Addr} {l c : Nat} {x : Bool} (h0 : w.cell? ⟨b, 0, none⟩ = some (.slice A l c)) (h1 : w.cell? ⟨b, 1, none⟩ = some (.bool x)) (h2 : IsW w (.agg #[.slice A l c, .bool x]) z k) : VarW w b z k := ⟨A, l, c, x, h0, h1, h2⟩
theorem VarW.new {w w' : World} {A : Option Addr} {l c : Nat} {x : Bool} {z : Int} {k : Nat} {t : TypeId} (h : IsW w (.agg #[.slice A l c, .bool x]) z k) (g : Grow (w.alloc (Obj.cells #[Value.slice A l c, Value.bool x] t)) w') : VarW w' w.heap.size z k :=
  ⟨A, l, c, x, g.cells1 (by simp [go_sem]), g.cells1 (by simp [go_sem]), h.grow (((Grow.refl w).alloc _).trans g)⟩
theorem sign_cases (x : Int) : (x < 0 ∧ x.sign = -1) ∨ (x = 0 ∧ x.sign = 0) ∨ (0 < x ∧ x.sign = 1) := by
  rcases Int.lt_trichotomy x 0 with h | h | h
  · exact .inl ⟨h, sign_lt h⟩
  · exact .inr (.inl ⟨h, by rw [h]; rfl⟩)
  · exact .inr (.inr ⟨h, sign_gt h⟩)
theorem sgn_lt {x : Int} (h : x < 0) : x.sign < 0 := by rcases sign_cases x with h | h | h <;> omega
theorem sgn_nlt {x : Int} (h : 0 ≤ x) : ¬ x.sign < 0 := by rcases sign_cases x with h | h | h <;> omega
theorem sgn_gt {x : Int} (h : 0 < x) : 0 < x.sign := by rcases sign_cases x with h | h | h <;> omega
theorem sgn_ngt {x : Int} (h : x ≤ 0) : ¬ 0 < x.sign := by rcases sign_cases x with h | h | h <;> omega
theorem sgn_0 {x : Int} (h : x = 0) : (x.sign == 0) = true := by rw [h]; rfl
theorem sgn_n0 {x : Int} (h : x ≠ 0) : (x.sign == 0) = false := by
  rcases sign_cases x with h | h | h <;> simp <;> omega
theorem sgn_bd (x : Int) : -1 ≤ x.sign ∧ x.sign ≤ 1 := by rcases sign_cases x with h | h | h <;> omega
end Go.Proofs.YtlkiikchjeapfaaDoor
namespace Go.Proofs.YtlkiikchjeapfaaDoor.Rg
open Go.RowKit
section
variable {ops : Array Oper} {Q : Exit → Act → World → Prop} {F : Facts} {a0 : Act} {w0 : World}
theorem loadW {i d p b k : Nat} {z : Int} (hp : a0.tmps.getD p undef = .pointer (some ⟨b, 0, none⟩)) (hnd : (dsts ops).contains p = false) (hv : VarW w0 b z k) (hF : ∀ w v, IsW w v z k → F d w v) :
    Owes Tryd.prog ops Q F a0 w0 i (some d) (.load 28 (.tmp p)) :=
  fun o a w ho hd hg ha _ => by
    obtain ⟨A, l, c, x, h0, h1, h2⟩ := hv.grow hg
    refine valOf (v := .agg #[.slice A l c, .bool x]) (w' := w) ?_ hd (hF _ _ h2) (Grow.refl w)
    have e : a.tmps.getD p undef = .pointer (some ⟨b, 0, none⟩) := (ha.2.2 p hnd).trans hp
    simp only [Array.getD_eq_getD_getElem?] at e
    simp [execOp, ho, go_sem, Act.eval, e, h0, h1]
theorem en_FromW : Enters Tryd.prog 15 := enters_of Tryd.func15 (by kernel_rfl) rfl
theorem en_AddW : Enters Tryd.prog 17 := enters_of Tryd.func17 (by kernel_rfl) rfl
theorem en_SubW : Enters Tryd.prog 60 := enters_of Tryd.func60 (by kernel_rfl) rfl
theorem en_MulW : Enters Tryd.prog 33 := enters_of Tryd.func33 (by kernel_rfl) rfl
theorem en_NegW : Enters Tryd.prog 43 := enters_of Tryd.func43 (by kernel_rfl) rfl
theorem en_SignW : Enters Tryd.prog 34 := enters_of Tryd.func34 (by kernel_rfl) rfl
theorem en_AbsW : Enters Tryd.prog 37 := enters_of Tryd.func37 (by kernel_rfl) rfl
theorem en_CmpW : Enters Tryd.prog 18 := enters_of Tryd.func18 (by kernel_rfl) rfl
theorem en_PrintW : Enters Tryd.prog 36 := enters_of Tryd.func36 (by kernel_rfl) rfl
theorem callFromW {i d : Nat} {c : Int} {ts : Array TypeId} (h1 : -9223372036854775808 ≤ c) (h2 : c ≤ 9223372036854775807) (hF : ∀ w v, IsW w v c 1 → F d w v) : Owes Tryd.prog ops Q F a0 w0 i (some d) (.call { callee := .value (.func 15), args := #[.const (.int .i64 c)], argTypes := ts }) :=
  fun _ _ w ho hd _ _ _ => callOf ho en_FromW hd (R := Ret w fun v' w' => IsW w' v' c 1) (by simp only [List.map_toArray, List.map_cons, List.map_nil, Act.eval]; exact from_w w c h1 h2) fun _ _ ⟨v, e, h, g⟩ => ⟨v, e, hF _ _ h, g⟩
theorem callFromW1 {i d x : Nat} {c : Int} {ts : Array TypeId} (dx : depI ops i x = true) (hx : ∀ w v, F x w v → v = .int .i64 c) (h1 : -9223372036854775808 ≤ c) (h2 : c ≤ 9223372036854775807) (hF : ∀ w v, IsW w v c 1 → F d w v) : Owes Tryd.prog ops Q F a0 w0 i (some d) (.call { callee := .value (.func 15), args := #[.tmp x], argTypes := ts }) :=
  fun _ _ w ho hd _ _ D => call1 ho en_FromW hd (R := Ret w fun v' w' => IsW w' v' c 1) (by rw [hx _ _ (D x dx)]; exact from_w w c h1 h2) fun _ _ ⟨v, e, h, g⟩ => ⟨v, e, hF _ _ h, g⟩
theorem callAddW {i d x y k j : Nat} {n m : Int} {ts : Array TypeId} (dx : depI ops i x = true) (dy : depI ops i y = true) (hx : ∀ w v, F x w v → IsW w v n k) (hy : ∀ w v, F y w v → IsW w v m j) (hk : k ≤ 4294967296) (hj : j ≤ 4294967296)
    (hF : ∀ w v, IsW w v (n + m) (max k j + 1) → F d w v) : Owes Tryd.prog ops Q F a0 w0 i (some d) (.call { callee := .value (.func 17), args := #[.tmp x, .tmp y], argTypes := ts }) :=
  fun _ _ _ ho hd _ _ D => call2 ho en_AddW hd (add_w (hx _ _ (D x dx)) (hy _ _ (D y dy)) hk hj) fun _ _ ⟨v, e, h, g⟩ => ⟨v, e, hF _ _ h, g⟩
theorem callSubW {i d x y k j : Nat} {n m : Int} {ts : Array TypeId} (dx : depI ops i x = true) (dy : depI ops i y = true) (hx : ∀ w v, F x w v → IsW w v n k) (hy : ∀ w v, F y w v → IsW w v m j) (hk : k ≤ 4294967296) (hj : j ≤ 4294967296)
    (hF : ∀ w v, IsW w v (n - m) (max k j + 1) → F d w v) : Owes Tryd.prog ops Q F a0 w0 i (some d) (.call { callee := .value (.func 60), args := #[.tmp x, .tmp y], argTypes := ts }) :=
  fun _ _ _ ho hd _ _ D => call2 ho en_SubW hd (sub_w (hx _ _ (D x dx)) (hy _ _ (D y dy)) hk hj) fun _ _ ⟨v, e, h, g⟩ => ⟨v, e, hF _ _ h, g⟩
theorem callMulW {i d x y k j : Nat} {n m : Int} {ts : Array TypeId} (dx : depI ops i x = true) (dy : depI ops i y = true) (hx : ∀ w v, F x w v → IsW w v n k) (hy : ∀ w v, F y w v → IsW w v m j) (hk : k ≤ 4294967296) (hj : j ≤ 4294967296)
    (hF : ∀ w v, IsW w v (n * m) (k + j) → F d w v) : Owes Tryd.prog ops Q F a0 w0 i (some d) (.call { callee := .value (.func 33), args := #[.tmp x, .tmp y], argTypes := ts }) :=
  fun _ _ _ ho hd _ _ D => call2 ho en_MulW hd (mul_w (hx _ _ (D x dx)) (hy _ _ (D y dy)) hk hj) fun _ _ ⟨v, e, h, g⟩ => ⟨v, e, hF _ _ h, g⟩
theorem callCmpW {i d x y k j : Nat} {n m : Int} {ts : Array TypeId} (dx : depI ops i x = true) (dy : depI ops i y = true) (hx : ∀ w v, F x w v → IsW w v n k) (hy : ∀ w v, F y w v → IsW w v m j) (hk : k ≤ 4294967296) (hj : j ≤ 4294967296)
    (hF : ∀ w v, v = .int .i64 (n - m).sign → F d w v) : Owes Tryd.prog ops Q F a0 w0 i (some d) (.call { callee := .value (.func 18), args := #[.tmp x, .tmp y], argTypes := ts }) :=
  fun _ _ _ ho hd _ _ D => call2 ho en_CmpW hd (cmp_w (hx _ _ (D x dx)) (hy _ _ (D y dy)) hk hj) fun _ _ ⟨v, e, h, g⟩ => ⟨v, e, hF _ _ h, g⟩
theorem callNegW {i d x k : Nat} {n : Int} {ts : Array TypeId} (dx : depI ops i x = true) (hx : ∀ w v, F x w v → IsW w v n k)
    (hF : ∀ w v, IsW w v (-n) k → F d w v) : Owes Tryd.prog ops Q F a0 w0 i (some d) (.call { callee := .value (.func 43), args := #[.tmp x], argTypes := ts }) :=
  fun _ _ _ ho hd _ _ D => call1 ho en_NegW hd (neg_w (hx _ _ (D x dx))) fun _ _ ⟨v, e, h, g⟩ => ⟨v, e, hF _ _ h, g⟩
theorem callSignW {i d x k : Nat} {n : Int} {ts : Array TypeId} (dx : depI ops i x = true) (hx : ∀ w v, F x w v → IsW w v n k)
    (hF : ∀ w v, v = .int .i64 n.sign → F d w v) : Owes Tryd.prog ops Q F a0 w0 i (some d) (.call { callee := .value (.func 34), args := #[.tmp x], argTypes := ts }) :=
  fun _ _ _ ho hd _ _ D => call1 ho en_SignW hd (sign_w (hx _ _ (D x dx))) fun _ _ ⟨v, e, h, g⟩ => ⟨v, e, hF _ _ h, g⟩
theorem callAbsW {i d x k : Nat} {n : Int} {ts : Array TypeId} (dx : depI ops i x = true) (hx : ∀ w v, F x w v → IsW w v n k)
    (hF : ∀ w v, IsN w v n.natAbs k → F d w v) : Owes Tryd.prog ops Q F a0 w0 i (some d) (.call { callee := .value (.func 37), args := #[.tmp x], argTypes := ts }) :=
  fun _ _ _ ho hd _ _ D => call1 ho en_AbsW hd (abs_w (hx _ _ (D x dx))) fun _ _ ⟨v, e, h, g⟩ => ⟨v, e, hF _ _ h, g⟩
theorem callPrintW {i d x k : Nat} {n : Int} {ts : Array TypeId} (dx : depI ops i x = true) (hx : ∀ w v, F x w v → IsW w v n k) (hk : k ≤ 536870912)
    (hF : ∀ w v, v = .string (str (ztext n)) → F d w v) : Owes Tryd.prog ops Q F a0 w0 i (some d) (.call { callee := .value (.func 36), args := #[.tmp x], argTypes := ts }) :=
  fun _ _ _ ho hd _ _ D => call1 ho en_PrintW hd (print_w (hx _ _ (D x dx)) hk) fun _ _ ⟨v, e, h, g⟩ => ⟨v, e, hF _ _ h, g⟩
theorem buildW0 {i d : Nat} (hF : ∀ w v, IsW w v 0 0 → F d w v) : Owes Tryd.prog ops Q F a0 w0 i (some d) (.build 28 #[]) :=
  fun o a w ho hd hg ha _ => valOf (v := .agg #[.slice none 0 0, .bool false]) (w' := w) (by simp [execOp, ho, go_sem]) hd (hF _ _ ⟨none, 0, 0, rfl, IsN.zero w⟩) (Grow.refl w)
theorem leqI {i d x : Nat} {m c : Int} {b : Bool} (dx : depI ops i x = true) (hx : ∀ w v, F x w v → v = .int .i64 m) (hb : decide (m ≤ c) = b) (hF : ∀ w v, v = .bool b → F d w v) :
    Owes Tryd.prog ops Q F a0 w0 i (some d) (.binOp .leq 3 (.tmp x) (.const (.int .i64 c)) 3) :=
  fun o a w ho hd hg ha D => valOf (v := .bool b) (w' := w) (by
    have e : a.tmps.getD x undef = .int .i64 m := hx _ _ (D x dx)
    subst hb
    simp only [Array.getD_eq_getD_getElem?] at e
    simp [execOp, ho, go_sem, Act.eval, e]) hd (hF _ _ rfl) (Grow.refl w)
theorem geqI {i d x : Nat} {m c : Int} {b : Bool} (dx : depI ops i x = true) (hx : ∀ w v, F x w v → v = .int .i64 m) (hb : decide (c ≤ m) = b) (hF : ∀ w v, v = .bool b → F d w v) :
    Owes Tryd.prog ops Q F a0 w0 i (some d) (.binOp .geq 3 (.tmp x) (.const (.int .i64 c)) 3) :=
  fun o a w ho hd hg ha D => valOf (v := .bool b) (w' := w) (by
    have e : a.tmps.getD x undef = .int .i64 m := hx _ _ (D x dx)
    subst hb
    simp only [Array.getD_eq_getD_getElem?] at e
    simp [execOp, ho, go_sem, Act.eval, e]) hd (hF _ _ rfl) (Grow.refl w)
theorem mulII {i d x y : Nat} {m c r : Int} (dx : depI ops i x = true) (dy : depI ops i y = true) (hx : ∀ w v, F x w v → v = .int .i64 m) (hy : ∀ w v, F y w v → v = .int .i64 c) (hr : IntKind.i64.wrap (m * c) = r) (hF : ∀ w v, v = .int .i64 r → F d w v) :
    Owes Tryd.prog ops Q F a0 w0 i (some d) (.binOp .mul 3 (.tmp x) (.tmp y) 3) :=
  fun o a w ho hd hg ha D => valOf (v := .int .i64 r) (w' := w) (by
    have e : a.tmps.getD x undef = .int .i64 m := hx _ _ (D x dx)
    have e2 : a.tmps.getD y undef = .int .i64 c := hy _ _ (D y dy)
    simp only [Array.getD_eq_getD_getElem?] at e e2
    simp [execOp, ho, go_sem, Act.eval, e, e2, hr]) hd (hF _ _ rfl) (Grow.refl w)
theorem negI' {i d x : Nat} {m r : Int} (dx : depI ops i x = true) (hx : ∀ w v, F x w v → v = .int .i64 m) (hr : IntKind.i64.wrap (-m) = r) (hF : ∀ w v, v = .int .i64 r → F d w v) :
    Owes Tryd.prog ops Q F a0 w0 i (some d) (.unOp .neg 3 (.tmp x)) :=
  fun o a w ho hd hg ha D => valOf (v := .int .i64 r) (w' := w) (by
    have e : a.tmps.getD x undef = .int .i64 m := hx _ _ (D x dx)
    simp only [Array.getD_eq_getD_getElem?] at e
    simp [execOp, ho, go_sem, Act.eval, e, hr]) hd (hF _ _ rfl) (Grow.refl w)
theorem eqlB {i d x y : Nat} {m c b : Bool} (dx : depI ops i x = true) (dy : depI ops i y = true) (hx : ∀ w v, F x w v → v = .bool m) (hy : ∀ w v, F y w v → v = .bool c) (hb : (m == c) = b) (hF : ∀ w v, v = .bool b → F d w v) :
    Owes Tryd.prog ops Q F a0 w0 i (some d) (.binOp .eql 4 (.tmp x) (.tmp y) 4) :=
  fun o a w ho hd hg ha D => valOf (v := .bool b) (w' := w) (by
    have e : a.tmps.getD x undef = .bool m := hx _ _ (D x dx)
    have e2 : a.tmps.getD y undef = .bool c := hy _ _ (D y dy)
    subst hb
    simp only [Array.getD_eq_getD_getElem?] at e e2
    simp [execOp, ho, go_sem, Act.eval, e, e2]) hd (hF _ _ rfl) (Grow.refl w)
end
end Go.Proofs.YtlkiikchjeapfaaDoor.Rg
