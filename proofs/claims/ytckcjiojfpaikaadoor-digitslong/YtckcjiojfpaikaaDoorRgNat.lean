/- Calls of nat, numbers and tests, as steps of a region whose order is open. -/
import Derived.Test.YtckcjiojfpaikaaDoorNatG
import Derived.Test.YtckcjiojfpaikaaDoorRg
namespace Go.Proofs.YtckcjiojfpaikaaDoor.Rg
open Go.RowKit

section
variable {ops : Array Oper} {Q : Exit → Act → World → Prop} {F : Facts} {a0 : Act} {w0 : World}

theorem st_N (n k : Nat) : Stable (fun w v => IsN w v n k) := fun _ _ _ h g => h.grow g
theorem st_S (l : List Nat) : Stable (fun w v => Sl w v l) := fun _ _ _ h g => h.grow g

theorem load_nat (w : World) (p : Addr) (A : Option Addr) (n c : Nat) (h : w.cell? p = some (.slice A n c)) :
    (Instr.loadAt 24 (.pointer (some p))).run Tryd.prog w = .ok (.agg #[.slice A n c]) w := by
  simp [go_sem, h, Instr.loadAt]

theorem loadNat {i d p : Nat} {b : Addr} {A : Option Addr} {L C x k : Nat} (hp : a0.tmps.getD p undef = .pointer (some b)) (hnd : (dsts ops).contains p = false) (hc : w0.cell? b = some (.slice A L C)) (hN : IsN w0 (.agg #[.slice A L C]) x k)
    (hF : ∀ w v, IsN w v x k → F d w v) : Owes Tryd.prog ops Q F a0 w0 i (some d) (.load 24 (.tmp p)) :=
  fun o a w ho hd hg ha _ => valOf (v := .agg #[.slice A L C]) (w' := w) (by
    have e : a.eval (.tmp p) = .pointer (some b) := (ha.2.2 p hnd).trans hp
    simp only [execOp, ho, e, Sem.run_bind, load_nat w b A L C (hg.cells1 hc)]
    rfl) hd (hF _ _ (hN.grow hg)) (Grow.refl w)

theorem en_add : Enters Tryd.prog 34 := enters_of Tryd.func34 (by kernel_rfl) rfl
theorem en_mul : Enters Tryd.prog 25 := enters_of Tryd.func25 (by kernel_rfl) rfl
theorem en_cmp : Enters Tryd.prog 15 := enters_of Tryd.func15 (by kernel_rfl) rfl
theorem en_of : Enters Tryd.prog 8 := enters_of Tryd.func8 (by kernel_rfl) rfl
theorem en_zero : Enters Tryd.prog 17 := enters_of Tryd.func17 (by kernel_rfl) rfl
theorem en_bits : Enters Tryd.prog 22 := enters_of Tryd.func22 (by kernel_rfl) rfl

theorem callAdd {i d x y n m k j : Nat} {ts : Array TypeId} (dx : depI ops i x = true) (dy : depI ops i y = true) (hx : ∀ w v, F x w v → IsN w v n k) (hy : ∀ w v, F y w v → IsN w v m j) (hk : k ≤ 4294967296) (hj : j ≤ 4294967296)
    (hF : ∀ w v, IsN w v (n + m) (max k j + 1) → F d w v) : Owes Tryd.prog ops Q F a0 w0 i (some d) (.call { callee := .value (.func 34), args := #[.tmp x, .tmp y], argTypes := ts }) :=
  fun _ _ _ ho hd _ _ D => call2 ho en_add hd (add_n (hx _ _ (D x dx)) (hy _ _ (D y dy)) hk hj) fun _ _ ⟨v, e, h, g⟩ => ⟨v, e, hF _ _ h, g⟩
theorem callMul {i d x y n m k j : Nat} {ts : Array TypeId} (dx : depI ops i x = true) (dy : depI ops i y = true) (hx : ∀ w v, F x w v → IsN w v n k) (hy : ∀ w v, F y w v → IsN w v m j) (hk : k ≤ 4294967296) (hj : j ≤ 4294967296)
    (hF : ∀ w v, IsN w v (n * m) (k + j) → F d w v) : Owes Tryd.prog ops Q F a0 w0 i (some d) (.call { callee := .value (.func 25), args := #[.tmp x, .tmp y], argTypes := ts }) :=
  fun _ _ _ ho hd _ _ D => call2 ho en_mul hd (mul_n (hx _ _ (D x dx)) (hy _ _ (D y dy)) hk hj) fun _ _ ⟨v, e, h, g⟩ => ⟨v, e, hF _ _ h, g⟩
theorem callCmp {i d x y n m k j : Nat} {ts : Array TypeId} (dx : depI ops i x = true) (dy : depI ops i y = true) (hx : ∀ w v, F x w v → IsN w v n k) (hy : ∀ w v, F y w v → IsN w v m j) (hk : k ≤ 4294967296)
    (hF : ∀ w v, v = .int .i64 (Mx.cmp n m) → F d w v) : Owes Tryd.prog ops Q F a0 w0 i (some d) (.call { callee := .value (.func 15), args := #[.tmp x, .tmp y], argTypes := ts }) :=
  fun _ _ _ ho hd _ _ D => call2 ho en_cmp hd (cmp_n (hx _ _ (D x dx)) (hy _ _ (D y dy)) hk) fun _ _ ⟨v, e, h, g⟩ => ⟨v, e, hF _ _ h, g⟩
theorem callOf1 {i d x k : Nat} {l : List Nat} {ts : Array TypeId} (dx : depI ops i x = true) (hx : ∀ w v, F x w v → Sl w v l) (hl : l.length ≤ k) (hk : k ≤ 4294967296)
    (hF : ∀ w v, IsN w v (Mx.val l) k → F d w v) : Owes Tryd.prog ops Q F a0 w0 i (some d) (.call { callee := .value (.func 8), args := #[.tmp x], argTypes := ts }) :=
  fun _ _ _ ho hd _ _ D => call1 ho en_of hd (of_n k (hx _ _ (D x dx)) hl hk) fun _ _ ⟨v, e, h, g⟩ => ⟨v, e, hF _ _ h, g⟩
theorem callZero {i d x n k : Nat} {ts : Array TypeId} (dx : depI ops i x = true) (hx : ∀ w v, F x w v → IsN w v n k)
    (hF : ∀ w v, v = .bool (n == 0) → F d w v) : Owes Tryd.prog ops Q F a0 w0 i (some d) (.call { callee := .value (.func 17), args := #[.tmp x], argTypes := ts }) :=
  fun _ _ _ ho hd _ _ D => call1 ho en_zero hd (zero_n (hx _ _ (D x dx))) fun _ _ ⟨v, e, h, g⟩ => ⟨v, e, hF _ _ h, g⟩
theorem callBits {i d x n k : Nat} {ts : Array TypeId} (dx : depI ops i x = true) (hx : ∀ w v, F x w v → IsN w v n k) (hk : k ≤ 4294967296)
    (hF : ∀ w v, v = .int .i64 ((Mx.bits n : Nat) : Int) → F d w v) : Owes Tryd.prog ops Q F a0 w0 i (some d) (.call { callee := .value (.func 22), args := #[.tmp x], argTypes := ts }) :=
  fun _ _ _ ho hd _ _ D => call1 ho en_bits hd (bits_n (hx _ _ (D x dx)) hk) fun _ _ ⟨v, e, h, g⟩ => ⟨v, e, hF _ _ h, g⟩

theorem buildNat0 {i d : Nat} (hF : ∀ w v, IsN w v 0 0 → F d w v) : Owes Tryd.prog ops Q F a0 w0 i (some d) (.build 24 #[]) :=
  fun o a w ho hd hg ha _ => valOf (v := .agg #[.slice none 0 0]) (w' := w) (by simp [execOp, ho, go_sem]) hd (hF _ _ (IsN.zero w)) (Grow.refl w)
theorem buildOne {i d c : Nat} (hc : c < Mx.B) (hF : ∀ w v, Sl w v [c] → F d w v) : Owes Tryd.prog ops Q F a0 w0 i (some d) (.buildSlice 22 1 #[(0, .const (.int .u64 (c : Int)))]) :=
  fun o a w ho hd hg ha _ => valOf (v := .slice (some ⟨w.heap.size, 0, none⟩) 1 1) (w' := w.alloc (.cells (vals [c]).toArray 48)) (by simp [execOp, ho, go_sem, vals, Act.eval]) hd
    (hF _ _ (sl_built w [c] (by intro y hy; simp at hy; rw [hy]; exact hc))) ((Grow.refl w).alloc _)
theorem eqlI {i d x : Nat} {m c : Int} {b : Bool} (dx : depI ops i x = true) (hx : ∀ w v, F x w v → v = .int .i64 m) (hb : (m == c) = b) (hF : ∀ w v, v = .bool b → F d w v) :
    Owes Tryd.prog ops Q F a0 w0 i (some d) (.binOp .eql 3 (.tmp x) (.const (.int .i64 c)) 3) :=
  fun o a w ho hd hg ha D => valOf (v := .bool b) (w' := w) (by
    have e : a.tmps.getD x undef = .int .i64 m := hx _ _ (D x dx)
    subst hb
    simp only [Array.getD_eq_getD_getElem?] at e
    simp [execOp, ho, go_sem, Act.eval, e]) hd (hF _ _ rfl) (Grow.refl w)

theorem eqlII {i d x y : Nat} {m c : Int} {b : Bool} (dx : depI ops i x = true) (dy : depI ops i y = true) (hx : ∀ w v, F x w v → v = .int .i64 m) (hy : ∀ w v, F y w v → v = .int .i64 c) (hb : (m == c) = b) (hF : ∀ w v, v = .bool b → F d w v) :
    Owes Tryd.prog ops Q F a0 w0 i (some d) (.binOp .eql 3 (.tmp x) (.tmp y) 3) :=
  fun o a w ho hd hg ha D => valOf (v := .bool b) (w' := w) (by
    have e : a.tmps.getD x undef = .int .i64 m := hx _ _ (D x dx)
    have e2 : a.tmps.getD y undef = .int .i64 c := hy _ _ (D y dy)
    subst hb
    simp only [Array.getD_eq_getD_getElem?] at e e2
    simp [execOp, ho, go_sem, Act.eval, e, e2]) hd (hF _ _ rfl) (Grow.refl w)
theorem leqII {i d x y : Nat} {m c : Int} {b : Bool} (dx : depI ops i x = true) (dy : depI ops i y = true) (hx : ∀ w v, F x w v → v = .int .i64 m) (hy : ∀ w v, F y w v → v = .int .i64 c) (hb : decide (m ≤ c) = b) (hF : ∀ w v, v = .bool b → F d w v) :
    Owes Tryd.prog ops Q F a0 w0 i (some d) (.binOp .leq 3 (.tmp x) (.tmp y) 3) :=
  fun o a w ho hd hg ha D => valOf (v := .bool b) (w' := w) (by
    have e : a.tmps.getD x undef = .int .i64 m := hx _ _ (D x dx)
    have e2 : a.tmps.getD y undef = .int .i64 c := hy _ _ (D y dy)
    subst hb
    simp only [Array.getD_eq_getD_getElem?] at e e2
    simp [execOp, ho, go_sem, Act.eval, e, e2]) hd (hF _ _ rfl) (Grow.refl w)
theorem gtrI {i d x : Nat} {m c : Int} {b : Bool} (dx : depI ops i x = true) (hx : ∀ w v, F x w v → v = .int .i64 m) (hb : decide (c < m) = b) (hF : ∀ w v, v = .bool b → F d w v) :
    Owes Tryd.prog ops Q F a0 w0 i (some d) (.binOp .gtr 3 (.tmp x) (.const (.int .i64 c)) 3) :=
  fun o a w ho hd hg ha D => valOf (v := .bool b) (w' := w) (by
    have e : a.tmps.getD x undef = .int .i64 m := hx _ _ (D x dx)
    subst hb
    simp only [Array.getD_eq_getD_getElem?] at e
    simp [execOp, ho, go_sem, Act.eval, e]) hd (hF _ _ rfl) (Grow.refl w)
theorem addII {i d x y : Nat} {m c r : Int} (dx : depI ops i x = true) (dy : depI ops i y = true) (hx : ∀ w v, F x w v → v = .int .i64 m) (hy : ∀ w v, F y w v → v = .int .i64 c) (hr : IntKind.i64.wrap (m + c) = r) (hF : ∀ w v, v = .int .i64 r → F d w v) :
    Owes Tryd.prog ops Q F a0 w0 i (some d) (.binOp .add 3 (.tmp x) (.tmp y) 3) :=
  fun o a w ho hd hg ha D => valOf (v := .int .i64 r) (w' := w) (by
    have e : a.tmps.getD x undef = .int .i64 m := hx _ _ (D x dx)
    have e2 : a.tmps.getD y undef = .int .i64 c := hy _ _ (D y dy)
    simp only [Array.getD_eq_getD_getElem?] at e e2
    simp [execOp, ho, go_sem, Act.eval, e, e2, hr]) hd (hF _ _ rfl) (Grow.refl w)
theorem addI {i d x : Nat} {m c r : Int} (dx : depI ops i x = true) (hx : ∀ w v, F x w v → v = .int .i64 m) (hr : IntKind.i64.wrap (m + c) = r) (hF : ∀ w v, v = .int .i64 r → F d w v) :
    Owes Tryd.prog ops Q F a0 w0 i (some d) (.binOp .add 3 (.tmp x) (.const (.int .i64 c)) 3) :=
  fun o a w ho hd hg ha D => valOf (v := .int .i64 r) (w' := w) (by
    have e : a.tmps.getD x undef = .int .i64 m := hx _ _ (D x dx)
    simp only [Array.getD_eq_getD_getElem?] at e
    simp [execOp, ho, go_sem, Act.eval, e, hr]) hd (hF _ _ rfl) (Grow.refl w)
theorem subI {i d x : Nat} {m c r : Int} (dx : depI ops i x = true) (hx : ∀ w v, F x w v → v = .int .i64 m) (hr : IntKind.i64.wrap (m - c) = r) (hF : ∀ w v, v = .int .i64 r → F d w v) :
    Owes Tryd.prog ops Q F a0 w0 i (some d) (.binOp .sub 3 (.tmp x) (.const (.int .i64 c)) 3) :=
  fun o a w ho hd hg ha D => valOf (v := .int .i64 r) (w' := w) (by
    have e : a.tmps.getD x undef = .int .i64 m := hx _ _ (D x dx)
    simp only [Array.getD_eq_getD_getElem?] at e
    simp [execOp, ho, go_sem, Act.eval, e, hr]) hd (hF _ _ rfl) (Grow.refl w)
end
end Go.Proofs.YtckcjiojfpaikaaDoor.Rg
