/- Further steps of a region whose order is open: tests, calls of layer 2's laws. -/
import Derived.Test.YtfeijnbmaehniaaL2Divides
import Derived.Test.YtfeijnbmaehniaaRgRef
import Derived.Test.YtfeijnbmaehniaaRefH
namespace Go.Proofs.Ytfeijnbmaehniaa.Rg
open Go.RowKit

section
variable {ops : Array Oper} {Q : Exit → Act → World → Prop} {F : Facts} {a0 : Act} {w0 : World}

theorem notB {i d x : Nat} {b c : Bool} (dx : depI ops i x = true) (hx : ∀ w v, F x w v → v = .bool b) (hb : (!b) = c) (hF : ∀ w v, v = .bool c → F d w v) :
    Owes Try.prog ops Q F a0 w0 i (some d) (.unOp .not 4 (.tmp x)) :=
  fun o a w ho hd hg ha D => valOf (v := .bool c) (w' := w) (by
    have e : a.tmps.getD x undef = .bool b := hx _ _ (D x dx)
    subst hb
    simp only [Array.getD_eq_getD_getElem?] at e
    simp [execOp, ho, go_sem, Act.eval, e]) hd (hF _ _ rfl) (Grow.refl w)
theorem neqI {i d x : Nat} {m c : Int} {b : Bool} (dx : depI ops i x = true) (hx : ∀ w v, F x w v → v = .int .i64 m) (hb : (m != c) = b) (hF : ∀ w v, v = .bool b → F d w v) :
    Owes Try.prog ops Q F a0 w0 i (some d) (.binOp .neq 3 (.tmp x) (.const (.int .i64 c)) 3) :=
  fun o a w ho hd hg ha D => valOf (v := .bool b) (w' := w) (by
    have e : a.tmps.getD x undef = .int .i64 m := hx _ _ (D x dx)
    subst hb
    simp only [Array.getD_eq_getD_getElem?] at e
    simp [execOp, ho, go_sem, Act.eval, e]) hd (hF _ _ rfl) (Grow.refl w)
theorem neqII {i d x y : Nat} {m c : Int} {b : Bool} (dx : depI ops i x = true) (dy : depI ops i y = true) (hx : ∀ w v, F x w v → v = .int .i64 m) (hy : ∀ w v, F y w v → v = .int .i64 c) (hb : (m != c) = b) (hF : ∀ w v, v = .bool b → F d w v) :
    Owes Try.prog ops Q F a0 w0 i (some d) (.binOp .neq 3 (.tmp x) (.tmp y) 3) :=
  fun o a w ho hd hg ha D => valOf (v := .bool b) (w' := w) (by
    have e : a.tmps.getD x undef = .int .i64 m := hx _ _ (D x dx)
    have e2 : a.tmps.getD y undef = .int .i64 c := hy _ _ (D y dy)
    subst hb
    simp only [Array.getD_eq_getD_getElem?] at e e2
    simp [execOp, ho, go_sem, Act.eval, e, e2]) hd (hF _ _ rfl) (Grow.refl w)
theorem geqII {i d x y : Nat} {m c : Int} {b : Bool} (dx : depI ops i x = true) (dy : depI ops i y = true) (hx : ∀ w v, F x w v → v = .int .i64 m) (hy : ∀ w v, F y w v → v = .int .i64 c) (hb : decide (c ≤ m) = b) (hF : ∀ w v, v = .bool b → F d w v) :
    Owes Try.prog ops Q F a0 w0 i (some d) (.binOp .geq 3 (.tmp x) (.tmp y) 3) :=
  fun o a w ho hd hg ha D => valOf (v := .bool b) (w' := w) (by
    have e : a.tmps.getD x undef = .int .i64 m := hx _ _ (D x dx)
    have e2 : a.tmps.getD y undef = .int .i64 c := hy _ _ (D y dy)
    subst hb
    simp only [Array.getD_eq_getD_getElem?] at e e2
    simp [execOp, ho, go_sem, Act.eval, e, e2]) hd (hF _ _ rfl) (Grow.refl w)
theorem callZeroB {i d x n k : Nat} {b : Bool} {ts : Array TypeId} (dx : depI ops i x = true) (hx : ∀ w v, F x w v → IsN w v n k) (hb : (n == 0) = b)
    (hF : ∀ w v, v = .bool b → F d w v) : Owes Try.prog ops Q F a0 w0 i (some d) (.call { callee := .value (.func 13), args := #[.tmp x], argTypes := ts }) :=
  callZero dx hx fun w v h => hF w v (by rw [h, hb])
theorem en_cut2 : Enters Try.prog 10 := enters_of Try.func10 (by kernel_rfl) rfl
theorem callCut2 {i d x : Nat} {l r : List Nat} {ts : Array TypeId} (dx : depI ops i x = true) (hx : ∀ w v, F x w v → Sl w v l) (hr : l.take 10 = r)
    (hF : ∀ w v, Sl w v r → F d w v) : Owes Try.prog ops Q F a0 w0 i (some d) (.call { callee := .value (.func 10), args := #[.tmp x], argTypes := ts }) :=
  fun _ _ _ ho hd _ _ D => call1 ho en_cut2 hd (cut2_any _ _ _ (hx _ _ (D x dx))) fun _ _ ⟨v, e, h, g⟩ => ⟨v, e, hF _ _ (hr ▸ h), g⟩
theorem en_refMul : Enters Try.prog 23 := enters_of Try.func23 (by kernel_rfl) rfl
theorem callRefMul {i d x y n m k j : Nat} {ts : Array TypeId} (dx : depI ops i x = true) (dy : depI ops i y = true) (hx : ∀ w v, F x w v → IsD w v n k) (hy : ∀ w v, F y w v → IsD w v m j) (hk : k ≤ 4294967296) (hj : j ≤ 4294967296)
    (hF : ∀ w v, IsD w v (n * m) (k + j + 1) → F d w v) : Owes Try.prog ops Q F a0 w0 i (some d) (.call { callee := .value (.func 23), args := #[.tmp x, .tmp y], argTypes := ts }) :=
  fun _ _ _ ho hd _ _ D => call2 ho en_refMul hd (refMul_any _ _ _ n m k j hk hj (hx _ _ (D x dx)) (hy _ _ (D y dy))) fun _ _ ⟨v, e, h, g⟩ => ⟨v, e, hF _ _ h, g⟩
theorem en_refGcd : Enters Try.prog 25 := enters_of Try.func25 (by kernel_rfl) rfl
theorem callRefGcd {i d x y n m k : Nat} {ts : Array TypeId} (dx : depI ops i x = true) (dy : depI ops i y = true) (hx : ∀ w v, F x w v → IsD w v n k) (hy : ∀ w v, F y w v → IsD w v m k) (hk : k ≤ 1048576)
    (hF : ∀ w v, IsD w v (Nat.gcd n m) k → F d w v) : Owes Try.prog ops Q F a0 w0 i (some d) (.call { callee := .value (.func 25), args := #[.tmp x, .tmp y], argTypes := ts }) :=
  fun _ _ _ ho hd _ _ D => call2 ho en_refGcd hd (refGcd_any _ _ _ n m k hk (hx _ _ (D x dx)) (hy _ _ (D y dy))) fun _ _ ⟨v, e, h, g⟩ => ⟨v, e, hF _ _ h, g⟩
theorem en_same2 : Enters Try.prog 15 := enters_of Try.func15 (by kernel_rfl) rfl
theorem callSame2 {i d x y n m k j : Nat} {ts : Array TypeId} (dx : depI ops i x = true) (dy : depI ops i y = true) (hx : ∀ w v, F x w v → IsN w v n k) (hy : ∀ w v, F y w v → IsD w v m j) (hk : k ≤ 1048576) (he : n = m)
    (hF : ∀ w v, v = .bool true → F d w v) : Owes Try.prog ops Q F a0 w0 i (some d) (.call { callee := .value (.func 15), args := #[.tmp x, .tmp y], argTypes := ts }) := by
  subst he
  exact fun _ _ _ ho hd _ _ D => call2 ho en_same2 hd (same2_any _ _ _ n k j hk (hx _ _ (D x dx)) (hy _ _ (D y dy))) fun _ _ ⟨v, e, h, g⟩ => ⟨v, e, hF _ _ h, g⟩
end

/-- The frame that a region leaves, told by its slots. -/
theorem frame_of {ops : Array Oper} {a0 a : Act} (h : Agree ops a0 a) (ds : List Nat) (hds : dsts ops = ds) : a = puts (vals a) ds a0 := by
  have e := agree_puts h
  rwa [hds] at e
end Go.Proofs.Ytfeijnbmaehniaa.Rg
