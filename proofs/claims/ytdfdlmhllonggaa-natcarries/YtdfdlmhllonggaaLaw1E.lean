/- For the law NatCarries: more steps of a region whose order is open. -/
import Derived.Test.YtdfdlmhllonggaaRepA
import Derived.Test.YtdfdlmhllonggaaRgNat
namespace Go.Proofs.Ytdfdlmhllonggaa.Rg
open Go.RowKit
section
variable {ops : Array Oper} {Q : Exit → Act → World → Prop} {F : Facts} {a0 : Act} {w0 : World}
theorem st_F (l : List Nat) : Stable (fun w v => Full w v l) := fun _ _ _ h g => h.grow g
theorem en_limbs : Enters Try.prog 21 := enters_of Try.func21 (by kernel_rfl) rfl
theorem en_equal : Enters Try.prog 22 := enters_of Try.func22 (by kernel_rfl) rfl
theorem callLimbs {i d x n k : Nat} {ts : Array TypeId} (dx : depI ops i x = true) (hx : ∀ w v, F x w v → IsN w v n k) (hk : k ≤ 4294967296)
    (hF : ∀ w v, Sl w v (Mx.limbs n) → F d w v) : Owes Try.prog ops Q F a0 w0 i (some d) (.call { callee := .value (.func 21), args := #[.tmp x], argTypes := ts }) :=
  fun _ _ _ ho hd _ _ D => call1 ho en_limbs hd (limbs_any _ _ n (by have := (hx _ _ (D x dx)).2; omega) (hx _ _ (D x dx)).1) fun _ _ ⟨v, e, h⟩ => ⟨v, e, hF _ _ (h.sl (Mx.limbs_lt _)), h.choose_spec.2.2.2⟩
theorem callEqual {i d x y : Nat} {l r : List Nat} {b : Bool} {ts : Array TypeId} (dx : depI ops i x = true) (dy : depI ops i y = true) (hx : ∀ w v, F x w v → Sl w v l) (hy : ∀ w v, F y w v → Sl w v r) (hl : l.length ≤ 1048576) (hb : (l == r) = b)
    (hF : ∀ w v, v = .bool b → F d w v) : Owes Try.prog ops Q F a0 w0 i (some d) (.call { callee := .value (.func 22), args := #[.tmp x, .tmp y], argTypes := ts }) :=
  fun _ _ _ ho hd _ _ D => call2 ho en_equal hd (equalU64_any _ _ _ l r (by omega) (hx _ _ (D x dx)) (hy _ _ (D y dy))) fun _ _ ⟨v, e, h, g⟩ => ⟨v, e, hF _ _ (hb ▸ h), g⟩
theorem makeRow {i d x k : Nat} (dx : depI ops i x = true) (hx : ∀ w v, F x w v → v = .int .i64 (k : Int)) (hk : k ≤ 1048576) (hF : ∀ w v, Full w v (List.replicate k 0) → F d w v) :
    Owes Try.prog ops Q F a0 w0 i (some d) (.makeSlice 22 (.tmp x) (.tmp x)) :=
  fun o a w ho hd hg ha D => valOf (v := .slice (some ⟨w.heap.size, 0, none⟩) k k) (w' := w.alloc (.cells (madeCells #[.int .u64 0] k) 37)) (by
    have e : a.tmps.getD x undef = .int .i64 (k : Int) := hx _ _ (D x dx)
    have hmk := run_make_row' (P := Try.prog) 22 37 (.int .u64 0) 8 Try.underlying22 info37 rfl .i64 .i64 k (by omega) (by omega) w
    simp only [Array.getD_eq_getD_getElem?] at e
    simp [execOp, ho, Act.eval, e, hmk]) hd (hF _ _ ⟨w.heap.size, by rw [List.length_replicate], Blk.made w k⟩) ((Grow.refl w).alloc _)
theorem appendOne {i d x y c : Nat} {l : List Nat} (dx : depI ops i x = true) (dy : depI ops i y = true) (hx : ∀ w v, F x w v → Full w v l) (hy : ∀ w v, F y w v → Sl w v [c]) (hl : l.length ≤ 1000000) (hlb : ∀ y ∈ l, y < Mx.B)
    (hF : ∀ w v, Sl w v (l ++ [c]) → F d w v) : Owes Try.prog ops Q F a0 w0 i (some d) (.call { callee := .builtin .append, args := #[.tmp x, .tmp y], argTypes := #[22, 22] }) :=
  fun o a w ho hd hg ha D => by
    obtain ⟨v', w', hr, hs, hgr⟩ := append_full w o.type _ _ l c hl hlb (hx _ _ (D x dx)) (hy _ _ (D y dy))
    refine valOf (v := v') (w' := w') ?_ hd (hF _ _ hs) hgr
    simp only [Array.getD_eq_getD_getElem?] at hr
    simp [execOp, ho, resolve, invoke, builtin, Act.eval, hr, Result.andThen]
theorem mulCI {i d x : Nat} {m c r : Int} (dx : depI ops i x = true) (hx : ∀ w v, F x w v → v = .int .i64 m) (hr : IntKind.i64.wrap (c * m) = r) (hF : ∀ w v, v = .int .i64 r → F d w v) :
    Owes Try.prog ops Q F a0 w0 i (some d) (.binOp .mul 3 (.const (.int .i64 c)) (.tmp x) 3) :=
  fun o a w ho hd hg ha D => valOf (v := .int .i64 r) (w' := w) (by
    have e : a.tmps.getD x undef = .int .i64 m := hx _ _ (D x dx)
    simp only [Array.getD_eq_getD_getElem?] at e
    simp [execOp, ho, go_sem, Act.eval, e, hr]) hd (hF _ _ rfl) (Grow.refl w)
end
end Go.Proofs.Ytdfdlmhllonggaa.Rg
