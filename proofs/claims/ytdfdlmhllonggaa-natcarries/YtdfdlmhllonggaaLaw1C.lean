/- For the law NatLimbs: slices.Clone at []uint64. -/
import Derived.Test.YtdfdlmhllonggaaLaw1B
import Derived.Test.YtdfdlmhllonggaaRgNat
namespace Go.Proofs.Ytdfdlmhllonggaa
open Go.RowKit

/-- What the call owns reads as limbs. -/
theorem sl_of_own {w : World} {base n : Nat} {v : Value} {l : List Nat} (h : w.ownsRow base 37 1 v n (vals l)) (hb : ∀ x ∈ l, x < Mx.B) : Sl w v l := by
  obtain ⟨h1, h2⟩ := h
  rw [vals_length, Nat.mul_one] at h1
  subst h1
  rcases h2 with ⟨rfl, h0⟩ | ⟨g, cap, cur, rfl, _, hh, hc, _, hs, ht⟩
  · have : l = [] := List.eq_nil_of_length_eq_zero h0
    subst this
    exact ⟨none, 0, rfl, Nat.le_refl _, by simp, Cells.nil _ _⟩
  · refine ⟨_, cap, rfl, hc, hb, fun _ => ⟨g, 0, rfl, lt_of_heap hh, fun j x hx => ?_⟩⟩
    rw [cell_of_row w g (0 + j) _ _ _ hh, Nat.zero_add]
    have hj : (vals l)[j]? = some (.int .u64 (x : Int)) := by rw [vals_get, hx]; rfl
    rw [← ht, Nat.mul_one, List.getElem?_take] at hj
    split at hj
    · rw [← hj]; simp
    · cases hj

set_option maxHeartbeats 1000000 in
theorem clone_any (w : World) (v : Value) (l : List Nat) (hn : l.length ≤ 17592186044416) (h : Sl w v l) :
    Calls Try.prog 20 #[v] w (Ret w fun v' w' => Sl w' v' l) := by
  obtain ⟨A, c, rfl, hc, hb, hl⟩ := h
  obtain ⟨i0, hi, hz0, hz1, hz2⟩ := info_parts info37
  have HB := Lib.hid hb
  clear hb
  rcases A with _ | ad
  · have h0 : l = [] := by
      rcases List.eq_nil_or_concat l with h | ⟨a, b, h⟩
      · exact h
      · obtain ⟨_, _, e, _⟩ := hl (by rw [h]; simp)
        cases e
    subst h0
    have he : ∀ W : World, (binOp .eql 22 (.slice none 0 c) (.slice none 0 0)).run Try.prog W = .ok (.bool true) W := fun _ => rfl
    simp only [List.length_nil]
    go_enter Try.func20, Try.ntmps20
    go_wp2
    go_ret
    exact Ret.mk ⟨none, 0, rfl, Nat.le_refl _, by simp, Cells.nil _ _⟩ (Grow.refl _)
  · have he : ∀ W : World, (binOp .eql 22 (.slice (some ad) l.length c) (.slice none 0 0)).run Try.prog W = .ok (.bool false) W := fun _ => rfl
    have hcells : ∀ j u, (vals l)[j]? = some u → (w.alloc (.cells #[] 37)).cell? (ad.add j) = some u := by
      intro j u hu
      rw [vals_get] at hu
      obtain ⟨x, hx, rfl⟩ := Option.map_eq_some_iff.1 hu
      obtain ⟨b, o, e, hbl, hc2⟩ := hl (by intro e; subst e; simp at hx)
      injection e with e
      subst e
      have e2 : (Addr.mk b o none).add j = ⟨b, o + j, none⟩ := by unfold Addr.add; split <;> simp_all
      rw [e2, World.cell?_alloc_lt w _ _ hbl]
      exact hc2 j x hx
    have hown0 : (w.alloc (.cells #[] 37)).ownsRow w.heap.size 37 1 (.slice (some ⟨w.heap.size, 0, none⟩) 0 0) 0 [] :=
      ⟨by simp, .inr ⟨w.heap.size, 0, #[], rfl, Nat.le_refl _, heap_alloc_new w _, Nat.le_refl _, by unfold maxLen; omega, by simp, by simp⟩⟩
    have HC := Lib.hid hcells
    have HV := Lib.hid (vals_length l)
    have H1 := Lib.hid (vals_one l)
    clear hcells
    generalize hvs : vals l = vs at *
    have HVS := Lib.hid hvs
    clear hvs
    go_enter Try.func20, Try.ntmps20
    go_wp2_with (at_builtin; refine wpList_append_own _ rfl _ _ 22 rfl w.heap.size 37 i0 (.int .u64 0) 1 8 Try.underlying22 hi hz0 hz1 hz2 rfl (by decide) _ 0 [] rfl hown0 ad l.length c vs rfl (by rw [HV.out, Nat.mul_one]) HC.out H1.out (by unfold maxLen; omega) (by omega) (by simp) ?_)
    intro v' w1 hown' hgrow _
    have hG : Grow w w1 := Below.grown ((Grow.refl w).alloc _) hgrow (by simp) (fun k e => own_ge hown0 e)
    rw [← HVS.out] at hown'
    have HS := Lib.hid (sl_of_own hown' HB.out)
    clear hown' hgrow hown0 he
    go_wp2
    go_ret
    exact Ret.mk HS.out hG

namespace Rg
section
variable {ops : Array Oper} {Q : Exit → Act → World → Prop} {F : Facts} {a0 : Act} {w0 : World}
theorem st_D (n k : Nat) : Stable (fun w v => IsD w v n k) := fun _ _ _ h g => h.grow g
theorem en_refOf : Enters Try.prog 10 := enters_of Try.func10 (by kernel_rfl) rfl
theorem en_refCmp : Enters Try.prog 12 := enters_of Try.func12 (by kernel_rfl) rfl
theorem callRefOf {i d x k : Nat} {l : List Nat} {ts : Array TypeId} (dx : depI ops i x = true) (hx : ∀ w v, F x w v → Sl w v l) (hl : l.length ≤ 1048576) (hk : 8 * l.length ≤ k)
    (hF : ∀ w v, IsD w v (Mx.val l) k → F d w v) : Owes Try.prog ops Q F a0 w0 i (some d) (.call { callee := .value (.func 10), args := #[.tmp x], argTypes := ts }) :=
  fun _ _ _ ho hd _ _ D => call1 ho en_refOf hd (refOf_any _ _ _ hl (hx _ _ (D x dx))) fun _ _ ⟨v, e, h, g⟩ => ⟨v, e, hF _ _ (h.more hk), g⟩
theorem callRefCmp {i d x y n m k j : Nat} {ts : Array TypeId} (dx : depI ops i x = true) (dy : depI ops i y = true) (hx : ∀ w v, F x w v → IsD w v n k) (hy : ∀ w v, F y w v → IsD w v m j) (hk : k ≤ 4294967296)
    (hF : ∀ w v, v = .int .i64 (Mx.cmp n m) → F d w v) : Owes Try.prog ops Q F a0 w0 i (some d) (.call { callee := .value (.func 12), args := #[.tmp x, .tmp y], argTypes := ts }) :=
  fun _ _ _ ho hd _ _ D => call2 ho en_refCmp hd (refCmp_any _ _ _ _ _ _ _ hk (hx _ _ (D x dx)) (hy _ _ (D y dy))) fun _ _ ⟨v, e, h, g⟩ => ⟨v, e, hF _ _ h, g⟩
theorem neg_cmp (n m : Nat) : IntKind.i64.wrap (-(Mx.cmp n m)) = -(Mx.cmp n m) := IntWalk.i64_in _ (by have := Mx.cmp_bd n m; omega)
theorem negI {i d x : Nat} {m r : Int} (dx : depI ops i x = true) (hx : ∀ w v, F x w v → v = .int .i64 m) (hr : IntKind.i64.wrap (-m) = r) (hF : ∀ w v, v = .int .i64 r → F d w v) :
    Owes Try.prog ops Q F a0 w0 i (some d) (.unOp .neg 3 (.tmp x)) :=
  fun o a w ho hd hg ha D => valOf (v := .int .i64 r) (w' := w) (by
    have e : a.tmps.getD x undef = .int .i64 m := hx _ _ (D x dx)
    simp only [Array.getD_eq_getD_getElem?] at e
    simp [execOp, ho, go_sem, Act.eval, e, hr]) hd (hF _ _ rfl) (Grow.refl w)
end
end Rg
end Go.Proofs.Ytdfdlmhllonggaa
