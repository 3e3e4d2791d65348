/- slices.Clone at []uint64. -/
import Derived.Test.YtdfdlmhllonggaaNatG
import Derived.Test.YtdfdlmhllonggaaRefB
namespace Go.Proofs.Ytdfdlmhllonggaa
open Go.RowKit

/-- What the call owns reads as limbs. -/
theorem sl_of_own {w : World} {base n : Nat} {v : Value} {l : List Nat} (h : w.ownsRow base 37 1 v n (vals l)) (hb : ∀ x ∈ l, x < Mx.B) : Sl w v l := by
  obtain ⟨h1, h2⟩ := h
  rw [vals_length, Nat.mul_one] at h1
  subst h1
  rcases h2 with ⟨rfl, h0⟩ | ⟨g, cap, cur, rfl, _, hh, hc, _, hs, ht⟩
  · have : l = [] := List.eq_nil_of_length_eq_zero h0
    subst this
    exact ⟨none, 0, rfl, Nat.le_refl _, by simp, Cells.nil _ _⟩
  · refine ⟨_, cap, rfl, hc, hb, fun _ => ⟨g, 0, rfl, lt_of_heap hh, fun j x hx => ?_⟩⟩
    rw [cell_of_row w g (0 + j) _ _ _ hh, Nat.zero_add]
    have hj : (vals l)[j]? = some (.int .u64 (x : Int)) := by rw [vals_get, hx]; rfl
    rw [← ht, Nat.mul_one, List.getElem?_take] at hj
    split at hj
    · rw [← hj]; simp
    · cases hj

set_option maxHeartbeats 1000000 in
theorem clone_any (w : World) (v : Value) (l : List Nat) (hn : l.length ≤ 17592186044416) (h : Sl w v l) :
    Calls Try.prog 20 #[v] w (Ret w fun v' w' => Sl w' v' l) := by
  obtain ⟨A, c, rfl, hc, hb, hl⟩ := h
  obtain ⟨i0, hi, hz0, hz1, hz2⟩ := info_parts info37
  have HB := Lib.hid hb
  clear hb
  rcases A with _ | ad
  · have h0 : l = [] := by
      rcases List.eq_nil_or_concat l with h | ⟨a, b, h⟩
      · exact h
      · obtain ⟨_, _, e, _⟩ := hl (by rw [h]; simp)
        cases e
    subst h0
    have he : ∀ W : World, (binOp .eql 22 (.slice none 0 c) (.slice none 0 0)).run Try.prog W = .ok (.bool true) W := fun _ => rfl
    simp only [List.length_nil]
    go_enter Try.func20, Try.ntmps20
    go_wp2
    go_ret
    exact Ret.mk ⟨none, 0, rfl, Nat.le_refl _, by simp, Cells.nil _ _⟩ (Grow.refl _)
  · have he : ∀ W : World, (binOp .eql 22 (.slice (some ad) l.length c) (.slice none 0 0)).run Try.prog W = .ok (.bool false) W := fun _ => rfl
    have hcells : ∀ j u, (vals l)[j]? = some u → (w.alloc (.cells #[] 37)).cell? (ad.add j) = some u := by
      intro j u hu
      rw [vals_get] at hu
      obtain ⟨x, hx, rfl⟩ := Option.map_eq_some_iff.1 hu
      obtain ⟨b, o, e, hbl, hc2⟩ := hl (by intro e; subst e; simp at hx)
      injection e with e
      subst e
      have e2 : (Addr.mk b o none).add j = ⟨b, o + j, none⟩ := by unfold Addr.add; split <;> simp_all
      rw [e2, World.cell?_alloc_lt w _ _ hbl]
      exact hc2 j x hx
    have hown0 : (w.alloc (.cells #[] 37)).ownsRow w.heap.size 37 1 (.slice (some ⟨w.heap.size, 0, none⟩) 0 0) 0 [] :=
      ⟨by simp, .inr ⟨w.heap.size, 0, #[], rfl, Nat.le_refl _, heap_alloc_new w _, Nat.le_refl _, by unfold maxLen; omega, by simp, by simp⟩⟩
    have HC := Lib.hid hcells
    have HV := Lib.hid (vals_length l)
    have H1 := Lib.hid (vals_one l)
    clear hcells
    generalize hvs : vals l = vs at *
    have HVS := Lib.hid hvs
    clear hvs
    go_enter Try.func20, Try.ntmps20
    go_wp2_with (at_builtin; refine wpList_append_own _ rfl _ _ 22 rfl w.heap.size 37 i0 (.int .u64 0) 1 8 Try.underlying22 hi hz0 hz1 hz2 rfl (by decide) _ 0 [] rfl hown0 ad l.length c vs rfl (by rw [HV.out, Nat.mul_one]) HC.out H1.out (by unfold maxLen; omega) (by omega) (by simp) ?_)
    intro v' w1 hown' hgrow _
    have hG : Grow w w1 := Below.grown ((Grow.refl w).alloc _) hgrow (by simp) (fun k e => own_ge hown0 e)
    rw [← HVS.out] at hown'
    have HS := Lib.hid (sl_of_own hown' HB.out)
    clear hown' hgrow hown0 he
    go_wp2
    go_ret
    exact Ret.mk HS.out hG

end Go.Proofs.Ytdfdlmhllonggaa
