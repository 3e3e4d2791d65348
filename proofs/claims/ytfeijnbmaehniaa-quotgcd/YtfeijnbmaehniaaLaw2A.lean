/- What the laws of layer 2 share: cut, wakes. -/
import Derived.Test.YtfeijnbmaehniaaWakes2R
namespace Go.Proofs.Ytfeijnbmaehniaa
open Go.RowKit

set_option maxHeartbeats 400000 in
theorem cut2_any (w : World) (v : Value) (l : List Nat) (h : Sl w v l) : Calls Try.prog 10 #[v] w (Ret w fun v' w' => Sl w' v' (l.take 10)) := by
  obtain ⟨A, c, rfl, hc, hb, hcl⟩ := h
  have hlen : (min ((l.length : Nat) : Int) 10).toNat = (l.take 10).length := by rw [List.length_take]; omega
  have HB := Lib.hid hb
  have HL := Lib.hid hlen
  clear hb hlen
  go_enter Try.func10, Try.ntmps10
  go_wp2
  go_ret
  refine Ret.mk ⟨A, c, ?_, by rw [List.length_take]; omega, fun x hx => HB.out x (List.mem_of_mem_take hx), hcl.take 10⟩ (Grow.refl _)
  rw [← HL.out]
  rfl

theorem one_n (w : World) (x : Nat) (hx : x ≤ 1000) : Calls Try.prog 9 #[.slice (some ⟨w.heap.size, 0, none⟩) 1 1] (w.alloc (.cells #[.int .u64 (x : Int)] 47)) (Ret (w.alloc (.cells #[.int .u64 (x : Int)] 47)) fun v' w' => IsN w' v' x 1) := by
  have h := of_n 1 (sl_built w [x] (by intro y hy; simp at hy; rw [hy]; exact small_lt hx)) (by simp) (by omega)
  rw [Mx.val_one] at h
  exact h
theorem one_at {w : World} {k : Nat} {x : Nat} (hk : w.heap.size = k) (hx : x ≤ 1000) : Calls Try.prog 9 #[.slice (some ⟨k, 0, none⟩) 1 1] (w.alloc (.cells #[.int .u64 (x : Int)] 47)) (Ret (w.alloc (.cells #[.int .u64 (x : Int)] 47)) fun v' w' => IsN w' v' x 1) := by
  subst hk
  exact one_n w x hx
/-- A variable that was just made holds its number. -/
theorem IsN.cell {w : World} {v : Value} {n k : Nat} (h : IsN w v n k) : ∃ A l c, v = .agg #[.slice A l c] := by
  obtain ⟨⟨A, c, e, _, _⟩, _⟩ := h
  exact ⟨A, _, c, e⟩
theorem two_new {w W : World} {v u : Value} {t : TypeId} (h : Grow ((w.alloc (Obj.cells #[v] t)).alloc (Obj.cells #[u] t)) W) : W.cell? ⟨w.heap.size, 0, none⟩ = some v ∧ W.cell? ⟨w.heap.size + 1, 0, none⟩ = some u := h.new2

set_option maxHeartbeats 1000000 in
theorem wakes2_any (w : World) : Calls Try.prog 12 #[] w (Ret w fun v' _ => v' = .bool true) := by
  go_enter Try.func12, Try.ntmps12
  go_wp2_with fail
  refine (one_n _ 100 (by omega)).mono ?_
  rintro e w1 ⟨v1, rfl, h1, g1⟩
  go_wp2_with fail
  refine (one_n _ 7 (by omega)).mono ?_
  rintro e w2 ⟨v2, rfl, h2, g2⟩
  have h1' := h1.grow (((Grow.refl w1).alloc _).trans g2)
  have gw2 : Grow w w2 := (((Grow.refl w).alloc _).trans g1).trans (((Grow.refl w1).alloc _).trans g2)
  clear h1 g1 g2
  go_wp2_with fail
  refine (div_n h1' h2 (by omega) (by omega)).mono ?_
  rintro e w3 ⟨v3, rfl, ⟨q, r, rfl, hq, hr⟩, g3⟩
  have gw3 := gw2.trans g3
  clear h1' h2 g3 gw2
  rw [show 100 / 7 = 14 from rfl] at hq
  rw [show 100 % 7 = 2 from rfl] at hr
  obtain ⟨A1, l1, c1, rfl⟩ := hq.cell
  obtain ⟨A2, l2, c2, rfl⟩ := hr.cell
  have HQ := Lib.hid hq
  have HR := Lib.hid hr
  clear hq hr
  go_wp2_with fail
  refine (one_at (x := 1) (by simp) (by omega)).mono ?_
  rintro e w4 ⟨v4, rfl, h4, g4⟩
  have g34 : Grow ((w3.alloc (Obj.cells #[Value.slice A1 l1 c1] 24)).alloc (Obj.cells #[Value.slice A2 l2 c2] 24)) w4 := ((Grow.refl _).alloc _).trans g4
  have HG4 := Lib.hid g34
  have GW := Lib.hid gw3
  clear g4 g34 gw3
  go_wp2_with fail
  refine (div_zero_n h4 (IsNat.none _)).mono ?_
  rintro e w5 ⟨v5, rfl, ⟨q5, r5, rfl, hq5, hr5⟩, g5⟩
  obtain ⟨A5, l5, c5, rfl⟩ := hq5.cell
  obtain ⟨A6, l6, c6, rfl⟩ := hr5.cell
  have HG5 := Lib.hid (HG4.out.trans g5)
  clear hq5 hr5 h4 g5 HG4
  go_wp2_with fail
  refine (one_at (x := 1) (by simp) (by omega)).mono ?_
  rintro e w6 ⟨v6, rfl, h6, g6⟩
  have HG6 := Lib.hid ((HG5.out.trans (((Grow.refl w5).alloc _).alloc _)).trans (((Grow.refl _).alloc _).trans g6))
  clear g6 HG5
  go_wp2_with fail
  refine (shl_n (s := 64) h6 (by omega) (by omega)).mono ?_
  rintro e w7 ⟨v7, rfl, ⟨u7, rfl, h7⟩, g7⟩
  rw [show 1 * 2 ^ 64 = 2 ^ 64 from rfl, show 1 + 64 / 64 + 1 = 3 from rfl] at h7
  obtain ⟨A7, l7, c7, rfl⟩ := h7.cell
  have H7 := Lib.hid h7
  have g37 := HG6.out.trans g7
  clear h6 g7 HG6 h7
  have g38 := g37.alloc (Obj.cells #[Value.slice A7 l7 c7] 24)
  obtain ⟨k1, k2⟩ := two_new g38
  have g78 : Grow w7 (w7.alloc (Obj.cells #[Value.slice A7 l7 c7] 24)) := (Grow.refl _).alloc _
  have k7 : (w7.alloc (Obj.cells #[Value.slice A7 l7 c7] 24)).cell? ⟨w7.heap.size, 0, none⟩ = some (.slice A7 l7 c7) := by simp [go_sem]
  have HK := Lib.hid (And.intro k1 (And.intro k2 k7))
  have GF := Lib.hid ((GW.out.trans (((Grow.refl w3).alloc _).alloc _)).trans g38)
  have HN := Lib.hid (And.intro (HQ.out.grow ((((Grow.refl w3).alloc _).alloc _).trans g38)) (And.intro (HR.out.grow ((((Grow.refl w3).alloc _).alloc _).trans g38)) (H7.out.grow g78)))
  clear k1 k2 k7 g38 g37 HQ HR H7 GW g78
  go_wp2_with fail
  rename_i hK
  obtain ⟨k1, k2, k7⟩ := HK.out
  obtain ⟨n1, n2, n7⟩ := HN.out
  exact Rg.region_eq (by kernel_rfl) (Rg.wakes2_region rfl rfl k1 n1 rfl k2 n2 rfl k7 n7 rfl rfl rfl fun a' w' hg ha h0 => hK a' w' (Rg.ret_slot (t := 0) Try.results12 ha.1 h0 (Ret.mk rfl (GF.out.trans hg))))

namespace Rg
section
variable {ops : Array Oper} {Q : Exit → Act → World → Prop} {F : Facts} {a0 : Act} {w0 : World}
theorem en_wakes : Enters Try.prog 12 := enters_of Try.func12 (by kernel_rfl) rfl
theorem callWakes {i d : Nat} {ts : Array TypeId} (hF : ∀ w v, v = .bool true → F d w v) :
    Owes Try.prog ops Q F a0 w0 i (some d) (.call { callee := .value (.func 12), args := #[], argTypes := ts }) :=
  fun _ _ w ho hd _ _ _ => call0 ho en_wakes hd (wakes2_any w) fun _ _ ⟨v, e, h, g⟩ => ⟨v, e, hF _ _ h, g⟩
end
end Rg
end Go.Proofs.Ytfeijnbmaehniaa
