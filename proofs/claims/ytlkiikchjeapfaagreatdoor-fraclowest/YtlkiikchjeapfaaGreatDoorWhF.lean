/- Package whole: Add. -/
import Derived.Test.YtlkiikchjeapfaaGreatDoorWhE
namespace Go.Proofs.YtlkiikchjeapfaaGreatDoor
open Go.RowKit
set_option maxRecDepth 20000

theorem sub_lt_n {w : World} {va vb : Value} {n m k j : Nat} (ha : IsN w va n k) (hb : IsN w vb m j) (hk : k ≤ 4294967296) (hlt : n < m) :
    Calls Tryz.prog 79 #[va, vb] w (Ret w fun v' w' => ∃ u, v' = .tuple #[u, .bool false] ∧ IsN w' u 0 0) :=
  (sub_less w va vb n m (Nat.le_trans ha.2 hk) ha.1 hb.1 hlt).mono fun _ _ r => r.mono fun _ _ ⟨u, e, q⟩ => ⟨u, e, q, Nat.le_refl _⟩

/-- The world behind the boxes of two Ints and the place of the answer. -/
def boxW (w : World) (u x v y : Value) : World := ((w.alloc (Obj.cells #[u, x] 28)).alloc (Obj.cells #[v, y] 28)).alloc (Obj.cells #[Value.slice none 0 0, Value.bool false] 28)
theorem boxW_grow (w : World) (u x v y : Value) : Grow w (boxW w u x v y) := (((Grow.refl w).alloc _).alloc _).alloc _
theorem boxW_keep {w W : World} {u x v y : Value} (h : Grow (boxW w u x v y) W) :
    W.cell? ⟨w.heap.size, 0, none⟩ = some u ∧ W.cell? ⟨w.heap.size, 1, none⟩ = some x ∧ W.cell? ⟨w.heap.size + 1, 0, none⟩ = some v ∧ W.cell? ⟨w.heap.size + 1, 1, none⟩ = some y := (box2 h).1
theorem stW_other {W : World} {b p o : Nat} {A : Option Addr} {l c : Nat} {x : Bool} {u : Value} (h : W.cell? ⟨p, o, none⟩ = some u) (hp : p ≠ b) : (stW W b A l c x).cell? ⟨p, o, none⟩ = some u := by
  unfold stW
  rw [World.cell?_setCell_other _ _ _ _ (fun e => by injection e with e; exact hp e.symm), World.cell?_setCell_other _ _ _ _ (fun e => by injection e with e; exact hp e.symm)]
  exact h
theorem boxW_st {w W : World} {u x v y : Value} (h : Grow (boxW w u x v y) W) (A : Option Addr) (l c : Nat) (z : Bool) :
    (stW W (w.heap.size + 1 + 1) A l c z).cell? ⟨w.heap.size, 0, none⟩ = some u ∧ (stW W (w.heap.size + 1 + 1) A l c z).cell? ⟨w.heap.size, 1, none⟩ = some x ∧ (stW W (w.heap.size + 1 + 1) A l c z).cell? ⟨w.heap.size + 1, 0, none⟩ = some v ∧ (stW W (w.heap.size + 1 + 1) A l c z).cell? ⟨w.heap.size + 1, 1, none⟩ = some y := by
  obtain ⟨h0, h1, h2, h3⟩ := boxW_keep h
  exact ⟨stW_other h0 (by omega), stW_other h1 (by omega), stW_other h2 (by omega), stW_other h3 (by omega)⟩
theorem boxW_wb {w W : World} {u x v y : Value} (h : Grow (boxW w u x v y) W) : WB W (w.heap.size + 1 + 1) := (box2 h).2

theorem add_same {x y : Int} {b d : Bool} (hb : (b = true ∧ x < 0) ∨ (b = false ∧ 0 ≤ x)) (hd : (d = true ∧ y < 0) ∨ (d = false ∧ 0 ≤ y)) (e : b = d) : signed (x.natAbs + y.natAbs) b = x + y := by
  subst e
  rcases hb with ⟨rfl, h1⟩ | ⟨rfl, h1⟩ <;> rcases hd with ⟨h0, h2⟩ | ⟨h0, h2⟩ <;> first | (exact absurd h0 (by decide)) | (simp only [signed, if_true, if_false, Bool.false_eq_true]; omega)
theorem add_big {x y : Int} {b d : Bool} (hb : (b = true ∧ x < 0) ∨ (b = false ∧ 0 ≤ x)) (hd : (d = true ∧ y < 0) ∨ (d = false ∧ 0 ≤ y)) (e : b ≠ d) (h : y.natAbs ≤ x.natAbs) : signed (x.natAbs - y.natAbs) b = x + y := by
  rcases hb with ⟨rfl, h1⟩ | ⟨rfl, h1⟩ <;> rcases hd with ⟨rfl, h2⟩ | ⟨rfl, h2⟩ <;> first | exact absurd rfl e | (simp [signed]; omega)
theorem add_small {x y : Int} {b d : Bool} (hb : (b = true ∧ x < 0) ∨ (b = false ∧ 0 ≤ x)) (hd : (d = true ∧ y < 0) ∨ (d = false ∧ 0 ≤ y)) (e : b ≠ d) (h : x.natAbs < y.natAbs) : signed (y.natAbs - x.natAbs) d = x + y := by
  rcases hb with ⟨rfl, h1⟩ | ⟨rfl, h1⟩ <;> rcases hd with ⟨rfl, h2⟩ | ⟨rfl, h2⟩ <;> first | exact absurd rfl e | (simp [signed]; omega)

set_option maxHeartbeats 4000000 in
theorem add_w {w : World} {va vb : Value} {x y : Int} {k j : Nat} (hx : IsW w va x k) (hy : IsW w vb y j) (hk : k ≤ 4294967296) (hj : j ≤ 4294967296) :
    Calls Tryz.prog 49 #[va, vb] w (Ret w fun v' w' => IsW w' v' (x + y) (max k j + 1)) := by
  obtain ⟨A, l, c, b, rfl, hn, hb⟩ := hx.open
  obtain ⟨D, m, d, b2, rfl, hm, hb2⟩ := hy.open
  have HKP := Lib.hid (fun W (h : Grow (boxW w (.slice A l c) (.bool b) (.slice D m d) (.bool b2)) W) => boxW_keep h)
  have HWB := Lib.hid (fun W (h : Grow (boxW w (.slice A l c) (.bool b) (.slice D m d) (.bool b2)) W) => boxW_wb h)
  have HKS := Lib.hid (fun W (h : Grow (boxW w (.slice A l c) (.bool b) (.slice D m d) (.bool b2)) W) => boxW_st h)
  have HG0 := Lib.hid (boxW_grow w (.slice A l c) (.bool b) (.slice D m d) (.bool b2))
  clear hx hy
  by_cases he : b = b2
  · have e1 : (b == b2) = true := by rw [he]; exact beq_self_eq_true _
    have HA := Lib.hid (fun W (g : Grow w W) => add_n (hn.grow g) (hm.grow g) hk hj)
    have HO := Lib.hid (fun W v (h : IsN W v (x.natAbs + y.natAbs) (max k j + 1)) => of_w (b := b) h)
    rw [add_same hb hb2 he] at HO
    clear hn hm hb hb2 he
    go_enter Tryz.func49, Tryz.ntmps49
    go_upto_region 2 with fail
    change (Code.region 2 _ true).wp _ _ _ (boxW w (.slice A l c) (.bool b) (.slice D m d) (.bool b2))
    generalize boxW w (.slice A l c) (.bool b) (.slice D m d) (.bool b2) = W0 at *
    go_region_held3 (fun W => W.cell? ⟨w.heap.size, 0, none⟩ = some (.slice A l c) ∧ W.cell? ⟨w.heap.size, 1, none⟩ = some (.bool b) ∧ W.cell? ⟨w.heap.size + 1, 0, none⟩ = some (.slice D m d) ∧ W.cell? ⟨w.heap.size + 1, 1, none⟩ = some (.bool b2))
      (first | exact HKP.out _ (Grow.refl _) | exact HKP.out _ (Grow.refl _).drew | exact HKP.out _ g1 | exact HKP.out _ (g1.trans g2) | exact HKS.out _ (g1.trans g2) _ _ _ _)
      (first
        | (go_at_call 78; (with_reducible refine (HA.out _ ?_).mono ?_); (first | exact HG0.out.drew | exact HG0.out); rintro e w1 ⟨v1, rfl, n1, g1⟩; replace g1 := (Grow.refl W0).drew.trans g1)
        | (go_at_call 26; (with_reducible refine (HO.out _ _ n1).mono ?_); rintro e w2 ⟨v2, rfl, h2, g2⟩; obtain ⟨A2, l2, c2, x2, rfl, _⟩ := h2.open; obtain ⟨⟨A0, l0, c0, x0, m0, m1⟩, f0, f1⟩ := HWB.out _ (g1.trans g2)))
    have hwb := HWB.out _ (g1.trans g2)
    obtain ⟨k0, k1⟩ := hwb.cells A2 l2 c2 x2
    have HW := Lib.hid (h2.st hwb A2 l2 c2 x2)
    have HG := Lib.hid (grow_stW (HG0.out.trans (g1.trans g2)) (b := w.heap.size + 1 + 1) (by omega) A2 l2 c2 x2)
    clear h2 hwb g1 g2 n1 HWB HKP HKS HO HA HG0 m0 m1 f0 f1
    go_wp2_with fail
    refine bodyPost_ret (v := .agg #[.slice A2 l2 c2, .bool x2]) (by simp only [stW] at k0 k1; simp [results, Tryz.results49, go_sem, k0, k1]) rfl (Ret.mk HW.out HG.out)
  · have e1 : (b == b2) = false := by simpa using he
    by_cases hle : y.natAbs ≤ x.natAbs
    · have HS := Lib.hid (fun W (g : Grow w W) => sub_n (hn.grow g) (hm.grow g) hk hle)
      have HO := Lib.hid (fun W v (h : IsN W v (x.natAbs - y.natAbs) k) => of_w (b := b) h)
      rw [add_big hb hb2 he hle] at HO
      clear hn hm hb hb2 he hle
      go_enter Tryz.func49, Tryz.ntmps49
      go_upto_region 3 with fail
      change (Code.region 3 _ _).wp _ _ _ (boxW w (.slice A l c) (.bool b) (.slice D m d) (.bool b2))
      generalize boxW w (.slice A l c) (.bool b) (.slice D m d) (.bool b2) = W0 at *
      obtain ⟨k0, k1, k2, k3⟩ := HKP.out _ (Grow.refl _)
      go_wp2_with fail
      refine (HS.out _ HG0.out).mono ?_
      rintro e w1 ⟨v1, rfl, ⟨u1, rfl, n1⟩, g1⟩
      obtain ⟨A1, l1, c1, rfl⟩ := n1.cell
      have N1 := Lib.hid (n1.grow ((Grow.refl _).alloc (Obj.cells #[.slice A1 l1 c1] 26)))
      have G1 := Lib.hid (g1.alloc (Obj.cells #[.slice A1 l1 c1] 26))
      clear k0 k1 k2 k3 n1 g1
      obtain ⟨k0, k1, k2, k3⟩ := HKP.out _ G1.out
      go_wp2_with fail
      refine (HO.out _ _ N1.out).mono ?_
      rintro e w2 ⟨v2, rfl, h2, g2⟩
      obtain ⟨A2, l2, c2, x2, rfl, _⟩ := h2.open
      clear k0 k1 k2 k3
      have hwb := HWB.out _ (G1.out.trans g2)
      obtain ⟨k0, k1⟩ := hwb.cells A2 l2 c2 x2
      have HW := Lib.hid ((h2.weak (show k ≤ max k j + 1 by omega)).st hwb A2 l2 c2 x2)
      have HG := Lib.hid (grow_stW (HG0.out.trans (G1.out.trans g2)) (b := w.heap.size + 1 + 1) (by omega) A2 l2 c2 x2)
      obtain ⟨⟨A0, l0, c0, x0, m0, m1⟩, f0, f1⟩ := hwb
      clear h2 g2 G1 HWB HKP HKS HO HS HG0 N1
      go_wp2_with fail
      refine bodyPost_ret (v := .agg #[.slice A2 l2 c2, .bool x2]) (by simp only [stW] at k0 k1; simp [results, Tryz.results49, go_sem, k0, k1]) rfl (Ret.mk HW.out HG.out)
    · have HS := Lib.hid (fun W (g : Grow w W) => sub_lt_n (hn.grow g) (hm.grow g) hk (by omega))
      have HS2 := Lib.hid (fun W (g : Grow w W) => sub_n (hm.grow g) (hn.grow g) hj (by omega))
      have HO := Lib.hid (fun W v (h : IsN W v (y.natAbs - x.natAbs) j) => of_w (b := b2) h)
      rw [add_small hb hb2 he (by omega)] at HO
      clear hn hm hb hb2 he hle
      go_enter Tryz.func49, Tryz.ntmps49
      go_upto_region 3 with fail
      change (Code.region 3 _ _).wp _ _ _ (boxW w (.slice A l c) (.bool b) (.slice D m d) (.bool b2))
      generalize boxW w (.slice A l c) (.bool b) (.slice D m d) (.bool b2) = W0 at *
      obtain ⟨k0, k1, k2, k3⟩ := HKP.out _ (Grow.refl _)
      go_wp2_with fail
      refine (HS.out _ HG0.out).mono ?_
      rintro e w1 ⟨v1, rfl, ⟨u1, rfl, n1⟩, g1⟩
      obtain ⟨A1, l1, c1, rfl⟩ := n1.cell
      have G1 := Lib.hid (g1.alloc (Obj.cells #[.slice A1 l1 c1] 26))
      clear k0 k1 k2 k3 n1 g1
      obtain ⟨k0, k1, k2, k3⟩ := HKP.out _ G1.out
      go_wp2_with fail
      refine (HS2.out _ (HG0.out.trans G1.out)).mono ?_
      rintro e w2 ⟨v2, rfl, ⟨u2, rfl, n2⟩, g2⟩
      obtain ⟨A3, l3, c3, rfl⟩ := n2.cell
      have N1 := Lib.hid (n2.grow ((Grow.refl _).alloc (Obj.cells #[.slice A3 l3 c3] 26)))
      have G2 := Lib.hid (G1.out.trans (g2.alloc (Obj.cells #[.slice A3 l3 c3] 26)))
      clear k0 k1 k2 k3 n2 g2 G1
      obtain ⟨k0, k1, k2, k3⟩ := HKP.out _ G2.out
      go_wp2_with fail
      refine (HO.out _ _ N1.out).mono ?_
      rintro e w3 ⟨v3, rfl, h2, g2⟩
      obtain ⟨A2, l2, c2, x2, rfl, _⟩ := h2.open
      clear k0 k1 k2 k3
      have hwb := HWB.out _ (G2.out.trans g2)
      obtain ⟨k0, k1⟩ := hwb.cells A2 l2 c2 x2
      have HW := Lib.hid ((h2.weak (show j ≤ max k j + 1 by omega)).st hwb A2 l2 c2 x2)
      have HG := Lib.hid (grow_stW (HG0.out.trans (G2.out.trans g2)) (b := w.heap.size + 1 + 1) (by omega) A2 l2 c2 x2)
      obtain ⟨⟨A0, l0, c0, x0, m0, m1⟩, f0, f1⟩ := hwb
      clear h2 g2 G2 HWB HKP HKS HO HS HS2 HG0 N1
      go_wp2_with fail
      refine bodyPost_ret (v := .agg #[.slice A2 l2 c2, .bool x2]) (by simp only [stW] at k0 k1; simp [results, Tryz.results49, go_sem, k0, k1]) rfl (Ret.mk HW.out HG.out)
end Go.Proofs.YtlkiikchjeapfaaGreatDoor
