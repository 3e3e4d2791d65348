/- The reference of layer 4: Add, Sub, Mul, Cmp, Print. -/
import Derived.Test.YtlkiikchjeapfaaGreatDoorRwA
namespace Go.Proofs.YtlkiikchjeapfaaGreatDoor
open Go.RowKit
set_option maxRecDepth 20000

/-- The world behind the boxes of two Ints of the reference and the place of the answer. -/
def boxV (w : World) (u x v y : Value) : World := ((w.alloc (Obj.cells #[u, x] 33)).alloc (Obj.cells #[v, y] 33)).alloc (Obj.cells #[Value.slice none 0 0, Value.bool false] 33)
theorem boxV_grow (w : World) (u x v y : Value) : Grow w (boxV w u x v y) := (((Grow.refl w).alloc _).alloc _).alloc _
theorem boxV_keep {w W : World} {u x v y : Value} (h : Grow (boxV w u x v y) W) :
    W.cell? ⟨w.heap.size, 0, none⟩ = some u ∧ W.cell? ⟨w.heap.size, 1, none⟩ = some x ∧ W.cell? ⟨w.heap.size + 1, 0, none⟩ = some v ∧ W.cell? ⟨w.heap.size + 1, 1, none⟩ = some y := (box2 h).1
theorem boxV_wb {w W : World} {u x v y : Value} (h : Grow (boxV w u x v y) W) : WB W (w.heap.size + 1 + 1) := (box2 h).2
theorem IsN_cmp_ge {n m : Nat} (h : m ≤ n) : decide ((0 : Int) ≤ Mx.cmp n m) = true := by
  unfold Mx.cmp
  split
  · omega
  · split <;> rfl
theorem IsN_cmp_lt {n m : Nat} (h : n < m) : decide ((0 : Int) ≤ Mx.cmp n m) = false := by
  rw [Mx.cmp_lt h]; rfl

set_option maxHeartbeats 4000000 in
theorem addV {w : World} {va vb : Value} {x y : Int} {k j : Nat} (hx : IsV w va x k) (hy : IsV w vb y j) (hk : k ≤ 4294967296) (hj : j ≤ 4294967296) :
    Calls Tryz.prog 52 #[va, vb] w (Ret w fun v' w' => IsV w' v' (x + y) (max k j + 1)) := by
  obtain ⟨A, l, c, b, rfl, hn, hb⟩ := hx.open
  obtain ⟨D, m, d, b2, rfl, hm, hb2⟩ := hy.open
  have HKP := Lib.hid (fun W (h : Grow (boxV w (.slice A l c) (.bool b) (.slice D m d) (.bool b2)) W) => boxV_keep h)
  have HWB := Lib.hid (fun W (h : Grow (boxV w (.slice A l c) (.bool b) (.slice D m d) (.bool b2)) W) => boxV_wb h)
  have HG0 := Lib.hid (boxV_grow w (.slice A l c) (.bool b) (.slice D m d) (.bool b2))
  clear hx hy
  by_cases he : b = b2
  · have e1 : (b == b2) = true := by rw [he]; exact beq_self_eq_true _
    have HA := Lib.hid (fun W (g : Grow w W) => refAdd_any W _ _ _ _ k j hk hj (hn.grow g) (hm.grow g))
    have HO := Lib.hid (fun W v (h : IsD W v (x.natAbs + y.natAbs) (max k j + 1)) => ofV_any (b := b) h)
    rw [add_same hb hb2 he] at HO
    clear hn hm hb hb2 he
    go_enter Tryz.func52, Tryz.ntmps52
    go_upto_region 2 with fail
    change (Code.region 2 _ _).wp _ _ _ (boxV w (.slice A l c) (.bool b) (.slice D m d) (.bool b2))
    generalize boxV w (.slice A l c) (.bool b) (.slice D m d) (.bool b2) = W0 at *
    obtain ⟨k0, k1, k2, k3⟩ := HKP.out _ (Grow.refl _)
    go_wp2_with fail
    refine (HA.out _ HG0.out).mono ?_
    rintro e w1 ⟨v1, rfl, n1, g1⟩
    have N1 := Lib.hid n1
    have G1 := Lib.hid g1
    clear k0 k1 k2 k3 n1 g1 HA
    obtain ⟨k0, k1, k2, k3⟩ := HKP.out _ G1.out
    go_wp2_with fail
    refine (HO.out _ _ N1.out).mono ?_
    rintro e w2 ⟨v2, rfl, h2, g2⟩
    obtain ⟨A2, l2, c2, x2, rfl, _⟩ := h2.open
    clear k0 k1 k2 k3
    have hwb := HWB.out _ (G1.out.trans g2)
    obtain ⟨k0, k1⟩ := hwb.cells A2 l2 c2 x2
    have HW := Lib.hid (h2.st hwb A2 l2 c2 x2)
    have HG := Lib.hid (grow_stW (HG0.out.trans (G1.out.trans g2)) (b := w.heap.size + 1 + 1) (by omega) A2 l2 c2 x2)
    obtain ⟨⟨A0, l0, c0, x0, m0, m1⟩, f0, f1⟩ := hwb
    clear h2 g2 HWB HKP HG0
    go_wp2_with fail
    refine bodyPost_ret (v := .agg #[.slice A2 l2 c2, .bool x2]) (by simp only [stW] at k0 k1; simp [results, Tryz.results52, go_sem, k0, k1]) rfl (Ret.mk HW.out HG.out)
  · have e1 : (b == b2) = false := by simpa using he
    have HC := Lib.hid (fun W (g : Grow w W) => refCmp_any W _ _ _ _ k j hk (hn.grow g) (hm.grow g))
    by_cases hle : y.natAbs ≤ x.natAbs
    · have e2 := IsN_cmp_ge hle
      have HS := Lib.hid (fun W (g : Grow w W) => refSub_any W _ _ _ _ k j hk (hn.grow g) (hm.grow g) hle)
      have HO := Lib.hid (fun W v (h : IsD W v (x.natAbs - y.natAbs) k) => ofV_any (b := b) h)
      rw [add_big hb hb2 he hle] at HO
      generalize Mx.cmp x.natAbs y.natAbs = cc at *
      clear hn hm hb hb2 he hle
      go_enter Tryz.func52, Tryz.ntmps52
      go_upto_region 4 with fail
      change (Code.region 4 _ _).wp _ _ _ (boxV w (.slice A l c) (.bool b) (.slice D m d) (.bool b2))
      generalize boxV w (.slice A l c) (.bool b) (.slice D m d) (.bool b2) = W0 at *
      obtain ⟨k0, k1, k2, k3⟩ := HKP.out _ (Grow.refl _)
      go_wp2_with fail
      refine (HC.out _ HG0.out).mono ?_
      rintro e w1 ⟨v1, rfl, rfl, g1⟩
      have G1 := Lib.hid g1
      clear k0 k1 k2 k3 g1 HC
      obtain ⟨k0, k1, k2, k3⟩ := HKP.out _ G1.out
      go_wp2_with fail
      refine (HS.out _ (HG0.out.trans G1.out)).mono ?_
      rintro e w3 ⟨v3, rfl, n3, g3⟩
      have N1 := Lib.hid n3
      have G3 := Lib.hid (G1.out.trans g3)
      clear k0 k1 k2 k3 g3 n3 HS G1
      obtain ⟨k0, k1, k2, k3⟩ := HKP.out _ G3.out
      go_wp2_with fail
      refine (HO.out _ _ N1.out).mono ?_
      rintro e w2 ⟨v2, rfl, h2, g2⟩
      obtain ⟨A2, l2, c2, x2, rfl, _⟩ := h2.open
      clear k0 k1 k2 k3
      have hwb := HWB.out _ (G3.out.trans g2)
      obtain ⟨k0, k1⟩ := hwb.cells A2 l2 c2 x2
      have HW := Lib.hid ((h2.weak (show k ≤ max k j + 1 by omega)).st hwb A2 l2 c2 x2)
      have HG := Lib.hid (grow_stW (HG0.out.trans (G3.out.trans g2)) (b := w.heap.size + 1 + 1) (by omega) A2 l2 c2 x2)
      obtain ⟨⟨A0, l0, c0, x0, m0, m1⟩, f0, f1⟩ := hwb
      clear h2 g2 HWB HKP HG0
      go_wp2_with fail
      refine bodyPost_ret (v := .agg #[.slice A2 l2 c2, .bool x2]) (by simp only [stW] at k0 k1; simp [results, Tryz.results52, go_sem, k0, k1]) rfl (Ret.mk HW.out HG.out)
    · have e2 := IsN_cmp_lt (show x.natAbs < y.natAbs by omega)
      have HS := Lib.hid (fun W (g : Grow w W) => refSub_any W _ _ _ _ j k hj (hm.grow g) (hn.grow g) (by omega))
      have HO := Lib.hid (fun W v (h : IsD W v (y.natAbs - x.natAbs) j) => ofV_any (b := b2) h)
      rw [add_small hb hb2 he (by omega)] at HO
      generalize Mx.cmp x.natAbs y.natAbs = cc at *
      clear hn hm hb hb2 he hle
      go_enter Tryz.func52, Tryz.ntmps52
      go_upto_region 4 with fail
      change (Code.region 4 _ _).wp _ _ _ (boxV w (.slice A l c) (.bool b) (.slice D m d) (.bool b2))
      generalize boxV w (.slice A l c) (.bool b) (.slice D m d) (.bool b2) = W0 at *
      obtain ⟨k0, k1, k2, k3⟩ := HKP.out _ (Grow.refl _)
      go_wp2_with fail
      refine (HC.out _ HG0.out).mono ?_
      rintro e w1 ⟨v1, rfl, rfl, g1⟩
      have G1 := Lib.hid g1
      clear k0 k1 k2 k3 g1 HC
      obtain ⟨k0, k1, k2, k3⟩ := HKP.out _ G1.out
      go_wp2_with fail
      refine (HS.out _ (HG0.out.trans G1.out)).mono ?_
      rintro e w3 ⟨v3, rfl, n3, g3⟩
      have N1 := Lib.hid n3
      have G3 := Lib.hid (G1.out.trans g3)
      clear k0 k1 k2 k3 g3 n3 HS G1
      obtain ⟨k0, k1, k2, k3⟩ := HKP.out _ G3.out
      go_wp2_with fail
      refine (HO.out _ _ N1.out).mono ?_
      rintro e w2 ⟨v2, rfl, h2, g2⟩
      obtain ⟨A2, l2, c2, x2, rfl, _⟩ := h2.open
      clear k0 k1 k2 k3
      have hwb := HWB.out _ (G3.out.trans g2)
      obtain ⟨k0, k1⟩ := hwb.cells A2 l2 c2 x2
      have HW := Lib.hid ((h2.weak (show j ≤ max k j + 1 by omega)).st hwb A2 l2 c2 x2)
      have HG := Lib.hid (grow_stW (HG0.out.trans (G3.out.trans g2)) (b := w.heap.size + 1 + 1) (by omega) A2 l2 c2 x2)
      obtain ⟨⟨A0, l0, c0, x0, m0, m1⟩, f0, f1⟩ := hwb
      clear h2 g2 HWB HKP HG0
      go_wp2_with fail
      refine bodyPost_ret (v := .agg #[.slice A2 l2 c2, .bool x2]) (by simp only [stW] at k0 k1; simp [results, Tryz.results52, go_sem, k0, k1]) rfl (Ret.mk HW.out HG.out)

set_option maxHeartbeats 4000000 in
theorem subV {w : World} {va vb : Value} {x y : Int} {k j : Nat} (hx : IsV w va x k) (hy : IsV w vb y j) (hk : k ≤ 4294967296) (hj : j ≤ 4294967296) :
    Calls Tryz.prog 85 #[va, vb] w (Ret w fun v' w' => IsV w' v' (x - y) (max k j + 1)) := by
  have HN := Lib.hid (fun W (g : Grow w W) => negV (hy.grow g))
  have HA := Lib.hid (fun W v (h : IsV W v (-y) j) (g : Grow w W) => addV (hx.grow g) h hk hj)
  rw [show x + -y = x - y by omega] at HA
  obtain ⟨A, l, c, b, rfl, hn, hb⟩ := hx.open
  obtain ⟨D, m, d, b2, rfl, hm, hb2⟩ := hy.open
  have HKP := Lib.hid (fun W (h : Grow (boxV w (.slice A l c) (.bool b) (.slice D m d) (.bool b2)) W) => boxV_keep h)
  have HWB := Lib.hid (fun W (h : Grow (boxV w (.slice A l c) (.bool b) (.slice D m d) (.bool b2)) W) => boxV_wb h)
  have HG0 := Lib.hid (boxV_grow w (.slice A l c) (.bool b) (.slice D m d) (.bool b2))
  clear hx hy hn hm hb hb2
  go_enter Tryz.func85, Tryz.ntmps85
  go_upto_region 1 with fail
  change (Code.region 1 _ _).wp _ _ _ (boxV w (.slice A l c) (.bool b) (.slice D m d) (.bool b2))
  generalize boxV w (.slice A l c) (.bool b) (.slice D m d) (.bool b2) = W0 at *
  obtain ⟨k0, k1, k2, k3⟩ := HKP.out _ (Grow.refl _)
  go_wp2_with fail
  refine (HN.out _ HG0.out).mono ?_
  rintro e w1 ⟨v1, rfl, n1, g1⟩
  obtain ⟨A1, l1, c1, x1, rfl, _⟩ := n1.open
  have N1 := Lib.hid (n1.grow ((Grow.refl _).alloc (Obj.cells #[.slice A1 l1 c1, .bool x1] 33)))
  have G1 := Lib.hid (g1.alloc (Obj.cells #[.slice A1 l1 c1, .bool x1] 33))
  clear k0 k1 k2 k3 n1 g1 HN
  obtain ⟨k0, k1, k2, k3⟩ := HKP.out _ G1.out
  go_wp2_with fail
  refine (HA.out _ _ N1.out (HG0.out.trans G1.out)).mono ?_
  rintro e w2 ⟨v2, rfl, h2, g2⟩
  obtain ⟨A2, l2, c2, x2, rfl, _⟩ := h2.open
  clear k0 k1 k2 k3
  have hwb := HWB.out _ (G1.out.trans g2)
  obtain ⟨k0, k1⟩ := hwb.cells A2 l2 c2 x2
  have HW := Lib.hid (h2.st hwb A2 l2 c2 x2)
  have HG := Lib.hid (grow_stW (HG0.out.trans (G1.out.trans g2)) (b := w.heap.size + 1 + 1) (by omega) A2 l2 c2 x2)
  obtain ⟨⟨A0, l0, c0, x0, m0, m1⟩, f0, f1⟩ := hwb
  clear h2 g2 HWB HKP HG0
  go_wp2_with fail
  refine bodyPost_ret (v := .agg #[.slice A2 l2 c2, .bool x2]) (by simp only [stW] at k0 k1; simp [results, Tryz.results85, go_sem, k0, k1]) rfl (Ret.mk HW.out HG.out)

set_option maxHeartbeats 4000000 in
theorem mulV {w : World} {va vb : Value} {x y : Int} {k j : Nat} (hx : IsV w va x k) (hy : IsV w vb y j) (hk : k ≤ 4294967296) (hj : j ≤ 4294967296) :
    Calls Tryz.prog 45 #[va, vb] w (Ret w fun v' w' => IsV w' v' (x * y) (k + j + 1)) := by
  obtain ⟨A, l, c, b, rfl, hn, hb⟩ := hx.open
  obtain ⟨D, m, d, b2, rfl, hm, hb2⟩ := hy.open
  have HA := Lib.hid (fun W (g : Grow w W) => refMul_any W _ _ _ _ k j hk hj (hn.grow g) (hm.grow g))
  have HO := Lib.hid (fun W v (h : IsD W v (x.natAbs * y.natAbs) (k + j + 1)) => ofV_any (b := !(b == b2)) h)
  rw [mul_signed hb hb2] at HO
  have HKP := Lib.hid (fun W (h : Grow (boxV w (.slice A l c) (.bool b) (.slice D m d) (.bool b2)) W) => boxV_keep h)
  have HWB := Lib.hid (fun W (h : Grow (boxV w (.slice A l c) (.bool b) (.slice D m d) (.bool b2)) W) => boxV_wb h)
  have HG0 := Lib.hid (boxV_grow w (.slice A l c) (.bool b) (.slice D m d) (.bool b2))
  clear hx hy hn hm hb hb2
  go_enter Tryz.func45, Tryz.ntmps45
  go_upto_region 1 with fail
  change (Code.region 1 _ _).wp _ _ _ (boxV w (.slice A l c) (.bool b) (.slice D m d) (.bool b2))
  generalize boxV w (.slice A l c) (.bool b) (.slice D m d) (.bool b2) = W0 at *
  obtain ⟨k0, k1, k2, k3⟩ := HKP.out _ (Grow.refl _)
  go_wp2_with fail
  refine (HA.out _ HG0.out).mono ?_
  rintro e w1 ⟨v1, rfl, n1, g1⟩
  have N1 := Lib.hid n1
  have G1 := Lib.hid g1
  clear k0 k1 k2 k3 n1 g1 HA
  obtain ⟨k0, k1, k2, k3⟩ := HKP.out _ G1.out
  go_wp2_with fail
  refine (HO.out _ _ N1.out).mono ?_
  rintro e w2 ⟨v2, rfl, h2, g2⟩
  obtain ⟨A2, l2, c2, x2, rfl, _⟩ := h2.open
  clear k0 k1 k2 k3
  have hwb := HWB.out _ (G1.out.trans g2)
  obtain ⟨k0, k1⟩ := hwb.cells A2 l2 c2 x2
  have HW := Lib.hid (h2.st hwb A2 l2 c2 x2)
  have HG := Lib.hid (grow_stW (HG0.out.trans (G1.out.trans g2)) (b := w.heap.size + 1 + 1) (by omega) A2 l2 c2 x2)
  obtain ⟨⟨A0, l0, c0, x0, m0, m1⟩, f0, f1⟩ := hwb
  clear h2 g2 HWB HKP HG0
  go_wp2_with fail
  refine bodyPost_ret (v := .agg #[.slice A2 l2 c2, .bool x2]) (by simp only [stW] at k0 k1; simp [results, Tryz.results45, go_sem, k0, k1]) rfl (Ret.mk HW.out HG.out)

set_option maxHeartbeats 4000000 in
theorem cmpV {w : World} {va vb : Value} {x y : Int} {k j : Nat} (hx : IsV w va x k) (hy : IsV w vb y j) (hk : k ≤ 4294967296) (hj : j ≤ 4294967296) :
    Calls Tryz.prog 55 #[va, vb] w (Ret w fun v' _ => v' = .int .i64 (x - y).sign) := by
  have HS := Lib.hid (fun W (g : Grow w W) => subV (hx.grow g) (hy.grow g) hk hj)
  obtain ⟨A, l, c, b, rfl, hn, hb⟩ := hx.open
  obtain ⟨D, m, d, b2, rfl, hm, hb2⟩ := hy.open
  clear hx hy hn hm hb hb2
  go_enter Tryz.func55, Tryz.ntmps55
  go_wp2_with fail
  refine (HS.out _ (((Grow.refl w).alloc _).alloc _)).mono ?_
  rintro e w1 ⟨v1, rfl, n1, g1⟩
  obtain ⟨A1, l1, c1, x1, rfl, _⟩ := n1.open
  have N1 := Lib.hid (n1.grow ((Grow.refl _).alloc (Obj.cells #[.slice A1 l1 c1, .bool x1] 33)))
  have G1 := Lib.hid (((((Grow.refl w).alloc _).alloc _).trans g1).alloc (Obj.cells #[.slice A1 l1 c1, .bool x1] 33))
  clear n1 g1 HS
  go_wp2_with fail
  refine (signV N1.out).mono ?_
  rintro e w2 ⟨v2, rfl, rfl, g2⟩
  have G2 := Lib.hid (G1.out.trans g2)
  clear g2
  go_wp2_with fail
  go_ret
  exact Ret.mk rfl G2.out

set_option maxHeartbeats 1000000 in
theorem printV {w : World} {v : Value} {z : Int} {k : Nat} (h : IsV w v z k) (hk : k ≤ 1000000) : Calls Tryz.prog 24 #[v] w (Ret w fun v' _ => v' = .string (str (ztext z))) := by
  obtain ⟨A, l, c, b, rfl, hn, hb⟩ := h.open
  have HP := Lib.hid (fun W (g : Grow w W) => refPrint_any W _ _ k (hn.grow g) hk)
  have hs : (str (Tx.text z.natAbs)).size ≤ 4294967296000 := by
    rw [str_size, Tx.text_length]
    obtain ⟨_, _, _, _, _, hkk⟩ := hn
    have h1 : Tx.digs z.natAbs ≤ 4 * k + 1 := Tx.digs_le_of_lt (by omega) (Nat.lt_of_lt_of_le (dnum_lt z.natAbs) (Nat.pow_le_pow_right (by decide) (by omega)))
    omega
  have hm := str_minus (Tx.text z.natAbs)
  have hz : (b = true ∧ ztext z = 45 :: Tx.text z.natAbs) ∨ (b = false ∧ ztext z = Tx.text z.natAbs) := by
    rcases hb with ⟨hb, h0⟩ | ⟨hb, h0⟩
    · exact .inl ⟨hb, if_pos h0⟩
    · exact .inr ⟨hb, if_neg (by omega)⟩
  clear hn h hb
  rcases hz with ⟨rfl, e2⟩ | ⟨rfl, e2⟩
  · rw [e2, ← hm]
    clear e2 hm
    generalize str (Tx.text z.natAbs) = s at *
    go_enter Tryz.func24, Tryz.ntmps24
    go_wp2_with fail
    refine (HP.out _ ((Grow.refl w).alloc _)).mono ?_
    rintro e w1 ⟨v1, rfl, rfl, g1⟩
    have G1 := Lib.hid (((Grow.refl w).alloc _).trans g1)
    have k0 : w1.cell? ⟨w.heap.size, 1, none⟩ = _ := g1.cells1 (show _ = some _ by simp [go_sem]; rfl)
    clear g1
    go_wp2_with fail
    go_ret
    exact Ret.mk rfl G1.out
  · rw [e2]
    clear e2 hm
    generalize str (Tx.text z.natAbs) = s at *
    go_enter Tryz.func24, Tryz.ntmps24
    go_wp2_with fail
    refine (HP.out _ ((Grow.refl w).alloc _)).mono ?_
    rintro e w1 ⟨v1, rfl, rfl, g1⟩
    have G1 := Lib.hid (((Grow.refl w).alloc _).trans g1)
    have k0 : w1.cell? ⟨w.heap.size, 1, none⟩ = _ := g1.cells1 (show _ = some _ by simp [go_sem]; rfl)
    clear g1
    go_wp2_with fail
    go_ret
    exact Ret.mk rfl G1.out
end Go.Proofs.YtlkiikchjeapfaaGreatDoor
