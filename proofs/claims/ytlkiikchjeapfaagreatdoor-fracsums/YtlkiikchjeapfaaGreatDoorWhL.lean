/- Package whole: Floor. -/
import Derived.Test.YtlkiikchjeapfaaGreatDoorRgxW
namespace Go.Proofs.YtlkiikchjeapfaaGreatDoor
open Go.RowKit
set_option maxRecDepth 20000

set_option maxHeartbeats 4000000 in
theorem floor_w {w : World} {va vb : Value} {x y : Int} {k j : Nat} (hx : IsW w va x k) (hy : IsW w vb y j) (hk : k ≤ 1073741824) (hj : j ≤ 1073741824) (hy0 : y ≠ 0) :
    Calls Tryz.prog 58 #[va, vb] w (Ret w fun v w' => ∃ q r, v = .tuple #[q, r, .int .i64 0] ∧ IsW w' q (zdiv x y) (max k 1 + 1) ∧ IsW w' r (zmod x y) (max j j + 1)) := by
  have HSY := Lib.hid (fun W (h : IsW W vb y j) => sign_w h)
  have HY := Lib.hid hy
  obtain ⟨A, l, c, b, rfl, hn, hb⟩ := hx.open
  obtain ⟨D, m, d, b2, rfl, hm, hb2⟩ := hy.open
  have hfp := floor_parts hb hb2 hy0
  have hfm := floor_math hfp.1 hfp.2
  have HD := Lib.hid (fun W (g : Grow w W) => div_n (hn.grow g) (hm.grow g) hk (by omega : y.natAbs ≠ 0))
  have HKP := Lib.hid (fun W (h : Grow (floorW w (.slice A l c) (.bool b) (.slice D m d) (.bool b2)) W) => floorW_keep h)
  have HG0 := Lib.hid (floorW_grow w (.slice A l c) (.bool b) (.slice D m d) (.bool b2))
  generalize hqn : x.natAbs / y.natAbs = qn at *
  generalize hrn : x.natAbs % y.natAbs = rn at *
  have HOQ := Lib.hid (fun W v (h : IsN W v qn k) => of_w (b := !(b == b2)) h)
  have HOR := Lib.hid (fun W v (h : IsN W v rn j) => of_w (b := b) h)
  generalize hq : signed qn (!(b == b2)) = q at *
  generalize hr : signed rn b = r at *
  have HQR := Lib.hid (And.intro hq hr)
  have HFM := Lib.hid hfm
  clear hx hy hn hb hb2 hm hfp hfm hqn hrn hy0 hq hr HOQ HOR
  go_enter Tryz.func58, Tryz.ntmps58
  go_upto_region 1 with fail
  change (Code.region 1 _ _).wp _ _ _ (floorW w (.slice A l c) (.bool b) (.slice D m d) (.bool b2))
  generalize floorW w (.slice A l c) (.bool b) (.slice D m d) (.bool b2) = W0 at *
  obtain ⟨⟨k0, k1, k2, k3⟩, _, _⟩ := HKP.out _ (Grow.refl _)
  go_wp2_with fail
  refine (HD.out _ HG0.out).mono ?_
  rintro e w1 ⟨v1, rfl, ⟨q1, r1, rfl, n1, n2⟩, g1⟩
  obtain ⟨A1, l1, c1, rfl⟩ := n1.cell
  obtain ⟨A2, l2, c2, rfl⟩ := n2.cell
  have G1 := Lib.hid ((g1.alloc (Obj.cells #[.slice A1 l1 c1] 26)).alloc (Obj.cells #[.slice A2 l2 c2] 26))
  have hg12 := ((Grow.refl w1).alloc (Obj.cells #[.slice A1 l1 c1] 26)).alloc (Obj.cells #[.slice A2 l2 c2] 26)
  have N1 := Lib.hid (n1.grow hg12)
  have N2 := Lib.hid (n2.grow hg12)
  have hc7 := two_new (t := 26) (v := .slice A1 l1 c1) (u := .slice A2 l2 c2) (Grow.refl ((w1.alloc (Obj.cells #[.slice A1 l1 c1] 26)).alloc (Obj.cells #[.slice A2 l2 c2] 26)))
  have HC7 := Lib.hid hc7
  clear n1 n2 k0 k1 k2 k3 g1 hg12 hc7 HD
  go_upto_region 4 with fail
  generalize (w1.alloc (Obj.cells #[.slice A1 l1 c1] 26)).alloc (Obj.cells #[.slice A2 l2 c2] 26) = W1 at *
  have HK1 := Lib.hid (And.intro (HKP.out _ G1.out).1.2.1 (And.intro (HKP.out _ G1.out).1.2.2.2 HC7.out))
  have hsz : w.heap.size + 1 + 1 + 1 < W1.heap.size := by
    obtain ⟨⟨_, _, _, _, h0, _⟩, _⟩ := (HKP.out _ G1.out).2.2
    exact lt_of_cell h0
  have HSZ := Lib.hid hsz
  clear HC7 hsz
  go_cut [10, 11] (fun v10 v11 W => ∃ b10 b11, v10 = .pointer (some ⟨b10, 0, none⟩) ∧ v11 = .pointer (some ⟨b11, 0, none⟩) ∧ W1.heap.size ≤ b10 ∧ W1.heap.size ≤ b11 ∧ VarW W b10 q k ∧ VarW W b11 r j ∧ Grow W1 W)
  case first =>
    refine Rg.region_eq (by kernel_rfl) (floor_region4 (b := b) (b2 := b2) rfl rfl rfl rfl rfl HK1.out.1 HK1.out.2.1 HK1.out.2.2.1 N1.out HK1.out.2.2.2 N2.out ?_)
    intro f w' b10 b11 hg hb10 hb11 e10 e11 v10 v11
    rw [HQR.out.1] at v10
    rw [HQR.out.2] at v11
    have HF := Lib.hid (And.intro hb10 (And.intro hb11 (And.intro v10 (And.intro v11 hg))))
    clear hg hb10 hb11 v10 v11
    simp only [Rg.puts, Act.put, List.setIfInBounds_toArray, List.set_cons_succ, List.set_cons_zero]
    rw [e10, e11]
    clear e10 e11
    go_wp2_with fail
    go_meet
    exact ⟨b10, b11, rfl, rfl, HF.out⟩
  case rest =>
    obtain ⟨b10, b11, rfl, rfl, hb10, hb11, V10, V11, g4⟩ := hcut
    have hkp := HKP.out _ (G1.out.trans g4)
    have yW := HY.out.grow (HG0.out.trans (G1.out.trans g4))
    obtain ⟨Aq, lq, cq, xq, q0, q1, qW⟩ := V10
    obtain ⟨Ar, lr, cr, xr, r0, r1, rW⟩ := V11
    have HB4 := Lib.hid hkp.2.1
    have HB5 := Lib.hid hkp.2.2
    have HKK : Hid (∀ W, Grow wc W → (W.cell? ⟨b10, 0, none⟩ = some (.slice Aq lq cq) ∧ W.cell? ⟨b10, 1, none⟩ = some (.bool xq) ∧ W.cell? ⟨b11, 0, none⟩ = some (.slice Ar lr cr) ∧ W.cell? ⟨b11, 1, none⟩ = some (.bool xr) ∧ W.cell? ⟨w.heap.size + 1, 0, none⟩ = some (.slice D m d) ∧ W.cell? ⟨w.heap.size + 1, 1, none⟩ = some (.bool b2))) := Lib.hid fun W g => ⟨g.cells1 q0, g.cells1 q1, g.cells1 r0, g.cells1 r1, g.cells1 hkp.1.2.2.1, g.cells1 hkp.1.2.2.2⟩
    have hsz := HSZ.out
    have HKS : Hid (∀ W A l c x, Grow wc W → (((W.setCell ⟨w.heap.size + 1 + 1, 0, none⟩ (.slice A l c)).setCell ⟨w.heap.size + 1 + 1, 1, none⟩ (.bool x)).cell? ⟨b10, 0, none⟩ = some (.slice Aq lq cq) ∧ ((W.setCell ⟨w.heap.size + 1 + 1, 0, none⟩ (.slice A l c)).setCell ⟨w.heap.size + 1 + 1, 1, none⟩ (.bool x)).cell? ⟨b10, 1, none⟩ = some (.bool xq) ∧ ((W.setCell ⟨w.heap.size + 1 + 1, 0, none⟩ (.slice A l c)).setCell ⟨w.heap.size + 1 + 1, 1, none⟩ (.bool x)).cell? ⟨b11, 0, none⟩ = some (.slice Ar lr cr) ∧ ((W.setCell ⟨w.heap.size + 1 + 1, 0, none⟩ (.slice A l c)).setCell ⟨w.heap.size + 1 + 1, 1, none⟩ (.bool x)).cell? ⟨b11, 1, none⟩ = some (.bool xr) ∧ ((W.setCell ⟨w.heap.size + 1 + 1, 0, none⟩ (.slice A l c)).setCell ⟨w.heap.size + 1 + 1, 1, none⟩ (.bool x)).cell? ⟨w.heap.size + 1, 0, none⟩ = some (.slice D m d) ∧ ((W.setCell ⟨w.heap.size + 1 + 1, 0, none⟩ (.slice A l c)).setCell ⟨w.heap.size + 1 + 1, 1, none⟩ (.bool x)).cell? ⟨w.heap.size + 1, 1, none⟩ = some (.bool b2))) := Lib.hid fun W A l c x g => by
      obtain ⟨h0, h1, h2, h3, h4, h5⟩ := HKK.out W g
      exact ⟨stW_other h0 (by omega), stW_other h1 (by omega), stW_other h2 (by omega), stW_other h3 (by omega), stW_other h4 (by omega), stW_other h5 (by omega)⟩
    have HKT : Hid (∀ W A l c x A' l' c' x', Grow wc W → (((((W.setCell ⟨w.heap.size + 1 + 1, 0, none⟩ (.slice A l c)).setCell ⟨w.heap.size + 1 + 1, 1, none⟩ (.bool x)).setCell ⟨w.heap.size + 1 + 1 + 1, 0, none⟩ (.slice A' l' c')).setCell ⟨w.heap.size + 1 + 1 + 1, 1, none⟩ (.bool x')).cell? ⟨b10, 0, none⟩ = some (.slice Aq lq cq) ∧ ((((W.setCell ⟨w.heap.size + 1 + 1, 0, none⟩ (.slice A l c)).setCell ⟨w.heap.size + 1 + 1, 1, none⟩ (.bool x)).setCell ⟨w.heap.size + 1 + 1 + 1, 0, none⟩ (.slice A' l' c')).setCell ⟨w.heap.size + 1 + 1 + 1, 1, none⟩ (.bool x')).cell? ⟨b10, 1, none⟩ = some (.bool xq) ∧ ((((W.setCell ⟨w.heap.size + 1 + 1, 0, none⟩ (.slice A l c)).setCell ⟨w.heap.size + 1 + 1, 1, none⟩ (.bool x)).setCell ⟨w.heap.size + 1 + 1 + 1, 0, none⟩ (.slice A' l' c')).setCell ⟨w.heap.size + 1 + 1 + 1, 1, none⟩ (.bool x')).cell? ⟨b11, 0, none⟩ = some (.slice Ar lr cr) ∧ ((((W.setCell ⟨w.heap.size + 1 + 1, 0, none⟩ (.slice A l c)).setCell ⟨w.heap.size + 1 + 1, 1, none⟩ (.bool x)).setCell ⟨w.heap.size + 1 + 1 + 1, 0, none⟩ (.slice A' l' c')).setCell ⟨w.heap.size + 1 + 1 + 1, 1, none⟩ (.bool x')).cell? ⟨b11, 1, none⟩ = some (.bool xr) ∧ ((((W.setCell ⟨w.heap.size + 1 + 1, 0, none⟩ (.slice A l c)).setCell ⟨w.heap.size + 1 + 1, 1, none⟩ (.bool x)).setCell ⟨w.heap.size + 1 + 1 + 1, 0, none⟩ (.slice A' l' c')).setCell ⟨w.heap.size + 1 + 1 + 1, 1, none⟩ (.bool x')).cell? ⟨w.heap.size + 1, 0, none⟩ = some (.slice D m d) ∧ ((((W.setCell ⟨w.heap.size + 1 + 1, 0, none⟩ (.slice A l c)).setCell ⟨w.heap.size + 1 + 1, 1, none⟩ (.bool x)).setCell ⟨w.heap.size + 1 + 1 + 1, 0, none⟩ (.slice A' l' c')).setCell ⟨w.heap.size + 1 + 1 + 1, 1, none⟩ (.bool x')).cell? ⟨w.heap.size + 1, 1, none⟩ = some (.bool b2))) := Lib.hid fun W A l c x A' l' c' x' g => by
      obtain ⟨h0, h1, h2, h3, h4, h5⟩ := HKS.out W A l c x g
      exact ⟨stW_other h0 (by omega), stW_other h1 (by omega), stW_other h2 (by omega), stW_other h3 (by omega), stW_other h4 (by omega), stW_other h5 (by omega)⟩
    have HKSd : Hid (∀ W A l c x, Grow wc W → (((W.setCell ⟨w.heap.size + 1 + 1, 0, none⟩ (.slice A l c)).setCell ⟨w.heap.size + 1 + 1, 1, none⟩ (.bool x)).drew.cell? ⟨b10, 0, none⟩ = some (.slice Aq lq cq) ∧ ((W.setCell ⟨w.heap.size + 1 + 1, 0, none⟩ (.slice A l c)).setCell ⟨w.heap.size + 1 + 1, 1, none⟩ (.bool x)).drew.cell? ⟨b10, 1, none⟩ = some (.bool xq) ∧ ((W.setCell ⟨w.heap.size + 1 + 1, 0, none⟩ (.slice A l c)).setCell ⟨w.heap.size + 1 + 1, 1, none⟩ (.bool x)).drew.cell? ⟨b11, 0, none⟩ = some (.slice Ar lr cr) ∧ ((W.setCell ⟨w.heap.size + 1 + 1, 0, none⟩ (.slice A l c)).setCell ⟨w.heap.size + 1 + 1, 1, none⟩ (.bool x)).drew.cell? ⟨b11, 1, none⟩ = some (.bool xr) ∧ ((W.setCell ⟨w.heap.size + 1 + 1, 0, none⟩ (.slice A l c)).setCell ⟨w.heap.size + 1 + 1, 1, none⟩ (.bool x)).drew.cell? ⟨w.heap.size + 1, 0, none⟩ = some (.slice D m d) ∧ ((W.setCell ⟨w.heap.size + 1 + 1, 0, none⟩ (.slice A l c)).setCell ⟨w.heap.size + 1 + 1, 1, none⟩ (.bool x)).drew.cell? ⟨w.heap.size + 1, 1, none⟩ = some (.bool b2))) := Lib.hid fun W A l c x g => HKS.out W A l c x g
    have HKTd : Hid (∀ W A l c x A' l' c' x', Grow wc W → (((((W.setCell ⟨w.heap.size + 1 + 1, 0, none⟩ (.slice A l c)).setCell ⟨w.heap.size + 1 + 1, 1, none⟩ (.bool x)).setCell ⟨w.heap.size + 1 + 1 + 1, 0, none⟩ (.slice A' l' c')).setCell ⟨w.heap.size + 1 + 1 + 1, 1, none⟩ (.bool x')).drew.cell? ⟨b10, 0, none⟩ = some (.slice Aq lq cq) ∧ ((((W.setCell ⟨w.heap.size + 1 + 1, 0, none⟩ (.slice A l c)).setCell ⟨w.heap.size + 1 + 1, 1, none⟩ (.bool x)).setCell ⟨w.heap.size + 1 + 1 + 1, 0, none⟩ (.slice A' l' c')).setCell ⟨w.heap.size + 1 + 1 + 1, 1, none⟩ (.bool x')).drew.cell? ⟨b10, 1, none⟩ = some (.bool xq) ∧ ((((W.setCell ⟨w.heap.size + 1 + 1, 0, none⟩ (.slice A l c)).setCell ⟨w.heap.size + 1 + 1, 1, none⟩ (.bool x)).setCell ⟨w.heap.size + 1 + 1 + 1, 0, none⟩ (.slice A' l' c')).setCell ⟨w.heap.size + 1 + 1 + 1, 1, none⟩ (.bool x')).drew.cell? ⟨b11, 0, none⟩ = some (.slice Ar lr cr) ∧ ((((W.setCell ⟨w.heap.size + 1 + 1, 0, none⟩ (.slice A l c)).setCell ⟨w.heap.size + 1 + 1, 1, none⟩ (.bool x)).setCell ⟨w.heap.size + 1 + 1 + 1, 0, none⟩ (.slice A' l' c')).setCell ⟨w.heap.size + 1 + 1 + 1, 1, none⟩ (.bool x')).drew.cell? ⟨b11, 1, none⟩ = some (.bool xr) ∧ ((((W.setCell ⟨w.heap.size + 1 + 1, 0, none⟩ (.slice A l c)).setCell ⟨w.heap.size + 1 + 1, 1, none⟩ (.bool x)).setCell ⟨w.heap.size + 1 + 1 + 1, 0, none⟩ (.slice A' l' c')).setCell ⟨w.heap.size + 1 + 1 + 1, 1, none⟩ (.bool x')).drew.cell? ⟨w.heap.size + 1, 0, none⟩ = some (.slice D m d) ∧ ((((W.setCell ⟨w.heap.size + 1 + 1, 0, none⟩ (.slice A l c)).setCell ⟨w.heap.size + 1 + 1, 1, none⟩ (.bool x)).setCell ⟨w.heap.size + 1 + 1 + 1, 0, none⟩ (.slice A' l' c')).setCell ⟨w.heap.size + 1 + 1 + 1, 1, none⟩ (.bool x')).drew.cell? ⟨w.heap.size + 1, 1, none⟩ = some (.bool b2))) := Lib.hid fun W A l c x A' l' c' x' g => HKT.out W A l c x A' l' c' x' g
    have HSR := Lib.hid (fun W (g : Grow wc W) => sign_w (rW.grow g))
    have HSY2 := Lib.hid (fun W (g : Grow wc W) => sign_w (yW.grow g))
    have HQ := Lib.hid qW
    have HR := Lib.hid rW
    have HYW := Lib.hid yW
    have HGW := Lib.hid (HG0.out.trans (G1.out.trans g4))
    have hfm : (decide (IntKind.i64.wrap (r.sign * y.sign) < 0) = true ∧ q - 1 = zdiv x y ∧ r + y = zmod x y) ∨ (decide (IntKind.i64.wrap (r.sign * y.sign) < 0) = false ∧ q = zdiv x y ∧ r = zmod x y) := by rw [HFM.out.1]; exact HFM.out.2
    have HF2 := Lib.hid hfm
    have HJK := Lib.hid (And.intro hk hj)
    clear hkp yW qW rW q0 q1 r0 r1 hsz hb10 hb11 g4 HSY HY HQR HFM HKP HG0 G1 N1 N2 HK1 HSZ hfm hk hj
    generalize r.sign = sr at *
    generalize y.sign = sy at *
    go_upto_region 5 with fail
    go_region_held3 (fun W => W.cell? ⟨b10, 0, none⟩ = some (.slice Aq lq cq) ∧ W.cell? ⟨b10, 1, none⟩ = some (.bool xq) ∧ W.cell? ⟨b11, 0, none⟩ = some (.slice Ar lr cr) ∧ W.cell? ⟨b11, 1, none⟩ = some (.bool xr) ∧ W.cell? ⟨w.heap.size + 1, 0, none⟩ = some (.slice D m d) ∧ W.cell? ⟨w.heap.size + 1, 1, none⟩ = some (.bool b2))
      (first | exact HKK.out _ (Grow.refl _) | exact HKK.out _ (Grow.refl _).drew | exact HKK.out _ g5 | exact HKK.out _ (g5.trans g6))
      (first
        | (go_at_call 28; (with_reducible refine (HSR.out _ ?_).mono ?_); (first | exact Grow.refl _ | exact (Grow.refl _).drew); rintro e w5 ⟨v5, rfl, rfl, g5⟩; replace g5 := (Grow.refl wc).drew.trans g5)
        | (go_at_call 28; (with_reducible refine (HSY2.out _ g5).mono ?_); rintro e w6 ⟨v6, rfl, rfl, g6⟩))
    have G6 := Lib.hid (g5.trans g6)
    clear g5 g6 HSR HSY2
    generalize IntKind.i64.wrap (sr * sy) = pr at *
    rcases HF2.out with ⟨e1, e2, e3⟩ | ⟨e1, e2, e3⟩
    · have hlt : pr < 0 := of_decide_eq_true e1
      have E2 := Lib.hid e2
      have E3 := Lib.hid e3
      have HFR := Lib.hid (fun W => from_w W 1 (by decide) (by decide))
      have HSB := Lib.hid (fun W v (h : IsW W v 1 1) (g : Grow wc W) => sub_w (HQ.out.grow g) h (by have := HJK.out; omega) (by omega))
      have HAD := Lib.hid (fun W (g : Grow wc W) => add_w (HR.out.grow g) (HYW.out.grow g) (by have := HJK.out; omega) (by have := HJK.out; omega))
      rw [E2.out] at HSB
      rw [E3.out] at HAD
      clear e1 e2 e3 HF2 HQ HR HYW HJK E2 E3
      go_upto_region 6 with fail
      go_region_held3 (fun W => W.cell? ⟨b10, 0, none⟩ = some (.slice Aq lq cq) ∧ W.cell? ⟨b10, 1, none⟩ = some (.bool xq) ∧ W.cell? ⟨b11, 0, none⟩ = some (.slice Ar lr cr) ∧ W.cell? ⟨b11, 1, none⟩ = some (.bool xr) ∧ W.cell? ⟨w.heap.size + 1, 0, none⟩ = some (.slice D m d) ∧ W.cell? ⟨w.heap.size + 1, 1, none⟩ = some (.bool b2))
        (first | with_reducible exact HKK.out _ G6.out | with_reducible exact HKK.out _ G6.out.drew | with_reducible exact HKK.out _ g7 | with_reducible exact HKK.out _ (g7.trans g8) | with_reducible exact HKK.out _ ((g7.trans g8).trans g9) | with_reducible exact HKS.out _ _ _ _ _ ((g7.trans g8).trans g9) | with_reducible exact HKT.out _ _ _ _ _ _ _ _ _ ((g7.trans g8).trans g9))
        (first
          | (go_at_call 29; (with_reducible refine (HFR.out _).mono ?_); rintro e w7 ⟨v7, rfl, h7, g7⟩; replace g7 := G6.out.drew.trans g7)
          | (go_at_call 87; (with_reducible refine (HSB.out _ _ h7 g7).mono ?_); rintro e w8 ⟨v8, rfl, h8, g8⟩; obtain ⟨A7, l7, c7, x7, rfl, _⟩ := h8.open)
          | (go_at_call 49; (with_reducible refine (HAD.out _ (g7.trans g8)).mono ?_); rintro e w9 ⟨v9, rfl, h9, g9⟩; obtain ⟨A8, l8, c8, x8, rfl, _⟩ := h9.open; obtain ⟨⟨A0, l0, c0, x0, m0, m1⟩, f0, f1⟩ := HB4.out.grow ((g7.trans g8).trans g9); obtain ⟨⟨A3, l3, c3, x3, m3, m4⟩, f3, f4⟩ := (HB5.out.grow ((g7.trans g8).trans g9)).other (b' := w.heap.size + 1 + 1) (by omega) A7 l7 c7 x7; simp only [stW] at m3 m4 f3 f4))
      have gg := (g7.trans g8).trans g9
      have T := Lib.hid (two_stW (HB4.out.grow gg) (HB5.out.grow gg) (by omega) A7 A8 l7 c7 l8 c8 x7 x8)
      have H7 := Lib.hid (T.out.2 _ _ _ (h8.grow g9))
      have H8 := Lib.hid (T.out.2 _ _ _ h9)
      have HG := Lib.hid (grow_stW (grow_stW (HGW.out.trans gg) (b := w.heap.size + 1 + 1) (by omega) A7 l7 c7 x7) (b := w.heap.size + 1 + 1 + 1) (by omega) A8 l8 c8 x8)
      clear m0 m1 m3 m4 f0 f1 f3 f4 g7 g8 g9 gg h7 h8 h9 HFR HSB HAD HKK HKS HKT HKSd HKTd HB4 HB5 G6 HGW
      go_wp2_with fail
      obtain ⟨t0, t1, t2, t3⟩ := T.out.1
      simp only [stW] at t0 t1 t2 t3
      exact bodyPost_ret (v := .tuple #[.agg #[.slice A7 l7 c7, .bool x7], .agg #[.slice A8 l8 c8, .bool x8], .int .i64 0]) (by simp [results, Tryz.results58, go_sem, t0, t1, t2, t3]) rfl (Ret.mk ⟨_, _, rfl, H7.out, H8.out⟩ HG.out)
    · have hlt : 0 ≤ pr := by have := of_decide_eq_false e1; omega
      have H7 := Lib.hid (HQ.out.weak (show k ≤ max k 1 + 1 by omega))
      have H8 := Lib.hid (HR.out.weak (show j ≤ max j j + 1 by omega))
      rw [e2] at H7
      rw [e3] at H8
      clear e1 e2 e3 HF2 HQ HR HYW HJK
      go_upto_region 7 with fail
      obtain ⟨⟨A0, l0, c0, x0, m0, m1⟩, f0, f1⟩ := HB4.out.grow G6.out
      obtain ⟨⟨A3, l3, c3, x3, m3, m4⟩, f3, f4⟩ := HB5.out.grow G6.out
      go_region_held3 (fun W => W.cell? ⟨b10, 0, none⟩ = some (.slice Aq lq cq) ∧ W.cell? ⟨b10, 1, none⟩ = some (.bool xq) ∧ W.cell? ⟨b11, 0, none⟩ = some (.slice Ar lr cr) ∧ W.cell? ⟨b11, 1, none⟩ = some (.bool xr) ∧ W.cell? ⟨w.heap.size + 1, 0, none⟩ = some (.slice D m d) ∧ W.cell? ⟨w.heap.size + 1, 1, none⟩ = some (.bool b2))
        (first | with_reducible exact HKK.out _ G6.out | with_reducible exact HKK.out _ G6.out.drew | with_reducible exact HKSd.out _ _ _ _ _ G6.out | with_reducible exact HKTd.out _ _ _ _ _ _ _ _ _ G6.out)
        (fail)
      have gg := G6.out
      have T := Lib.hid (two_stW (HB4.out.grow gg) (HB5.out.grow gg) (by omega) Aq Ar lq cq lr cr xq xr)
      have H7 := Lib.hid (T.out.2 _ _ _ (H7.out.grow gg))
      have H8 := Lib.hid (T.out.2 _ _ _ (H8.out.grow gg))
      have HG := Lib.hid (grow_stW (grow_stW (HGW.out.trans gg) (b := w.heap.size + 1 + 1) (by omega) Aq lq cq xq) (b := w.heap.size + 1 + 1 + 1) (by omega) Ar lr cr xr)
      clear m0 m1 m3 m4 f0 f1 f3 f4 gg HKK HKS HKT HKSd HKTd HB4 HB5 G6 HGW
      go_wp2_with fail
      obtain ⟨t0, t1, t2, t3⟩ := T.out.1
      simp only [stW] at t0 t1 t2 t3
      exact bodyPost_ret (v := .tuple #[.agg #[.slice Aq lq cq, .bool xq], .agg #[.slice Ar lr cr, .bool xr], .int .i64 0]) (by simp [results, Tryz.results58, go_sem, t0, t1, t2, t3]) rfl (Ret.mk ⟨_, _, rfl, H7.out.grow (Grow.refl _).drew, H8.out.grow (Grow.refl _).drew⟩ HG.out.drew)
end Go.Proofs.YtlkiikchjeapfaaGreatDoor
