/- The reference of layer 4: Floor. -/
import Derived.Test.YtlkiikchjeapfaaGreatDoorRwB
namespace Go.Proofs.YtlkiikchjeapfaaGreatDoor
open Go.RowKit
set_option maxRecDepth 20000

/-- The world behind the boxes of two Ints of the reference and two places of answers. -/
def floorV2 (w : World) (u x v y : Value) : World := (((w.alloc (Obj.cells #[u, x] 33)).alloc (Obj.cells #[v, y] 33)).alloc (Obj.cells #[Value.slice none 0 0, Value.bool false] 33)).alloc (Obj.cells #[Value.slice none 0 0, Value.bool false] 33)
theorem floorV2_grow (w : World) (u x v y : Value) : Grow w (floorV2 w u x v y) := ((((Grow.refl w).alloc _).alloc _).alloc _).alloc _
theorem floorV2_keep {w W : World} {u x v y : Value} (h : Grow (floorV2 w u x v y) W) :
    (W.cell? ⟨w.heap.size, 0, none⟩ = some u ∧ W.cell? ⟨w.heap.size, 1, none⟩ = some x ∧ W.cell? ⟨w.heap.size + 1, 0, none⟩ = some v ∧ W.cell? ⟨w.heap.size + 1, 1, none⟩ = some y) ∧ WB W (w.heap.size + 1 + 1) ∧ WB W (w.heap.size + 1 + 1 + 1) := by
  have h' : Grow (boxV w u x v y) W := ((Grow.refl _).alloc _).trans h
  have hw := WB.new (boxV w u x v y) none 0 0 false 33
  have hs : (boxV w u x v y).heap.size = w.heap.size + 1 + 1 + 1 := by simp [boxV]
  rw [hs] at hw
  exact ⟨boxV_keep h', boxV_wb h', hw.grow h⟩
theorem two_stV {W : World} {b b' : Nat} (h : WB W b) (h' : WB W b') (hb : b ≠ b') (A A' : Option Addr) (l c l' c' : Nat) (x x' : Bool) :
    ∀ v z k, IsV W v z k → IsV (stW (stW W b A l c x) b' A' l' c' x') v z k := fun _ _ _ hv => (hv.st h A l c x).st (h'.other (fun e => hb e.symm) A l c x) A' l' c' x'
/-- The reference's floor: one less where the signs differ and something is left. -/
theorem ref_floor {x y : Int} {b d : Bool} (hb : (b = true ∧ x < 0) ∨ (b = false ∧ 0 ≤ x)) (hd : (d = true ∧ y < 0) ∨ (d = false ∧ 0 ≤ y)) (hy : y ≠ 0) :
    ((b == d) = false ∧ x.natAbs % y.natAbs ≠ 0 ∧ signed (x.natAbs / y.natAbs) (!(b == d)) - 1 = zdiv x y) ∨ (((b == d) = true ∨ x.natAbs % y.natAbs = 0) ∧ signed (x.natAbs / y.natAbs) (!(b == d)) = zdiv x y) := by
  have hp := floor_parts hb hd hy
  have e1 : ∀ n : Nat, signed n true = -(n : Int) := fun n => rfl
  have e2 : ∀ n : Nat, signed n false = (n : Int) := fun n => rfl
  obtain ⟨h1, h2⟩ := hp
  generalize signed (x.natAbs / y.natAbs) (!(b == d)) = q at *
  generalize x.natAbs % y.natAbs = r at *
  by_cases hbd : b = d
  · right
    refine ⟨.inl (by rw [hbd]; exact beq_self_eq_true _), (zdm_unique h1 ?_).1⟩
    subst hbd
    rcases hb with ⟨rfl, hx⟩ | ⟨rfl, hx⟩
    · rw [e1] at h1 h2 ⊢
      have : y < 0 := by rcases hd with ⟨_, h⟩ | ⟨h, _⟩; exact h; cases h
      right; omega
    · rw [e2] at h1 h2 ⊢
      have : 0 ≤ y := by rcases hd with ⟨h, _⟩ | ⟨_, h⟩; cases h; exact h
      left; omega
  · by_cases hr : r = 0
    · right
      refine ⟨.inr hr, (zdm_unique h1 ?_).1⟩
      subst hr
      have : signed 0 b = 0 := by cases b <;> rfl
      rw [this]
      omega
    · left
      refine ⟨by simpa using hbd, hr, ?_⟩
      have h3 : (q - 1) * y + (signed r b + y) = x := by rw [Int.sub_mul, Int.one_mul]; omega
      refine (zdm_unique h3 ?_).1
      rcases hb with ⟨rfl, hx⟩ | ⟨rfl, hx⟩
      · rw [e1] at h1 h2 ⊢
        have : 0 ≤ y := by rcases hd with ⟨h, _⟩ | ⟨_, h⟩; exact absurd h.symm hbd; exact h
        left; omega
      · rw [e2] at h1 h2 ⊢
        have : y < 0 := by rcases hd with ⟨_, h⟩ | ⟨h, _⟩; exact h; exact absurd h.symm hbd
        right; omega

/-- A variable at block b holds the whole number z (the reference's). -/
def VarV (w : World) (b : Nat) (z : Int) (k : Nat) : Prop := ∃ A l c x, w.cell? ⟨b, 0, none⟩ = some (.slice A l c) ∧ w.cell? ⟨b, 1, none⟩ = some (.bool x) ∧ IsV w (.agg #[.slice A l c, .bool x]) z k
theorem VarV.grow {w w' : World} {b : Nat} {z : Int} {k : Nat} (h : VarV w b z k) (g : Grow w w') : VarV w' b z k := by
  obtain ⟨A, l, c, x, h0, h1, h2⟩ := h
  exact ⟨A, l, c, x, g.cells1 h0, g.cells1 h1, h2.grow g⟩
theorem VarV.mk {w : World} {b : Nat} {z : Int} {k : Nat} {A : Option Addr} {l c : Nat} {x : Bool} (h0 : w.cell? ⟨b, 0, none⟩ = some (.slice A l c)) (h1 : w.cell? ⟨b, 1, none⟩ = some (.bool x)) (h2 : IsV w (.agg #[.slice A l c, .bool x]) z k) : VarV w b z k := ⟨A, l, c, x, h0, h1, h2⟩
theorem VarV.new {w w' : World} {A : Option Addr} {l c : Nat} {x : Bool} {z : Int} {k : Nat} {t : TypeId} (h : IsV w (.agg #[.slice A l c, .bool x]) z k) (g : Grow (w.alloc (Obj.cells #[Value.slice A l c, Value.bool x] t)) w') : VarV w' w.heap.size z k :=
  ⟨A, l, c, x, g.cells1 (by simp [go_sem]), g.cells1 (by simp [go_sem]), h.grow (((Grow.refl w).alloc _).trans g)⟩

set_option maxHeartbeats 4000000 in
theorem floorV_any {w : World} {va vb : Value} {x y : Int} {k j : Nat} (hx : IsV w va x k) (hy : IsV w vb y j) (hk : k ≤ 1000) (hj : j ≤ 1000) (hy0 : y ≠ 0) :
    Calls Tryz.prog 59 #[va, vb] w (Ret w fun v w' => ∃ q r, v = .tuple #[q, r] ∧ IsV w' q (zdiv x y) 2000 ∧ IsV w' r (zmod x y) 10000) := by
  have HX := Lib.hid hx
  have HY := Lib.hid hy
  obtain ⟨A, l, c, b, rfl, hn, hb⟩ := hx.open
  obtain ⟨D, m, d, b2, rfl, hm, hb2⟩ := hy.open
  have hrf := ref_floor hb hb2 hy0
  have hzz : x - zdiv x y * y = zmod x y := by have := (zdm_spec x hy0).1; omega
  have HD := Lib.hid (fun W (g : Grow w W) => refDivMod_any W _ _ _ _ k j (by omega) (by omega) (hn.grow g) (hm.grow g) (by omega : 0 < y.natAbs))
  have HO := Lib.hid (fun W v (h : IsD W v (x.natAbs / y.natAbs) k) => ofV_any (b := !(b == b2)) h)
  have HKP := Lib.hid (fun W (h : Grow (floorV2 w (.slice A l c) (.bool b) (.slice D m d) (.bool b2)) W) => floorV2_keep h)
  have HG0 := Lib.hid (floorV2_grow w (.slice A l c) (.bool b) (.slice D m d) (.bool b2))
  generalize x.natAbs / y.natAbs = qn at *
  generalize x.natAbs % y.natAbs = rn at *
  generalize signed qn (!(b == b2)) = q at *
  have HRF := Lib.hid hrf
  have HZZ := Lib.hid hzz
  have HJK := Lib.hid (And.intro hk hj)
  clear hx hy hn hb hb2 hm hrf hzz hy0 hk hj
  go_enter Tryz.func59, Tryz.ntmps59
  go_upto_region 1 with fail
  change (Code.region 1 _ _).wp _ _ _ (floorV2 w (.slice A l c) (.bool b) (.slice D m d) (.bool b2))
  generalize floorV2 w (.slice A l c) (.bool b) (.slice D m d) (.bool b2) = W0 at *
  obtain ⟨⟨k0, k1, k2, k3⟩, _, _⟩ := HKP.out _ (Grow.refl _)
  go_wp2_with fail
  refine (HD.out _ HG0.out).mono ?_
  rintro e w1 ⟨v1, rfl, ⟨q1, r1, rfl, n1, n2⟩, g1⟩
  obtain ⟨A2, c2, rfl⟩ := n2.slice
  have N1 := Lib.hid n1
  have G1 := Lib.hid g1
  have hlen : (0 : Int) < (Dx.len rn : Int) ↔ rn ≠ 0 := by
    constructor
    · rintro h rfl; rw [Dx.len_zero] at h; omega
    · intro h; have : Dx.len rn ≠ 0 := fun e => h (Dx.eq_zero_of_len e); omega
  have HRF2 : Hid ((!(b == b2)) = true ∧ (0 : Int) < (Dx.len rn : Int) ∧ q - 1 = zdiv x y ∨ (!(b == b2)) = true ∧ ¬ (0 : Int) < (Dx.len rn : Int) ∧ q = zdiv x y ∨ (!(b == b2)) = false ∧ q = zdiv x y) := Lib.hid (by
    rcases HRF.out with ⟨h1, h2, h3⟩ | ⟨h1, h2⟩
    · exact .inl ⟨by rw [h1]; rfl, hlen.2 h2, h3⟩
    · cases hbb : b == b2 with
      | true => exact .inr (.inr ⟨rfl, h2⟩)
      | false =>
        rw [hbb] at h1
        rcases h1 with h1 | h1
        · cases h1
        · exact .inr (.inl ⟨rfl, fun h => (hlen.1 h) h1, h2⟩))
  clear n1 n2 k0 k1 k2 k3 g1 HD HRF hlen
  generalize Dx.len rn = ln at *
  obtain ⟨⟨k0, k1, k2, k3⟩, _, _⟩ := HKP.out _ G1.out
  go_wp2_with fail
  refine (HO.out _ _ N1.out).mono ?_
  rintro e w2 ⟨v2, rfl, h2, g2⟩
  obtain ⟨A3, l3, c3, x3, rfl, _⟩ := h2.open
  have H2 := Lib.hid (h2.grow ((Grow.refl _).alloc (Obj.cells #[.slice A3 l3 c3, .bool x3] 33)))
  have G2 := Lib.hid ((G1.out.trans g2).alloc (Obj.cells #[.slice A3 l3 c3, .bool x3] 33))
  have B2 := Lib.hid (WB.new w2 A3 l3 c3 x3 33)
  have K2 : Hid ((w2.alloc (Obj.cells #[.slice A3 l3 c3, .bool x3] 33)).cell? ⟨w2.heap.size, 0, none⟩ = some (.slice A3 l3 c3) ∧ (w2.alloc (Obj.cells #[.slice A3 l3 c3, .bool x3] 33)).cell? ⟨w2.heap.size, 1, none⟩ = some (.bool x3)) := Lib.hid ⟨by simp [go_sem], by simp [go_sem]⟩
  have S2 : Hid (w.heap.size + 1 + 1 + 1 < w2.heap.size ∧ W0.heap.size ≤ w2.heap.size) := Lib.hid ⟨by
    obtain ⟨⟨_, _, _, _, h0, _⟩, _⟩ := (HKP.out _ (G1.out.trans g2)).2.2
    exact lt_of_cell h0, (G1.out.trans g2).size⟩
  clear k0 k1 k2 k3 h2 g2 HO N1 G1
  go_upto_region 3 with fail
  generalize w2.alloc (Obj.cells #[.slice A3 l3 c3, .bool x3] 33) = W2 at *
  generalize w2.heap.size = p8 at *
  obtain ⟨bb, hbb⟩ : ∃ bb : Bool, ((!(b == b2)) = true ∧ (0 : Int) < (ln : Int) ∧ bb = true ∨ (!(b == b2)) = true ∧ ¬ (0 : Int) < (ln : Int) ∧ bb = false ∨ (!(b == b2)) = false ∧ bb = false) ∧ (bb = true ∧ q - 1 = zdiv x y ∨ bb = false ∧ q = zdiv x y) := by
    rcases HRF2.out with ⟨e1, e2, e3⟩ | ⟨e1, e2, e3⟩ | ⟨e1, e3⟩
    · exact ⟨true, .inl ⟨e1, e2, rfl⟩, .inl ⟨rfl, e3⟩⟩
    · exact ⟨false, .inr (.inl ⟨e1, by omega, rfl⟩), .inr ⟨rfl, e3⟩⟩
    · exact ⟨false, .inr (.inr ⟨e1, rfl⟩), .inr ⟨rfl, e3⟩⟩
  have HBB := Lib.hid hbb
  clear hbb HRF2
  go_cut [36] (fun v W => v = .bool bb ∧ W = W2)
  case first =>
    obtain ⟨⟨k0, k1, k2, k3⟩, _, _⟩ := HKP.out _ G2.out
    rcases HBB.out.1 with ⟨e1, e2, rfl⟩ | ⟨e1, e2, rfl⟩ | ⟨e1, rfl⟩
    all_goals
      clear HBB
      go_wp2_with fail
      go_meet
      first | exact ⟨rfl, rfl⟩ | exact ⟨by simp; omega, rfl⟩
  case rest =>
  obtain ⟨rfl, rfl⟩ := hcut
  go_upto_if 36 with fail
  go_cut [9] (fun _ W => VarV W p8 (zdiv x y) 2000 ∧ Grow W0 W)
  case first =>
    obtain ⟨k8, k9⟩ := K2.out
    rcases HBB.out.2 with ⟨rfl, e3⟩ | ⟨rfl, e3⟩
    · have E3 := Lib.hid e3
      clear HBB e3
      go_wp2_with fail
      refine (fromV_one _).mono ?_
      rintro e w4 ⟨v4, rfl, h4, g4⟩
      obtain ⟨A4, l4, c4, x4, rfl, _⟩ := h4.open
      have H4 := Lib.hid (h4.grow ((Grow.refl _).alloc (Obj.cells #[.slice A4 l4 c4, .bool x4] 33)))
      have G4 := Lib.hid (g4.alloc (Obj.cells #[.slice A4 l4 c4, .bool x4] 33))
      clear k8 k9 h4 g4
      have k8 := G4.out.cells1 K2.out.1
      have k9 := G4.out.cells1 K2.out.2
      go_wp2_with fail
      refine (subV (H2.out.grow G4.out) H4.out (by have := HJK.out; omega) (by omega)).mono ?_
      rintro e w5 ⟨v5, rfl, h5, g5⟩
      obtain ⟨A5, l5, c5, x5, rfl, _⟩ := h5.open
      rw [E3.out] at h5
      have hwb := B2.out.grow (G4.out.trans g5)
      obtain ⟨m0, m1⟩ := hwb.cells A5 l5 c5 x5
      have HV := Lib.hid (VarV.mk m0 m1 ((h5.weak (show max k 5 + 1 ≤ 2000 by have := HJK.out; omega)).st hwb A5 l5 c5 x5))
      have HG := Lib.hid (grow_stW (G2.out.trans (G4.out.trans g5)) (b := p8) S2.out.2 A5 l5 c5 x5)
      obtain ⟨⟨A0, l0, c0, x0, q0, q1⟩, f0, f1⟩ := hwb
      clear m0 m1 k8 k9 h5 g5
      go_wp2_with fail
      go_meet
      exact ⟨HV.out, HG.out⟩
    · have HV := Lib.hid (VarV.mk k8 k9 (H2.out.weak (show k ≤ 2000 by have := HJK.out; omega)))
      rw [e3] at HV
      clear HBB e3
      go_wp2_with fail
      go_meet
      exact ⟨HV.out, G2.out⟩
  case rest =>
    obtain ⟨⟨Aq, lq, cq, xq, q0, q1, qW⟩, gc⟩ := hcut
    have HQ := Lib.hid qW
    have GC := Lib.hid gc
    have HQC := Lib.hid (And.intro q0 q1)
    have hkp := (HKP.out _ gc).1
    obtain ⟨k0, k1, k2, k3⟩ := hkp
    clear qW gc H2 K2 B2 HBB G2
    go_wp2_with fail
    refine (mulV HQ.out (HY.out.grow (HG0.out.trans GC.out)) (by omega) (by have := HJK.out; omega)).mono ?_
    rintro e w5 ⟨v5, rfl, h5, g5⟩
    obtain ⟨A5, l5, c5, x5, rfl, _⟩ := h5.open
    have H5 := Lib.hid (h5.grow ((Grow.refl _).alloc (Obj.cells #[.slice A5 l5 c5, .bool x5] 33)))
    have G5 := Lib.hid (g5.alloc (Obj.cells #[.slice A5 l5 c5, .bool x5] 33))
    clear k0 k1 k2 k3 q0 q1 h5 g5
    obtain ⟨⟨k0, k1, k2, k3⟩, _, _⟩ := HKP.out _ (GC.out.trans G5.out)
    go_wp2_with fail
    refine (subV (HX.out.grow (HG0.out.trans (GC.out.trans G5.out))) H5.out (by have := HJK.out; omega) (by have := HJK.out; omega)).mono ?_
    rintro e w6 ⟨v6, rfl, h6, g6⟩
    obtain ⟨Ar, lr, cr, xr, rfl, _⟩ := h6.open
    rw [HZZ.out] at h6
    have H6 := Lib.hid ((h6.weak (show max k (2000 + j + 1) + 1 ≤ 10000 by have := HJK.out; omega)).grow ((Grow.refl _).alloc (Obj.cells #[.slice Ar lr cr, .bool xr] 33)))
    have G6 := Lib.hid (G5.out.trans (g6.alloc (Obj.cells #[.slice Ar lr cr, .bool xr] 33)))
    have K6 : Hid ((w6.alloc (Obj.cells #[.slice Ar lr cr, .bool xr] 33)).cell? ⟨w6.heap.size, 0, none⟩ = some (.slice Ar lr cr) ∧ (w6.alloc (Obj.cells #[.slice Ar lr cr, .bool xr] 33)).cell? ⟨w6.heap.size, 1, none⟩ = some (.bool xr)) := Lib.hid ⟨by simp [go_sem], by simp [go_sem]⟩
    have S6 : Hid (w.heap.size + 1 + 1 + 1 < w6.heap.size) := Lib.hid (by
      obtain ⟨⟨_, _, _, _, h0, _⟩, _⟩ := (HKP.out _ (GC.out.trans (G5.out.trans g6))).2.2
      exact lt_of_cell h0)
    clear k0 k1 k2 k3 h6 g6 H5 G5
    go_upto_region 8 with fail
    generalize w6.alloc (Obj.cells #[.slice Ar lr cr, .bool xr] 33) = W6 at *
    generalize w6.heap.size = p11 at *
    have hs2 := S2.out.1
    have hs6 := S6.out
    have HKK : Hid (W6.cell? ⟨p8, 0, none⟩ = some (.slice Aq lq cq) ∧ W6.cell? ⟨p8, 1, none⟩ = some (.bool xq) ∧ W6.cell? ⟨p11, 0, none⟩ = some (.slice Ar lr cr) ∧ W6.cell? ⟨p11, 1, none⟩ = some (.bool xr)) := Lib.hid ⟨G6.out.cells1 HQC.out.1, G6.out.cells1 HQC.out.2, K6.out.1, K6.out.2⟩
    have HKS : Hid (∀ (W : World) (A : Option Addr) (l c : Nat) (x : Bool), (W.cell? ⟨p8, 0, none⟩ = some (.slice Aq lq cq) ∧ W.cell? ⟨p8, 1, none⟩ = some (.bool xq) ∧ W.cell? ⟨p11, 0, none⟩ = some (.slice Ar lr cr) ∧ W.cell? ⟨p11, 1, none⟩ = some (.bool xr)) → (((W.setCell ⟨w.heap.size + 1 + 1, 0, none⟩ (.slice A l c)).setCell ⟨w.heap.size + 1 + 1, 1, none⟩ (.bool x)).cell? ⟨p8, 0, none⟩ = some (.slice Aq lq cq) ∧ ((W.setCell ⟨w.heap.size + 1 + 1, 0, none⟩ (.slice A l c)).setCell ⟨w.heap.size + 1 + 1, 1, none⟩ (.bool x)).cell? ⟨p8, 1, none⟩ = some (.bool xq) ∧ ((W.setCell ⟨w.heap.size + 1 + 1, 0, none⟩ (.slice A l c)).setCell ⟨w.heap.size + 1 + 1, 1, none⟩ (.bool x)).cell? ⟨p11, 0, none⟩ = some (.slice Ar lr cr) ∧ ((W.setCell ⟨w.heap.size + 1 + 1, 0, none⟩ (.slice A l c)).setCell ⟨w.heap.size + 1 + 1, 1, none⟩ (.bool x)).cell? ⟨p11, 1, none⟩ = some (.bool xr))) := Lib.hid fun W A l c x h => by
      obtain ⟨h0, h1, h2, h3⟩ := h
      exact ⟨stW_other h0 (by omega), stW_other h1 (by omega), stW_other h2 (by omega), stW_other h3 (by omega)⟩
    have HKSd : Hid (∀ (A : Option Addr) (l c : Nat) (x : Bool), (((W6.setCell ⟨w.heap.size + 1 + 1, 0, none⟩ (.slice A l c)).setCell ⟨w.heap.size + 1 + 1, 1, none⟩ (.bool x)).drew.cell? ⟨p8, 0, none⟩ = some (.slice Aq lq cq) ∧ ((W6.setCell ⟨w.heap.size + 1 + 1, 0, none⟩ (.slice A l c)).setCell ⟨w.heap.size + 1 + 1, 1, none⟩ (.bool x)).drew.cell? ⟨p8, 1, none⟩ = some (.bool xq) ∧ ((W6.setCell ⟨w.heap.size + 1 + 1, 0, none⟩ (.slice A l c)).setCell ⟨w.heap.size + 1 + 1, 1, none⟩ (.bool x)).drew.cell? ⟨p11, 0, none⟩ = some (.slice Ar lr cr) ∧ ((W6.setCell ⟨w.heap.size + 1 + 1, 0, none⟩ (.slice A l c)).setCell ⟨w.heap.size + 1 + 1, 1, none⟩ (.bool x)).drew.cell? ⟨p11, 1, none⟩ = some (.bool xr))) := Lib.hid fun A l c x => HKS.out W6 A l c x HKK.out
    have HKTd : Hid (∀ (A : Option Addr) (l c : Nat) (x : Bool) (A' : Option Addr) (l' c' : Nat) (x' : Bool), (((((W6.setCell ⟨w.heap.size + 1 + 1, 0, none⟩ (.slice A l c)).setCell ⟨w.heap.size + 1 + 1, 1, none⟩ (.bool x)).setCell ⟨w.heap.size + 1 + 1 + 1, 0, none⟩ (.slice A' l' c')).setCell ⟨w.heap.size + 1 + 1 + 1, 1, none⟩ (.bool x')).drew.cell? ⟨p8, 0, none⟩ = some (.slice Aq lq cq) ∧ ((((W6.setCell ⟨w.heap.size + 1 + 1, 0, none⟩ (.slice A l c)).setCell ⟨w.heap.size + 1 + 1, 1, none⟩ (.bool x)).setCell ⟨w.heap.size + 1 + 1 + 1, 0, none⟩ (.slice A' l' c')).setCell ⟨w.heap.size + 1 + 1 + 1, 1, none⟩ (.bool x')).drew.cell? ⟨p8, 1, none⟩ = some (.bool xq) ∧ ((((W6.setCell ⟨w.heap.size + 1 + 1, 0, none⟩ (.slice A l c)).setCell ⟨w.heap.size + 1 + 1, 1, none⟩ (.bool x)).setCell ⟨w.heap.size + 1 + 1 + 1, 0, none⟩ (.slice A' l' c')).setCell ⟨w.heap.size + 1 + 1 + 1, 1, none⟩ (.bool x')).drew.cell? ⟨p11, 0, none⟩ = some (.slice Ar lr cr) ∧ ((((W6.setCell ⟨w.heap.size + 1 + 1, 0, none⟩ (.slice A l c)).setCell ⟨w.heap.size + 1 + 1, 1, none⟩ (.bool x)).setCell ⟨w.heap.size + 1 + 1 + 1, 0, none⟩ (.slice A' l' c')).setCell ⟨w.heap.size + 1 + 1 + 1, 1, none⟩ (.bool x')).drew.cell? ⟨p11, 1, none⟩ = some (.bool xr))) := Lib.hid fun A l c x A' l' c' x' => by
      obtain ⟨h0, h1, h2, h3⟩ := HKS.out W6 A l c x HKK.out
      exact ⟨stW_other h0 (by omega), stW_other h1 (by omega), stW_other h2 (by omega), stW_other h3 (by omega)⟩
    have HKd : Hid (W6.drew.cell? ⟨p8, 0, none⟩ = some (.slice Aq lq cq) ∧ W6.drew.cell? ⟨p8, 1, none⟩ = some (.bool xq) ∧ W6.drew.cell? ⟨p11, 0, none⟩ = some (.slice Ar lr cr) ∧ W6.drew.cell? ⟨p11, 1, none⟩ = some (.bool xr)) := Lib.hid HKK.out
    have hbb := (HKP.out _ (GC.out.trans G6.out)).2
    have T := Lib.hid (two_stW hbb.1 hbb.2 (by omega) Aq Ar lq cq lr cr xq xr).1
    have T2 := Lib.hid (two_stV hbb.1 hbb.2 (by omega) Aq Ar lq cq lr cr xq xr)
    have H7 := Lib.hid (T2.out _ _ _ (HQ.out.grow G6.out))
    have H8 := Lib.hid (T2.out _ _ _ H6.out)
    have HG := Lib.hid (grow_stW (grow_stW (HG0.out.trans (GC.out.trans G6.out)) (b := w.heap.size + 1 + 1) (by omega) Aq lq cq xq) (b := w.heap.size + 1 + 1 + 1) (by omega) Ar lr cr xr)
    obtain ⟨⟨⟨A0, l0, c0, x0, m0, m1⟩, f0, f1⟩, ⟨⟨A1, l1, c1, x1, m3, m4⟩, f3, f4⟩⟩ := hbb
    clear hs2 hs6 HKS HKP GC G6 K6 HQ H6 HX HY HQC T2 HG0
    go_region_held3 (fun W => W.cell? ⟨p8, 0, none⟩ = some (.slice Aq lq cq) ∧ W.cell? ⟨p8, 1, none⟩ = some (.bool xq) ∧ W.cell? ⟨p11, 0, none⟩ = some (.slice Ar lr cr) ∧ W.cell? ⟨p11, 1, none⟩ = some (.bool xr))
      (first | with_reducible exact HKK.out | with_reducible exact HKd.out | with_reducible exact HKSd.out _ _ _ _ | with_reducible exact HKTd.out _ _ _ _ _ _ _ _)
      (fail)
    clear m0 m1 m3 m4 f0 f1 f3 f4 HKK HKd HKSd HKTd
    go_wp2_with fail
    obtain ⟨t0, t1, t2, t3⟩ := T.out
    simp only [stW] at t0 t1 t2 t3
    exact bodyPost_ret (v := .tuple #[.agg #[.slice Aq lq cq, .bool xq], .agg #[.slice Ar lr cr, .bool xr]]) (by simp [results, Tryz.results59, go_sem, t0, t1, t2, t3]) rfl (Ret.mk ⟨_, _, rfl, H7.out.grow (Grow.refl _).drew, H8.out.grow (Grow.refl _).drew⟩ HG.out.drew)
end Go.Proofs.YtlkiikchjeapfaaGreatDoor
