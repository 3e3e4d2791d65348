/- The law DigitsAdd of layer 3. -/
import Derived.Test.YtckcjiojfpaikaaDoorL3AddR
namespace Go.Proofs.YtckcjiojfpaikaaDoor
open Go.RowKit
set_option maxRecDepth 20000

/-- Numbers of up to three limbs have powers that may be. -/
theorem pow_small (w : World) (v : Value) (n b k : Nat) (h : IsN w v n b) (hb : b ≤ 3) (hk : k ≤ 40) (x : Nat) (hx : n ^ k = x) :
    Calls Tryd.prog 20 #[v, .int .i64 (k : Int)] w (Ret w fun v w' => IsNE w' v x 4097 0) := by
  have h1 : Mx.bits n ≤ 192 := Nat.le_trans (Mx.bits_len n) (by have := h.2; omega)
  have h2 : Mx.bits n * k ≤ 192 * 40 := Nat.mul_le_mul h1 hk
  have h3 : (Mx.bits n : Int) * (k : Int) = ((Mx.bits n * k : Nat) : Int) := (Int.natCast_mul _ _).symm
  have he := powE_ok (n := n) (k := k) (by omega) (by omega)
  have := pow_any w v n b (k : Int) h (by omega)
  rw [he.1, he.2, hx] at this
  exact this
theorem ten_small (w : World) (k : Nat) (hk : k ≤ 4096) (x : Nat) (hx : 10 ^ k = x) : Calls Tryd.prog 21 #[.int .i64 (k : Int)] w (Ret w fun v w' => IsNE w' v x 4097 0) := by
  have e1 : tenE (k : Int) = 0 := by unfold tenE; rw [if_neg (by omega), if_neg (by omega)]
  have e2 : tenN (k : Int) = x := by unfold tenN; rw [if_pos (by omega)]; exact hx
  have := ten_any w (k : Int)
  rw [e1, e2] at this
  exact this

set_option maxHeartbeats 2000000 in
theorem digitsAdd_walk (w : World) (v : Value) (l : List Nat) (a b : Nat) (ha : a < 256) (hb : b < 256) (h : Sl w v l) :
    Calls Tryd.prog 7 #[v, .int .u8 (a : Int), .int .u8 (b : Int)] w (Ret w fun v' _ => v' = .bool true) := by
  obtain ⟨A, c, rfl, hc, hlb, hcl⟩ := h
  have hlen : (min ((l.length : Nat) : Int) 2).toNat = (l.take 2).length := by rw [List.length_take]; omega
  have HSL : Hid (∀ W, Grow w W → Sl W (.slice A (min 2 l.length) c) (l.take 2)) := Lib.hid fun W g => ⟨A, c, by rw [List.length_take], by rw [List.length_take]; omega, fun x hx => hlb x (List.mem_of_mem_take hx), (hcl.take 2).grow g⟩
  have HL := Lib.hid hlen
  have HLT : Hid ((l.take 2).length ≤ 2) := Lib.hid (by rw [List.length_take]; omega)
  clear hlb hcl
  obtain ⟨i, hi⟩ : ∃ i, a % 20 = i := ⟨_, rfl⟩
  obtain ⟨k, hk⟩ : ∃ k, b % 20 = k := ⟨_, rfl⟩
  have hia : ((a : Int) % 20) = (i : Int) := by omega
  have hkb : ((b : Int) % 20) = (k : Int) := by omega
  have hi20 : i ≤ 19 := by omega
  have hk20 : k ≤ 19 := by omega
  clear hi hk
  go_enter Tryd.func7, Tryd.ntmps7
  go_wp2_with fail
  refine (of_n 2 (HSL.out _ (Grow.refl w)) HLT.out (by omega)).mono ?_
  rintro e w1 ⟨v1, rfl, h1, g1⟩
  generalize Mx.val (l.take 2) = n at *
  obtain ⟨A1, l1, c1, rfl⟩ := h1.cell
  have VN := Lib.hid (VarN.new h1 (Grow.refl _))
  have GW := Lib.hid (g1.alloc (Obj.cells #[Value.slice A1 l1 c1] 24))
  clear h1 g1 HSL HL HLT hlen
  obtain ⟨p, hp⟩ : ∃ p, n ^ i = p := ⟨_, rfl⟩
  obtain ⟨q, hq⟩ : ∃ q, n ^ k = q := ⟨_, rfl⟩
  obtain ⟨m, hm⟩ : ∃ m, i + k = m := ⟨_, rfl⟩
  have hsum : (i : Int) + (k : Int) = (m : Int) := by omega
  have hm38 : m ≤ 38 := by omega
  obtain ⟨r, hr⟩ : ∃ r, n ^ m = r := ⟨_, rfl⟩
  obtain ⟨t, ht⟩ : ∃ t, 10 ^ i = t := ⟨_, rfl⟩
  have HP := Lib.hid (And.intro hp (And.intro hq (And.intro hr ht)))
  have HM : Hid (p * q = r) := Lib.hid (by rw [← hp, ← hq, ← hr, ← hm, Nat.pow_add])
  have HD : Hid (Tx.digs t = i + 1) := Lib.hid (by rw [← ht]; exact Tx.digs_pow i)
  have HNZ : Hid (n ≠ 0 → p ≠ 0 ∧ q ≠ 0) := Lib.hid fun h => ⟨by rw [← hp]; exact Nat.pos_iff_ne_zero.1 (Nat.pow_pos (Nat.pos_of_ne_zero h)), by rw [← hq]; exact Nat.pos_iff_ne_zero.1 (Nat.pow_pos (Nat.pos_of_ne_zero h))⟩
  clear hp hq hr ht hm
  obtain ⟨AX, lX, cX, hX, nX⟩ := VN.out
  have NX := Lib.hid nX
  clear nX
  go_wp2_with fail
  refine (pow_small _ _ n 2 i NX.out (by omega) (by omega) p HP.out.1).mono ?_
  rintro e w2 ⟨v2, rfl, ⟨u2, rfl, h2⟩, g2⟩
  obtain ⟨A2, l2, c2, rfl⟩ := h2.cell
  have gg : Grow _ (w2.alloc (Obj.cells #[Value.slice A2 l2 c2] 24)) := g2.alloc _
  have VN := Lib.hid (VN.out.grow gg)
  have VP := Lib.hid (VarN.new h2 (Grow.refl _))
  have GW := Lib.hid (GW.out.trans gg)
  clear h2 g2 gg hX NX
  obtain ⟨AX, lX, cX, hX, nX⟩ := VN.out
  have NX := Lib.hid nX
  clear nX
  go_wp2_with fail
  refine (pow_small _ _ n 2 k NX.out (by omega) (by omega) q HP.out.2.1).mono ?_
  rintro e w3 ⟨v3, rfl, ⟨u3, rfl, h3⟩, g3⟩
  obtain ⟨A3, l3, c3, rfl⟩ := h3.cell
  have gg : Grow _ (w3.alloc (Obj.cells #[Value.slice A3 l3 c3] 24)) := g3.alloc _
  have VN := Lib.hid (VN.out.grow gg)
  have VP := Lib.hid (VP.out.grow gg)
  have VQ := Lib.hid (VarN.new h3 (Grow.refl _))
  have GW := Lib.hid (GW.out.trans gg)
  clear h3 g3 gg hX NX
  obtain ⟨AX, lX, cX, hX, nX⟩ := VN.out
  have NX := Lib.hid nX
  clear nX
  go_wp2_with fail
  refine (pow_small _ _ n 2 m NX.out (by omega) (by omega) r HP.out.2.2.1).mono ?_
  rintro e w4 ⟨v4, rfl, ⟨u4, rfl, h4⟩, g4⟩
  obtain ⟨A4, l4, c4, rfl⟩ := h4.cell
  have gg : Grow _ (w4.alloc (Obj.cells #[Value.slice A4 l4 c4] 24)) := g4.alloc _
  have VN := Lib.hid (VN.out.grow gg)
  have VP := Lib.hid (VP.out.grow gg)
  have VQ := Lib.hid (VQ.out.grow gg)
  have VR := Lib.hid (VarN.new h4 (Grow.refl _))
  have GW := Lib.hid (GW.out.trans gg)
  clear h4 g4 gg hX NX
  clear hsum
  go_wp2_with fail
  refine (ten_small _ i (by omega) t HP.out.2.2.2).mono ?_
  rintro e w5 ⟨v5, rfl, ⟨u5, rfl, h5⟩, g5⟩
  obtain ⟨A5, l5, c5, rfl⟩ := h5.cell
  have gg : Grow _ (w5.alloc (Obj.cells #[Value.slice A5 l5 c5] 24)) := g5.alloc _
  have VN := Lib.hid (VN.out.grow gg)
  have VP := Lib.hid (VP.out.grow gg)
  have VQ := Lib.hid (VQ.out.grow gg)
  have VR := Lib.hid (VR.out.grow gg)
  have VT := Lib.hid (VarN.new h5 (Grow.refl _))
  have GW := Lib.hid (GW.out.trans gg)
  clear h5 g5 gg
  go_wp2_with fail
  refine (num_at (x := 10) (by simp) (by rw [Mx.B_eq]; omega)).mono ?_
  rintro e w6 ⟨v6, rfl, h6, g6⟩
  have gg : Grow _ w6 := ((Grow.refl _).alloc _).trans g6
  have VN := Lib.hid (VN.out.grow gg)
  have VP := Lib.hid (VP.out.grow gg)
  have VQ := Lib.hid (VQ.out.grow gg)
  have VR := Lib.hid (VR.out.grow gg)
  have VT := Lib.hid (VT.out.grow gg)
  have GW := Lib.hid (GW.out.trans gg)
  clear g6 gg
  go_wp2_with fail
  refine (pow_small _ _ 10 1 i h6 (by omega) (by omega) t HP.out.2.2.2).mono ?_
  rintro e w7 ⟨v7, rfl, ⟨u7, rfl, h7⟩, g7⟩
  obtain ⟨A7, l7, c7, rfl⟩ := h7.cell
  have gg : Grow _ (w7.alloc (Obj.cells #[Value.slice A7 l7 c7] 24)) := g7.alloc _
  have VN := Lib.hid (VN.out.grow gg)
  have VP := Lib.hid (VP.out.grow gg)
  have VQ := Lib.hid (VQ.out.grow gg)
  have VR := Lib.hid (VR.out.grow gg)
  have VT := Lib.hid (VT.out.grow gg)
  have VU := Lib.hid (VarN.new h7 (Grow.refl _))
  have GW := Lib.hid (GW.out.trans gg)
  clear h6 h7 g7 gg HP
  go_upto_region 8 with fail
  generalize hW8 : w7.alloc (Obj.cells #[Value.slice A7 l7 c7] 24) = w8 at *
  clear hW8
  go_cut [103] (fun v W => v = .bool false ∧ Grow w8 W)
  case first =>
    obtain ⟨AP, lP, cP, kP, nP⟩ := VP.out
    obtain ⟨AQ, lQ, cQ, kQ, nQ⟩ := VQ.out
    obtain ⟨AR, lR, cR, kR, nR⟩ := VR.out
    obtain ⟨AT, lT, cT, kT, nT⟩ := VT.out
    obtain ⟨AU, lU, cU, kU, nU⟩ := VU.out
    refine Rg.region_eq (by kernel_rfl) (Rg.add8_region p q r t t i rfl rfl kP nP rfl kQ nQ rfl kR nR rfl kT nT rfl kU nU rfl rfl rfl rfl rfl rfl HM.out rfl HD.out (by omega) ?_)
    intro a' w' hg ha h103
    rw [Rg.frame_of ha [65, 66, 67, 68, 69, 70, 71, 72, 73, 74, 75, 76, 77, 78, 79, 80, 81, 82, 83, 84, 85, 86, 87, 88, 89, 90, 91, 92, 93, 94, 95, 96, 97, 98, 99, 100, 101, 102, 103] (by kernel_rfl)]
    have hv : Rg.vals a' 103 = .bool false := h103
    have HG := Lib.hid hg
    clear hg ha h103 kP nP kQ nQ kR nR kT nT kU nU
    simp only [Rg.puts, Act.put, List.setIfInBounds_toArray, List.set_cons_succ, List.set_cons_zero]
    rw [hv]
    go_wp2_with fail
    go_meet
    exact ⟨rfl, HG.out⟩
  case rest =>
    obtain ⟨w9, rfl⟩ : ∃ x, x = wc := ⟨wc, rfl⟩
    obtain ⟨rfl, g9⟩ := hcut
    have VN := Lib.hid (VN.out.grow g9)
    have VP := Lib.hid (VP.out.grow g9)
    have VQ := Lib.hid (VQ.out.grow g9)
    have VR := Lib.hid (VR.out.grow g9)
    have GW := Lib.hid (GW.out.trans g9)
    clear g9
    have hb4 : ∀ x, Mx.len x ≤ 4097 → Tx.digs x ≤ 1000000 := fun x hx => by have := digs_len hx; omega
    obtain ⟨dp, hdp⟩ : ∃ d, Tx.digs p = d := ⟨_, rfl⟩
    obtain ⟨dq, hdq⟩ : ∃ d, Tx.digs q = d := ⟨_, rfl⟩
    obtain ⟨dr, hdr⟩ : ∃ d, Tx.digs r = d := ⟨_, rfl⟩
    have HDD := Lib.hid (And.intro hdp (And.intro hdq hdr))
    have HBD : Hid (Tx.digs p ≤ 1000000 ∧ Tx.digs q ≤ 1000000 ∧ Tx.digs r ≤ 1000000) := Lib.hid (by
      obtain ⟨_, _, _, _, nP⟩ := VP.out
      obtain ⟨_, _, _, _, nQ⟩ := VQ.out
      obtain ⟨_, _, _, _, nR⟩ := VR.out
      exact ⟨hb4 _ nP.2, hb4 _ nQ.2, hb4 _ nR.2⟩)
    clear hdp hdq hdr hb4
    go_upto_region 10 with fail
    go_cut [20] (fun v W => v = .int .i64 ((dp : Int) + (dq : Int) - (dr : Int)) ∧ Grow w9 W)
    case first =>
      obtain ⟨AP, lP, cP, kP, nP⟩ := VP.out
      obtain ⟨AQ, lQ, cQ, kQ, nQ⟩ := VQ.out
      obtain ⟨AR, lR, cR, kR, nR⟩ := VR.out
      refine Rg.region_eq (by kernel_rfl) (Rg.add10_region p q r rfl rfl kP nP rfl kQ nQ rfl kR nR HBD.out.1 HBD.out.2.1 HBD.out.2.2 ?_)
      intro a' w' hg ha h20
      rw [Rg.frame_of ha [104, 105, 106, 107, 108, 109, 110, 111, 20] (by kernel_rfl)]
      rw [HDD.out.1, HDD.out.2.1, HDD.out.2.2] at h20
      have hv : Rg.vals a' 20 = .int .i64 ((dp : Int) + (dq : Int) - (dr : Int)) := h20
      have HG := Lib.hid hg
      clear hg ha h20 kP nP kQ nQ kR nR
      simp only [Rg.puts, Act.put, List.setIfInBounds_toArray, List.set_cons_succ, List.set_cons_zero]
      rw [hv]
      go_wp2_with fail
      go_meet
      exact ⟨rfl, HG.out⟩
    case rest =>
      obtain ⟨w10, rfl⟩ : ∃ x, x = wc := ⟨wc, rfl⟩
      obtain ⟨rfl, g10⟩ := hcut
      have VN := Lib.hid (VN.out.grow g10)
      have GW := Lib.hid (GW.out.trans g10)
      have HF : Hid (n ≠ 0 → (dp : Int) + (dq : Int) - (dr : Int) = 0 ∨ (dp : Int) + (dq : Int) - (dr : Int) = 1) := Lib.hid fun h => by
        have := Tx.digs_mul p q (HNZ.out h).1 (HNZ.out h).2
        rw [HM.out, HDD.out.1, HDD.out.2.1, HDD.out.2.2] at this
        omega
      clear g10 VP VQ VR VT VU HM HNZ HDD HBD
      generalize (dp : Int) + (dq : Int) - (dr : Int) = d at *
      go_wp2_with fail
      refine (wakes3_any _).mono ?_
      rintro e w11 ⟨v11, rfl, rfl, g11⟩
      have GW := Lib.hid (GW.out.trans g11)
      obtain ⟨AX, lX, cX, hX, nX⟩ := VN.out.grow g11
      have NX := Lib.hid nX
      clear nX g11 VN
      obtain ⟨z, hz⟩ : ∃ z : Bool, (n == 0) = z := ⟨_, rfl⟩
      have HZ := Lib.hid (fun W (g : Grow w11 W) => zero_n (NX.out.grow g))
      rw [hz] at HZ
      have HZZ := Lib.hid hz
      clear hz
      go_wp2_with fail
      refine (HZ.out _ (Grow.refl _)).mono ?_
      rintro e w12 ⟨v12, rfl, rfl, g12⟩
      have GW := Lib.hid (GW.out.trans g12)
      clear g12 HZ NX
      cases z with
      | true =>
        go_wp2_with fail
        go_ret
        exact Ret.mk rfl GW.out
      | false =>
        have hn : n ≠ 0 := by simpa using HZZ.out
        rcases HF.out hn with h | h
        · subst h
          go_wp2_with fail
          go_ret
          exact Ret.mk rfl GW.out
        · subst h
          go_wp2_with fail
          go_ret
          exact Ret.mk rfl GW.out
end Go.Proofs.YtckcjiojfpaikaaDoor
