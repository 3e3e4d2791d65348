/- Contracts of package quot: Div of a number that is no less. -/
import Derived.Test.YtckcjiojfpaikaaDoorQuoG
import Derived.Test.YtckcjiojfpaikaaDoorRgf
import Derived.Deep.DeepCutAuto
namespace Go.Proofs.YtckcjiojfpaikaaDoor
open Go.RowKit
set_option maxRecDepth 20000

theorem only_blk {w w' : World} {g h : Nat} {l : List Nat} (k : w.grownBy w' (some g)) (hb : Blk w h l) (hne : h ≠ g) : Blk w' h l := (k.block h hb.lt (fun e => hne (by injection e))).trans hb

/-- What is known behind the two calls of Limbs. -/
def DivC (w : World) (n m : Nat) (v7 v8 : Value) (W : World) : Prop :=
  ∃ A7 A8, v7 = .slice A7 (Mx.len n) (Mx.len n) ∧ v8 = .slice A8 (Mx.len m) (Mx.len m) ∧ Cells W A7 (Mx.limbs n) ∧ Cells W A8 (Mx.limbs m) ∧ Grow w W
/-- What is known behind the two calls of up. -/
def DivU (w : World) (n m la N s : Nat) (v11 v12 : Value) (W : World) : Prop :=
  ∃ g1 g2 R U, v11 = .slice (some ⟨g1, 0, none⟩) (la + 1) (la + 1) ∧ v12 = .slice (some ⟨g2, 0, none⟩) (N + 1) (N + 2) ∧ w.heap.size ≤ g1 ∧ w.heap.size ≤ g2 ∧ g1 ≠ g2 ∧ Blk W g1 R ∧ Blk W g2 U ∧ Grow w W ∧
    R.length = la + 1 ∧ U.length = N + 2 ∧ (∀ x ∈ R, x < Mx.B) ∧ (∀ x ∈ U, x < Mx.B) ∧ Mx.val R = n * 2 ^ s ∧ Mx.val U = m * 2 ^ s
theorem set_zero (j x : Nat) (qs : List Nat) : (List.replicate (j + 1) 0 ++ qs).set j x = List.replicate j 0 ++ x :: qs := by
  rw [List.replicate_succ', List.append_assoc, List.singleton_append]
  exact set_at _ _ _ _ _ (List.length_replicate ..)
theorem FreshSl.open {w w' : World} {v : Value} {l : List Nat} (h : FreshSl w w' v l) : ∃ b, v = .slice (some ⟨b, 0, none⟩) l.length l.length ∧ w.heap.size ≤ b ∧ Blk w' b l ∧ Grow w w' := h

theorem en_up : Enters Tryd.prog 72 := enters_of Tryd.func72 (by kernel_rfl) rfl
noncomputable def divOps8 : Array Oper := Rg.regionOps Tryd.f57 8
/-- A slice over a new block whose value is x. -/
def UpTo (w3 : World) (k x : Nat) (w : World) (g : Nat) : Prop := w3.heap.size ≤ g ∧ ∃ R, Blk w g R ∧ R.length = k ∧ (∀ y ∈ R, y < Mx.B) ∧ Mx.val R = x
theorem UpTo.grow {w3 w w' : World} {k x g : Nat} (h : UpTo w3 k x w g) (hg : Grow w w') : UpTo w3 k x w' g := by
  obtain ⟨h1, R, h2, h3⟩ := h
  exact ⟨h1, R, h2.grow hg, h3⟩
/-- What each operation of Div's region 8 yields. -/
def divF (w3 : World) (v7 v8 : Value) (la N n m s : Nat) : Rg.Facts2 := fun d f w v =>
  match d with
  | 37 => v = v7
  | 38 => v = .int .i64 (s : Int)
  | 39 => ∃ g, v = .slice (some ⟨g, 0, none⟩) (la + 1) (la + 1) ∧ UpTo w3 (la + 1) (n * 2 ^ s) w g
  | 40 => v = v8
  | 41 => v = .int .i64 (s : Int)
  | 42 => ∃ g, v = .slice (some ⟨g, 0, none⟩) (N + 2) (N + 2) ∧ UpTo w3 (N + 2) (m * 2 ^ s) w g ∧ ∀ b x y, f 39 = .slice (some ⟨b, 0, none⟩) x y → b ≠ g
  | 43 => v = .int .i64 ((N : Int) + 1)
  | 44 => ∀ g, f 42 = .slice (some ⟨g, 0, none⟩) (N + 2) (N + 2) → v = .slice (some ⟨g, 0, none⟩) (N + 1) (N + 2)
  | 11 => v = f 39
  | 12 => v = f 44
  | _ => True
set_option maxRecDepth 100000 in
set_option maxHeartbeats 1000000 in
theorem div_region8 {Q : Exit → Act → World → Prop} {a0 : Act} {w3 : World} {A7 : Option Addr} {b8 o8 la N n m s : Nat} (hn : a0.tmps.size = 76) (h7 : a0.tmps.getD 7 undef = .slice A7 la la) (h8 : a0.tmps.getD 8 undef = .slice (some ⟨b8, o8, none⟩) (N + 1) (N + 1))
    (h9 : a0.tmps.getD 9 undef = .int .i64 ((N : Int) + 1)) (h10 : a0.tmps.getD 10 undef = .int .i64 (s : Int)) (hN : N ≤ 4294967296)
    (HUA : ∀ W, Grow w3 W → Calls Tryd.prog 72 #[.slice A7 la la, .int .i64 (s : Int)] W fun e w' => ∃ v l', e = .returned v ∧ FreshSl W w' v l' ∧ (∀ x ∈ l', x < Mx.B) ∧ Mx.val l' = n * 2 ^ s ∧ l'.length = la + 1)
    (HUB : ∀ W, Grow w3 W → Calls Tryd.prog 72 #[.slice (some ⟨b8, o8, none⟩) (N + 1) (N + 1), .int .i64 (s : Int)] W fun e w' => ∃ v l', e = .returned v ∧ FreshSl W w' v l' ∧ (∀ x ∈ l', x < Mx.B) ∧ Mx.val l' = m * 2 ^ s ∧ l'.length = N + 1 + 1)
    (fin : ∀ f w, Grow w3 w → (∀ d, [37, 38, 39, 40, 41, 42, 43, 44, 11, 12].contains d = true → divF w3 (.slice A7 la la) (.slice (some ⟨b8, o8, none⟩) (N + 1) (N + 1)) la N n m s d f w (f d)) → Q .normal (Rg.puts f [37, 38, 39, 40, 41, 42, 43, 44, 11, 12] a0) w) :
    (Code.region 8 divOps8 true).wp Tryd.prog Q a0 w3 := by
  refine Rg.region2 (n := 76) (F := divF w3 (.slice A7 la la) (.slice (some ⟨b8, o8, none⟩) (N + 1) (N + 1)) la N n m s) [(42, 39), (44, 42), (11, 39), (12, 44)] [37, 38, 39, 40, 41, 42, 43, 44, 11, 12] (by kernel_rfl) hn (by kernel_rfl) (by kernel_rfl) (by kernel_rfl) ?_ ?_
    (fun i hi => Rg.all_from 10 0 ?_ i (Nat.zero_le _) (Nat.lt_of_lt_of_eq hi (by kernel_rfl))) fin
  · intro d f w w' v h hg
    unfold divF at h ⊢
    split at h <;> try exact h
    · obtain ⟨g, e, k⟩ := h; exact ⟨g, e, k.grow hg⟩
    · obtain ⟨g, e, k, z⟩ := h; exact ⟨g, e, k.grow hg, z⟩
  · intro d f f' w v h hr
    unfold divF at h ⊢
    split at h <;> try exact h
    · rw [← hr 39 (by simp)]; exact h
    · rw [← hr 42 (by simp)]; exact h
    · rw [← hr 39 (by simp)]; exact h
    · rw [← hr 44 (by simp)]; exact h
  · refine ⟨Rg.move2 (i := 0) (d := 37) (e := 7) (by kernel_rfl) (by kernel_rfl) (fun _ _ => h7), Rg.move2 (i := 1) (d := 38) (e := 10) (by kernel_rfl) (by kernel_rfl) (fun _ _ => h10), ?_,
      Rg.move2 (i := 3) (d := 40) (e := 8) (by kernel_rfl) (by kernel_rfl) (fun _ _ => h8), Rg.move2 (i := 4) (d := 41) (e := 10) (by kernel_rfl) (by kernel_rfl) (fun _ _ => h10), ?_,
      Rg.move2 (i := 6) (d := 43) (e := 9) (by kernel_rfl) (by kernel_rfl) (fun _ _ => h9), ?_, Rg.assign2 (i := 8) (d := 11) (e := 39) (by kernel_rfl) (by kernel_rfl) (fun _ _ _ => rfl), Rg.assign2 (i := 9) (d := 12) (e := 44) (by kernel_rfl) (by kernel_rfl) (fun _ _ _ => rfl), trivial⟩
    · refine Rg.step2N (i := 2) (dst := some 39) (op := .call { callee := .value (.func 72), args := #[.tmp 37, .tmp 38], argTypes := #[22, 3] }) (by kernel_rfl) fun o a w ho hd hg ha D => ?_
      have e37 : a.tmps.getD 37 undef = .slice A7 la la := D 37 (by kernel_rfl)
      have e38 : a.tmps.getD 38 undef = .int .i64 (s : Int) := D 38 (by kernel_rfl)
      refine Rg.call2 (F := fun d w v => divF w3 (.slice A7 la la) (.slice (some ⟨b8, o8, none⟩) (N + 1) (N + 1)) la N n m s d (Rg.vals a) w v) ho en_up hd (by rw [e37, e38]; exact HUA w hg) ?_
      rintro e w' ⟨v, l, rfl, hf, hb, hv, hl⟩
      obtain ⟨g, rfl, hge, hk, hgr⟩ := hf.open
      exact ⟨_, rfl, ⟨g, by rw [hl], Nat.le_trans hg.size hge, l, hk, hl, hb, hv⟩, hgr⟩
    · refine Rg.step2N (i := 5) (dst := some 42) (op := .call { callee := .value (.func 72), args := #[.tmp 40, .tmp 41], argTypes := #[22, 3] }) (by kernel_rfl) fun o a w ho hd hg ha D => ?_
      have e40 : a.tmps.getD 40 undef = .slice (some ⟨b8, o8, none⟩) (N + 1) (N + 1) := D 40 (by kernel_rfl)
      have e41 : a.tmps.getD 41 undef = .int .i64 (s : Int) := D 41 (by kernel_rfl)
      have e39 : ∃ g, Rg.vals a 39 = .slice (some ⟨g, 0, none⟩) (la + 1) (la + 1) ∧ UpTo w3 (la + 1) (n * 2 ^ s) w g := D 39 (by kernel_rfl)
      obtain ⟨g1, eg1, _, R, hR, _⟩ := e39
      refine Rg.call2 (F := fun d w v => divF w3 (.slice A7 la la) (.slice (some ⟨b8, o8, none⟩) (N + 1) (N + 1)) la N n m s d (Rg.vals a) w v) ho en_up hd (by rw [e40, e41]; exact HUB w hg) ?_
      rintro e w' ⟨v, l, rfl, hf, hb, hv, hl⟩
      obtain ⟨g, rfl, hge, hk, hgr⟩ := hf.open
      refine ⟨_, rfl, ⟨g, by rw [hl], ⟨Nat.le_trans hg.size hge, l, hk, hl, hb, hv⟩, ?_⟩, hgr⟩
      intro b x y hb
      rw [eg1] at hb
      injection hb with hb1 _ _
      injection hb1 with hb1
      injection hb1 with hb1
      have := hR.lt
      omega
    · refine Rg.step2N (i := 7) (dst := some 44) (op := .slice 22 (.tmp 42) none (some (.tmp 43)) none) (by kernel_rfl) fun o a w ho hd hg ha D => ?_
      have e43 : a.tmps.getD 43 undef = .int .i64 ((N : Int) + 1) := D 43 (by kernel_rfl)
      have e42 : ∃ g, Rg.vals a 42 = .slice (some ⟨g, 0, none⟩) (N + 2) (N + 2) ∧ UpTo w3 (N + 2) (m * 2 ^ s) w g ∧ ∀ b x y, Rg.vals a 39 = .slice (some ⟨b, 0, none⟩) x y → b ≠ g := D 42 (by kernel_rfl)
      obtain ⟨g, eg, _, _⟩ := e42
      have eg' : a.tmps.getD 42 undef = .slice (some ⟨g, 0, none⟩) (N + 2) (N + 2) := eg
      refine Rg.valOf (F := fun d w v => divF w3 (.slice A7 la la) (.slice (some ⟨b8, o8, none⟩) (N + 1) (N + 1)) la N n m s d (Rg.vals a) w v) (v := .slice (some ⟨g, 0, none⟩) (N + 1) (N + 2)) (w' := w) ?_ hd (fun g' hg' => ?_) (Grow.refl w)
      · have hi1 : (N : Int) + 1 ≤ (N : Int) + 2 := by omega
        have hi2 : (0 : Int) ≤ (N : Int) + 1 := by omega
        have hi3 : ((N : Int) + 1).toNat = N + 1 := by omega
        simp only [Array.getD_eq_getD_getElem?] at eg' e43
        simp [execOp, ho, Act.eval, eg', e43, go_sem, hi1, hi2, hi3]
      · rw [eg] at hg'
        injection hg' with h1 _ _
        injection h1 with h1
        injection h1 with h1
        rw [h1]

set_option maxHeartbeats 4000000 in
theorem div_main (w : World) (va vb : Value) (n m : Nat) (hn : Mx.len n ≤ 1073741824) (ha : IsNat w va n) (hb : IsNat w vb m) (hm : m ≠ 0) (hle : m ≤ n) :
    Calls Tryd.prog 57 #[va, vb] w (Ret w (DivRet n m)) := by
  have HZ := Lib.hid (fun W (g : Grow w W) => zero_any W vb m (hb.grow g))
  have HC := Lib.hid (fun W (g : Grow w W) => cmp_any W va vb n m (by omega) (ha.grow g) (hb.grow g))
  have hlm : Mx.len m ≤ Mx.len n := Mx.len_mono hle
  have HLA := Lib.hid (fun W (g : Grow w W) => limbs_any W va n (by omega) (ha.grow g))
  have HLB := Lib.hid (fun W (g : Grow w W) => limbs_any W vb m (by omega) (hb.grow g))
  have hcm : 0 ≤ Mx.cmp n m := by unfold Mx.cmp; rw [if_neg (by omega)]; split <;> omega
  have hcb := Mx.cmp_bd n m
  generalize Mx.cmp n m = cm at *
  have hcm' : decide (cm < 0) = false := by simp; omega
  rw [show (m == 0) = false by rw [beq_eq_false_iff_ne]; omega] at HZ
  obtain ⟨A, c, rfl, hc, hl⟩ := ha
  obtain ⟨D, d, rfl, hd, hr⟩ := hb
  go_enter Tryd.func57, Tryd.ntmps57
  go_wp2_with fail
  refine (HZ.out _ (divW_grow w A (Mx.len n) c D (Mx.len m) d)).mono ?_
  rintro e w1 ⟨v1, rfl, rfl, hg⟩
  have HB1 := Lib.hid (DivB.of hg)
  have c0 := HB1.out.c0
  have c1 := HB1.out.c1
  clear HZ
  go_wp2_with fail
  refine (HC.out _ ((divW_grow w A (Mx.len n) c D (Mx.len m) d).trans hg)).mono ?_
  rintro e w2 ⟨v2, rfl, rfl, hg2⟩
  have hg := hg.trans hg2
  clear c0 c1 HB1 HC hg2
  have HB2 := Lib.hid (DivB.of hg)
  have S2 : w2.cell? ⟨w.heap.size, 0, none⟩ = some (.slice A (Mx.len n) c) ∧ w2.cell? ⟨w.heap.size + 1, 0, none⟩ = some (.slice D (Mx.len m) d) := ⟨HB2.out.c0, HB2.out.c1⟩
  have gw2 : Grow w w2 := (divW_grow w A (Mx.len n) c D (Mx.len m) d).trans hg
  have HG := Lib.hid hg
  clear hg hc hl hd hr
  go_wp2_with fail
  go_cut [7, 8] (fun v7 v8 W => DivC w2 n m v7 v8 W)
  case first =>
    go_region_held3 (fun W => W.cell? ⟨w.heap.size, 0, none⟩ = some (.slice A (Mx.len n) c) ∧ W.cell? ⟨w.heap.size + 1, 0, none⟩ = some (.slice D (Mx.len m) d))
      (first | assumption | exact Grow.cells2 (W := w2) (by repeat (first | exact Grow.refl _ | assumption | apply Grow.drew | (refine Grow.trans ?_ (by assumption)))) S2)
      ((go_at_call 41; first
        | (refine (HLA.out _ (gw2.trans (by repeat (first | exact Grow.refl _ | assumption | apply Grow.drew | (refine Grow.trans ?_ (by assumption)))))).mono ?_; rintro e w3 ⟨v3, rfl, h3⟩; have h3o := h3.open; obtain ⟨b3, rfl, hb3, hk3, g3⟩ := h3o; clear h3)
        | (refine (HLB.out _ (gw2.trans (by repeat (first | exact Grow.refl _ | assumption | apply Grow.drew | (refine Grow.trans ?_ (by assumption)))))).mono ?_; rintro e w4 ⟨v4, rfl, h4⟩; have h4o := h4.open; obtain ⟨b4, rfl, hb4, hk4, g4⟩ := h4o; clear h4)))
    all_goals (go_wp2_with fail; go_meet)
    all_goals exact ⟨some ⟨b3, 0, none⟩, some ⟨b4, 0, none⟩, rfl, rfl, (Cells.of_block hk3).grow g4, Cells.of_block hk4, (((Grow.refl w2).drew.trans g3).trans g4)⟩
  case rest =>
    obtain ⟨w3, rfl⟩ : ∃ x, x = wc := ⟨wc, rfl⟩
    obtain ⟨A7, A8, rfl, rfl, k7, k8, g3⟩ := hcut
    have hG3 := Lib.hid (HG.out.trans g3)
    have hlp : 0 < Mx.len m := by
      rcases Nat.eq_zero_or_pos (Mx.len m) with h | h
      · exact absurd (Mx.eq_zero_of_len h) hm
      · exact h
    obtain ⟨N, hN⟩ : ∃ N, Mx.len m = N + 1 := ⟨Mx.len m - 1, by omega⟩
    have hnt := Mx.norm_top hm
    obtain ⟨b8, o8, rfl, hb8, hd8⟩ := k8.at (Mx.limbs_ne hlp)
    have hct := hd8 N (by show N < Mx.len m; omega)
    have htl := Mx.getD_lt _ (Mx.limbs_lt m) N
    have hll8 : (Mx.limbs m).length = N + 1 := hN
    rw [hN] at hlm ⊢
    rw [hN, Nat.add_sub_cancel] at hnt
    generalize (Mx.limbs m).getD N 0 = tl at *
    have HLZ := Lib.hid (fun W => leadingZeros64_any tl htl W)
    obtain ⟨hnt1, hnt2, hnt3, hnt4⟩ := hnt
    generalize hs : 64 - Mx.bits tl = s at *
    have hs63 : s ≤ 63 := by omega
    have hs64 : s / 64 = 0 := Nat.div_eq_of_lt (by omega)
    have HUA := Lib.hid (fun W (g : Grow w3 W) => up_any W A7 (Mx.limbs n) (Mx.len n) s (by show Mx.len n ≤ _; omega) (Mx.limbs_lt n) (by omega) (k7.grow g))
    have HUB := Lib.hid (fun W (g : Grow w3 W) => up_any W (some ⟨b8, o8, none⟩) (Mx.limbs m) (N + 1) s (by omega) (Mx.limbs_lt m) (by omega) (k8.grow g))
    rw [show (Mx.limbs n).length = Mx.len n from rfl, Mx.val_limbs, hs64, Nat.add_zero] at HUA
    rw [hll8, Mx.val_limbs, hs64, Nat.add_zero] at HUB
    have HNT := Lib.hid (And.intro hnt1 (And.intro hnt2 (Mx.lt_pow_len n)))
    generalize Mx.len n = la at *
    have hi1 : (N : Int) + 1 - 1 = (N : Int) := by omega
    have hi2 : (N : Int) < (N : Int) + 1 := by omega
    have hi3 : ((N : Int) + 1).toNat = N + 1 := by omega
    have hi4 : (N : Int) + 1 ≤ (N : Int) + 2 := by omega
    have hi5 : (0 : Int) ≤ (N : Int) + 1 := by omega
    clear hd8 hnt1 hnt2 hnt3 hnt4 htl hs S2 HB2 HG HLA HLB k7 k8 hs64 hlp
    go_wp2_with (go_at_call 71; refine (HLZ.out _).mono ?_; rintro e w' ⟨rfl, rfl⟩)
    clear HLZ hct
    go_cut [11, 12] (fun v11 v12 W => DivU w3 n m la N s v11 v12 W)
    case first =>
      refine Rg.region_eq (ops' := divOps8) (by kernel_rfl) (div_region8 (A7 := A7) (b8 := b8) (o8 := o8) (la := la) (N := N) (n := n) (m := m) (s := s) rfl rfl rfl rfl rfl (by omega) HUA.out HUB.out ?_)
      intro f w4 g4 hf
      have h39 := hf 39 rfl
      have h42 := hf 42 rfl
      have h44 := hf 44 rfl
      have h11 : f 11 = f 39 := hf 11 rfl
      have h12 : f 12 = f 44 := hf 12 rfl
      obtain ⟨ga, eg1, hg1, R, hR⟩ := h39
      obtain ⟨gb, eg2, ⟨hg2, U, hU⟩, hne⟩ := h42
      have h44' := h44 gb eg2
      have hne' := hne ga _ _ eg1
      rw [eg1] at h11
      rw [h44'] at h12
      clear hf h44 hne
      simp only [Rg.puts, Act.put, List.setIfInBounds_toArray, List.set_cons_succ, List.set_cons_zero]
      rw [h11, h12]
      go_wp2_with fail
      go_meet
      exact ⟨ga, gb, R, U, rfl, rfl, hg1, hg2, hne', hR.1, hU.1, g4, hR.2.1, hU.2.1, hR.2.2.1, hU.2.2.1, hR.2.2.2, hU.2.2.2⟩
    case rest =>
      obtain ⟨w4, rfl⟩ : ∃ x, x = wc := ⟨wc, rfl⟩
      obtain ⟨g1, g2, R0, U, rfl, rfl, hg1, hg2, hne12, hk1, hk2, g4, hRl, hUl, hRb, hUb, hRv, hUv⟩ := hcut
      clear HUA HUB
      obtain ⟨K, hK⟩ : ∃ K, K + N = la := ⟨la - N, by omega⟩
      have hbp : 0 < m * 2 ^ s := Nat.mul_pos (by omega) (Mx.pow2_pos _)
      have hUt : Mx.val (U.take (N + 1)) = m * 2 ^ s := by
        have e := Mx.val_take_drop U (N + 1) (by omega)
        have e2 : Mx.val (U.drop (N + 1)) = 0 := by
          rw [← Mx.val_drop_div U hUb, hUv]; exact Nat.div_eq_of_lt HNT.out.1
        rw [e2, Nat.mul_zero, Nat.add_zero, hUv] at e
        exact e.symm
      have hUtl : (U.take (N + 1)).length = N + 1 := by rw [List.length_take, hUl]; omega
      have hUtb : ∀ x ∈ U.take (N + 1), x < Mx.B := fun x hx => hUb x (List.mem_of_mem_take hx)
      have htg : 9223372036854775808 ≤ (U.take (N + 1)).getD N 0 := Mx.top_great hUtl hUtb (by rw [hUt]; exact HNT.out.2.1)
      have hst := Mx.div_start hRb HNT.out.2.2 hRv hs63 hlm HNT.out.2.1
      have hKe : la - (N + 1) + 1 = K := by omega
      rw [hKe] at hst
      have eK : (la : Int) - ((N : Int) + 1) + 1 = (K : Int) := by omega
      have hmk : ∀ W, Sem.run Tryd.prog (Instr.makeSlice 22 (.int .i64 (K : Int)) (.int .i64 (K : Int))) W = .ok (.slice (some ⟨W.heap.size, 0, none⟩) K K) (W.alloc (.cells (madeCells #[.int .u64 0] K) 48)) := fun W =>
        run_make_row' (P := Tryd.prog) 22 48 (.int .u64 0) 8 Tryd.underlying22 info37 rfl .i64 .i64 K (by omega) (by omega) W
      have hs1 : g1 < w4.heap.size := hk1.lt
      have hs2 : g2 < w4.heap.size := hk2.lt
      have HU := Lib.hid (And.intro hUt (And.intro hUtl (And.intro hUtb (And.intro htg (And.intro hbp hUb)))))
      have HR0 := Lib.hid (And.intro hRl (And.intro hRb (And.intro hRv hst)))
      clear hUt hUtl hUtb htg hbp hUb hRb hRv hst hUv hKe hUl hRl
      go_wp2_with fail
      clear hmk
      go_loopw [14] (fun iv wr => ∃ (k : Nat) (R qs : List Nat), k ≤ K ∧ iv = .int .i64 ((k : Int) - 1) ∧ R.length = la + 1 ∧ (∀ x ∈ R, x < Mx.B) ∧ qs.length + k = K ∧ (∀ x ∈ qs, x < Mx.B) ∧ Mx.val R + Mx.B ^ k * (Mx.val qs * (m * 2 ^ s)) = n * 2 ^ s ∧ Mx.val (R.drop k) < m * 2 ^ s ∧
        Grow w3 wr ∧ Blk wr g1 R ∧ Blk wr g2 U ∧ Blk wr w4.heap.size (List.replicate k 0 ++ qs)) (fun iv _ => (intOf iv + 1).toNat)
      case atStart =>
        refine ⟨K, R0, [], Nat.le_refl _, ?_, HR0.out.1, HR0.out.2.1, by simp, by simp, by rw [HR0.out.2.2.1]; simp [Mx.val], HR0.out.2.2.2, g4.alloc _, hk1.alloc _, hk2.alloc _, ?_⟩
        · rfl
        · rw [List.append_nil]; exact Blk.made _ _
      case round =>
        obtain ⟨k, R, qs, hkK, rfl, hRl, hRb, hql, hqb, hval, hlow, hgr, hb1, hb2, hbq⟩ := hrel
        rcases Nat.eq_zero_or_pos k with h0 | h0
        · subst h0
          rw [Nat.pow_zero, Nat.one_mul] at hval
          rw [List.drop_zero] at hlow
          rw [List.replicate_zero, List.nil_append] at hbq
          obtain ⟨hfq, hfr⟩ := Mx.div_end (by omega) hval hlow
          have hqK : qs.length = K := by omega
          have hof := fun W (g : Grow wr W) => of_any W (.slice (some ⟨w4.heap.size, 0, none⟩) K K) qs (by omega) (by have := (hbq.grow g).sl hqb; rwa [hqK] at this)
          have hdn := fun W (g : Grow wr W) => down_any W (some ⟨g1, 0, none⟩) R (la + 1) s (by omega) hRb (by omega) (Cells.of_block (hb1.grow g))
          rw [hRl, hfr] at hdn
          rw [hfq] at hof
          have HB := Lib.hid (hG3.out.trans hgr)
          have HOF := Lib.hid hof
          have HDN := Lib.hid hdn
          clear hof hdn hbq hb1 hb2 hval hlow hfq hfr
          go_wp2_with fail
          refine (HOF.out _ (Grow.refl _)).mono ?_
          rintro e w6 ⟨v6, rfl, h6, g6⟩
          go_wp2_with fail
          refine (HDN.out _ g6).mono ?_
          rintro e w7 ⟨v7, l7, rfl, h7, h7b, h7v, h7l⟩
          have h7s := h7.sl h7b
          have g7 := h7.choose_spec.2.2.2
          go_wp2_with fail
          refine (of_any _ _ l7 (by omega) h7s).mono ?_
          rintro e w8 ⟨v8, rfl, h8, g8⟩
          rw [h7v] at h8
          have h68 := h6.grow (g7.trans g8)
          have g38 := HB.out.trans ((g6.trans g7).trans g8)
          obtain ⟨c0, c1, c2, c3, f2, f3⟩ := DivB.of g38
          have HG := Lib.hid g38
          have H6 := Lib.hid h68
          have H8 := Lib.hid h8
          obtain ⟨A6, c6, rfl, hc6, hl6⟩ := h68
          obtain ⟨A8', c8, rfl, hc8, hl8⟩ := h8
          clear hl6 hl8 h6 h7 h7s g6 g7 g8 g38 HOF HDN HB
          have hs : w.heap.size + 1 + 1 + 1 < w8.heap.size := lt_of_cell c3
          go_wp2_with fail
          obtain ⟨s2, s3, s4⟩ := two_set (A' := A6) (B' := A8') (n' := Mx.len (n / m)) (m' := Mx.len (n % m)) (c' := c6) (d' := c8) c2 c3
          refine bodyPost_ret (v := .tuple #[.agg #[.slice A6 (Mx.len (n / m)) c6], .agg #[.slice A8' (Mx.len (n % m)) c8], .int .i64 0]) (by simp [results, Tryd.results57, go_sem, s2, s3]) rfl (Ret.mk ⟨_, _, rfl, (H6.out.store c2 _).store s4 _, (H8.out.store c2 _).store s4 _⟩ ?_)
          exact (((divW_grow w A la c D (Mx.len m) d).trans HG.out).setCell (by show w.heap.size ≤ w.heap.size + 1 + 1; omega) _).setCell (by show w.heap.size ≤ w.heap.size + 1 + 1 + 1; omega) _
        · obtain ⟨j, rfl⟩ : ∃ j, k = j + 1 := ⟨k - 1, by omega⟩
          rw [show (((j + 1 : Nat) : Int) - 1) = (j : Int) by omega]
          obtain ⟨hUt, hUtl, hUtb, htg, hbp, hUb⟩ := HU.out
          obtain ⟨hwin, hVlt, hz⟩ := Mx.div_window (N := N + 1) (j := j) (b := m * 2 ^ s) hRb (by omega) (Nat.le_of_lt HNT.out.1) hlow
          have hcl2 : Cells wr (some ⟨g2, 0, none⟩) (U.take (N + 1)) := (Cells.of_block hb2).take _
          have hTO := takeOff_any wr g1 j (la + 1 - j) R (some ⟨g2, 0, none⟩) (U.take (N + 1)) (N + 2) N hUtl (by omega) (by omega) (by omega) hb1 hRb hcl2 hUtb htg
            (by rw [hUt, hwin]; exact hVlt) (fun b p e => by injection e with e; injection e with e; omega)
          rw [hUt, hwin] at hTO
          have hq : Mx.val (R.drop j) / (m * 2 ^ s) < Mx.B := by rw [Nat.div_lt_iff_lt_mul hbp, Nat.mul_comm]; exact hVlt
          have hrd := fun out h1 h2 => Mx.div_round (R := R) (out := out) (qs := qs) (j := j) (N := N + 1) (b := m * 2 ^ s) (T := n * 2 ^ s) h1 (by omega) hz hbp h2 hval
          generalize Mx.val (R.drop j) / (m * 2 ^ s) = q at *
          have HTO := Lib.hid hTO
          have HRD := Lib.hid hrd
          have HQ := Lib.hid hq
          have HBQ := Lib.hid hbq
          have HB2 := Lib.hid hb2
          have e1 : (j : Int) + ((N : Int) + 1) + 1 ≤ (la : Int) + 1 := by omega
          have e2 : ((j : Int) + ((N : Int) + 1) + 1).toNat = j + N + 2 := by omega
          have e3 : (j : Int) ≤ (j : Int) + ((N : Int) + 1) + 1 := by omega
          have e4 : (0 : Int) ≤ (j : Int) + ((N : Int) + 1) + 1 := by omega
          have e5 : j + N + 2 - j = N + 2 := by omega
          have e6 : (j : Int) < (K : Int) := by omega
          have e7 : (0 : Int) ≤ (j : Int) := by omega
          have e8 : ¬ (la + 1 = j) := by omega
          clear hTO hrd hq hbq hb2 hb1 hUt hUtl hUtb htg hbp hUb hcl2 hval hlow
          go_wp2_with fail
          refine HTO.out.mono ?_
          rintro e w5 ⟨out, rfl, hol, hob, hov, hon, hob1⟩
          obtain ⟨hr1, hr2⟩ := HRD.out out hol hov
          have hbq5 : Blk w5 w4.heap.size (List.replicate (j + 1) 0 ++ qs) := only_blk hon HBQ.out (by omega)
          have hb25 : Blk w5 g2 U := only_blk hon HB2.out (Ne.symm hne12)
          have hgr5 : Grow w3 w5 := only_grow hon hgr hg1
          have hgc := hbq5.cell (i := j) (by rw [List.length_append, List.length_replicate]; omega)
          have hgf := hbq5.frozen j
          have hbq6 := hbq5.set j q
          rw [set_zero] at hbq6
          have hpl : (Mx.patch R j out).length = la + 1 := by rw [Mx.patch_length (by omega)]; exact hRl
          have hpb := patch_lt (o := j) hRb hob
          have hb16 := hob1.far (p := ⟨w4.heap.size, j, none⟩) (by show g1 ≠ w4.heap.size; omega) (.int .u64 (q : Int))
          have hb26 := hb25.far (p := ⟨w4.heap.size, j, none⟩) (by show g2 ≠ w4.heap.size; omega) (.int .u64 (q : Int))
          have hgr6 := hgr5.setCell (p := ⟨w4.heap.size, j, none⟩) (by show w3.heap.size ≤ w4.heap.size; exact g4.size) (.int .u64 (q : Int))
          generalize (List.getD _ j 0 : Nat) = zz at hgc
          have HALL := Lib.hid (And.intro hbq6 (And.intro hb16 (And.intro hb26 (And.intro hgr6 (And.intro hr1 (And.intro hr2 (And.intro hpl hpb)))))))
          clear hbq6 hb16 hb26 hgr6 hr1 hr2 hpl hpb hbq5 hb25 hob1 hon hov HTO HRD HBQ HB2 hgr5 hob hol hRb hRl
          go_wp2_with fail
          go_roundw
          case rel =>
            obtain ⟨hbq6, hb16, hb26, hgr6, hr1, hr2, hpl, hpb⟩ := HALL.out
            refine ⟨j, Mx.patch R j out, q :: qs, by omega, rfl, hpl, hpb, by simp; omega, ?_, hr1, hr2, hgr6, hb16, hb26, hbq6⟩
            intro x hx
            rcases List.mem_cons.1 hx with hx | hx
            · rw [hx]; exact HQ.out
            · exact hqb x hx
          case measure => simp [intOf]

/-- Div by a number that isn't 0. -/
theorem div_any (w : World) (va vb : Value) (n m : Nat) (hn : Mx.len n ≤ 1073741824) (ha : IsNat w va n) (hb : IsNat w vb m) (hm : m ≠ 0) :
    Calls Tryd.prog 57 #[va, vb] w (Ret w (DivRet n m)) := by
  rcases Nat.lt_or_ge n m with h | h
  · exact div_less w va vb n m (by omega) ha hb h
  · exact div_main w va vb n m hn ha hb hm h
end Go.Proofs.YtckcjiojfpaikaaDoor
