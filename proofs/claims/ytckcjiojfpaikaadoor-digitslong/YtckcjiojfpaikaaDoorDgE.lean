/- The contract of digits.write: all of it. -/
import Derived.Test.YtckcjiojfpaikaaDoorDgD
namespace Go.Proofs.YtckcjiojfpaikaaDoor
open Go.RowKit
set_option maxRecDepth 20000

/-- What the cut behind write's division keeps. -/
def WriteC (w : World) (q s b : Nat) (v9 v10 : Value) (W : World) : Prop := ∃ i j, v9 = .pointer (some ⟨i, 0, none⟩) ∧ v10 = .pointer (some ⟨j, 0, none⟩) ∧ VarN W i q b ∧ VarN W j s b ∧ Grow w W
theorem dgt_cut (k n : Nat) : Tx.dgt (19 * 2 ^ k) (n / cutAt k) ++ Tx.dgt (19 * 2 ^ k) (n % cutAt k) = Tx.dgt (19 * 2 ^ (k + 1)) n := by
  unfold cutAt
  rw [Tx.dgt_mod, ← Tx.dgt_add]
  congr 1
  rw [Nat.pow_succ]
  omega
theorem cut_high {k n : Nat} (h : n < cutAt (k + 1)) : n / cutAt k < cutAt k := by
  rw [cutAt_sq] at h
  exact Nat.div_lt_of_lt_mul h

set_option maxHeartbeats 2000000 in
theorem write_any (k : Nat) : ∀ (w : World) (vt vn va : Value) (l L : List UInt8) (n b : Nat), Tex w vt l → IsN w vn n b → Cuts w va k b → n < cutAt k → b ≤ 1073741824 → l.length + 19 * 2 ^ k ≤ 140737488355328 → l ++ Tx.dgt (19 * 2 ^ k) n = L →
    Calls Tryd.prog 30 #[vt, vn, va] w (WroteText w vt L) := by
  induction k with
  | zero =>
    intro w vt vn va l L n b ht hn hc hlt hb hl hL
    obtain ⟨A, c, rfl, _, _⟩ := hc
    exact write_group w vt vn A c l n b ht hn hlt hl L hL
  | succ k ih =>
    intro w vt vn va l L n b ht hn hc hlt hb hl hL
    have hp2 : 2 ^ (k + 1) = 2 ^ k + 2 ^ k := by rw [Nat.pow_succ]; omega
    rw [← dgt_cut, ← List.append_assoc] at hL
    have hkb : k ≤ 140737488355328 := by
      have := @Nat.lt_two_pow_self k
      rw [hp2] at hl
      omega
    have IH := Lib.hid ih
    have HC := Lib.hid hc
    have HT := Lib.hid ht
    have HN := Lib.hid hn
    have HLL := Lib.hid hL
    have HLT := Lib.hid (cut_high hlt)
    have HLM := Lib.hid (Nat.mod_lt n (cutAt_pos k))
    have HK := Lib.hid (show l.length + 19 * 2 ^ k ≤ 140737488355328 ∧ (l ++ Tx.dgt (19 * 2 ^ k) (n / cutAt k)).length + 19 * 2 ^ k ≤ 140737488355328 by
      rw [List.length_append, Tx.dgt_length]; rw [hp2] at hl; omega)
    have HQ : Hid (cutAt k ≠ 0) := Lib.hid (Nat.pos_iff_ne_zero.1 (cutAt_pos k))
    obtain ⟨At, ct, e1, _, _⟩ := ht.len
    obtain ⟨A4, l4, c4, rfl⟩ := hn.cell
    obtain ⟨Ac, cc, rfl, hcc, hcu⟩ := hc
    obtain ⟨g, o, rfl, hcell⟩ := hcu (by omega)
    obtain ⟨A5, l5, c5, k5, n5⟩ := hcell k (by omega)
    rw [bvals_length] at e1
    clear ht hn hcu hcell hL hp2 hlt hl ih
    subst e1
    have HB := Lib.hid hb
    have N5 := Lib.hid (And.intro k5 n5)
    clear hb k5 n5
    generalize hq : n / cutAt k = q at *
    generalize hs : n % cutAt k = s at *
    have HQS := Lib.hid (And.intro hq hs)
    clear hq hs
    go_enter Tryd.func30, Tryd.ntmps30
    go_upto_region 5 with fail
    have gg : Grow w (w.alloc (Obj.cells #[Value.slice A4 l4 c4] 24)) := (Grow.refl _).alloc _
    have k4 := (Grow.new (Grow.refl (w.alloc (Obj.cells #[Value.slice A4 l4 c4] 24)))).1
    generalize w.alloc (Obj.cells #[Value.slice A4 l4 c4] 24) = w1 at *
    go_cut [9, 10] (fun v9 v10 W => WriteC w1 q s b v9 v10 W)
    case first =>
      refine Rg.region_eq (ops' := writeOps5) (by kernel_rfl) (write_region5 (n := n) (m := cutAt k) (q := q) (s := s) (b := b) (g := g) (o := o) (k := k) rfl rfl rfl rfl k4 (HN.out.grow gg) (gg.cells1 N5.out.1) (N5.out.2.grow gg) HB.out HQ.out HQS.out.1 HQS.out.2 ?_)
      intro f w2 i j g2 e9 e10 v9 v10
      have H := Lib.hid (And.intro v9 (And.intro v10 g2))
      clear v9 v10 g2
      simp only [Rg.puts, Act.put, List.setIfInBounds_toArray, List.set_cons_succ, List.set_cons_zero]
      rw [e9, e10]
      go_wp2_with fail
      go_meet
      exact ⟨i, j, rfl, rfl, H.out⟩
    case rest =>
      obtain ⟨w2, rfl⟩ : ∃ x, x = wc := ⟨wc, rfl⟩
      obtain ⟨i, j, rfl, rfl, v9, v10, g2⟩ := hcut
      have gw := gg.trans g2
      have hk1 : (0 : Int) ≤ (k : Int) := by omega
      have hk2 : (k : Int) ≤ (cc : Int) := by omega
      obtain ⟨A9, l9, c9, k9, n9⟩ := v9
      obtain ⟨A10, l10, c10, k10, n10⟩ := v10
      have C2 := (HC.out.grow gw).init
      have T2 := HT.out.grow gw
      have HW1 := Lib.hid (fun W (h : Grow w2 W) => IH.out W (.slice At l.length ct) (.agg #[.slice A9 l9 c9]) (.slice (some ⟨g, o, none⟩) k cc) l _ q b (T2.grow h) (n9.grow h) (C2.grow h) HLT.out HB.out HK.out.1 rfl |>.mono fun e w' ⟨v', e1, t, hw⟩ => (⟨v', e1, t, Wrote.pre h hw⟩ : WroteText w2 (.slice At l.length ct) (l ++ Tx.dgt (19 * 2 ^ k) q) e w'))
      have HW2 := Lib.hid (fun W v' (h : Tex W v' (l ++ Tx.dgt (19 * 2 ^ k) q)) (hw : Wrote w2 (.slice At l.length ct) W v') => IH.out W v' (.agg #[.slice A10 l10 c10]) (.slice (some ⟨g, o, none⟩) k cc) _ L s b h (n10.wrote hw T2 isB_u64) (C2.wrote hw T2) HLM.out HB.out HK.out.2 HLL.out |>.mono fun e w' ⟨v4, e1, t, hw4⟩ => (⟨v4, e1, t, hw4⟩ : ∃ v4, e = Ending.returned v4 ∧ Tex w' v4 L ∧ Wrote W v' w' v4))
      have HKP := Lib.hid (fun W v' (hw : Wrote w2 (.slice At l.length ct) W v') => (And.intro (hw.cell T2 k9 (isB_slice _ _ _)) (hw.cell T2 k10 (isB_slice _ _ _)) : W.cell? ⟨i, 0, none⟩ = some (.slice A9 l9 c9) ∧ W.cell? ⟨j, 0, none⟩ = some (.slice A10 l10 c10)))
      have HGW := Lib.hid gw
      clear IH HC HT HN HLL HLT HLM HK HQ HB N5 HQS C2 T2 n9 n10 gw g2 gg k4
      go_upto_region 6 with fail
      go_region_held3 (fun W => W.cell? ⟨i, 0, none⟩ = some (.slice A9 l9 c9) ∧ W.cell? ⟨j, 0, none⟩ = some (.slice A10 l10 c10))
        (first | exact ⟨k9, k10⟩ | exact HKP.out _ _ hw3 | exact HKP.out _ _ (hw3.trans hw4))
        (first
          | (go_at_call 30; with_reducible refine (HW1.out _ ?_).mono ?_; (first | exact Grow.refl _ | exact (Grow.refl _).drew); rintro e w3 ⟨v3, rfl, ht3, hw3⟩)
          | (go_at_call 30; with_reducible refine (HW2.out _ _ ht3 hw3).mono ?_; rintro e w4 ⟨v4, rfl, ht4, hw4⟩))
      all_goals
        go_wp2_with fail
        go_ret
        exact ⟨v4, rfl, ht4, Wrote.pre HGW.out (hw3.trans hw4)⟩
end Go.Proofs.YtckcjiojfpaikaaDoor
