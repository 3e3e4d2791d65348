/- The reference's Sub and Small. -/
import Derived.Test.YtfeijnbmaehniaaRefB
namespace Go.Proofs.Ytfeijnbmaehniaa
open Go.RowKit

set_option maxHeartbeats 2000000 in
theorem refSub_any (w : World) (va vb : Value) (n m k j : Nat) (hk : k ≤ 4294967296) (ha : IsD w va n k) (hb : IsD w vb m j) (hle : m ≤ n) :
    Calls Try.prog 38 #[va, vb] w (Ret w fun v' w' => IsD w' v' (n - m) k) := by
  obtain ⟨A, c, rfl, hc, hl, hkn⟩ := ha
  obtain ⟨D, d, rfl, hd, hr, hjm⟩ := hb
  obtain ⟨i0, hi, hz0, hz1, hz2⟩ := info_parts info3
  have HLE := Lib.hid hle
  clear hle
  go_enter Try.func38, Try.ntmps38
  go_wp2
  go_loopw [5, 6, 7] (fun ov cv iv wr => ∃ i : Nat, i ≤ Dx.len n ∧ iv = .int .i64 i ∧ cv = .int .i64 ((Dx.subTo (Dx.limbs n) (Dx.limbs m) i).2 : Nat) ∧ Grow w wr ∧ wr.ownsRow w.heap.size 3 1 ov i (valsD (Dx.subTo (Dx.limbs n) (Dx.limbs m) i).1)) (fun _ _ iv _ => Dx.len n - (intOf iv).toNat)
  case atStart => exact ⟨0, Nat.zero_le _, rfl, rfl, Grow.refl _, World.ownsRow_nil _ _ _ _⟩
  case round =>
    obtain ⟨i, hib, rfl, rfl, hg, hown⟩ := hrel
    have hlenS := Dx.subTo_length (Dx.limbs n) (Dx.limbs m) i
    have hcar := Dx.subTo_borrow (Dx.limbs n) (Dx.limbs m) i
    by_cases hlt : i < Dx.len n
    · have hstep : Dx.subTo (Dx.limbs n) (Dx.limbs m) (i + 1) = ((Dx.subTo (Dx.limbs n) (Dx.limbs m) i).1 ++ [Dx.subLo ((Dx.limbs n).getD i 0) ((Dx.limbs m).getD i 0) (Dx.subTo (Dx.limbs n) (Dx.limbs m) i).2], Dx.subHi ((Dx.limbs n).getD i 0) ((Dx.limbs m).getD i 0) (Dx.subTo (Dx.limbs n) (Dx.limbs m) i).2) := rfl
      have hx := Dx.getD_lt _ (Dx.limbs_lt n) i
      have hy := Dx.getD_lt _ (Dx.limbs_lt m) i
      obtain ⟨b1, o1, rfl, hb1, hd1⟩ := (hl.grow hg).at (Dx.limbs_ne (by omega))
      have hcx := hd1 i hlt
      have HA2 := Lib.hid (refAt_any wr D (Dx.limbs m) d i (hr.grow hg))
      clear hd1
      generalize (Dx.limbs n).getD i 0 = x at hstep hx hcx
      generalize (Dx.limbs m).getD i 0 = y at hstep hy HA2
      generalize (Dx.subTo (Dx.limbs n) (Dx.limbs m) i).2 = cr at *
      generalize (Dx.subTo (Dx.limbs n) (Dx.limbs m) i).1 = ss at *
      rw [Dx.B_eq] at hx hy
      have hi1 : (i : Int) < (Dx.len n : Int) := by omega
      have hvl : (valsD ss).length = i := by rw [valsD_length]; exact hlenS
      clear hlenS
      by_cases hbor : x < y + cr
      · have hlo : (x : Int) - (y : Int) - (cr : Int) + 10000 = ((Dx.subLo x y cr : Nat) : Int) := by unfold Dx.subLo; rw [Dx.B_eq]; omega
        have hhi : Dx.subHi x y cr = 1 := if_pos hbor
        rw [hhi] at hstep
        have hneg : decide ((x : Int) - (y : Int) - (cr : Int) < 0) = true := by simp; omega
        generalize Dx.subLo x y cr = lo at *
        have HS := Lib.hid hstep
        have HVL := Lib.hid hvl
        clear hstep hhi hvl
        generalize hvs : valsD ss = vs at *
        have HVS := Lib.hid hvs
        clear hvs
        go_wp2_with fail
        refine HA2.out.mono ?_
        rintro e w' ⟨rfl, rfl⟩
        go_wp2_with (at_builtin; refine wpList_append_own _ rfl _ _ 30 rfl w.heap.size 3 i0 (.int .i64 0) 1 8 Try.underlying30 hi hz0 hz1 hz2 rfl (by decide) _ _ _ rfl (hown.alloc _) ⟨wr.heap.size, 0, none⟩ 1 1 [.int .i64 (lo : Int)] rfl rfl (cells_one _ _ _) (by intro u hu; simp at hu; subst hu; rfl) (by unfold maxLen; omega) (by omega) (by have := hg.size; simp; omega) ?_)
        intro v' w1 hown' hgrow _
        have R1 : Grow w w1 := Below.grown (hg.alloc _) hgrow (by have := hg.size; simp; omega) (fun k e => own_ge hown e)
        rw [← HVS.out, valsD_snoc] at hown'
        have HO := Lib.hid hown'
        clear hown' hgrow hown
        go_wp2
        go_roundw
        case rel => exact ⟨i + 1, by omega, by go_num, by rw [HS.out]; rfl, R1, by rw [HS.out]; exact HO.out⟩
        case measure => simp [intOf]; omega
      · have hlo : (x : Int) - (y : Int) - (cr : Int) = ((Dx.subLo x y cr : Nat) : Int) := by unfold Dx.subLo; rw [Dx.B_eq]; omega
        have hhi : Dx.subHi x y cr = 0 := if_neg hbor
        rw [hhi] at hstep
        have hneg : decide ((x : Int) - (y : Int) - (cr : Int) < 0) = false := by simp; omega
        generalize Dx.subLo x y cr = lo at *
        have HS := Lib.hid hstep
        have HVL := Lib.hid hvl
        have hneg2 : decide ((lo : Int) < 0) = false := by simp
        clear hstep hhi hvl
        generalize hvs : valsD ss = vs at *
        have HVS := Lib.hid hvs
        clear hvs
        go_wp2_with fail
        refine HA2.out.mono ?_
        rintro e w' ⟨rfl, rfl⟩
        go_wp2_with (at_builtin; refine wpList_append_own _ rfl _ _ 30 rfl w.heap.size 3 i0 (.int .i64 0) 1 8 Try.underlying30 hi hz0 hz1 hz2 rfl (by decide) _ _ _ rfl (hown.alloc _) ⟨wr.heap.size, 0, none⟩ 1 1 [.int .i64 (lo : Int)] rfl rfl (cells_one _ _ _) (by intro u hu; simp at hu; subst hu; rfl) (by unfold maxLen; omega) (by omega) (by have := hg.size; simp; omega) ?_)
        intro v' w1 hown' hgrow _
        have R1 : Grow w w1 := Below.grown (hg.alloc _) hgrow (by have := hg.size; simp; omega) (fun k e => own_ge hown e)
        rw [← HVS.out, valsD_snoc] at hown'
        have HO := Lib.hid hown'
        clear hown' hgrow hown
        go_wp2
        go_roundw
        case rel => exact ⟨i + 1, by omega, by go_num, by rw [HS.out]; rfl, R1, by rw [HS.out]; exact HO.out⟩
        case measure => simp [intOf]; omega
    · obtain rfl : i = Dx.len n := by omega
      have hall := Dx.subTo_all (Dx.limbs n) (Dx.limbs m) (Dx.limbs_lt n) (Dx.limbs_lt m) (Dx.len_mono HLE.out) (by rw [Dx.val_limbs, Dx.val_limbs]; exact HLE.out)
      rw [Dx.val_limbs, Dx.val_limbs, show (Dx.limbs n).length = Dx.len n from rfl] at hall
      have hds := ds_of_own hown (Dx.subTo_lt (Dx.limbs n) (Dx.limbs m) (Dx.len n))
      have HT := Lib.hid (refTrim_any wr _ _ (by rw [hlenS]; omega) hds)
      rw [hall, hlenS] at HT
      generalize (Dx.subTo (Dx.limbs n) (Dx.limbs m) (Dx.len n)).1 = ss at *
      generalize (Dx.subTo (Dx.limbs n) (Dx.limbs m) (Dx.len n)).2 = cr at *
      clear hall hds hown hlenS hcar
      go_wp2_with fail
      refine HT.out.mono ?_
      rintro e w' ⟨v', rfl, hD, rfl⟩
      clear HT
      go_wp2_with fail
      go_ret
      exact Ret.mk (hD.more hkn) hg

set_option maxHeartbeats 2000000 in
theorem refSmall_any (w : World) (n : Nat) (hn : n ≤ 9223372036854775807) : Calls Try.prog 34 #[.int .i64 (n : Int)] w (Ret w fun v' w' => IsD w' v' n 5) := by
  obtain ⟨i0, hi, hz0, hz1, hz2⟩ := info_parts info3
  have hlen : Dx.len n ≤ 5 := Dx.len_le_of_lt 5 n (by rw [Dx.B_eq]; omega)
  go_enter Try.func34, Try.ntmps34
  go_wp2
  go_loopw [3, 0] (fun ov nv wr => ∃ (ds : List Nat) (r : Nat), r ≤ n ∧ nv = .int .i64 (r : Int) ∧ Hid (Dx.limbs n = ds ++ Dx.limbs r) ∧ Grow w wr ∧ wr.ownsRow w.heap.size 3 1 ov ds.length (valsD ds)) (fun _ nv _ => (intOf nv).toNat)
  case atStart => exact ⟨[], n, Nat.le_refl _, rfl, show _ = _ from rfl, Grow.refl _, World.ownsRow_nil _ _ _ _⟩
  case round =>
    obtain ⟨ds, r, hr, rfl, HD, hg, hown⟩ := hrel
    have hdl : ds.length ≤ 5 := by
      have := congrArg List.length HD.out
      rw [List.length_append] at this
      unfold Dx.len at hlen
      omega
    by_cases h0 : r = 0
    · subst h0
      have e : Dx.limbs n = ds := by have := HD.out; rwa [Dx.limbs_zero, List.append_nil] at this
      have hds := ds_of_own hown (by rw [← e]; exact Dx.limbs_lt n)
      obtain ⟨A, c, rfl, hc, hb, hcl⟩ := hds
      have HE := Lib.hid e
      have HB := Lib.hid hb
      clear hown e HD hb
      go_wp2
      go_ret
      refine Ret.mk ⟨A, c, by unfold Dx.len; rw [HE.out]; rfl, by unfold Dx.len; rw [HE.out]; exact hc, by rw [HE.out]; exact hcl, hlen⟩ hg
    · have hpos : (0 : Int) < (r : Int) := by omega
      have hst : Dx.limbs n = (ds ++ [r % Dx.B]) ++ Dx.limbs (r / Dx.B) := by rw [HD.out, Dx.limbs_pos r h0]; simp
      have hm : (r : Int) % 10000 = ((r % Dx.B : Nat) : Int) := by rw [Dx.B_eq]; omega
      have hd : (r : Int) / 10000 = ((r / Dx.B : Nat) : Int) := by rw [Dx.B_eq]; omega
      have hrl : r / Dx.B < r := Dx.div_lt_self r h0
      generalize r % Dx.B = lo at *
      generalize r / Dx.B = q at *
      have HST := Lib.hid hst
      have hvl : (valsD ds).length = ds.length := valsD_length ds
      have HVL := Lib.hid hvl
      clear hst hvl h0
      generalize hvs : valsD ds = vs at *
      have HVS := Lib.hid hvs
      clear hvs
      go_wp2_with (at_builtin; refine wpList_append_own _ rfl _ _ 30 rfl w.heap.size 3 i0 (.int .i64 0) 1 8 Try.underlying30 hi hz0 hz1 hz2 rfl (by decide) _ _ _ rfl (hown.alloc _) ⟨wr.heap.size, 0, none⟩ 1 1 [.int .i64 (lo : Int)] rfl rfl (cells_one _ _ _) (by intro u hu; simp at hu; subst hu; rfl) (by unfold maxLen; omega) (by omega) (by have := hg.size; simp; omega) ?_)
      intro v' w1 hown' hgrow _
      have R1 : Grow w w1 := Below.grown (hg.alloc _) hgrow (by have := hg.size; simp; omega) (fun k e => own_ge hown e)
      rw [← HVS.out, valsD_snoc] at hown'
      have HO := Lib.hid hown'
      clear hown' hgrow hown
      go_wp2
      go_roundw
      case rel => exact ⟨ds ++ [lo], q, by omega, rfl, HST.out, R1, by rw [List.length_append]; exact HO.out⟩
      case measure => simp [intOf]; omega
end Go.Proofs.Ytfeijnbmaehniaa
