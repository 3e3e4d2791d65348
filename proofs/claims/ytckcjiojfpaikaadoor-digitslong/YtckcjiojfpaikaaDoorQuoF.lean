/- Contracts of package quot: takeOff. -/
import Derived.Test.YtckcjiojfpaikaaDoorQuoE
namespace Go.Proofs.YtckcjiojfpaikaaDoor
open Go.RowKit

set_option maxHeartbeats 1000000 in
theorem takeOff_any (w : World) (g o cp : Nat) (L : List Nat) (A : Option Addr) (l : List Nat) (c n : Nat) (hn : l.length = n + 1) (hk : n ≤ 4294967296) (hcp : n + 2 ≤ cp) (hfit : o + n + 2 ≤ L.length) (hblk : Blk w g L) (hL : ∀ y ∈ L, y < Mx.B)
    (hl : Cells w A l) (hb : ∀ y ∈ l, y < Mx.B) (htop : 9223372036854775808 ≤ l.getD n 0) (hV : Mx.val ((L.drop o).take (n + 2)) < Mx.val l * Mx.B) (hne : ∀ b p, A = some ⟨b, p, none⟩ → b ≠ g) :
    Calls Tryd.prog 73 #[.slice (some ⟨g, o, none⟩) (n + 2) cp, .slice A (n + 1) c] w fun e w' =>
      ∃ out : List Nat, e = .returned (.int .u64 ((Mx.val ((L.drop o).take (n + 2)) / Mx.val l : Nat) : Int)) ∧ out.length = n + 2 ∧ (∀ y ∈ out, y < Mx.B) ∧ Mx.val out = Mx.val ((L.drop o).take (n + 2)) % Mx.val l ∧
        w.grownBy w' (some g) ∧ Blk w' g (Mx.patch L o out) := by
  have hnn : l ≠ [] := by intro e; subst e; simp at hn
  obtain ⟨b1, o1, rfl, hb1, hc2⟩ := hl hnn
  have hd1 : ∀ j, j < l.length → w.cell? ⟨b1, o1 + j, none⟩ = some (.int .u64 (l.getD j 0 : Nat)) := fun j hj => by rw [List.getD_eq_getElem?_getD, List.getElem?_eq_getElem hj, Option.getD_some]; exact hc2 j _ (List.getElem?_eq_getElem hj)
  have hbg : b1 ≠ g := hne b1 o1 rfl
  have hcy := hd1 n (by omega)
  have hch := hblk.cell (i := o + (n + 1)) (by omega)
  have hcl := hblk.cell (i := o + n) (by omega)
  have hy := Mx.getD_lt l hb n
  have hhi := Mx.getD_lt L hL (o + (n + 1))
  have hlo := Mx.getD_lt L hL (o + n)
  have hgt := fun q h => guess_top (s := L.drop o) (l := l) (n := n) (q := q) hn (fun y hy => hL y (List.mem_of_mem_drop hy)) h
  simp only [drop_getD] at hgt
  have hgl := gss_lt (hi := L.getD (o + (n + 1)) 0) (y := l.getD n 0) hlo
  have hbp : 0 < Mx.val l := by
    rcases Nat.eq_zero_or_pos (Mx.val l) with h | h
    · rw [h, Nat.zero_mul] at hV; omega
    · exact h
  have hqB : Mx.val ((L.drop o).take (n + 2)) / Mx.val l < Mx.B := by rw [Nat.div_lt_iff_lt_mul hbp, Nat.mul_comm]; exact hV
  have hgtop : Mx.val ((L.drop o).take (n + 2)) / Mx.val l ≤ gss (L.getD (o + (n + 1)) 0) (L.getD (o + n) 0) (l.getD n 0) :=
    gss_top (by omega) hqB (hgt _ (Nat.div_mul_le_self _ _))
  have HG := Lib.hid (fun k => guess_any (L.getD (o + (n + 1)) 0) (L.getD (o + n) 0) (l.getD n 0) hlo hy htop (w.drewN k))
  generalize gss (L.getD (o + (n + 1)) 0) (L.getD (o + n) 0) (l.getD n 0) = t0 at *
  generalize L.getD (o + (n + 1)) 0 = hi at *
  generalize L.getD (o + n) 0 = lo at *
  generalize l.getD n 0 = y at *
  generalize hVV : Mx.val ((L.drop o).take (n + 2)) = V at *
  have e1 : ((n : Int) + 1 - 1) = (n : Int) := by omega
  have e2 : IntKind.i64.wrap ((n : Int) + 1) = (n : Int) + 1 := IntWalk.i64_in _ (by omega)
  have e3 : ((n : Int) + 1).toNat = n + 1 := by omega
  have e4 : (n : Int) + 1 < (n : Int) + 2 := by omega
  have e5 : (n : Int) < (n : Int) + 2 := by omega
  have e6 : (n : Int) < (n : Int) + 1 := by omega
  have e7 : (0 : Int) ≤ (n : Int) + 1 := by omega
  have e8 : (0 : Int) ≤ (n : Int) := by omega
  have HST := Lib.hid (fun W (g1 : w.grownBy W (some g)) (hbk : Blk W g L) => subTimes_any W g o cp L (some ⟨b1, o1, none⟩) l c t0 (by omega) (by omega) (by omega) hbk hL (fun _ => ⟨b1, o1, rfl, Nat.lt_of_lt_of_le hb1 g1.size, fun j x hx => (only_cell g1 (p := ⟨b1, o1 + j, none⟩) hb1 hbg).trans (hc2 j x hx)⟩) hb hgl (fun _ => hne))
  have HAD := Lib.hid (fun W (out : List Nat) (hlen : out.length = n + 2) (hlt : ∀ y ∈ out, y < Mx.B) (g1 : w.grownBy W (some g)) (hbk : Blk W g (Mx.patch L o out)) => quotAdd_any W g o cp (Mx.patch L o out) (some ⟨b1, o1, none⟩) l c (by omega) (by omega) (by rw [Mx.patch_length (by omega)]; omega) hbk (patch_lt hL hlt) (fun _ => ⟨b1, o1, rfl, Nat.lt_of_lt_of_le hb1 g1.size, fun j x hx => (only_cell g1 (p := ⟨b1, o1 + j, none⟩) hb1 hbg).trans (hc2 j x hx)⟩) hb (fun _ => hne))
  rw [hn, hVV] at HST
  rw [hn] at HAD
  have HC := Lib.hid (And.intro hL (And.intro hb (And.intro hV (And.intro hgtop (And.intro hgl (And.intro hbp hqB))))))
  clear hd1 hL hb hV hgt hqB hgtop hgl hne hc2 hl hhi hlo hy
  go_enter Tryd.func73, Tryd.ntmps73
  go_wp2
  refine wp_scope_jumps 0 (fun a' w' => ∃ (t : Nat) (s : Bool) (out : List Nat), t < Mx.B ∧ out.length = n + 2 ∧ (∀ y ∈ out, y < Mx.B) ∧ Off V (Mx.val l) (Mx.B ^ (n + 2)) t s (Mx.val out) ∧ w.grownBy w' (some g) ∧ Blk w' g (Mx.patch L o out) ∧
    ∃ u8 u9 u10 u11 u12 u13 u14 u15 u16 u17 u18 u19 u20 u21 u22 u23 u24 u25 u26 u27 u28 u29 u30 u31 u32 u33 u34 u35 : Value, a' = { tmps := #[.slice (some ⟨g, o, none⟩) (n + 2) cp, .slice (some ⟨b1, o1, none⟩) (n + 1) c, undef, undef, .int .u64 0, .int .i64 (n : Int), .int .u64 (t : Int), .bool s, u8, u9, u10, u11, u12, u13, u14, u15, u16, u17, u18, u19, u20, u21, u22, u23, u24, u25, u26, u27, u28, u29, u30, u31, u32, u33, u34, u35, undef], defers := [] }) (fun a' _ => (intOf (a'.tmps.getD 6 undef)).toNat) rfl ?_ ?_
  · go_wp2
    go_quiet ((go_at_call 79; exact quiet_more (HG.out _)))
    go_wp2_with fail
    refine (HST.out _ (only_drewN (only_refl _ _) _) (hblk.grow ((Grow.refl _).drewN _))).mono ?_
    rintro e w1 ⟨out, br, rfl, hlen, hlt, hbr, hsum, hg1, hbk⟩
    have hvl : Mx.val out < Mx.B ^ (n + 2) := by have := Mx.val_lt out hlt; rwa [hlen] at this
    have hoff := Off.first hbr hsum hvl HC.out.2.2.2.1
    have htB := HC.out.2.2.2.2.1
    have hgw : w.grownBy w1 (some g) := only_trans (only_drewN (only_refl _ _) _) hg1
    generalize ((br : Int) != 0) = s at *
    clear hsum hbr hg1 hch hcl hcy HG HST hvl
    generalize t0 = t at *
    go_wp2_with fail
    go_step3
    cases s
    · have HD := Lib.hid (hoff.done HC.out.2.2.2.2.2.1)
      go_wp2_with fail
      simp only [Exit.jump]
      go_ret
      exact ⟨out, by rw [← HD.out.1]; rfl, hlen, hlt, HD.out.2, hgw, hbk⟩
    · have hbp' := HC.out.2.2.2.2.2.1
      have hov := hoff.over hbp'
      have hpos : 0 < t := Nat.lt_of_le_of_lt (Nat.zero_le _) hov
      have htw : IntKind.u64.wrap ((t : Int) - 1) = ((t - 1 : Nat) : Int) := by
        rw [IntKind.wrap_u64]; have := htB; rw [Mx.B_eq] at this; omega
      have HTW := Lib.hid htw
      have HTB := Lib.hid (show t - 1 < Mx.B by omega)
      clear htw htB hov
      go_wp2_with fail
      rw [HTW.out]
      refine (HAD.out _ out hlen hlt hgw hbk).mono ?_
      rintro e w2 ⟨out2, cr, rfl, hlen2, hlt2, hcr, hsum2, hg2, hbk2⟩
      rw [patch_patch (by omega) (by omega)] at hbk2
      have hwin := patch_window (L := L) (r := out) (o := o) (by omega)
      rw [hlen] at hwin
      rw [hwin] at hsum2
      have hvl2 : Mx.val out2 < Mx.B ^ (n + 2) := by have := Mx.val_lt out2 hlt2; rwa [hlen2] at this
      have hoff2 := hoff.next hbp' hcr hsum2 hvl2
      have hgw2 := only_trans hgw hg2
      generalize ((cr : Int) != 0) = s2 at *
      clear hsum2 hcr hg2 hvl2 hwin
      go_wp2_with fail
      go_step3
      exact ⟨rfl, t - 1, !s2, out2, HTB.out, hlen2, hlt2, hoff2, hgw2, hbk2, _, _, _, _, _, _, _, _, _, _, _, _, _, _, _, _, _, _, _, _, _, _, _, _, _, _, _, _, rfl⟩
  · rintro a' w1 ⟨t, s, out, htB, hlen, hlt, hoff, hgw, hbk, u8, u9, u10, u11, u12, u13, u14, u15, u16, u17, u18, u19, u20, u21, u22, u23, u24, u25, u26, u27, u28, u29, u30, u31, u32, u33, u34, u35, rfl⟩
    clear hch hcl hcy HG HST
    cases s
    · have HD := Lib.hid (hoff.done HC.out.2.2.2.2.2.1)
      go_wp2_with fail
      simp only [Exit.jump]
      go_ret
      exact ⟨out, by rw [← HD.out.1]; rfl, hlen, hlt, HD.out.2, hgw, hbk⟩
    · have hbp' := HC.out.2.2.2.2.2.1
      have hov := hoff.over hbp'
      have hpos : 0 < t := Nat.lt_of_le_of_lt (Nat.zero_le _) hov
      have htw : IntKind.u64.wrap ((t : Int) - 1) = ((t - 1 : Nat) : Int) := by
        rw [IntKind.wrap_u64]; have := htB; rw [Mx.B_eq] at this; omega
      have HTW := Lib.hid htw
      have HTB := Lib.hid (show t - 1 < Mx.B by omega)
      clear htw htB hov
      go_wp2_with fail
      rw [HTW.out]
      refine (HAD.out _ out hlen hlt hgw hbk).mono ?_
      rintro e w2 ⟨out2, cr, rfl, hlen2, hlt2, hcr, hsum2, hg2, hbk2⟩
      rw [patch_patch (by omega) (by omega)] at hbk2
      have hwin := patch_window (L := L) (r := out) (o := o) (by omega)
      rw [hlen] at hwin
      rw [hwin] at hsum2
      have hvl2 : Mx.val out2 < Mx.B ^ (n + 2) := by have := Mx.val_lt out2 hlt2; rwa [hlen2] at this
      have hoff2 := hoff.next hbp' hcr hsum2 hvl2
      have hgw2 := only_trans hgw hg2
      generalize ((cr : Int) != 0) = s2 at *
      clear hsum2 hcr hg2 hvl2 hwin
      go_wp2_with fail
      go_step3
      refine ⟨rfl, ⟨t - 1, !s2, out2, HTB.out, hlen2, hlt2, hoff2, hgw2, hbk2, _, _, _, _, _, _, _, _, _, _, _, _, _, _, _, _, _, _, _, _, _, _, _, _, _, _, _, _, rfl⟩, ?_⟩
      simp [intOf]
      omega
end Go.Proofs.YtckcjiojfpaikaaDoor
