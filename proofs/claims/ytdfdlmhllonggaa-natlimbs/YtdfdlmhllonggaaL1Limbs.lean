/- The law NatLimbs of layer 1. -/
import Derived.Test.YtdfdlmhllonggaaL1LimbsR
import Derived.Test.YtdfdlmhllonggaaCloneA
namespace Go.Proofs.Ytdfdlmhllonggaa
open Go.RowKit

def sliceLen : Value → Nat | .slice _ n _ => n | _ => 0

theorem wrap_inc (x : Nat) : IntKind.u64.wrap ((x : Int) + 1) = (((x + 1) % Mx.B : Nat) : Int) := by
  rw [IntKind.wrap_u64, Mx.B_eq]
  omega

/-- The last limb, less so many bits as it has but one, is 1. -/
theorem top_bit {x : Nat} (hx : x ≠ 0) : x / 2 ^ (Mx.bits x - 1) = 1 := by
  have h1 := Mx.bits_le hx
  have h2 := Mx.bits_lt x
  have h3 := Mx.bits_pos hx
  have e : 2 ^ Mx.bits x = 2 ^ (Mx.bits x - 1) * 2 := by rw [← Nat.pow_succ]; congr 1; omega
  have h4 := Nat.two_pow_pos (Mx.bits x - 1)
  rw [Nat.div_eq_iff h4]
  omega

set_option maxRecDepth 100000 in
set_option maxHeartbeats 8000000 in
theorem natLimbs_walk (w : World) (va vb : Value) (la lb : List Nat) (ha : Sl w va la) (hb : Sl w vb lb) :
    Calls Try.prog 4 #[va, vb] w (Ret w fun v' _ => v' = .bool true) := by
  go_enter Try.func4, Try.ntmps4
  go_wp2_with fail
  refine (cut_any _ _ _ ha).mono ?_
  rintro e w1 ⟨v1, rfl, h1, g1⟩
  go_wp2_with fail
  refine (cut_any _ _ _ (hb.grow g1)).mono ?_
  rintro e w2 ⟨v2, rfl, h2, g2⟩
  have ga : Sl w2 v1 (la.take 12) := h1.grow g2
  have gb : Sl w2 v2 (lb.take 12) := h2
  have hla : (la.take 12).length ≤ 12 := by rw [List.length_take]; omega
  have hlb : (lb.take 12).length ≤ 12 := by rw [List.length_take]; omega
  have gw := g1.trans g2
  clear h1 h2 g1 g2 ha hb
  generalize la.take 12 = a at *
  generalize lb.take 12 = b at *
  go_wp2_with fail
  refine (of_n 12 ga hla (by omega)).mono ?_
  rintro e w3 ⟨v3, rfl, h3, g3⟩
  go_wp2_with fail
  refine (of_n 12 (gb.grow g3) hlb (by omega)).mono ?_
  rintro e w4 ⟨v4, rfl, h4, g4⟩
  have hx := h3.grow g4
  have gw4 := gw.trans (g3.trans g4)
  have ga4 := ga.grow (g3.trans g4)
  have gb4 := gb.grow (g3.trans g4)
  clear h3 g3 g4 ga gb gw
  obtain ⟨⟨A1, c1, rfl, hk1, hl1⟩, hx2⟩ := hx
  obtain ⟨⟨A2, c2, rfl, hk2, hl2⟩, hy2⟩ := h4
  have HX := Lib.hid (fun W (g : Grow w4 W) => (⟨⟨A1, c1, rfl, hk1, hl1.grow g⟩, hx2⟩ : IsN W (.agg #[.slice A1 (Mx.len (Mx.val a)) c1]) (Mx.val a) 12))
  have HY := Lib.hid (fun W (g : Grow w4 W) => (⟨⟨A2, c2, rfl, hk2, hl2.grow g⟩, hy2⟩ : IsN W (.agg #[.slice A2 (Mx.len (Mx.val b)) c2]) (Mx.val b) 12))
  have GA := Lib.hid (fun W (g : Grow w4 W) => ga4.grow g)
  have GB := Lib.hid (fun W (g : Grow w4 W) => gb4.grow g)
  clear hk1 hl1 hk2 hl2 hy2 ga4 gb4
  go_wp2_with fail
  refine (clone_any _ _ a (by omega) (GA.out _ (((Grow.refl w4).alloc _).alloc _))).mono ?_
  rintro e w5 ⟨v5, rfl, h5, g5⟩
  obtain ⟨cx5, cy5⟩ := g5.new2
  have G5 : Grow w4 w5 := (((Grow.refl w4).alloc _).alloc _).trans g5
  obtain ⟨A, c, rfl, hc, hba, hcl⟩ := h5
  have HBA := Lib.hid hba
  clear g5 hba
  go_wp2_with fail
  go_loop [7] (fun s => ∃ k : Nat, k ≤ a.length ∧ s = .slice A k c ∧ NoughtsFrom a k) (fun s => sliceLen s)
  case atStart => exact ⟨a.length, Nat.le_refl _, rfl, fun j h1 h2 => by omega⟩
  case round =>
    obtain ⟨k, hk, rfl, hz⟩ := hrel
    by_cases hmore : 0 < k ∧ a.getD (k - 1) 0 = 0
    · obtain ⟨hpos, h0⟩ := hmore
      have hn : a ≠ [] := by intro e; subst e; simp at hk; omega
      obtain ⟨b1, o1, rfl, hbl, hcell⟩ := hcl.at hn
      have hck := hcell (k - 1) (by omega)
      rw [h0] at hck
      have HZ0 := Lib.hid h0
      clear hcell h0
      have hk1 : (0 : Int) < (k : Int) := by omega
      have hk2 : ((k : Int) - 1).toNat = k - 1 := by omega
      have hk3 : (k : Int) - 1 ≤ (c : Int) := by omega
      have hk4 : (0 : Int) ≤ (k : Int) - 1 := by omega
      go_wp2
      go_round
      case rel => exact ⟨k - 1, by omega, rfl, fun j h1 h2 => by
        rcases Nat.lt_or_ge j k with h3 | h3
        · obtain rfl : j = k - 1 := by omega
          exact HZ0.out
        · exact hz j h3 h2⟩
      case measure => simp [sliceLen]; omega
    · have hlim : k = Mx.len (Mx.val a) := (len_of_noughts HBA.out hk hz (by
        rcases Nat.eq_zero_or_pos k with h | h
        · exact .inl h
        · exact .inr fun e => hmore ⟨h, e⟩)).symm
      have hsl : Cells w5 A (Mx.limbs (Mx.val a)) := by
        rw [Mx.limbs_val_take a HBA.out]
        exact hcl.take _
      have hlc : Mx.len (Mx.val a) ≤ c := by omega
      rcases Nat.eq_zero_or_pos k with hk0 | hk0
      · have HL0 := Lib.hid (hlim.symm.trans hk0)
        subst hlim
        have hk1 : ¬ (0 : Int) < (Mx.len (Mx.val a) : Int) := by omega
        have hk1b : decide ((0 : Int) < (Mx.len (Mx.val a) : Int)) = false := by simpa using hk1
        have hk2 : (((Mx.len (Mx.val a) : Nat) : Int) == 0) = true := by simp; omega
        clear hmore hk0
        go_wp2_with fail
        refine (limbs_any _ _ _ (by omega) (HX.out _ G5).1).mono ?_
        rintro e w6 ⟨v6, rfl, h6⟩
        obtain ⟨gb6, rfl, hge6, hblk6, g6⟩ := h6
        have hgot := (Blk.sl (w := w6) (g := gb6) (l := Mx.limbs (Mx.val a)) hblk6 (Mx.limbs_lt _))
        rw [show (Mx.limbs (Mx.val a)).length = Mx.len (Mx.val a) from rfl] at hgot ⊢
        have hl6 : Sl w6 (.slice A (Mx.len (Mx.val a)) c) (Mx.limbs (Mx.val a)) := ⟨A, c, rfl, hlc, Mx.limbs_lt _, hsl.grow g6⟩
        have cx6 := g6.cells1 cx5
        go_wp2_with fail
        refine (equalU64_any _ _ _ _ _ (by show Mx.len _ ≤ _; omega) hgot hl6).mono ?_
        rintro e w7 ⟨v7, rfl, rfl, g7⟩
        simp only [BEq.rfl]
        have cx7 := g7.cells1 cx6
        go_wp2_with fail
        refine (zero_n (HX.out _ ((G5.trans g6).trans g7))).mono ?_
        rintro e w8 ⟨v8, rfl, rfl, g8⟩
        rw [show (Mx.val a == 0) = true from by rw [Mx.eq_zero_of_len HL0.out]; rfl]
        have hblk8 : Blk w8 gb6 (Mx.limbs (Mx.val a)) := (Blk.grow (show Blk w6 gb6 (Mx.limbs (Mx.val a)) from hblk6) g7).grow g8
        have g58 : Grow w5 w8 := (g6.trans g7).trans g8
        have HBK := Lib.hid hblk8
        clear hgot hl6 cx6 cx7 g6 g7 g8 hblk6 hblk8
        go_wp2_with fail
        go_loopw [54] (fun iv wr => ∃ (i : Nat) (L : List Nat), i ≤ Mx.len (Mx.val a) ∧ L.length = Mx.len (Mx.val a) ∧ iv = .int .i64 i ∧ Blk wr gb6 L ∧ Grow w5 wr) (fun iv _ => Mx.len (Mx.val a) - (intOf iv).toNat)
        case atStart => exact ⟨0, _, Nat.zero_le _, rfl, rfl, HBK.out, g58⟩
        case round =>
          obtain ⟨i, L, hi, hL, rfl, hbk, hg⟩ := hrel
          by_cases hlt : i < Mx.len (Mx.val a)
          · exact absurd hlt (by have := HL0.out; omega)
          · have cx9 := hg.cells1 cx5
            have cy9 := hg.cells1 cy5
            have G9 := G5.trans hg
            have HL9 := Lib.hid (fun W (g : Grow w5 W) => (⟨A, c, rfl, hlc, Mx.limbs_lt _, hsl.grow g⟩ : Sl W (.slice A (Mx.len (Mx.val a)) c) (Mx.limbs (Mx.val a))))
            have HBK2 := Lib.hid hbk
            have HLn := Lib.hid hL
            clear hbk hL HBK
            go_wp2_with fail
            refine (limbs_any _ _ _ (by omega) (HX.out _ G9).1).mono ?_
            rintro e w10 ⟨v10, rfl, h10⟩
            have g10 := h10.choose_spec.2.2.2
            have s10 := h10.sl (Mx.limbs_lt _)
            have cx10 := g10.cells1 cx9
            have cy10 := g10.cells1 cy9
            have G10 := G9.trans g10
            clear h10 cx9 cy9
            go_wp2_with fail
            refine (equalU64_any _ _ _ _ _ (by show Mx.len _ ≤ _; omega) s10 (HL9.out _ (hg.trans g10))).mono ?_
            rintro e w11 ⟨v11, rfl, rfl, g11⟩
            simp only [BEq.rfl]
            have cx11 := g11.cells1 cx10
            have cy11 := g11.cells1 cy10
            have G11 := G10.trans g11
            clear s10 cx10 cy10 G9 G10
            go_wp2_with fail
            refine (bits_n (HX.out _ G11) (by omega)).mono ?_
            rintro e w12 ⟨v12, rfl, rfl, g12⟩
            have cx12 := g12.cells1 cx11
            have cy12 := g12.cells1 cy11
            have G12 := G11.trans g12
            have GF := Lib.hid (gw4.trans G12)
            have k12 : Grow w5 w12 := ((hg.trans g10).trans g11).trans g12
            clear cx11 cy11 G11
            have hb0 : Mx.bits (Mx.val a) = 0 := by rw [Mx.eq_zero_of_len HL0.out]; rfl
            rw [hb0]
            clear hb0
            go_wp2_with fail
            rename_i hK
            exact Rg.region_eq (by kernel_rfl) (Rg.limbs_region a b rfl rfl cx12 (HX.out _ G12) rfl cy12 (HY.out _ G12) (GA.out _ G12) (GB.out _ G12) hla hlb fun a' w' hg ha h4 => hK a' w' (Rg.ret_slot (t := 4) Try.results4 ha.1 h4 (Ret.mk rfl (GF.out.trans hg))))
      · have hxl0 : a.getD (k - 1) 0 ≠ 0 := fun e => hmore ⟨hk0, e⟩
        subst hlim
        have hnz : Mx.val a ≠ 0 := by intro e; rw [e] at hk0; exact absurd hk0 (by simp [Mx.len_zero])
        have HNZ := Lib.hid hnz
        have hk1 : (0 : Int) < (Mx.len (Mx.val a) : Int) := by omega
        have hk2 : (((Mx.len (Mx.val a) : Nat) : Int) == 0) = false := by simp; omega
        have hk3 : ((Mx.len (Mx.val a) : Int) - 1).toNat = Mx.len (Mx.val a) - 1 := by omega
        obtain ⟨b1, o1, rfl, hbl, hcell⟩ := hcl.at (by intro e; subst e; simp at hk; omega)
        have hck := hcell (Mx.len (Mx.val a) - 1) (by omega)
        generalize hxle : a.getD (Mx.len (Mx.val a) - 1) 0 = xl at hck hxl0
        have HXL := Lib.hid hxle
        have hxl1 : ((xl : Int) == 0) = false := by simp; omega
        clear hcell hxle hmore hnz hxl0
        go_wp2_with fail
        refine (limbs_any _ _ _ (by omega) (HX.out _ G5).1).mono ?_
        rintro e w6 ⟨v6, rfl, h6⟩
        obtain ⟨gb6, rfl, hge6, hblk6, g6⟩ := h6
        have hgot := (Blk.sl (w := w6) (g := gb6) (l := Mx.limbs (Mx.val a)) hblk6 (Mx.limbs_lt _))
        rw [show (Mx.limbs (Mx.val a)).length = Mx.len (Mx.val a) from rfl] at hgot ⊢
        have hl6 : Sl w6 (.slice (some ⟨b1, o1, none⟩) (Mx.len (Mx.val a)) c) (Mx.limbs (Mx.val a)) := ⟨some ⟨b1, o1, none⟩, c, rfl, hlc, Mx.limbs_lt _, hsl.grow g6⟩
        have cx6 := g6.cells1 cx5
        go_wp2_with fail
        refine (equalU64_any _ _ _ _ _ (by show Mx.len _ ≤ _; omega) hgot hl6).mono ?_
        rintro e w7 ⟨v7, rfl, rfl, g7⟩
        simp only [BEq.rfl]
        have cx7 := g7.cells1 cx6
        go_wp2_with fail
        refine (zero_n (HX.out _ ((G5.trans g6).trans g7))).mono ?_
        rintro e w8 ⟨v8, rfl, rfl, g8⟩
        rw [show (Mx.val a == 0) = false from by simpa using HNZ.out]
        have hblk8 : Blk w8 gb6 (Mx.limbs (Mx.val a)) := (Blk.grow (show Blk w6 gb6 (Mx.limbs (Mx.val a)) from hblk6) g7).grow g8
        have g58 : Grow w5 w8 := (g6.trans g7).trans g8
        have HBK := Lib.hid hblk8
        clear hgot hl6 cx6 cx7 g6 g7 g8 hblk6 hblk8
        go_wp2_with fail
        go_loopw [54] (fun iv wr => ∃ (i : Nat) (L : List Nat), i ≤ Mx.len (Mx.val a) ∧ L.length = Mx.len (Mx.val a) ∧ iv = .int .i64 i ∧ Blk wr gb6 L ∧ Grow w5 wr) (fun iv _ => Mx.len (Mx.val a) - (intOf iv).toNat)
        case atStart => exact ⟨0, _, Nat.zero_le _, rfl, rfl, HBK.out, g58⟩
        case round =>
          obtain ⟨i, L, hi, hL, rfl, hbk, hg⟩ := hrel
          by_cases hlt : i < Mx.len (Mx.val a)
          · have hcell := hbk.cell (i := i) (by omega)
            have hfz := hbk.frozen i
            have hinc := wrap_inc (L.getD i 0)
            have hset := hbk.set i ((L.getD i 0 + 1) % Mx.B)
            generalize (L.getD i 0 + 1) % Mx.B = nx at *
            generalize L.getD i 0 = ox at *
            have HS := Lib.hid hset
            have HLn := Lib.hid hL
            have hi1 : (i : Int) < (Mx.len (Mx.val a) : Int) := by omega
            clear hset hL hbk
            go_wp2
            go_roundw
            case rel => exact ⟨i + 1, L.set i nx, by omega, by rw [List.length_set]; exact HLn.out, by go_num, HS.out, hg.setCell hge6 _⟩
            case measure => simp [intOf]; omega
          · have cx9 := hg.cells1 cx5
            have cy9 := hg.cells1 cy5
            have G9 := G5.trans hg
            have HL9 := Lib.hid (fun W (g : Grow w5 W) => (⟨some ⟨b1, o1, none⟩, c, rfl, hlc, Mx.limbs_lt _, hsl.grow g⟩ : Sl W (.slice (some ⟨b1, o1, none⟩) (Mx.len (Mx.val a)) c) (Mx.limbs (Mx.val a))))
            have HBK2 := Lib.hid hbk
            have HLn := Lib.hid hL
            clear hbk hL HBK
            go_wp2_with fail
            refine (limbs_any _ _ _ (by omega) (HX.out _ G9).1).mono ?_
            rintro e w10 ⟨v10, rfl, h10⟩
            have g10 := h10.choose_spec.2.2.2
            have s10 := h10.sl (Mx.limbs_lt _)
            have cx10 := g10.cells1 cx9
            have cy10 := g10.cells1 cy9
            have G10 := G9.trans g10
            clear h10 cx9 cy9
            go_wp2_with fail
            refine (equalU64_any _ _ _ _ _ (by show Mx.len _ ≤ _; omega) s10 (HL9.out _ (hg.trans g10))).mono ?_
            rintro e w11 ⟨v11, rfl, rfl, g11⟩
            simp only [BEq.rfl]
            have cx11 := g11.cells1 cx10
            have cy11 := g11.cells1 cy10
            have G11 := G10.trans g11
            clear s10 cx10 cy10 G9 G10
            go_wp2_with fail
            refine (bits_n (HX.out _ G11) (by omega)).mono ?_
            rintro e w12 ⟨v12, rfl, rfl, g12⟩
            have cx12 := g12.cells1 cx11
            have cy12 := g12.cells1 cy11
            have G12 := G11.trans g12
            have GF := Lib.hid (gw4.trans G12)
            have k12 : Grow w5 w12 := ((hg.trans g10).trans g11).trans g12
            clear cx11 cy11 G11
            have cl12 := (k12.cell (p := ⟨b1, o1 + (Mx.len (Mx.val a) - 1), none⟩) hbl).trans hck
            have hbl2 := Mx.bits_limbs HNZ.out
            have hxl : (Mx.limbs (Mx.val a)).getD (Mx.len (Mx.val a) - 1) 0 = a.getD (Mx.len (Mx.val a) - 1) 0 := by
              rw [Mx.limbs_val_take a HBA.out, List.getD_eq_getElem?_getD, List.getD_eq_getElem?_getD, List.getElem?_take, if_pos (by omega)]
            rw [hxl, HXL.out] at hbl2
            obtain ⟨hbv, hxn⟩ := hbl2
            have hb1 := Mx.bits_pos hxn
            have hb2 : Mx.bits xl ≤ 64 := Mx.bits_le_of_lt (by have := Mx.getD_lt a HBA.out (Mx.len (Mx.val a) - 1); rw [HXL.out, Mx.B_eq] at this; omega)
            have htb := top_bit hxn
            generalize Mx.bits xl = bl at *
            generalize Mx.bits (Mx.val a) = bt at *
            have t1 : decide ((bt : Int) ≤ 64 * ((Mx.len (Mx.val a) : Int) - 1)) = false := by simp; omega
            have t2 : decide (64 * (Mx.len (Mx.val a) : Int) < (bt : Int)) = false := by simp; omega
            have t3 : ((bt : Int) - 1) % 64 = ((bl - 1 : Nat) : Int) := by omega
            have t4 : 0 < bt := by omega
            generalize bl - 1 = sh at *
            have t5 : (64 * (Mx.len (Mx.val a) - 1) + bl - 1) % 64 = sh := by omega
            have t6 : (xl : Int) / 2 ^ sh = 1 := by exact_mod_cast htb
            have HT := Lib.hid t6
            clear t6
            go_wp2_with fail
            rename_i hK
            exact Rg.region_eq (by kernel_rfl) (Rg.limbs_region a b rfl rfl cx12 (HX.out _ G12) rfl cy12 (HY.out _ G12) (GA.out _ G12) (GB.out _ G12) hla hlb fun a' w' hg ha h4 => hK a' w' (Rg.ret_slot (t := 4) Try.results4 ha.1 h4 (Ret.mk rfl (GF.out.trans hg))))
end Go.Proofs.Ytdfdlmhllonggaa
