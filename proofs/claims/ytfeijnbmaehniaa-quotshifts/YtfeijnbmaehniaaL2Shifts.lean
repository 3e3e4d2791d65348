/- The law QuotShifts of layer 2. -/
import Derived.Test.YtfeijnbmaehniaaL2ShiftsR
import Derived.Deep.CutRange
namespace Go.Proofs.Ytfeijnbmaehniaa
open Go.RowKit

theorem bits_shl {x : Nat} (h : x ≠ 0) (k : Nat) : Mx.bits (x * 2 ^ k) = Mx.bits x + k := by
  have h1 := Mx.bits_lt x
  have h2 := Mx.bits_le h
  have h3 := Mx.bits_pos h
  have e1 : 2 ^ (Mx.bits x - 1) * 2 ^ k ≤ x * 2 ^ k := Nat.mul_le_mul_right _ h2
  have e2 : x * 2 ^ k < 2 ^ Mx.bits x * 2 ^ k := Nat.mul_lt_mul_of_pos_right h1 (Mx.pow2_pos _)
  rw [← Nat.pow_add] at e1 e2
  have := Mx.bits_unique (n := x * 2 ^ k) (k := Mx.bits x - 1 + k) e1 (by rw [show Mx.bits x - 1 + k + 1 = Mx.bits x + k by omega]; exact e2)
  omega
theorem shr_none {x k : Nat} (h : Mx.bits x ≤ k) : x / 2 ^ k = 0 := Nat.div_eq_of_lt (Nat.lt_of_lt_of_le (Mx.bits_lt x) (Nat.pow_le_pow_right (by omega) h))

/-- The first region's test, whatever x. -/
theorem shifts14 {Q : Exit → Act → World → Prop} {a0 : Act} {w0 : World} (x k : Nat) (hn : a0.tmps.size = 133) (hbx : Mx.bits x ≤ 640) (hk : k ≤ 262144)
    {b5 b8 b10 b12 : Addr} {A5 A8 A10 A12 : Option Addr} {L5 C5 L8 C8 L10 C10 L12 C12 : Nat} (p5 : a0.tmps.getD 5 undef = .pointer (some b5)) (c5 : w0.cell? b5 = some (.slice A5 L5 C5)) (n5 : IsN w0 (.agg #[.slice A5 L5 C5]) x 10)
    (p8 : a0.tmps.getD 8 undef = .pointer (some b8)) (c8 : w0.cell? b8 = some (.slice A8 L8 C8)) (n8 : IsN w0 (.agg #[.slice A8 L8 C8]) (x * 2 ^ k) 8192)
    (p10 : a0.tmps.getD 10 undef = .pointer (some b10)) (c10 : w0.cell? b10 = some (.slice A10 L10 C10)) (n10 : IsN w0 (.agg #[.slice A10 L10 C10]) (x / 2 ^ k) 10)
    (p12 : a0.tmps.getD 12 undef = .pointer (some b12)) (c12 : w0.cell? b12 = some (.slice A12 L12 C12)) (n12 : IsN w0 (.agg #[.slice A12 L12 C12]) (x * 2 ^ k / 2 ^ k) 8192)
    (e7 : a0.tmps.getD 7 undef = .int .i64 ((k : Nat) : Int))
    (fin : ∀ a w, Grow w0 w → Rg.Agree (Rg.regionOps Try.f5 14) a0 a → a.tmps.getD 106 undef = .bool false → Q .normal a w) :
    (Code.region 14 (Rg.regionOps Try.f5 14) true).wp Try.prog Q a0 w0 := by
  by_cases hx : x = 0
  · exact Rg.shifts14Z_region x k hn p5 c5 n5 p10 c10 n10 p12 c12 n12 e7 hx fin
  · by_cases hge : Mx.bits x ≤ k
    · exact Rg.shifts14A_region x k hn p5 c5 n5 p8 c8 n8 p10 c10 n10 p12 c12 n12 e7 hx hbx hk (bits_shl hx k) hge (shr_none hge) fin
    · exact Rg.shifts14B_region x k hn p5 c5 n5 p8 c8 n8 p12 c12 n12 e7 hx hbx (bits_shl hx k) (by omega) fin

set_option maxRecDepth 100000 in
set_option maxHeartbeats 8000000 in
theorem quotShifts_walk (w : World) (va : Value) (la : List Nat) (n : Int) (hn : -9223372036854775808 ≤ n ∧ n ≤ 9223372036854775807) (ha : Sl w va la) :
    Calls Try.prog 5 #[va, .int .i64 n] w (Ret w fun v' _ => v' = .bool true) := by
  go_enter Try.func5, Try.ntmps5
  go_wp2_with fail
  refine (cut2_any _ _ _ ha).mono ?_
  rintro e w1 ⟨v1, rfl, h1, g1⟩
  go_wp2_with fail
  refine (of_n 10 h1 (by rw [List.length_take]; omega) (by omega)).mono ?_
  rintro e w2 ⟨v2, rfl, h2, g2⟩
  have gw2 : Grow w w2 := g1.trans g2
  have hl10 : (la.take 10).length ≤ 10 := by rw [List.length_take]; omega
  have HA := Lib.hid (fun W (g : Grow w W) => ha.grow g)
  clear h1 g1 g2 ha
  generalize hlx : la.take 10 = lx at *
  have HLX := Lib.hid hlx
  clear hlx
  obtain ⟨A2, l2, c2, rfl⟩ := h2.cell
  have hbx : Mx.bits (Mx.val lx) ≤ 640 := by have := Mx.bits_len (Mx.val lx); have := h2.2; omega
  obtain ⟨k2, hk2, hk2b⟩ : ∃ k2 : Nat, (max 0 n).tmod 300 = (k2 : Int) ∧ k2 < 300 := by
    refine ⟨((max 0 n).tmod 300).toNat, ?_, ?_⟩
    · have : (max 0 n).tmod 300 = (max 0 n) % 300 := Int.tmod_eq_emod_of_nonneg (by omega)
      omega
    · have : (max 0 n).tmod 300 = (max 0 n) % 300 := Int.tmod_eq_emod_of_nonneg (by omega)
      omega
  have H2 := Lib.hid h2
  have GW2 := Lib.hid gw2
  clear h2 gw2
  go_wp2_with fail
  have hX3 := (VarN.new H2.out (Grow.refl _)).grow ((Grow.refl _).alloc (Obj.cells #[Value.int IntKind.i64 n, Value.int IntKind.i64 (k2 : Int)] 3))
  have hc0 : ((w2.alloc (Obj.cells #[Value.slice A2 l2 c2] 24)).alloc (Obj.cells #[Value.int IntKind.i64 n, Value.int IntKind.i64 (k2 : Int)] 3)).cell? ⟨w2.heap.size + 1, 0, none⟩ = some (.int .i64 n) := by simp [go_sem]
  have hc1 : ((w2.alloc (Obj.cells #[Value.slice A2 l2 c2] 24)).alloc (Obj.cells #[Value.int IntKind.i64 n, Value.int IntKind.i64 (k2 : Int)] 3)).cell? ⟨w2.heap.size + 1, 1, none⟩ = some (.int .i64 (k2 : Int)) := by simp [go_sem]
  have GW3 := Lib.hid (GW2.out.trans (((Grow.refl w2).alloc (Obj.cells #[Value.slice A2 l2 c2] 24)).alloc (Obj.cells #[Value.int IntKind.i64 n, Value.int IntKind.i64 (k2 : Int)] 3)))
  generalize (w2.alloc (Obj.cells #[Value.slice A2 l2 c2] 24)).alloc (Obj.cells #[Value.int IntKind.i64 n, Value.int IntKind.i64 (k2 : Int)] 3) = w3 at *
  have HC := Lib.hid (And.intro hc0 hc1)
  have VX := Lib.hid hX3
  generalize hmx : Mx.val lx = x at *
  have HMX := Lib.hid hmx
  clear hc0 hc1 hX3 H2 GW2 hmx
  go_loopw [26] (fun iv wr => ∃ i : Nat, i ≤ 2 ∧ iv = .int .i64 (i : Int) ∧ Grow w3 wr) (fun iv _ => 2 - (intOf iv).toNat)
  case atStart => exact ⟨0, by omega, rfl, Grow.refl _⟩
  case round =>
    obtain ⟨i, hi, rfl, hg⟩ := hrel
    by_cases hi2 : i < 2
    · obtain ⟨kk, hck, hkb1, hkb2⟩ : ∃ kk : Int, wr.cell? ⟨w2.heap.size + 1, i, none⟩ = some (.int .i64 kk) ∧ -9223372036854775808 ≤ kk ∧ kk ≤ 9223372036854775807 := by
        rcases Nat.lt_or_ge i 1 with h | h
        · obtain rfl : i = 0 := by omega
          exact ⟨n, hg.cells1 HC.out.1, hn.1, hn.2⟩
        · obtain rfl : i = 1 := by omega
          exact ⟨k2, hg.cells1 HC.out.2, by omega, by omega⟩
      have hi3 : (i : Int) < 2 := by omega
      obtain ⟨AX, lX, cX, hX, nX⟩ := VX.out.grow hg
      have NX := Lib.hid nX
      clear nX
      by_cases hbad : kk < 0 ∨ 262144 < kk
      · have HBD := Lib.hid hbad
        have hsp := bad_split hbad
        clear hbad
        go_wp2_with fail
        refine (shl_bad _ _ x kk HBD.out NX.out.1).mono ?_
        rintro e w4 ⟨v4, rfl, ⟨u4, rfl, h4⟩, g4⟩
        have h4 : IsN w4 u4 0 0 := ⟨h4, Nat.le_refl _⟩
        obtain ⟨A4, l4, c4, rfl⟩ := h4.cell
        have V4 := VarN.new h4 (Grow.refl _)
        have g34 := g4.trans ((Grow.refl w4).alloc (Obj.cells #[Value.slice A4 l4 c4] 24))
        clear hX
        obtain ⟨AX2, lX2, cX2, hX, nX⟩ := (VX.out.grow hg).grow g34
        have NX2 := Lib.hid nX
        have HV4 := Lib.hid V4
        have HG4 := Lib.hid (hg.trans g34)
        clear nX V4 g34 g4 h4 NX hck
        go_wp2_with fail
        refine (shr_bad _ _ x kk HBD.out NX2.out.1).mono ?_
        rintro e w5 ⟨v5, rfl, ⟨u5, rfl, h5⟩, g5⟩
        have h5 : IsN w5 u5 0 0 := ⟨h5, Nat.le_refl _⟩
        obtain ⟨A5, l5, c5, rfl⟩ := h5.cell
        have V5 := VarN.new h5 (Grow.refl _)
        have g45 := g5.trans ((Grow.refl w5).alloc (Obj.cells #[Value.slice A5 l5 c5] 24))
        obtain ⟨A8, l8, c8, h8, n8⟩ := HV4.out.grow g45
        have N8 := Lib.hid n8
        have HV5 := Lib.hid V5
        have HG5 := Lib.hid (HG4.out.trans g45)
        clear n8 V5 g45 g5 h5 hX HV4 HG4 NX2
        rcases hsp with e1 | ⟨e1, e2⟩
        all_goals
          go_wp2_with fail
          refine (zero_n N8.out).mono ?_
          simp only [BEq.rfl]
          rintro e w6 ⟨v6, rfl, rfl, g6⟩
          obtain ⟨A10, l10, c10, h10, n10⟩ := HV5.out.grow g6
          have N10 := Lib.hid n10
          have HG6 := Lib.hid (HG5.out.trans g6)
          clear n10 g6 h8
          go_wp2_with fail
          refine (zero_n N10.out).mono ?_
          simp only [BEq.rfl]
          rintro e w7 ⟨v7, rfl, rfl, g7⟩
          have HG7 := Lib.hid (HG6.out.trans g7)
          clear g7 h10
          go_wp2_with fail
          go_roundw
          case rel => exact ⟨i + 1, by omega, by go_num, HG7.out⟩
          case measure => simp [intOf]; omega
      · obtain ⟨k, rfl⟩ : ∃ k : Nat, kk = (k : Int) := ⟨kk.toNat, by omega⟩
        have hk : k ≤ 262144 := by omega
        have e1 : decide ((k : Int) < 0) = false := decide_eq_false (by omega)
        have e2 : decide ((262144 : Int) < (k : Int)) = false := decide_eq_false (by omega)
        clear hbad hkb1 hkb2
        go_wp2_with fail
        refine (shl_n (s := k) NX.out (by omega) hk).mono ?_
        rintro e w4 ⟨v4, rfl, ⟨u4, rfl, h4⟩, g4⟩
        have h4 := h4.weak (j := 8192) (by omega)
        obtain ⟨A4, l4, c4, rfl⟩ := h4.cell
        have V4 := VarN.new h4 (Grow.refl _)
        have g34 := g4.trans ((Grow.refl w4).alloc (Obj.cells #[Value.slice A4 l4 c4] 24))
        clear hX
        obtain ⟨AX2, lX2, cX2, hX, nX⟩ := (VX.out.grow hg).grow g34
        have NX2 := Lib.hid nX
        have HV4 := Lib.hid V4
        have HG4 := Lib.hid (hg.trans g34)
        clear nX V4 g34 g4 h4 NX hck
        go_wp2_with fail
        refine (shr_n (s := k) NX2.out (by omega) hk).mono ?_
        rintro e w5 ⟨v5, rfl, ⟨u5, rfl, h5⟩, g5⟩
        obtain ⟨A5, l5, c5, rfl⟩ := h5.cell
        have V5 := VarN.new h5 (Grow.refl _)
        have g45 := g5.trans ((Grow.refl w5).alloc (Obj.cells #[Value.slice A5 l5 c5] 24))
        have HV4 := Lib.hid (HV4.out.grow g45)
        have HV5 := Lib.hid V5
        have HG5 := Lib.hid (HG4.out.trans g45)
        clear V5 g45 g5 h5 hX HG4 NX2
        by_cases h300 : 300 < k
        · have e3 : decide ((300 : Int) < (k : Int)) = true := decide_eq_true (by omega)
          obtain ⟨A8, l8, c8, h8, n8⟩ := HV4.out
          have N8 := Lib.hid n8
          clear n8
          go_wp2_with fail
          refine (shr_n (s := k) N8.out (by omega) hk).mono ?_
          rintro e w6 ⟨v6, rfl, ⟨u6, rfl, h6⟩, g6⟩
          obtain ⟨A6, l6, c6, rfl⟩ := h6.cell
          have V6 := VarN.new h6 (Grow.refl _)
          have g56 := g6.trans ((Grow.refl w6).alloc (Obj.cells #[Value.slice A6 l6 c6] 24))
          clear h8
          obtain ⟨A12, l12, c12, h12, n12⟩ := V6
          obtain ⟨A8', l8', c8', h8, n8⟩ := HV4.out.grow g56
          obtain ⟨A10, l10, c10, h10, n10⟩ := HV5.out.grow g56
          obtain ⟨AX3, lX3, cX3, hX, nX⟩ := VX.out.grow (HG5.out.trans g56)
          have HN := Lib.hid (And.intro nX (And.intro n8 (And.intro n10 n12)))
          have HH := Lib.hid (And.intro hX (And.intro h8 (And.intro h10 h12)))
          have HG6 := Lib.hid (HG5.out.trans g56)
          clear nX n8 n10 n12 hX h8 h10 h12 g56 g6 h6 HV4 HV5 HG5 N8
          go_wp2_with fail
          go_cut [106] from 27 to 131 (fun v W => v = .bool false ∧ Grow w3 W)
          case first =>
            obtain ⟨nX, n8, n10, n12⟩ := HN.out
            obtain ⟨hX, h8, h10, h12⟩ := HH.out
            refine Rg.region_eq (by kernel_rfl) (shifts14 x k rfl hbx hk rfl hX nX rfl h8 n8 rfl h10 n10 rfl h12 n12 rfl ?_)
            intro a w' hg7 ha7 h106
            rw [Rg.frame_of ha7 [78, 79, 80, 81, 82, 83, 84, 85, 86, 87, 88, 89, 90, 91, 92, 93, 94, 95, 96, 97, 98, 99, 100, 101, 102, 103, 104, 105, 106] (by kernel_rfl)]
            have hv : Rg.vals a 106 = .bool false := h106
            have HG7 := Lib.hid (HG6.out.trans hg7)
            clear hX h8 h10 h12 nX n8 n10 n12 HN HH hg7 ha7 h106 HG6
            simp only [Rg.puts, Act.put, List.setIfInBounds_toArray, List.set_cons_succ, List.set_cons_zero]
            rw [hv]
            go_wp2_with fail
            go_meet
            exact ⟨rfl, HG7.out⟩
          case rest =>
            obtain ⟨rfl, g7⟩ := hcut
            clear HN HH HG6
            go_wp2_with fail
            go_roundw
            case rel => exact ⟨i + 1, by omega, by go_num, g7⟩
            case measure => simp [intOf]; omega
        · have e3 : decide ((300 : Int) < (k : Int)) = false := decide_eq_false (by omega)
          go_wp2_with fail
          refine (refPower_any _ k (by omega)).mono ?_
          rintro e w6 ⟨v6, rfl, h6, g6⟩
          have HG6 := Lib.hid (HG5.out.trans g6)
          go_wp2_with fail
          refine (cut2_any _ _ _ (HA.out _ (GW3.out.trans HG6.out))).mono ?_
          rintro e w7 ⟨v7, rfl, h7, g7⟩
          rw [HLX.out] at h7
          go_wp2_with fail
          refine (refOf_any _ _ lx (by omega) h7).mono ?_
          rintro e w8 ⟨v8, rfl, h8, g8⟩
          rw [HMX.out] at h8
          have h8 := h8.more (k' := 80) (by omega)
          have h6 := h6.grow (g7.trans g8)
          have H68 := Lib.hid (And.intro h6 h8)
          have HG8 := Lib.hid (HG6.out.trans (g7.trans g8))
          have HV4 := Lib.hid (HV4.out.grow (g6.trans (g7.trans g8)))
          have HV5 := Lib.hid (HV5.out.grow (g6.trans (g7.trans g8)))
          clear h6 h7 h8 g6 g7 g8 HG6 HG5
          go_wp2_with fail
          refine (refDivMod_any _ _ _ x (2 ^ k) 80 40 (by omega) (by omega) H68.out.2 H68.out.1 (Mx.pow2_pos _)).mono ?_
          rintro e w9 ⟨v9, rfl, ⟨p, s, rfl, hp, hs⟩, g9⟩
          have HP := Lib.hid (And.intro (H68.out.1.grow g9) hp)
          have HG9 := Lib.hid (HG8.out.trans g9)
          obtain ⟨A8', l8', c8', h8, n8⟩ := HV4.out.grow g9
          obtain ⟨A10, l10, c10, h10, n10⟩ := HV5.out.grow g9
          have HN := Lib.hid (And.intro n8 n10)
          have HH := Lib.hid (And.intro h8 h10)
          clear n8 n10 h8 h10 g9 hp hs H68 HG8 HV4 HV5
          go_wp2_with fail
          go_cut [130] from 27 to 131 (fun v W => v = .bool false ∧ Grow w3 W)
          case first =>
            obtain ⟨n8, n10⟩ := HN.out
            obtain ⟨h8, h10⟩ := HH.out
            obtain ⟨d14, d15⟩ := HP.out
            rw [← HMX.out] at n8 n10 d15
            refine Rg.region_eq (by kernel_rfl) (Rg.shifts18_region la lx k rfl rfl h8 n8 rfl h10 n10 (HA.out _ (GW3.out.trans HG9.out)) d14 d15 HLX.out hl10 ?_)
            intro a w' hg7 ha7 h130
            rw [Rg.frame_of ha7 [117, 118, 119, 120, 121, 122, 123, 124, 125, 126, 127, 128, 129, 130] (by kernel_rfl)]
            have hv : Rg.vals a 130 = .bool false := h130
            have HG7 := Lib.hid (HG9.out.trans hg7)
            clear h8 h10 n8 n10 d14 d15 HN HH HP hg7 ha7 h130 HG9
            simp only [Rg.puts, Act.put, List.setIfInBounds_toArray, List.set_cons_succ, List.set_cons_zero]
            rw [hv]
            go_wp2_with fail
            go_meet
            exact ⟨rfl, HG7.out⟩
          case rest =>
            obtain ⟨rfl, g7⟩ := hcut
            clear HN HH HP HG9
            go_wp2_with fail
            go_roundw
            case rel => exact ⟨i + 1, by omega, by go_num, g7⟩
            case measure => simp [intOf]; omega
    · obtain rfl : i = 2 := by omega
      go_wp2_with fail
      refine (wakes2_any _).mono ?_
      rintro e w4 ⟨v4, rfl, rfl, g4⟩
      have HG4 := Lib.hid (GW3.out.trans (hg.trans g4))
      clear g4 hg
      go_wp2_with fail
      go_ret
      exact Ret.mk rfl HG4.out
end Go.Proofs.Ytfeijnbmaehniaa
