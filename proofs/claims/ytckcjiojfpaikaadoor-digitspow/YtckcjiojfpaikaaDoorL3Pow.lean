/- The law DigitsPow of layer 3. -/
import Derived.Test.YtckcjiojfpaikaaDoorL3PowR
import Derived.Test.YtckcjiojfpaikaaDoorL3Rep
import Derived.Deep.CutRange
namespace Go.Proofs.YtckcjiojfpaikaaDoor
open Go.RowKit
set_option maxRecDepth 20000

/-- The text of a power of ten. -/
theorem rd_noughts (k : Nat) : Tx.rd (List.replicate k 48) = 0 := by
  rw [← Tx.dgt_zero, Tx.rd_dgt, Nat.zero_mod]
theorem text_ten (k : Nat) : Tx.text (10 ^ k) = 49 :: List.replicate k 48 := by
  have hr : Tx.rd (49 :: List.replicate k 48) = 10 ^ k := by
    have e := Tx.rd_append [49] (List.replicate k 48)
    rw [rd_noughts, List.length_replicate] at e
    have e1 : Tx.rd [49] = 1 := by decide
    rw [e1, Nat.one_mul, Nat.add_zero] at e
    exact e
  rw [← hr]
  refine Tx.text_rd ⟨fun b hb => ?_, .inr ⟨List.cons_ne_nil _ _, by simp⟩⟩
  rcases List.mem_cons.1 hb with h | h
  · rw [h]; exact ⟨by decide, by decide⟩
  · rw [(List.mem_replicate.1 h).2]; exact ⟨by decide, by decide⟩
theorem str_ten (k : Nat) : (⟨#[49]⟩ : ByteArray) ++ str (List.replicate k 48) = str (Tx.text (10 ^ k)) := by
  rw [text_ten]
  apply ByteArray.ext
  simp [str]
theorem pow_bits3 {n k : Nat} (hn : Mx.len n ≤ 3) (hk : k ≤ 1200) : Mx.bits n * k ≤ 230400 := by
  have h1 : Mx.bits n ≤ 192 := Nat.le_trans (Mx.bits_len n) (by omega)
  have h2 : Mx.bits n * k ≤ 192 * 1200 := Nat.mul_le_mul h1 hk
  omega
/-- What Pow answers here. -/
theorem pow_neg (w : World) (v : Value) (n : Nat) (t : Int) (h : IsN w v n 3) (ht : t < 0) : Calls Tryd.prog 20 #[v, .int .i64 t] w (Ret w fun v w' => IsNE w' v 0 4097 2) := by
  have := pow_any w v n 3 t h (by omega)
  rw [(powE_neg ht).1, (powE_neg ht).2] at this
  exact this
theorem pow_many (w : World) (v : Value) (n : Nat) (t : Int) (h : IsN w v n 3) (ht : 1200 < t) : Calls Tryd.prog 20 #[v, .int .i64 t] w (Ret w fun v w' => IsNE w' v 0 4097 6) := by
  have := pow_any w v n 3 t h (by omega)
  have e := powE_many (n := n) (t := t) (by omega) (.inl ht)
  rw [e.1, e.2] at this
  exact this
theorem pow_fine (w : World) (v : Value) (n k : Nat) (h : IsN w v n 3) (hk : k ≤ 1200) : Calls Tryd.prog 20 #[v, .int .i64 (k : Int)] w (Ret w fun v w' => IsNE w' v (n ^ k) 4097 0) := by
  have hb := pow_bits3 h.2 hk
  have h3 : (Mx.bits n : Int) * (k : Int) = ((Mx.bits n * k : Nat) : Int) := (Int.natCast_mul _ _).symm
  have he := powE_ok (n := n) (k := k) (by omega) (by omega)
  have := pow_any w v n 3 (k : Int) h (by omega)
  rw [he.1, he.2] at this
  exact this
theorem ten_neg (w : World) (t : Int) (ht : t < 0) : Calls Tryd.prog 21 #[.int .i64 t] w (Ret w fun v w' => IsNE w' v 0 4097 2) := by
  have e1 : tenE t = 2 := by unfold tenE; rw [if_pos ht]
  have e2 : tenN t = 0 := by unfold tenN; rw [if_neg (by omega)]
  have := ten_any w t
  rw [e1, e2] at this
  exact this
theorem ten_many (w : World) (t : Int) (ht : 4096 < t) : Calls Tryd.prog 21 #[.int .i64 t] w (Ret w fun v w' => IsNE w' v 0 4097 6) := by
  have e1 : tenE t = 6 := by unfold tenE; rw [if_neg (by omega), if_pos ht]
  have e2 : tenN t = 0 := by unfold tenN; rw [if_neg (by omega)]
  have := ten_any w t
  rw [e1, e2] at this
  exact this
theorem ten_fine (w : World) (k : Nat) (hk : k ≤ 4096) : Calls Tryd.prog 21 #[.int .i64 (k : Int)] w (Ret w fun v w' => IsNE w' v (10 ^ k) 4097 0) := by
  have e1 : tenE (k : Int) = 0 := by unfold tenE; rw [if_neg (by omega), if_neg (by omega)]
  have e2 : tenN (k : Int) = 10 ^ k := by unfold tenN; rw [if_pos (by omega)]; rfl
  have := ten_any w (k : Int)
  rw [e1, e2] at this
  exact this

set_option maxHeartbeats 8000000 in
theorem digitsPow_walk (w : World) (v : Value) (l : List Nat) (n : Int) (hn : -9223372036854775808 ≤ n ∧ n ≤ 9223372036854775807) (h : Sl w v l) :
    Calls Tryd.prog 5 #[v, .int .i64 n] w (Ret w fun v' _ => v' = .bool true) := by
  obtain ⟨A, c, rfl, hc, hlb, hcl⟩ := h
  have hlen : (min ((l.length : Nat) : Int) 3).toNat = (l.take 3).length := by rw [List.length_take]; omega
  have HSL : Hid (∀ W, Grow w W → Sl W (.slice A (min 3 l.length) c) (l.take 3)) := Lib.hid fun W g => ⟨A, c, by rw [List.length_take], by rw [List.length_take]; omega, fun x hx => hlb x (List.mem_of_mem_take hx), (hcl.take 3).grow g⟩
  have HLT : Hid ((l.take 3).length ≤ 3) := Lib.hid (by rw [List.length_take]; omega)
  clear hlb hcl
  obtain ⟨k2, hk2, hk2b⟩ : ∃ k2 : Nat, (max 0 n).tmod 30 = (k2 : Int) ∧ k2 < 30 := by
    have : (max 0 n).tmod 30 = (max 0 n) % 30 := Int.tmod_eq_emod_of_nonneg (by omega)
    refine ⟨((max 0 n).tmod 30).toNat, ?_, ?_⟩
    · omega
    · omega
  go_enter Tryd.func5, Tryd.ntmps5
  go_wp2_with fail
  refine (of_n 3 (HSL.out _ (Grow.refl w)) HLT.out (by omega)).mono ?_
  rintro e w1 ⟨v1, rfl, h1, g1⟩
  obtain ⟨x, hx⟩ : ∃ x, Mx.val (l.take 3) = x := ⟨_, rfl⟩
  rw [hx] at h1
  have HX := Lib.hid hx
  clear hx
  obtain ⟨A1, l1, c1, rfl⟩ := h1.cell
  have H1 := Lib.hid h1
  have G1 := Lib.hid g1
  clear h1 g1 hlen
  go_wp2_with fail
  have VX := Lib.hid ((VarN.new H1.out (Grow.refl _)).grow ((Grow.refl _).alloc (Obj.cells #[Value.int IntKind.i64 n, Value.int IntKind.i64 (k2 : Int)] 3)))
  have hc0 : ((w1.alloc (Obj.cells #[Value.slice A1 l1 c1] 24)).alloc (Obj.cells #[Value.int IntKind.i64 n, Value.int IntKind.i64 (k2 : Int)] 3)).cell? ⟨w1.heap.size + 1, 0, none⟩ = some (.int .i64 n) := by simp [go_sem]
  have hc1 : ((w1.alloc (Obj.cells #[Value.slice A1 l1 c1] 24)).alloc (Obj.cells #[Value.int IntKind.i64 n, Value.int IntKind.i64 (k2 : Int)] 3)).cell? ⟨w1.heap.size + 1, 1, none⟩ = some (.int .i64 (k2 : Int)) := by simp [go_sem]
  have GW := Lib.hid (G1.out.trans (((Grow.refl w1).alloc (Obj.cells #[Value.slice A1 l1 c1] 24)).alloc (Obj.cells #[Value.int IntKind.i64 n, Value.int IntKind.i64 (k2 : Int)] 3)))
  generalize (w1.alloc (Obj.cells #[Value.slice A1 l1 c1] 24)).alloc (Obj.cells #[Value.int IntKind.i64 n, Value.int IntKind.i64 (k2 : Int)] 3) = w3 at *
  have HC := Lib.hid (And.intro hc0 hc1)
  clear hc0 hc1 H1 G1 hk2
  go_loopw [27] (fun iv wr => ∃ i : Nat, i ≤ 2 ∧ iv = .int .i64 (i : Int) ∧ Grow w3 wr) (fun iv _ => 2 - (intOf iv).toNat)
  case atStart => exact ⟨0, by omega, rfl, Grow.refl _⟩
  case round =>
    obtain ⟨i, hi, rfl, hg⟩ := hrel
    by_cases hi2 : i < 2
    · obtain ⟨kk, hck, hkb⟩ : ∃ kk : Int, wr.cell? ⟨w1.heap.size + 1, i, none⟩ = some (.int .i64 kk) ∧ -9223372036854775808 ≤ kk ∧ kk ≤ 9223372036854775807 := by
        rcases Nat.lt_or_ge i 1 with h | h
        · obtain rfl : i = 0 := by omega
          exact ⟨n, hg.cells1 HC.out.1, hn.1, hn.2⟩
        · obtain rfl : i = 1 := by omega
          exact ⟨k2, hg.cells1 HC.out.2, by omega, by omega⟩
      have hi3 : (i : Int) < 2 := by omega
      clear hn hk2b HC
      obtain ⟨AX, lX, cX, hX, nX⟩ := VX.out.grow hg
      have NX := Lib.hid nX
      have HG := Lib.hid hg
      clear nX hg
      by_cases h0 : kk < 0
      · have e1 : decide (kk < 0) = true := decide_eq_true h0
        have HPW := Lib.hid (fun W v h => pow_neg W v x kk h h0)
        have HTN := Lib.hid (fun W => ten_neg W kk h0)
        clear h0
        go_wp2_with fail
        refine (HPW.out _ _ NX.out).mono ?_
        rintro e w4 ⟨v4, rfl, ⟨u4, rfl, h4⟩, g4⟩
        obtain ⟨A4, l4, c4, rfl⟩ := h4.cell
        have VP := Lib.hid (VarN.new h4 (Grow.refl _))
        have g34 := g4.alloc (Obj.cells #[Value.slice A4 l4 c4] 24)
        have HG := Lib.hid (HG.out.trans g34)
        clear hX NX hck h4 g4 g34
        go_wp2_with fail
        refine (HTN.out _).mono ?_
        rintro e w5 ⟨v5, rfl, ⟨u5, rfl, h5⟩, g5⟩
        obtain ⟨A5, l5, c5, rfl⟩ := h5.cell
        have VT := Lib.hid (VarN.new h5 (Grow.refl _))
        have g45 := g5.alloc (Obj.cells #[Value.slice A5 l5 c5] 24)
        have VP := Lib.hid (VP.out.grow g45)
        have HG := Lib.hid (HG.out.trans g45)
        clear h5 g5 g45
        clear HPW HTN
        obtain ⟨A8, l8, c8, h8, n8⟩ := VP.out
        have N8 := Lib.hid n8
        clear n8
        go_wp2_with fail
        refine (zero_n N8.out).mono ?_
        simp only [BEq.rfl]
        rintro e w6 ⟨v6, rfl, rfl, g6⟩
        have VP := Lib.hid (VP.out.grow g6)
        have VT := Lib.hid (VT.out.grow g6)
        have HG := Lib.hid (HG.out.trans g6)
        clear g6 h8 N8
        obtain ⟨A8, l8, c8, h8, n8⟩ := VT.out
        have N8 := Lib.hid n8
        clear n8
        go_wp2_with fail
        refine (zero_n N8.out).mono ?_
        simp only [BEq.rfl]
        rintro e w7 ⟨v7, rfl, rfl, g7⟩
        have VP := Lib.hid (VP.out.grow g7)
        have HG := Lib.hid (HG.out.trans g7)
        clear g7 h8 N8 VT
        go_upto_region 22 with fail
        go_cut [107] from 28 to 108 (fun v W => v = .bool false ∧ Grow w3 W)
        case first =>
          refine Rg.region_eq (by kernel_rfl) (Rg.pow22X_region 2 rfl rfl rfl ?_)
          intro a' w' hg7 ha7 h107
          rw [Rg.frame_of ha7 [93, 94, 95, 96, 97, 98, 99, 100, 101, 102, 103, 104, 105, 106, 107] (by kernel_rfl)]
          have hv : Rg.vals a' 107 = .bool false := h107
          have HG := Lib.hid (HG.out.trans hg7)
          clear hg7 ha7 h107
          simp only [Rg.puts, Act.put, List.setIfInBounds_toArray, List.set_cons_succ, List.set_cons_zero]
          rw [hv]
          go_wp2_with fail
          go_meet
          exact ⟨rfl, HG.out⟩
        case rest =>
          obtain ⟨rfl, g7⟩ := hcut
          go_wp2_with fail
          go_roundw
          case rel => exact ⟨i + 1, by omega, by go_num, g7⟩
          case measure => simp [intOf]; omega
      by_cases h1 : 4096 < kk
      · have e1 : decide (kk < 0) = false := decide_eq_false h0
        have e2 : decide (1200 < kk) = true := decide_eq_true (by omega)
        have e3 : decide (4096 < kk) = true := decide_eq_true h1
        have HPW := Lib.hid (fun W v h => pow_many W v x kk h (by omega))
        have HTN := Lib.hid (fun W => ten_many W kk h1)
        clear h0 h1
        go_wp2_with fail
        refine (HPW.out _ _ NX.out).mono ?_
        rintro e w4 ⟨v4, rfl, ⟨u4, rfl, h4⟩, g4⟩
        obtain ⟨A4, l4, c4, rfl⟩ := h4.cell
        have VP := Lib.hid (VarN.new h4 (Grow.refl _))
        have g34 := g4.alloc (Obj.cells #[Value.slice A4 l4 c4] 24)
        have HG := Lib.hid (HG.out.trans g34)
        clear hX NX hck h4 g4 g34
        go_wp2_with fail
        refine (HTN.out _).mono ?_
        rintro e w5 ⟨v5, rfl, ⟨u5, rfl, h5⟩, g5⟩
        obtain ⟨A5, l5, c5, rfl⟩ := h5.cell
        have VT := Lib.hid (VarN.new h5 (Grow.refl _))
        have g45 := g5.alloc (Obj.cells #[Value.slice A5 l5 c5] 24)
        have VP := Lib.hid (VP.out.grow g45)
        have HG := Lib.hid (HG.out.trans g45)
        clear h5 g5 g45
        clear HPW HTN
        obtain ⟨A8, l8, c8, h8, n8⟩ := VP.out
        have N8 := Lib.hid n8
        clear n8
        go_wp2_with fail
        refine (zero_n N8.out).mono ?_
        simp only [BEq.rfl]
        rintro e w6 ⟨v6, rfl, rfl, g6⟩
        have VP := Lib.hid (VP.out.grow g6)
        have VT := Lib.hid (VT.out.grow g6)
        have HG := Lib.hid (HG.out.trans g6)
        clear g6 h8 N8
        obtain ⟨A8, l8, c8, h8, n8⟩ := VT.out
        have N8 := Lib.hid n8
        clear n8
        go_wp2_with fail
        refine (zero_n N8.out).mono ?_
        simp only [BEq.rfl]
        rintro e w7 ⟨v7, rfl, rfl, g7⟩
        have VP := Lib.hid (VP.out.grow g7)
        have HG := Lib.hid (HG.out.trans g7)
        clear g7 h8 N8 VT
        go_upto_region 22 with fail
        go_cut [107] from 28 to 108 (fun v W => v = .bool false ∧ Grow w3 W)
        case first =>
          refine Rg.region_eq (by kernel_rfl) (Rg.pow22X_region 6 rfl rfl rfl ?_)
          intro a' w' hg7 ha7 h107
          rw [Rg.frame_of ha7 [93, 94, 95, 96, 97, 98, 99, 100, 101, 102, 103, 104, 105, 106, 107] (by kernel_rfl)]
          have hv : Rg.vals a' 107 = .bool false := h107
          have HG := Lib.hid (HG.out.trans hg7)
          clear hg7 ha7 h107
          simp only [Rg.puts, Act.put, List.setIfInBounds_toArray, List.set_cons_succ, List.set_cons_zero]
          rw [hv]
          go_wp2_with fail
          go_meet
          exact ⟨rfl, HG.out⟩
        case rest =>
          obtain ⟨rfl, g7⟩ := hcut
          go_wp2_with fail
          go_roundw
          case rel => exact ⟨i + 1, by omega, by go_num, g7⟩
          case measure => simp [intOf]; omega
      obtain ⟨k, rfl⟩ : ∃ k : Nat, kk = (k : Int) := ⟨kk.toNat, by omega⟩
      have e1 : decide ((k : Int) < 0) = false := decide_eq_false (by omega)
      have e3 : decide ((4096 : Int) < (k : Int)) = false := decide_eq_false (by omega)
      have hk : k ≤ 4096 := by omega
      clear h0 h1 hkb
      by_cases h2 : 1200 < k
      · have e2 : decide ((1200 : Int) < (k : Int)) = true := decide_eq_true (by omega)
        go_wp2_with fail
        refine (pow_many _ _ x (k : Int) NX.out (by omega)).mono ?_
        rintro e w4 ⟨v4, rfl, ⟨u4, rfl, h4⟩, g4⟩
        obtain ⟨A4, l4, c4, rfl⟩ := h4.cell
        have VP := Lib.hid (VarN.new h4 (Grow.refl _))
        have g34 := g4.alloc (Obj.cells #[Value.slice A4 l4 c4] 24)
        have HG := Lib.hid (HG.out.trans g34)
        clear hX NX hck h4 g4 g34
        go_wp2_with fail
        refine (ten_fine _ k (by omega)).mono ?_
        rintro e w5 ⟨v5, rfl, ⟨u5, rfl, h5⟩, g5⟩
        obtain ⟨A5, l5, c5, rfl⟩ := h5.cell
        have VT := Lib.hid (VarN.new h5 (Grow.refl _))
        have g45 := g5.alloc (Obj.cells #[Value.slice A5 l5 c5] 24)
        have VP := Lib.hid (VP.out.grow g45)
        have HG := Lib.hid (HG.out.trans g45)
        clear h5 g5 g45
        obtain ⟨A8, l8, c8, h8, n8⟩ := VP.out
        have N8 := Lib.hid n8
        clear n8
        go_wp2_with fail
        refine (zero_n N8.out).mono ?_
        simp only [BEq.rfl]
        rintro e w6 ⟨v6, rfl, rfl, g6⟩
        have VP := Lib.hid (VP.out.grow g6)
        have VT := Lib.hid (VT.out.grow g6)
        have HG := Lib.hid (HG.out.trans g6)
        clear g6 h8 N8
        obtain ⟨A8, l8, c8, h8, n8⟩ := VT.out
        have N8 := Lib.hid n8
        clear n8
        go_wp2_with fail
        refine (print_any _ _ _ 4097 N8.out (by omega)).mono ?_
        rintro e w8 ⟨v8, rfl, rfl, g8⟩
        have VP := Lib.hid (VP.out.grow g8)
        have HG := Lib.hid (HG.out.trans g8)
        clear g8 h8 N8 VT
        have hcat := str_ten k
        have HRP := Lib.hid (fun W => repeat_any W 48 k (by omega))
        have hs0 : (str (List.replicate k 48)).size ≤ 4096 := by rw [str_size, List.length_replicate]; omega
        generalize str (Tx.text (10 ^ k)) = s1 at *
        generalize str (List.replicate k 48) = s0 at *
        go_wp2_with fail
        refine (HRP.out _).mono ?_
        rintro e w9 ⟨v9, rfl, rfl, g9⟩
        have VP := Lib.hid (VP.out.grow g9)
        have HG := Lib.hid (HG.out.trans g9)
        clear g9 HRP
        go_upto_region 22 with fail
        go_cut [107] from 28 to 108 (fun v W => v = .bool false ∧ Grow w3 W)
        case first =>
          refine Rg.region_eq (by kernel_rfl) (Rg.pow22X_region 6 rfl rfl rfl ?_)
          intro a' w' hg7 ha7 h107
          rw [Rg.frame_of ha7 [93, 94, 95, 96, 97, 98, 99, 100, 101, 102, 103, 104, 105, 106, 107] (by kernel_rfl)]
          have hv : Rg.vals a' 107 = .bool false := h107
          have HG := Lib.hid (HG.out.trans hg7)
          clear hg7 ha7 h107
          simp only [Rg.puts, Act.put, List.setIfInBounds_toArray, List.set_cons_succ, List.set_cons_zero]
          rw [hv]
          go_wp2_with fail
          go_meet
          exact ⟨rfl, HG.out⟩
        case rest =>
          obtain ⟨rfl, g7⟩ := hcut
          go_wp2_with fail
          go_roundw
          case rel => exact ⟨i + 1, by omega, by go_num, g7⟩
          case measure => simp [intOf]; omega
      · have e2 : decide ((1200 : Int) < (k : Int)) = false := decide_eq_false (by omega)
        go_wp2_with fail
        refine (pow_fine _ _ x k NX.out (by omega)).mono ?_
        rintro e w4 ⟨v4, rfl, ⟨u4, rfl, h4⟩, g4⟩
        obtain ⟨A4, l4, c4, rfl⟩ := h4.cell
        have VP := Lib.hid (VarN.new h4 (Grow.refl _))
        have g34 := g4.alloc (Obj.cells #[Value.slice A4 l4 c4] 24)
        have HG := Lib.hid (HG.out.trans g34)
        clear hX NX hck h4 g4 g34
        go_wp2_with fail
        refine (ten_fine _ k (by omega)).mono ?_
        rintro e w5 ⟨v5, rfl, ⟨u5, rfl, h5⟩, g5⟩
        obtain ⟨A5, l5, c5, rfl⟩ := h5.cell
        have VT := Lib.hid (VarN.new h5 (Grow.refl _))
        have g45 := g5.alloc (Obj.cells #[Value.slice A5 l5 c5] 24)
        have VP := Lib.hid (VP.out.grow g45)
        have HG := Lib.hid (HG.out.trans g45)
        clear h5 g5 g45
        obtain ⟨A8, l8, c8, h8, n8⟩ := VX.out.grow HG.out
        have N8 := Lib.hid n8
        have hb3 := pow_bits3 (k := k) n8.2 (by omega)
        have hwr : IntKind.i64.wrap ((Mx.bits x : Int) * (k : Int)) = ((Mx.bits x * k : Nat) : Int) := by
          rw [(Int.natCast_mul _ _).symm]
          exact IntWalk.i64_in _ (by omega)
        have e4 : decide ((262144 : Int) < ((Mx.bits x * k : Nat) : Int)) = false := decide_eq_false (by omega)
        have HBI := Lib.hid (bits_n N8.out (by omega))
        generalize Mx.bits x * k = pr at *
        generalize Mx.bits x = bi at *
        clear n8 hb3
        go_wp2_with fail
        refine HBI.out.mono ?_
        rintro e w6 ⟨v6, rfl, rfl, g6⟩
        have VP := Lib.hid (VP.out.grow g6)
        have VT := Lib.hid (VT.out.grow g6)
        have HG := Lib.hid (HG.out.trans g6)
        clear g6 h8 N8 HBI
        obtain ⟨A8, l8, c8, h8, n8⟩ := VT.out
        have N8 := Lib.hid n8
        clear n8
        go_wp2_with fail
        refine (print_any _ _ _ 4097 N8.out (by omega)).mono ?_
        rintro e w8 ⟨v8, rfl, rfl, g8⟩
        have VP := Lib.hid (VP.out.grow g8)
        have HG := Lib.hid (HG.out.trans g8)
        clear g8 h8 N8 VT
        have hcat := str_ten k
        have HRP := Lib.hid (fun W => repeat_any W 48 k (by omega))
        have hs0 : (str (List.replicate k 48)).size ≤ 4096 := by rw [str_size, List.length_replicate]; omega
        generalize str (Tx.text (10 ^ k)) = s1 at *
        generalize str (List.replicate k 48) = s0 at *
        go_wp2_with fail
        refine (HRP.out _).mono ?_
        rintro e w9 ⟨v9, rfl, rfl, g9⟩
        have VP := Lib.hid (VP.out.grow g9)
        have HG := Lib.hid (HG.out.trans g9)
        clear g9 HRP
        by_cases h30 : 30 ≤ k
        · go_upto_region 22 with fail
          go_cut [107] from 28 to 108 (fun v W => v = .bool false ∧ Grow w3 W)
          case first =>
            refine Rg.region_eq (by kernel_rfl) (Rg.pow22Y_region k rfl rfl rfl h30 ?_)
            intro a' w' hg7 ha7 h107
            rw [Rg.frame_of ha7 [93, 94, 95, 96, 97, 98, 99, 100, 101, 102, 103, 104, 105, 106, 107] (by kernel_rfl)]
            have hv : Rg.vals a' 107 = .bool false := h107
            have HG := Lib.hid (HG.out.trans hg7)
            clear hg7 ha7 h107
            simp only [Rg.puts, Act.put, List.setIfInBounds_toArray, List.set_cons_succ, List.set_cons_zero]
            rw [hv]
            go_wp2_with fail
            go_meet
            exact ⟨rfl, HG.out⟩
          case rest =>
            obtain ⟨rfl, g7⟩ := hcut
            go_wp2_with fail
            go_roundw
            case rel => exact ⟨i + 1, by omega, by go_num, g7⟩
            case measure => simp [intOf]; omega
        · go_upto_region 22 with fail
          go_cut [107] from 28 to 108 (fun v W => v = .bool false ∧ Grow w3 W)
          case first =>
            obtain ⟨A8, l8, c8, h8, n8⟩ := VP.out
            refine Rg.region_eq (by kernel_rfl) (Rg.pow22Z_region k (x ^ k) (l.take 3) rfl rfl rfl rfl h8 n8 (HSL.out _ (GW.out.trans HG.out)) (by omega) HLT.out (by rw [HX.out]) ?_)
            intro a' w' hg7 ha7 h107
            rw [Rg.frame_of ha7 [93, 94, 95, 96, 97, 98, 99, 100, 101, 102, 103, 104, 105, 106, 107] (by kernel_rfl)]
            have hv : Rg.vals a' 107 = .bool false := h107
            have HG := Lib.hid (HG.out.trans hg7)
            clear hg7 ha7 h107
            simp only [Rg.puts, Act.put, List.setIfInBounds_toArray, List.set_cons_succ, List.set_cons_zero]
            rw [hv]
            go_wp2_with fail
            go_meet
            exact ⟨rfl, HG.out⟩
          case rest =>
            obtain ⟨rfl, g7⟩ := hcut
            go_wp2_with fail
            go_roundw
            case rel => exact ⟨i + 1, by omega, by go_num, g7⟩
            case measure => simp [intOf]; omega
    · obtain rfl : i = 2 := by omega
      go_wp2_with fail
      refine (wakes3_any _).mono ?_
      rintro e w4 ⟨v4, rfl, rfl, g4⟩
      have HG4 := Lib.hid (GW.out.trans (hg.trans g4))
      clear g4 hg
      go_wp2_with fail
      go_ret
      exact Ret.mk rfl HG4.out
end Go.Proofs.YtckcjiojfpaikaaDoor
