/- What the laws of layer 1 share: cut, wakes. -/
import Derived.Test.YtdfdlmhllonggaaNatG
namespace Go.Proofs.Ytdfdlmhllonggaa
open Go.RowKit

theorem wake_num : Mx.val [top] + Mx.val [1] = Mx.val [0, 1] := by simp [Mx.val, top, Mx.B_eq]
theorem wake_limbs : Mx.limbs (Mx.val [0, 1]) = [0, 1] := Mx.limbs_val [0, 1] (by intro x hx; simp at hx; rcases hx with rfl | rfl <;> simp [Mx.B_eq]) (.inr (by simp))
theorem wake_bits : Mx.bits (Mx.val [0, 1]) = 65 := by
  have e : Mx.val [0, 1] = 2 ^ 64 := by simp [Mx.val, Mx.B_eq]
  rw [e]
  exact Mx.bits_unique (k := 64) (Nat.le_refl _) (by decide)
theorem wake_len : Mx.len (Mx.val [0, 1]) = 2 := by unfold Mx.len; rw [wake_limbs]; rfl
theorem wake_cmp : Mx.cmp (Mx.val [5]) (Mx.val [3, 1]) = -1 := Mx.cmp_lt (by simp [Mx.val, Mx.B_eq])

set_option maxHeartbeats 1000000 in
theorem wakes_any (w : World) : Calls Try.prog 14 #[] w (Ret w fun v' _ => v' = .bool true) := by
  go_enter Try.func14, Try.ntmps14
  go_wp2_with fail
  refine (of_any _ _ [top] (by simp) (sl_built _ [top] (by intro y hy; simp at hy; rw [hy]; exact top_lt))).mono ?_
  rintro e w1 ⟨v1, rfl, h1, g1⟩
  go_wp2_with fail
  refine (of_any _ _ [1] (by simp) (sl_built _ [1] (by intro y hy; simp at hy; rw [hy]; exact Mx.B_one))).mono ?_
  rintro e w2 ⟨v2, rfl, h2, g2⟩
  have h1' := h1.grow (((Grow.refl w1).alloc _).trans g2)
  have gw : Grow w w2 := (((Grow.refl w).alloc _).trans g1).trans (((Grow.refl w1).alloc _).trans g2)
  clear h1 g1 g2
  go_wp2_with fail
  refine (add_any _ _ _ _ _ (Nat.le_trans (len_one top_lt) (by omega)) (Nat.le_trans (len_one Mx.B_one) (by omega)) h1' h2).mono ?_
  rintro e w3 ⟨v3, rfl, h3, g3⟩
  rw [wake_num] at h3
  have gw3 := gw.trans g3
  clear h1' h2 g3 gw
  obtain ⟨A, c, rfl, hc, hl⟩ := h3
  have HN := Lib.hid (fun W (g : Grow w3 W) => (⟨A, c, rfl, hc, hl.grow g⟩ : IsNat W (.agg #[.slice A (Mx.len (Mx.val [0, 1])) c]) (Mx.val [0, 1])))
  clear hc hl
  go_wp2_with fail
  refine (limbs_any _ _ _ (by rw [wake_len]; omega) (HN.out _ ((Grow.refl w3).alloc _))).mono ?_
  rintro e w4 ⟨v4, rfl, h4⟩
  have g4 := h4.choose_spec.2.2.2
  have s4 := h4.sl (Mx.limbs_lt _)
  rw [wake_limbs] at s4
  clear h4
  have hbox := g4.new.1
  have hlt := lt_of_cell hbox
  have HG4 := Lib.hid g4
  clear g4
  go_wp2_with fail
  refine (equalU64_any _ _ _ [0, 1] [0, 1] (by simp) (s4.grow ((Grow.refl w4).alloc _)) (sl_built _ [0, 1] (by intro y hy; simp at hy; rcases hy with rfl | rfl <;> exact small_lt (by omega)))).mono ?_
  rintro e w5 ⟨v5, rfl, rfl, g5⟩
  have g45 : Grow w4 w5 := ((Grow.refl w4).alloc _).trans g5
  have g35 : Grow w3 w5 := ((Grow.refl w3).alloc _).trans (HG4.out.trans g45)
  have hbox5 := (g45.cell (p := ⟨w3.heap.size, 0, none⟩) hlt).trans hbox
  have gw5 := gw3.trans g35
  clear s4 hbox g5 g45 HG4 hlt
  simp only [BEq.rfl]
  go_wp2_with fail
  refine (bits_any _ _ _ (by rw [wake_len]; omega) (HN.out _ g35)).mono ?_
  rw [wake_bits]
  rintro e w6 ⟨v6, rfl, rfl, g6⟩
  have gw6 := gw5.trans g6
  clear HN hbox5 gw5 g6 g35 gw3
  go_wp2_with fail
  refine (of_any _ _ [0, 0] (by simp) (sl_built _ [0, 0] (by intro y hy; simp at hy; rw [hy]; exact Mx.B_pos))).mono ?_
  rintro e w7 ⟨v7, rfl, h7, g7⟩
  have gw7 := gw6.trans (((Grow.refl w6).alloc _).trans g7)
  rw [show Mx.val [0, 0] = 0 from rfl] at h7
  clear g7 gw6
  go_wp2_with fail
  refine (zero_any _ _ _ h7).mono ?_
  rintro e w8 ⟨v8, rfl, rfl, g8⟩
  have gw8 := gw7.trans g8
  clear g8 gw7 h7
  simp only [BEq.rfl]
  go_wp2_with fail
  refine (of_any _ _ [5] (by simp) (sl_built _ [5] (by intro y hy; simp at hy; rw [hy]; exact small_lt (by omega)))).mono ?_
  rintro e w9 ⟨v9, rfl, h9, g9⟩
  have gw9 := gw8.trans (((Grow.refl w8).alloc _).trans g9)
  clear g9 gw8
  go_wp2_with fail
  refine (of_any _ _ [3, 1] (by simp) (sl_built _ [3, 1] (by intro y hy; simp at hy; rcases hy with rfl | rfl <;> exact small_lt (by omega)))).mono ?_
  rintro e w10 ⟨v10, rfl, h10, g10⟩
  have g910 : Grow w9 w10 := ((Grow.refl w9).alloc _).trans g10
  have gw10 := gw9.trans g910
  have h9' := h9.grow g910
  clear g10 gw9 g910 h9
  go_wp2_with fail
  refine (cmp_any _ _ _ _ _ (Nat.le_trans (len_one (small_lt (by omega))) (by omega)) h9' h10).mono ?_
  rw [wake_cmp]
  rintro e w11 ⟨v11, rfl, rfl, g11⟩
  have gw11 := gw10.trans g11
  clear g11 gw10 h9' h10
  go_wp2_with fail
  go_ret
  exact Ret.mk rfl gw11

set_option maxHeartbeats 400000 in
theorem cut_any (w : World) (v : Value) (l : List Nat) (h : Sl w v l) : Calls Try.prog 9 #[v] w (Ret w fun v' w' => Sl w' v' (l.take 12)) := by
  obtain ⟨A, c, rfl, hc, hb, hcl⟩ := h
  have hlen : (min ((l.length : Nat) : Int) 12).toNat = (l.take 12).length := by rw [List.length_take]; omega
  have HB := Lib.hid hb
  have HL := Lib.hid hlen
  clear hb hlen
  go_enter Try.func9, Try.ntmps9
  go_wp2
  go_ret
  refine Ret.mk ⟨A, c, ?_, by rw [List.length_take]; omega, fun x hx => HB.out x (List.mem_of_mem_take hx), hcl.take 12⟩ (Grow.refl _)
  rw [← HL.out]
  rfl

end Go.Proofs.Ytdfdlmhllonggaa
