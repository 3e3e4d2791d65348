/- The law NatCarries of layer 1. -/
import Derived.Test.YtdfdlmhllonggaaL1CarriesR
import Derived.Deep.RegionHeld3
import Derived.Deep.DeepCutAuto
namespace Go.Proofs.Ytdfdlmhllonggaa
open Go.RowKit

/-- What is known behind the law's difference. -/
def CarriesCut (w5 : World) (p5 : Addr) (A1 : Option Addr) (L1 c1 D : Nat) (W : World) (p : Value) : Prop :=
  ∃ bk A4 c4, p = .pointer (some ⟨bk, 0, none⟩) ∧ W.cell? p5 = some (Value.slice A1 L1 c1) ∧ W.cell? ⟨bk, 0, none⟩ = some (Value.slice A4 (Mx.len D) c4) ∧ Mx.len D ≤ c4 ∧ Cells W A4 (Mx.limbs D) ∧ Grow w5 W

theorem wpList_append_full {w : World} {ops : Array Oper} {rest : List Oper} {o : Oper} {a : Act} {Q : Exit → Act → World → Prop} (hgd : o.guard = none) (s x : Operand)
    (ho : o.op = .call { callee := .builtin .append, args := #[s, x], argTypes := #[22, 22] }) (l : List Nat) (c : Nat) (hl : l.length ≤ 1000000) (hlb : ∀ y ∈ l, y < Mx.B) (ha : Full w (a.eval s) l) (hx : Sl w (a.eval x) [c])
    (h : ∀ v' w', Sl w' v' (l ++ [c]) → Grow w w' → wpList Try.prog ops Q rest (a.put o.dst v') w') : wpList Try.prog ops Q (o :: rest) a w := by
  refine wpList_plain hgd fun K hK => ?_
  obtain ⟨v', w', hr, hs, hg⟩ := append_full w o.type _ _ l c hl hlb ha hx
  unfold Oper.wp
  simp [execOp, ho, resolve, invoke, builtin, hr, Result.andThen]
  exact hK _ _ (h v' w' hs hg)

theorem sl_one {W : World} {b : Nat} (h : W.cell? ⟨b, 0, none⟩ = some (.int .u64 1)) : Sl W (.slice (some ⟨b, 0, none⟩) 1 1) [1] :=
  ⟨_, _, rfl, Nat.le_refl _, by intro y hy; rw [List.mem_singleton.1 hy]; exact Mx.B_one, fun _ => ⟨b, 0, rfl, lt_of_cell h, fun j x hx => by
    rcases j with _ | j
    · simp at hx
      subst hx
      exact h
    · simp at hx⟩⟩
theorem of_one {W : World} {b : Nat} (h : W.cell? ⟨b, 0, none⟩ = some (.int .u64 1)) : Calls Try.prog 8 #[.slice (some ⟨b, 0, none⟩) 1 1] W (Ret W fun v' w' => IsN w' v' 1 1) := by
  have := of_n 1 (sl_one h) (by simp) (by omega)
  rwa [Mx.val_one] at this

set_option maxRecDepth 100000 in
set_option maxHeartbeats 4000000 in
theorem natCarries_walk (w : World) (n : Nat) (hn : n < 256) :
    Calls Try.prog 6 #[.int .u8 (n : Int)] w (Ret w fun v' _ => v' = .bool true) := by
  obtain ⟨k, hk, hk39⟩ : ∃ k : Nat, n % 40 = k ∧ k ≤ 39 := ⟨n % 40, rfl, by omega⟩
  have hk2 : (n : Int) % 40 = (k : Int) := by omega
  clear hk
  go_enter Try.func6, Try.ntmps6
  go_wp2_with fail
  refine (repeat_any _ _ k top (by omega) top_lt (sl_built w [top] (by intro y hy; rw [List.mem_singleton.1 hy]; exact top_lt))).mono ?_
  rintro e w1 ⟨v1, rfl, h1, g1⟩
  have g1' : Grow w w1 := ((Grow.refl w).alloc _).trans g1
  clear g1
  go_wp2_with fail
  refine (of_n 40 h1 (by rw [List.length_replicate]; omega) (by omega)).mono ?_
  rintro e w2 ⟨v2, rfl, h2, g2⟩
  go_wp2_with fail
  refine (of_n 1 (sl_built w2 [1] (by intro y hy; rw [List.mem_singleton.1 hy]; exact Mx.B_one)) (by simp) (by omega)).mono ?_
  rintro e w3 ⟨v3, rfl, h3, g3⟩
  have g3' : Grow w2 w3 := ((Grow.refl w2).alloc _).trans g3
  clear g3
  go_wp2_with fail
  refine (add_n (h2.grow g3') h3 (by omega) (by omega)).mono ?_
  rintro e w4 ⟨v4, rfl, h4, g4⟩
  have gw4 : Grow w w4 := ((g1'.trans g2).trans g3').trans g4
  have hs4 := h1.grow ((g2.trans g3').trans g4)
  rw [Mx.val_one] at h4
  have hX : Mx.val (List.replicate k top) + 1 = Mx.B ^ k := val_ones k
  generalize hXe : Mx.val (List.replicate k top) + 1 = X at h4 hX
  have hX1 : 1 ≤ X := by omega
  have hDe : X - 1 = Mx.val (List.replicate k top) := by omega
  have HL := Lib.hid (show Mx.limbs X = List.replicate k 0 ++ [1] by rw [hX]; exact limbs_pow k)
  have HB := Lib.hid (show Mx.bits X = 64 * k + 1 by rw [hX]; exact bits_pow k)
  have HM := Lib.hid (show Mx.val (List.replicate (2 * k) 0 ++ [1]) = X * X by rw [val_pow, hX, ← Nat.pow_add]; congr 1; omega)
  have HD := Lib.hid (show Mx.limbs (X - 1) = List.replicate k top by rw [hDe]; exact limbs_ones k)
  have GW4 := Lib.hid gw4
  have HS4 := Lib.hid hs4
  clear hDe hX hXe gw4 hs4 h1 h2 h3 g1' g2 g3' g4
  obtain ⟨⟨A1, c1, rfl, hk1, hl1⟩, hx2⟩ := h4
  have HX := Lib.hid (fun W (g : Grow w4 W) => (⟨⟨A1, c1, rfl, hk1, hl1.grow g⟩, hx2⟩ : IsN W (.agg #[.slice A1 (Mx.len X) c1]) X 41))
  clear hk1 hl1 hx2
  have hmk := fun W => run_make_row' (P := Try.prog) 22 37 (.int .u64 0) 8 Try.underlying22 info37 rfl .i64 .i64 k (by omega) (by omega) W
  have HF := Lib.hid (show Full (((w4.alloc (Obj.cells #[Value.slice A1 (Mx.len X) c1] 24)).alloc (.cells (madeCells #[.int .u64 0] k) 37)).alloc (.cells #[.int .u64 1] 37)) (.slice (some ⟨w4.heap.size + 1, 0, none⟩) k k) (List.replicate k 0) from
    ⟨w4.heap.size + 1, by rw [List.length_replicate], by
      have := (Blk.made (w4.alloc (Obj.cells #[Value.slice A1 (Mx.len X) c1] 24)) k).alloc (.cells #[.int .u64 1] 37)
      rw [World.size_alloc] at this
      exact this⟩)
  have HO := Lib.hid (show Sl (((w4.alloc (Obj.cells #[Value.slice A1 (Mx.len X) c1] 24)).alloc (.cells (madeCells #[.int .u64 0] k) 37)).alloc (.cells #[.int .u64 1] 37)) (.slice (some ⟨w4.heap.size + 1 + 1, 0, none⟩) 1 1) [1] from by
      have := sl_built ((w4.alloc (Obj.cells #[Value.slice A1 (Mx.len X) c1] 24)).alloc (.cells (madeCells #[.int .u64 0] k) 37)) [1] (by intro y hy; rw [List.mem_singleton.1 hy]; exact Mx.B_one)
      rw [World.size_alloc, World.size_alloc] at this
      exact this)
  go_wp2_with (at_builtin; refine wpList_append_full rfl _ _ rfl (List.replicate k 0) 1 (by rw [List.length_replicate]; omega) (fun y hy => by rw [(List.mem_replicate.1 hy).2]; exact Mx.B_pos) HF.out HO.out ?_)
  intro v5 w5 hs5 hg5
  have g5 : Grow w4 w5 := ((((Grow.refl w4).alloc _).alloc _).alloc _).trans hg5
  have c5 : w5.cell? ⟨w4.heap.size, 0, none⟩ = some (Value.slice A1 (Mx.len X) c1) := (Grow.new ((((Grow.refl _).alloc _).alloc _).trans hg5)).1
  have HS5 := Lib.hid hs5
  have HX5 := Lib.hid (fun W (g : Grow w5 W) => HX.out W (g5.trans g))
  clear hs5 hg5 HF HO hmk HX
  go_wp2_with fail
  go_cut [7, 8] (fun p b W => b = .bool true ∧ CarriesCut w5 ⟨w4.heap.size, 0, none⟩ A1 (Mx.len X) c1 (X - 1) W p)
  case first =>
    go_region_held3 (fun W => W.cell? ⟨w4.heap.size, 0, none⟩ = some (Value.slice A1 (Mx.len X) c1))
      (first | assumption | exact Grow.cells1 (W := w5) (by repeat (first | exact Grow.refl _ | assumption | apply Grow.drew | apply Grow.alloc | (refine Grow.setCell ?_ (by first | exact Nat.le_refl _ | (simp; done) | (have q7 := Grow.size g7; simp at q7 ⊢; omega)) _) | (refine Grow.trans ?_ (by assumption)))) c5)
      (first
        | (go_at_call 8; refine (of_one (by simp [go_sem])).mono ?_; rintro e w7 ⟨v7, rfl, h7, g7⟩)
        | (go_at_call 11; refine (sub_n (HX5.out _ (by repeat (first | exact Grow.refl _ | assumption | apply Grow.drew | apply Grow.alloc | (refine Grow.trans ?_ (by assumption))))) (by first | assumption | exact IsN.grow (by assumption) (by repeat (first | exact Grow.refl _ | assumption | apply Grow.drew | apply Grow.alloc | (refine Grow.trans ?_ (by assumption))))) (by omega) hX1).mono ?_; rintro e w8 ⟨v8, rfl, ⟨u8, rfl, h8⟩, g8⟩; obtain ⟨⟨A4, c4, rfl, hk4, hl4⟩, hb2⟩ := h8; first | (have n12 := Grow.new (v := .slice none 0 0) (t := 24) (Grow.trans (by repeat (first | exact Grow.refl _ | apply Grow.drew | apply Grow.alloc | (refine Grow.trans ?_ (by assumption)))) g8); obtain ⟨n1, n2⟩ := n12; try simp at n1 n2) | skip))
    all_goals (go_wp2_with fail; go_meet)
    all_goals
      refine ⟨rfl, _, A4, c4, rfl, Grow.cells1 (W := w5) (by repeat (first | exact Grow.refl _ | assumption | apply Grow.drew | apply Grow.alloc | (refine Grow.setCell ?_ (by first | exact Nat.le_refl _ | (simp; done) | (have q7 := Grow.size g7; simp at q7 ⊢; omega)) _) | (refine Grow.trans ?_ (by assumption)))) c5, ?_, hk4, ?_, (by repeat (first | exact Grow.refl _ | assumption | apply Grow.drew | apply Grow.alloc | (refine Grow.setCell ?_ (by first | exact Nat.le_refl _ | (simp; done) | (have q7 := Grow.size g7; simp at q7 ⊢; omega)) _) | (refine Grow.trans ?_ (by assumption))))⟩
      · first | (simp [go_sem]; done) | (simp [go_sem, n1]; done)
      · first | exact hl4.store n1 _ | exact hl4.grow ((Grow.refl _).alloc _)
  case rest =>
    obtain ⟨rfl, bk, A4, c4, rfl, hc5, hc7, hk4, hl4, g10⟩ := hcut
    have HDN := Lib.hid (⟨⟨A4, c4, rfl, hk4, hl4⟩, Nat.le_trans (Mx.len_sub X 1) (HX5.out _ (Grow.refl _)).2⟩ : IsN wc (.agg #[.slice A4 (Mx.len (X - 1)) c4]) (X - 1) 41)
    have GF := Lib.hid (GW4.out.trans (g5.trans g10))
    clear hk4 hl4
    go_wp2_with fail
    rename_i hK
    exact Rg.region_eq (by kernel_rfl) (Rg.carries_region X (X - 1) k rfl rfl hc5 (HX5.out _ g10) rfl hc7 HDN.out rfl (HS4.out.grow (g5.trans g10)) (HS5.out.grow g10) rfl hk39 HL.out HB.out HM.out HD.out fun a' w' hg ha h2 => hK a' w' (Rg.ret_slot (t := 2) Try.results6 ha.1 h2 (Ret.mk rfl (GF.out.trans hg))))
end Go.Proofs.Ytdfdlmhllonggaa
