/- Contracts of package quot: lessen, its regions. -/
import Derived.Test.YtpjmfbiihhbjhaaGreatDoorQuoM
namespace Go.Proofs.YtpjmfbiihhbjhaaGreatDoor
open Go.RowKit

theorem Mx.top_bits {a b : Nat} (hba : b ≤ a) (h : 64 < Mx.bits b) : a / 2 ^ (Mx.bits a - 64) < Mx.B ∧ b / 2 ^ (Mx.bits a - 64) < Mx.B ∧ b / 2 ^ (Mx.bits a - 64) ≤ a / 2 ^ (Mx.bits a - 64) := by
  have hm := Mx.bits_mono hba
  have h1 := Mx.bits_lt a
  have e : 2 ^ Mx.bits a = 2 ^ (Mx.bits a - 64) * Mx.B := by
    have e2 : Mx.bits a = (Mx.bits a - 64) + 64 := by omega
    rw [show Mx.B = 2 ^ 64 from rfl, ← Nat.pow_add, ← e2]
  have h2 : a / 2 ^ (Mx.bits a - 64) < Mx.B := by
    rw [Nat.div_lt_iff_lt_mul (Mx.pow2_pos _), Nat.mul_comm, ← e]
    exact h1
  have h3 : b / 2 ^ (Mx.bits a - 64) ≤ a / 2 ^ (Mx.bits a - 64) := Nat.div_le_div_right hba
  exact ⟨h2, Nat.lt_of_le_of_lt h3 h2, h3⟩

theorem limbFrom_ret {w : World} {v : Value} {x n y : Nat} (hn : n ≤ 4611686018427387904) (hy : x / 2 ^ n = y) (hB : y < Mx.B) (h : LimbsAt w v x) : Calls Tryz.prog 86 #[v, .int .i64 (n : Int)] w (Ret w fun v' _ => v' = .int .u64 (y : Int)) := by
  obtain ⟨k, rfl, hk⟩ := h
  have h := limbFrom_any w (some ⟨k, 0, none⟩) (Mx.limbs x) (Mx.limbs x).length n (Mx.limbs_lt x) hn (Cells.of_block hk)
  rw [Mx.val_limbs, hy, Nat.mod_eq_of_lt hB] at h
  refine Calls.mono h ?_
  rintro e w' ⟨rfl, m, rfl⟩
  exact Ret.mk rfl ((Grow.refl w).drewN m)

theorem en_foresee : Enters Tryz.prog 100 := enters_of Tryz.func100 (by kernel_rfl) rfl
theorem en_none : Enters Tryz.prog 101 := enters_of Tryz.func101 (by kernel_rfl) rfl
theorem en_apart : Enters Tryz.prog 102 := enters_of Tryz.func102 (by kernel_rfl) rfl

/-- Steps that were foreseen. -/
def Foreseen (x0 y0 : Nat) (v : Value) : Prop := ∃ x y a1 b1 a2 b2, v = stepsV a1 b1 a2 b2 ∧ Mx.Fore x0 y0 x y a1 b1 a2 b2 ∧ a1 < Mx.B ∧ b1 < Mx.B ∧ a2 < Mx.B ∧ b2 < Mx.B
/-- A new variable of steps. -/
def NewStp (s0 : Nat) (w : World) (v : Value) : Prop := ∃ k, v = .pointer (some ⟨k, 0, none⟩) ∧ s0 ≤ k ∧ Stp w k 0 0 0 0
theorem NewStp.grow {s0 : Nat} {w w' : World} {v : Value} (h : NewStp s0 w v) (g : Grow w w') : NewStp s0 w' v := by
  obtain ⟨k, e, h1, h2⟩ := h
  exact ⟨k, e, h1, h2.grow g⟩

noncomputable def lessOps2 : Array Oper := Rg.regionOps Tryz.f84 2
def lessF (s0 a b n x0 y0 : Nat) : Rg.Facts2 := fun d _ w v =>
  match d with
  | 14 => IsNat w v a
  | 15 => LimbsAt w v a
  | 16 => v = .int .i64 (n : Int)
  | 17 => v = .int .u64 (x0 : Int)
  | 18 => IsNat w v b
  | 19 => LimbsAt w v b
  | 20 => v = .int .i64 (n : Int)
  | 21 => v = .int .u64 (y0 : Int)
  | 22 => Foreseen x0 y0 v
  | 7 => NewStp s0 w v
  | _ => True

set_option maxRecDepth 100000 in
set_option maxHeartbeats 1000000 in
theorem less_region2 {Q : Exit → Act → World → Prop} {a0 : Act} {w0 : World} {A2 A3 : Option Addr} {l2 c2 l3 c3 a b n x0 y0 : Nat} {p2 p3 : Addr} (hn : a0.tmps.size = 49) (h2 : a0.tmps.getD 2 undef = .pointer (some p2)) (h3 : a0.tmps.getD 3 undef = .pointer (some p3)) (h6 : a0.tmps.getD 6 undef = .int .i64 (n : Int))
    (k2 : w0.cell? p2 = some (.slice A2 l2 c2)) (k3 : w0.cell? p3 = some (.slice A3 l3 c3)) (ha : IsNat w0 (.agg #[.slice A2 l2 c2]) a) (hb : IsNat w0 (.agg #[.slice A3 l3 c3]) b)
    (hla : Mx.len a ≤ 1073741824) (hlb : Mx.len b ≤ 1073741824) (hnn : n ≤ 4611686018427387904) (hx : a / 2 ^ n = x0) (hy : b / 2 ^ n = y0) (hxB : x0 < Mx.B) (hyx : y0 ≤ x0)
    (fin : ∀ f w k x y a1 b1 a2 b2, Grow w0 w → f 7 = .pointer (some ⟨k, 0, none⟩) → w0.heap.size ≤ k → Stp w k a1 b1 a2 b2 → Mx.Fore x0 y0 x y a1 b1 a2 b2 → a1 < Mx.B → b1 < Mx.B → a2 < Mx.B → b2 < Mx.B → Q .normal (Rg.puts f [14, 15, 16, 17, 18, 19, 20, 21, 22, 7] a0) w) :
    (Code.region 2 lessOps2 true).wp Tryz.prog Q a0 w0 := by
  refine Rg.region3 (n := 49) (F := lessF w0.heap.size a b n x0 y0) 10 [] [14, 15, 16, 17, 18, 19, 20, 21, 22, 7] (by kernel_rfl) (by kernel_rfl) hn (by kernel_rfl) (by kernel_rfl) (by kernel_rfl) ?_ ?_
    (fun i hi => Rg.all_from 10 0 ?_ i (Nat.zero_le _) (by omega)) ?_
  · intro d f w w' v h hg
    unfold lessF at h ⊢
    split at h <;> first | exact h | exact h.grow hg
  · intro d f f' w v h _
    exact h
  · refine ⟨Rg.load2 (i := 0) (d := 14) (p := 2) (by kernel_rfl) h2 (by kernel_rfl) k2 (fun _ w hg => ha.grow hg), ?_, Rg.move2 (i := 2) (d := 16) (e := 6) (by kernel_rfl) (by kernel_rfl) (fun _ _ => h6), ?_, Rg.load2 (i := 4) (d := 18) (p := 3) (by kernel_rfl) h3 (by kernel_rfl) k3 (fun _ w hg => hb.grow hg), ?_, Rg.move2 (i := 6) (d := 20) (e := 6) (by kernel_rfl) (by kernel_rfl) (fun _ _ => h6), ?_, ?_, ?_, trivial⟩
    · refine Rg.step2N (i := 1) (dst := some 15) (op := .call { callee := .value (.func 65), args := #[.tmp 14], argTypes := #[26] }) (by kernel_rfl) fun o a' w ho hd hg ha' D => ?_
      exact Rg.call1 (F := fun d w v => lessF w0.heap.size a b n x0 y0 d (Rg.vals a') w v) ho en_limbs hd (limbs_ret w _ a hla (D 14 (by kernel_rfl))) fun e w' ⟨v, e1, h1, g1⟩ => ⟨v, e1, h1, g1⟩
    · refine Rg.step2N (i := 3) (dst := some 17) (op := .call { callee := .value (.func 86), args := #[.tmp 15, .tmp 16], argTypes := #[22, 3] }) (by kernel_rfl) fun o a' w ho hd hg ha' D => ?_
      have e16 : a'.tmps.getD 16 undef = .int .i64 (n : Int) := D 16 (by kernel_rfl)
      exact Rg.call2 (F := fun d w v => lessF w0.heap.size a b n x0 y0 d (Rg.vals a') w v) (R := Ret w fun v' _ => v' = .int .u64 (x0 : Int)) ho en_limbFrom hd (by rw [e16]; exact limbFrom_ret hnn hx hxB (D 15 (by kernel_rfl))) fun e w' ⟨v, e1, h1, g1⟩ => ⟨v, e1, h1, g1⟩
    · refine Rg.step2N (i := 5) (dst := some 19) (op := .call { callee := .value (.func 65), args := #[.tmp 18], argTypes := #[26] }) (by kernel_rfl) fun o a' w ho hd hg ha' D => ?_
      exact Rg.call1 (F := fun d w v => lessF w0.heap.size a b n x0 y0 d (Rg.vals a') w v) ho en_limbs hd (limbs_ret w _ b hlb (D 18 (by kernel_rfl))) fun e w' ⟨v, e1, h1, g1⟩ => ⟨v, e1, h1, g1⟩
    · refine Rg.step2N (i := 7) (dst := some 21) (op := .call { callee := .value (.func 86), args := #[.tmp 19, .tmp 20], argTypes := #[22, 3] }) (by kernel_rfl) fun o a' w ho hd hg ha' D => ?_
      have e20 : a'.tmps.getD 20 undef = .int .i64 (n : Int) := D 20 (by kernel_rfl)
      exact Rg.call2 (F := fun d w v => lessF w0.heap.size a b n x0 y0 d (Rg.vals a') w v) (R := Ret w fun v' _ => v' = .int .u64 (y0 : Int)) ho en_limbFrom hd (by rw [e20]; exact limbFrom_ret hnn hy (by omega) (D 19 (by kernel_rfl))) fun e w' ⟨v, e1, h1, g1⟩ => ⟨v, e1, h1, g1⟩
    · refine Rg.step2N (i := 8) (dst := some 22) (op := .call { callee := .value (.func 100), args := #[.tmp 17, .tmp 21], argTypes := #[63, 63] }) (by kernel_rfl) fun o a' w ho hd hg ha' D => ?_
      have e17 : a'.tmps.getD 17 undef = .int .u64 (x0 : Int) := D 17 (by kernel_rfl)
      have e21 : a'.tmps.getD 21 undef = .int .u64 (y0 : Int) := D 21 (by kernel_rfl)
      exact Rg.call2 (F := fun d w v => lessF w0.heap.size a b n x0 y0 d (Rg.vals a') w v) (R := Ret w fun v' _ => Foreseen x0 y0 v') ho en_foresee hd (by rw [e17, e21]; exact foresee_any w x0 y0 hxB hyx) fun e w' ⟨v, e1, h1, g1⟩ => ⟨v, e1, h1, g1⟩
    · refine Rg.step2N (i := 9) (dst := some 7) (op := .alloc 134) (by kernel_rfl) fun o a' w ho hd hg ha' D => ?_
      refine Rg.valOf (F := fun d w v => lessF w0.heap.size a b n x0 y0 d (Rg.vals a') w v) (v := .pointer (some ⟨w.heap.size, 0, none⟩)) (w' := w.alloc (.cells #[.int .u64 0, .int .u64 0, .int .u64 0, .int .u64 0] 134)) ?_ hd ⟨w.heap.size, rfl, hg.size, Stp.new w 0 0 0 0 _⟩ ((Grow.refl w).alloc _)
      simp [execOp, ho, go_sem]
  · intro f w hg hf
    obtain ⟨x, y, a1, b1, a2, b2, e22, hF, hb1, hb2, hb3, hb4⟩ := (hf 22 rfl : Foreseen x0 y0 (f 22))
    obtain ⟨k, e7, hk, S⟩ := (hf 7 rfl : NewStp w0.heap.size w (f 7))
    have hpg := Rg.puts_get f [14, 15, 16, 17, 18, 19, 20, 21, 22, 7] a0
    have h7 : (Rg.puts f [14, 15, 16, 17, 18, 19, 20, 21, 22, 7] a0).tmps.getD 7 undef = .pointer (some ⟨k, 0, none⟩) := by rw [hpg 7 (by omega)]; exact e7
    have h22 : (Rg.puts f [14, 15, 16, 17, 18, 19, 20, 21, 22, 7] a0).tmps.getD 22 undef = stepsV a1 b1 a2 b2 := by rw [hpg 22 (by omega)]; exact e22
    have hq := fin f _ k x y a1 b1 a2 b2 ((((hg.setCell (p := ⟨k, 0, none⟩) hk (.int .u64 (a1 : Int))).setCell (p := ⟨k, 1, none⟩) hk (.int .u64 (b1 : Int))).setCell (p := ⟨k, 2, none⟩) hk (.int .u64 (a2 : Int))).setCell (p := ⟨k, 3, none⟩) hk (.int .u64 (b2 : Int))) e7 hk (S.set a1 b1 a2 b2) hF hb1 hb2 hb3 hb4
    generalize Rg.puts f [14, 15, 16, 17, 18, 19, 20, 21, 22, 7] a0 = a' at *
    have hinfo : Rg.info lessOps2 10 = some (none, .store 134 (.tmp 7) (.tmp 22), none) := by kernel_rfl
    cases ho : lessOps2[10]? with
    | none => rw [Rg.info, ho] at hinfo; cases hinfo
    | some o =>
      obtain ⟨i1, i2, i3⟩ := Rg.info_parts hinfo ho
      refine Rg.run_wanted ho (by simp [Region.wanted, i3]) ?_
      unfold Oper.wp
      have z := S.fz
      obtain ⟨s0, s1, s2, s3, s4⟩ := S
      have z0 := z 0
      have hrun : (execOp a'.eval o).run Tryz.prog w = .ok .skip ((((w.setCell ⟨k, 0, none⟩ (.int .u64 (a1 : Int))).setCell ⟨k, 1, none⟩ (.int .u64 (b1 : Int))).setCell ⟨k, 2, none⟩ (.int .u64 (a2 : Int))).setCell ⟨k, 3, none⟩ (.int .u64 (b2 : Int))) := by
        simp only [Array.getD_eq_getD_getElem?] at h7 h22
        simp [execOp, i2, go_sem, Act.eval, h7, h22, stepsV, s0, s1, s2, s3, s4]
      rw [hrun, Oper.upon_skip, i1]
      exact hq
end Go.Proofs.YtpjmfbiihhbjhaaGreatDoor
