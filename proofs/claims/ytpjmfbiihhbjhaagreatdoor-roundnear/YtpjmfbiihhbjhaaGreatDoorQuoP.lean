/- Contracts of package quot: lessen, its regions 3 and 6. -/
import Derived.Test.YtpjmfbiihhbjhaaGreatDoorQuoO
namespace Go.Proofs.YtpjmfbiihhbjhaaGreatDoor
open Go.RowKit

noncomputable def lessOps3 : Array Oper := Rg.regionOps Tryz.f84 3
def less3F (a1 b1 a2 b2 : Nat) (c : Bool) : Rg.Facts2 := fun d _ _ v =>
  match d with
  | 23 => v = stepsV a1 b1 a2 b2
  | 24 => v = stepsV 1 0 0 1
  | 25 => v = .bool c
  | _ => True

set_option maxRecDepth 100000 in
set_option maxHeartbeats 1000000 in
theorem less_region3 {Q : Exit → Act → World → Prop} {a0 : Act} {w0 : World} {k a1 b1 a2 b2 : Nat} {c : Bool} (hn : a0.tmps.size = 49) (h7 : a0.tmps.getD 7 undef = .pointer (some ⟨k, 0, none⟩)) (S : Stp w0 k a1 b1 a2 b2) (hc : decide (a1 = 1 ∧ b1 = 0 ∧ a2 = 0 ∧ b2 = 1) = c)
    (fin : ∀ f w, Grow w0 w → f 25 = .bool c → Q .normal (Rg.puts f [23, 24, 25] a0) w) :
    (Code.region 3 lessOps3 true).wp Tryz.prog Q a0 w0 := by
  refine Rg.region2 (n := 49) (F := less3F a1 b1 a2 b2 c) [] [23, 24, 25] (by kernel_rfl) hn (by kernel_rfl) (by kernel_rfl) (by kernel_rfl) ?_ ?_
    (fun i hi => Rg.all_from 3 0 ?_ i (Nat.zero_le _) (Nat.lt_of_lt_of_eq hi (by kernel_rfl))) (fun f w hg hf => fin f w hg (hf 25 rfl))
  · intro d f w w' v h hg
    exact h
  · intro d f f' w v h _
    exact h
  · refine ⟨?_, ?_, ?_, trivial⟩
    · refine Rg.step2N (i := 0) (dst := some 23) (op := .load 134 (.tmp 7)) (by kernel_rfl) fun o a' w ho hd hg ha' D => ?_
      have e7 : a'.tmps.getD 7 undef = .pointer (some ⟨k, 0, none⟩) := (ha'.2.2 7 (by kernel_rfl)).trans h7
      obtain ⟨s0, s1, s2, s3, s4⟩ := S.grow hg
      refine Rg.valOf (F := fun d w v => less3F a1 b1 a2 b2 c d (Rg.vals a') w v) (v := stepsV a1 b1 a2 b2) (w' := w) ?_ hd rfl (Grow.refl w)
      simp only [Array.getD_eq_getD_getElem?] at e7
      simp [execOp, ho, go_sem, Act.eval, e7, stepsV, s0, s1, s2, s3]
    · refine Rg.step2N (i := 1) (dst := some 24) (op := .call { callee := .value (.func 101), args := #[], argTypes := #[] }) (by kernel_rfl) fun o a' w ho hd hg ha' D => ?_
      exact Rg.call0 (F := fun d w v => less3F a1 b1 a2 b2 c d (Rg.vals a') w v) ho en_none hd (none_any w) fun e w' ⟨v, e1, h1, g1⟩ => ⟨v, e1, h1, g1⟩
    · refine Rg.step2N (i := 2) (dst := some 25) (op := .binOp .eql 134 (.tmp 23) (.tmp 24) 134) (by kernel_rfl) fun o a' w ho hd hg ha' D => ?_
      have e23 : a'.tmps.getD 23 undef = stepsV a1 b1 a2 b2 := D 23 (by kernel_rfl)
      have e24 : a'.tmps.getD 24 undef = stepsV 1 0 0 1 := D 24 (by kernel_rfl)
      refine Rg.valOf (F := fun d w v => less3F a1 b1 a2 b2 c d (Rg.vals a') w v) (v := .bool c) (w' := w) ?_ hd rfl (Grow.refl w)
      simp only [Array.getD_eq_getD_getElem?] at e23 e24
      subst hc
      simp [execOp, ho, go_sem, Act.eval, e23, e24, stepsV]
      have r1 : ((a1 : Int) = 1) = (a1 = 1) := propext (by omega)
      have r2 : ((b2 : Int) = 1) = (b2 = 1) := propext (by omega)
      simp only [r1, r2]
      by_cases q1 : a1 = 1 <;> by_cases q2 : b1 = 0 <;> by_cases q3 : a2 = 0 <;> by_cases q4 : b2 = 1 <;> simp [q1, q2, q3, q4]

/-! Region 6 -/
theorem Rg.GB.old {R : List Nat} {w w0 w' : World} (g : Grow w w0) (h : Rg.GB R w0 w') (hR : ∀ b, b < w.heap.size → R.contains b = false) : Grow w w' :=
  ⟨h.os.trans g.os, h.tape.trans g.tape, h.output.trans g.output, Nat.le_trans g.size h.size, fun b hb => (h.block b (Nat.lt_of_lt_of_le hb g.size) (hR b hb)).trans (g.block b hb)⟩

namespace Rg
section
variable {ops : Array Oper} {Q : Exit → Act → World → Prop} {F : Facts} {a0 : Act} {w0 : World} {V : VS} {R : List Nat}
theorem step4G {i : Nat} {dst : Option Nat} {op : Op} (h : info ops i = some (dst, op, none)) (hal : V.al = []) (hs : ∀ w, GB R w0 w → Owes Tryz.prog ops Q F a0 w i dst op) : Step4 ops Q (fun d _ w v => F d w v) V R a0 w0 i := by
  intro o ho a w hg ha hd
  obtain ⟨h1, h2, h3⟩ := info_parts h ho
  refine run_wanted ho (by simp [Region.wanted, h3]) (hs w hg o a w h2 h1 (Grow.refl w) ha fun d hdi => ?_)
  exact hd d (by rw [← depI_eq ho]; exact hdi) (by rw [hal]; rfl)
theorem fieldAddrS {i d p k n : Nat} (hp : a0.tmps.getD p undef = .pointer (some ⟨k, 0, none⟩)) (hnd : (dsts ops).contains p = false) (hn : n < 4) (hF : ∀ w v, v = .pointer (some ⟨k, n, none⟩) → F d w v) : Owes Tryz.prog ops Q F a0 w0 i (some d) (.fieldAddr 134 (.tmp p) n) :=
  fun o a w ho hd hg ha _ => by
    have e : a.tmps.getD p undef = .pointer (some ⟨k, 0, none⟩) := (ha.2.2 p hnd).trans hp
    refine valOf (v := .pointer (some ⟨k, n, none⟩)) (w' := w) ?_ hd (hF _ _ rfl) (Grow.refl w)
    simp only [Array.getD_eq_getD_getElem?] at e
    have : n = 0 ∨ n = 1 ∨ n = 2 ∨ n = 3 := by omega
    rcases this with rfl | rfl | rfl | rfl <;> simp [execOp, ho, go_sem, Act.eval, e]
theorem loadU {i d p c : Nat} {b : Addr} (dp : depI ops i p = true) (hp : ∀ w v, F p w v → v = .pointer (some b)) (hc : w0.cell? b = some (.int .u64 (c : Int))) (hF : ∀ w v, v = .int .u64 (c : Int) → F d w v) : Owes Tryz.prog ops Q F a0 w0 i (some d) (.load 63 (.tmp p)) :=
  fun o a w ho hd hg ha D => by
    have e := hp _ _ (D p dp)
    have hc' := hg.cells1 hc
    refine valOf (v := .int .u64 (c : Int)) (w' := w) ?_ hd (hF _ _ rfl) (Grow.refl w)
    simp only [Array.getD_eq_getD_getElem?] at e
    simp [execOp, ho, go_sem, Act.eval, e, hc']
theorem callApart {i d x y z u a b s t k : Nat} {ts : Array TypeId} (dx : depI ops i x = true) (dy : depI ops i y = true) (dz : depI ops i z = true) (du : depI ops i u = true) (hx : ∀ w v, F x w v → IsN w v a k) (hy : ∀ w v, F y w v → v = .int .u64 (s : Int)) (hz : ∀ w v, F z w v → IsN w v b k) (hu : ∀ w v, F u w v → v = .int .u64 (t : Int))
    (hs : s < Mx.B) (ht : t < Mx.B) (hk : k ≤ 2147483648) (hF : ∀ w v, IsN w v (Mx.far (s * a) (t * b)) (1 + k) → F d w v) : Owes Tryz.prog ops Q F a0 w0 i (some d) (.call { callee := .value (.func 102), args := #[.tmp x, .tmp y, .tmp z, .tmp u], argTypes := ts }) :=
  fun o a' w ho hd _ _ D => by
    have e1 := hy _ _ (D y dy)
    have e2 := hu _ _ (D u du)
    refine callOf ho en_apart hd (R := Ret w fun v w' => IsN w' v (Mx.far (s * a) (t * b)) (1 + k)) ?_ fun _ _ ⟨v, e, h, g⟩ => ⟨v, e, hF _ _ h, g⟩
    simp only [List.map_toArray, List.map_cons, List.map_nil, Act.eval]
    rw [e1, e2]
    exact apart_any w _ _ a b s t k (hx _ _ (D x dx)) (hz _ _ (D z dz)) hs ht hk
end
end Rg

noncomputable def lessOps6 : Array Oper := Rg.regionOps Tryz.f84 6
def less6F (a b K k a1 b1 a2 b2 p q : Nat) : Rg.Facts := fun d w v =>
  match d with
  | 35 => IsN w v a K
  | 36 => v = .pointer (some ⟨k, 0, none⟩)
  | 37 => v = .int .u64 (a1 : Int)
  | 38 => IsN w v b K
  | 39 => v = .pointer (some ⟨k, 1, none⟩)
  | 40 => v = .int .u64 (b1 : Int)
  | 41 => IsN w v p (1 + K)
  | 42 => IsN w v a K
  | 43 => v = .pointer (some ⟨k, 2, none⟩)
  | 44 => v = .int .u64 (a2 : Int)
  | 45 => IsN w v b K
  | 46 => v = .pointer (some ⟨k, 3, none⟩)
  | 47 => v = .int .u64 (b2 : Int)
  | 48 => IsN w v q (1 + K)
  | _ => True

set_option maxRecDepth 100000 in
set_option maxHeartbeats 1000000 in
theorem less_region6 {Q : Exit → Act → World → Prop} {a0 : Act} {w w0 : World} {A2 A3 : Option Addr} {l2 c2 l3 c3 a b K k a1 b1 a2 b2 p q j2 j3 j4 j5 : Nat} (hn : a0.tmps.size = 49)
    (h2 : a0.tmps.getD 2 undef = .pointer (some ⟨j2, 0, none⟩)) (h3 : a0.tmps.getD 3 undef = .pointer (some ⟨j3, 0, none⟩)) (h4 : a0.tmps.getD 4 undef = .pointer (some ⟨j4, 0, none⟩)) (h5 : a0.tmps.getD 5 undef = .pointer (some ⟨j5, 0, none⟩)) (h7 : a0.tmps.getD 7 undef = .pointer (some ⟨k, 0, none⟩))
    (hne : j2 ≠ j4 ∧ j2 ≠ j5 ∧ j3 ≠ j4 ∧ j3 ≠ j5 ∧ k ≠ j4 ∧ k ≠ j5 ∧ j4 ≠ j5) (hge : w.heap.size ≤ j4 ∧ w.heap.size ≤ j5) (g : Grow w w0)
    (k2 : w0.cell? ⟨j2, 0, none⟩ = some (.slice A2 l2 c2)) (n2 : IsN w (.agg #[.slice A2 l2 c2]) a K) (k3 : w0.cell? ⟨j3, 0, none⟩ = some (.slice A3 l3 c3)) (n3 : IsN w (.agg #[.slice A3 l3 c3]) b K)
    (k4 : w0.cell? ⟨j4, 0, none⟩ = some (.slice none 0 0)) (f4 : w0.frozen? ⟨j4, 0, none⟩ = false) (k5 : w0.cell? ⟨j5, 0, none⟩ = some (.slice none 0 0)) (f5 : w0.frozen? ⟨j5, 0, none⟩ = false) (S : Stp w0 k a1 b1 a2 b2)
    (hb1 : a1 < Mx.B) (hb2 : b1 < Mx.B) (hb3 : a2 < Mx.B) (hb4 : b2 < Mx.B) (hK : K ≤ 2147483648) (hp : Mx.far (a1 * a) (b1 * b) = p) (hq : Mx.far (a2 * a) (b2 * b) = q)
    (fin : ∀ f w', Grow w w' → VarN w' j4 p (1 + K) → VarN w' j5 q (1 + K) → Q .normal (Rg.puts f [35, 36, 37, 38, 39, 40, 41, 42, 43, 44, 45, 46, 47, 48] a0) w') :
    (Code.region 6 lessOps6 true).wp Tryz.prog Q a0 w0 := by
  obtain ⟨e1, e2, e3, e4, e5, e6, e7⟩ := hne
  have hold : ∀ W, Rg.GB [j4, j5] w0 W → Grow w W := fun W hW => Rg.GB.old g hW (by
    intro b hb
    rw [List.contains_eq_mem]
    simp only [decide_eq_false_iff_not, List.mem_cons, List.not_mem_nil, or_false, not_or]
    omega)
  have hcl : ∀ W, Rg.GB [j4, j5] w0 W → ∀ (j n : Nat) (v : Value), j ≠ j4 → j ≠ j5 → w0.cell? ⟨j, n, none⟩ = some v → W.cell? ⟨j, n, none⟩ = some v := fun W hW j n v h1 h2 hc => hW.cell (by
    rw [List.contains_eq_mem]
    simp only [decide_eq_false_iff_not, List.mem_cons, List.not_mem_nil, or_false, not_or]
    exact ⟨h1, h2⟩) hc
  refine Rg.region4 (n := 49) (F := fun d _ w v => less6F a b K k a1 b1 a2 b2 p q d w v) ⟨[], [(14, 4, 41), (15, 5, 48)], [4, 5]⟩ [j4, j5] [] [35, 36, 37, 38, 39, 40, 41, 42, 43, 44, 45, 46, 47, 48] (by kernel_rfl) hn (by kernel_rfl) (by kernel_rfl) (by kernel_rfl) (by kernel_rfl) ?_ ?_ ?_ ?_ ?_ ?_
    (fun i hi hna hns => ?_) ?_
  · intro d f w w' v h hg
    unfold less6F at h ⊢
    split at h <;> first | exact h | exact h.grow hg
  · intro d f f' w v h _
    exact h
  · intro d f w v k A l c A' l' c' h hc
    unfold less6F at h ⊢
    split at h <;> first | exact h | exact h.store hc _
  · intro i x z hz f w v h
    simp only [List.mem_cons, Prod.mk.injEq, List.not_mem_nil, or_false] at hz
    rcases hz with ⟨rfl, rfl, rfl⟩ | ⟨rfl, rfl, rfl⟩
    · exact IsN.cell (n := p) (k := 1 + K) h
    · exact IsN.cell (n := q) (k := 1 + K) h
  · intro x hx
    simp only [List.mem_cons, List.not_mem_nil, or_false] at hx
    rcases hx with rfl | rfl
    · exact ⟨j4, h4, .inr (by simp), lt_of_cell k4, f4, none, 0, 0, k4⟩
    · exact ⟨j5, h5, .inr (by simp), lt_of_cell k5, f5, none, 0, 0, k5⟩
  · intro x y hx hy hxy
    have hpp : (Value.pointer (some ⟨j4, 0, none⟩)) ≠ .pointer (some ⟨j5, 0, none⟩) := by
      intro e
      injection e with e
      injection e with e
      injection e with e
      exact e7 e
    have r4 : Rg.vals a0 4 = .pointer (some ⟨j4, 0, none⟩) := h4
    have r5 : Rg.vals a0 5 = .pointer (some ⟨j5, 0, none⟩) := h5
    simp only [List.mem_cons, List.not_mem_nil, or_false] at hx hy
    rcases hx with rfl | rfl <;> rcases hy with rfl | rfl
    · exact absurd rfl hxy
    · rw [r4, r5]; exact hpp
    · rw [r4, r5]; exact hpp.symm
    · exact absurd rfl hxy
  · have hi16 : i < 16 := Nat.lt_of_lt_of_eq hi (by kernel_rfl)
    match i, hi16 with
    | 0, _ => exact Rg.step4G (F := less6F a b K k a1 b1 a2 b2 p q) (by kernel_rfl) rfl fun W hW => Rg.loadNat (d := 35) (p := 2) h2 (by kernel_rfl) (hcl W hW _ _ _ e1 e2 k2) (n2.grow (hold W hW)) (fun _ _ h => h)
    | 1, _ => exact Rg.step4G (F := less6F a b K k a1 b1 a2 b2 p q) (by kernel_rfl) rfl fun W hW => Rg.fieldAddrS (d := 36) (p := 7) (k := k) (n := 0) h7 (by kernel_rfl) (by omega) (fun _ _ h => h)
    | 2, _ => exact Rg.step4G (F := less6F a b K k a1 b1 a2 b2 p q) (by kernel_rfl) rfl fun W hW => Rg.loadU (d := 37) (p := 36) (c := a1) (b := ⟨k, 0, none⟩) (by kernel_rfl) (fun _ _ h => h) (hcl W hW _ _ _ e5 e6 S.c0) (fun _ _ h => h)
    | 3, _ => exact Rg.step4G (F := less6F a b K k a1 b1 a2 b2 p q) (by kernel_rfl) rfl fun W hW => Rg.loadNat (d := 38) (p := 3) h3 (by kernel_rfl) (hcl W hW _ _ _ e3 e4 k3) (n3.grow (hold W hW)) (fun _ _ h => h)
    | 4, _ => exact Rg.step4G (F := less6F a b K k a1 b1 a2 b2 p q) (by kernel_rfl) rfl fun W hW => Rg.fieldAddrS (d := 39) (p := 7) (k := k) (n := 1) h7 (by kernel_rfl) (by omega) (fun _ _ h => h)
    | 5, _ => exact Rg.step4G (F := less6F a b K k a1 b1 a2 b2 p q) (by kernel_rfl) rfl fun W hW => Rg.loadU (d := 40) (p := 39) (c := b1) (b := ⟨k, 1, none⟩) (by kernel_rfl) (fun _ _ h => h) (hcl W hW _ _ _ e5 e6 S.c1) (fun _ _ h => h)
    | 6, _ => exact Rg.step4G (F := less6F a b K k a1 b1 a2 b2 p q) (by kernel_rfl) rfl fun W hW => Rg.callApart (d := 41) (x := 35) (y := 37) (z := 38) (u := 40) (a := a) (b := b) (s := a1) (t := b1) (k := K) (ts := #[26, 63, 26, 63]) (by kernel_rfl) (by kernel_rfl) (by kernel_rfl) (by kernel_rfl) (fun _ _ h => h) (fun _ _ h => h) (fun _ _ h => h) (fun _ _ h => h) hb1 hb2 hK (fun _ _ h => by rw [hp] at h; exact h)
    | 7, _ => exact Rg.step4G (F := less6F a b K k a1 b1 a2 b2 p q) (by kernel_rfl) rfl fun W hW => Rg.loadNat (d := 42) (p := 2) h2 (by kernel_rfl) (hcl W hW _ _ _ e1 e2 k2) (n2.grow (hold W hW)) (fun _ _ h => h)
    | 8, _ => exact Rg.step4G (F := less6F a b K k a1 b1 a2 b2 p q) (by kernel_rfl) rfl fun W hW => Rg.fieldAddrS (d := 43) (p := 7) (k := k) (n := 2) h7 (by kernel_rfl) (by omega) (fun _ _ h => h)
    | 9, _ => exact Rg.step4G (F := less6F a b K k a1 b1 a2 b2 p q) (by kernel_rfl) rfl fun W hW => Rg.loadU (d := 44) (p := 43) (c := a2) (b := ⟨k, 2, none⟩) (by kernel_rfl) (fun _ _ h => h) (hcl W hW _ _ _ e5 e6 S.c2) (fun _ _ h => h)
    | 10, _ => exact Rg.step4G (F := less6F a b K k a1 b1 a2 b2 p q) (by kernel_rfl) rfl fun W hW => Rg.loadNat (d := 45) (p := 3) h3 (by kernel_rfl) (hcl W hW _ _ _ e3 e4 k3) (n3.grow (hold W hW)) (fun _ _ h => h)
    | 11, _ => exact Rg.step4G (F := less6F a b K k a1 b1 a2 b2 p q) (by kernel_rfl) rfl fun W hW => Rg.fieldAddrS (d := 46) (p := 7) (k := k) (n := 3) h7 (by kernel_rfl) (by omega) (fun _ _ h => h)
    | 12, _ => exact Rg.step4G (F := less6F a b K k a1 b1 a2 b2 p q) (by kernel_rfl) rfl fun W hW => Rg.loadU (d := 47) (p := 46) (c := b2) (b := ⟨k, 3, none⟩) (by kernel_rfl) (fun _ _ h => h) (hcl W hW _ _ _ e5 e6 S.c3) (fun _ _ h => h)
    | 13, _ => exact Rg.step4G (F := less6F a b K k a1 b1 a2 b2 p q) (by kernel_rfl) rfl fun W hW => Rg.callApart (d := 48) (x := 42) (y := 44) (z := 45) (u := 47) (a := a) (b := b) (s := a2) (t := b2) (k := K) (ts := #[26, 63, 26, 63]) (by kernel_rfl) (by kernel_rfl) (by kernel_rfl) (by kernel_rfl) (fun _ _ h => h) (fun _ _ h => h) (fun _ _ h => h) (fun _ _ h => h) hb3 hb4 hK (fun _ _ h => by rw [hq] at h; exact h)
    | 14, _ => exact absurd hns (by decide)
    | 15, _ => exact absurd hns (by decide)
    | i + 16, h => exact absurd h (by omega)
  · intro f w' hg hf hl hap hh ho
    obtain ⟨i, A, l, c, i1, i2, i3⟩ := hh 14 4 41 (by simp)
    obtain ⟨j, B, l', c', i4, i5, i6⟩ := hh 15 5 48 (by simp)
    have r4 : f 4 = .pointer (some ⟨j4, 0, none⟩) := (ho 4 (by simp)).trans h4
    have r5 : f 5 = .pointer (some ⟨j5, 0, none⟩) := (ho 5 (by simp)).trans h5
    rw [r4] at i1
    injection i1 with i1
    injection i1 with i1
    injection i1 with i1
    subst i1
    rw [r5] at i4
    injection i4 with i4
    injection i4 with i4
    injection i4 with i4
    subst i4
    have h41 : IsN w' (f 41) p (1 + K) := hf 41 rfl rfl
    have h48 : IsN w' (f 48) q (1 + K) := hf 48 rfl rfl
    rw [i2] at h41
    rw [i5] at h48
    exact fin f w' (hold w' hg) ⟨A, l, c, i3, h41⟩ ⟨B, l', c', i6, h48⟩
noncomputable def lessOps5 : Array Oper := Rg.regionOps Tryz.f84 5
def less5F (K p q : Nat) : Rg.Facts := fun d w v =>
  match d with
  | 33 => IsN w v p K
  | 34 => IsN w v q K
  | _ => True

set_option maxRecDepth 100000 in
set_option maxHeartbeats 1000000 in
theorem less_region5 {Q : Exit → Act → World → Prop} {a0 : Act} {w w0 : World} {A3 A9 : Option Addr} {l3 c3 l9 c9 K p q j3 j4 j5 j9 : Nat} (hn : a0.tmps.size = 49)
    (h3 : a0.tmps.getD 3 undef = .pointer (some ⟨j3, 0, none⟩)) (h4 : a0.tmps.getD 4 undef = .pointer (some ⟨j4, 0, none⟩)) (h5 : a0.tmps.getD 5 undef = .pointer (some ⟨j5, 0, none⟩)) (h9 : a0.tmps.getD 9 undef = .pointer (some ⟨j9, 0, none⟩))
    (hne : j3 ≠ j4 ∧ j3 ≠ j5 ∧ j9 ≠ j4 ∧ j9 ≠ j5 ∧ j4 ≠ j5) (g : Grow w w0)
    (k3 : w0.cell? ⟨j3, 0, none⟩ = some (.slice A3 l3 c3)) (n3 : ∀ W, Rg.GB [j4, j5] w0 W → IsN W (.agg #[.slice A3 l3 c3]) p K) (k9 : w0.cell? ⟨j9, 0, none⟩ = some (.slice A9 l9 c9)) (n9 : ∀ W, Rg.GB [j4, j5] w0 W → IsN W (.agg #[.slice A9 l9 c9]) q K)
    (hge : w.heap.size ≤ j4 ∧ w.heap.size ≤ j5)
    (k4 : w0.cell? ⟨j4, 0, none⟩ = some (.slice none 0 0)) (f4 : w0.frozen? ⟨j4, 0, none⟩ = false) (k5 : w0.cell? ⟨j5, 0, none⟩ = some (.slice none 0 0)) (f5 : w0.frozen? ⟨j5, 0, none⟩ = false)
    (fin : ∀ f w', Grow w w' → VarN w' j4 p K → VarN w' j5 q K → Q .normal (Rg.puts f [33, 34] a0) w') :
    (Code.region 5 lessOps5 true).wp Tryz.prog Q a0 w0 := by
  obtain ⟨e1, e2, e3, e4, e7⟩ := hne
  have hold : ∀ W, Rg.GB [j4, j5] w0 W → Grow w W := fun W hW => Rg.GB.old g hW (by
    intro b hb
    rw [List.contains_eq_mem]
    simp only [decide_eq_false_iff_not, List.mem_cons, List.not_mem_nil, or_false, not_or]
    omega)
  have hcl : ∀ W, Rg.GB [j4, j5] w0 W → ∀ (j n : Nat) (v : Value), j ≠ j4 → j ≠ j5 → w0.cell? ⟨j, n, none⟩ = some v → W.cell? ⟨j, n, none⟩ = some v := fun W hW j n v h1 h2 hc => hW.cell (by
    rw [List.contains_eq_mem]
    simp only [decide_eq_false_iff_not, List.mem_cons, List.not_mem_nil, or_false, not_or]
    exact ⟨h1, h2⟩) hc
  refine Rg.region4 (n := 49) (F := fun d _ w v => less5F K p q d w v) ⟨[], [(2, 4, 33), (3, 5, 34)], [4, 5]⟩ [j4, j5] [] [33, 34] (by kernel_rfl) hn (by kernel_rfl) (by kernel_rfl) (by kernel_rfl) (by kernel_rfl) ?_ ?_ ?_ ?_ ?_ ?_
    (fun i hi hna hns => ?_) ?_
  · intro d f w w' v h hg
    unfold less5F at h ⊢
    split at h <;> first | exact h | exact h.grow hg
  · intro d f f' w v h _
    exact h
  · intro d f w v k A l c A' l' c' h hc
    unfold less5F at h ⊢
    split at h <;> first | exact h | exact h.store hc _
  · intro i x z hz f w v h
    simp only [List.mem_cons, Prod.mk.injEq, List.not_mem_nil, or_false] at hz
    rcases hz with ⟨rfl, rfl, rfl⟩ | ⟨rfl, rfl, rfl⟩
    · exact IsN.cell (n := p) (k := K) h
    · exact IsN.cell (n := q) (k := K) h
  · intro x hx
    simp only [List.mem_cons, List.not_mem_nil, or_false] at hx
    rcases hx with rfl | rfl
    · exact ⟨j4, h4, .inr (by simp), lt_of_cell k4, f4, none, 0, 0, k4⟩
    · exact ⟨j5, h5, .inr (by simp), lt_of_cell k5, f5, none, 0, 0, k5⟩
  · intro x y hx hy hxy
    have hpp : (Value.pointer (some ⟨j4, 0, none⟩)) ≠ .pointer (some ⟨j5, 0, none⟩) := by
      intro e
      injection e with e
      injection e with e
      injection e with e
      exact e7 e
    have r4 : Rg.vals a0 4 = .pointer (some ⟨j4, 0, none⟩) := h4
    have r5 : Rg.vals a0 5 = .pointer (some ⟨j5, 0, none⟩) := h5
    simp only [List.mem_cons, List.not_mem_nil, or_false] at hx hy
    rcases hx with rfl | rfl <;> rcases hy with rfl | rfl
    · exact absurd rfl hxy
    · rw [r4, r5]; exact hpp
    · rw [r4, r5]; exact hpp.symm
    · exact absurd rfl hxy
  · have hi4 : i < 4 := Nat.lt_of_lt_of_eq hi (by kernel_rfl)
    match i, hi4 with
    | 0, _ => exact Rg.step4G (F := less5F K p q) (by kernel_rfl) rfl fun W hW => Rg.loadNat (d := 33) (p := 3) h3 (by kernel_rfl) (hcl W hW _ _ _ e1 e2 k3) (n3 W hW) (fun _ _ h => h)
    | 1, _ => exact Rg.step4G (F := less5F K p q) (by kernel_rfl) rfl fun W hW => Rg.loadNat (d := 34) (p := 9) h9 (by kernel_rfl) (hcl W hW _ _ _ e3 e4 k9) (n9 W hW) (fun _ _ h => h)
    | 2, _ => exact absurd hns (by decide)
    | 3, _ => exact absurd hns (by decide)
    | i + 4, h => exact absurd h (by omega)
  · intro f w' hg hf hl hap hh ho
    obtain ⟨i, A, l, c, i1, i2, i3⟩ := hh 2 4 33 (by simp)
    obtain ⟨j, B, l', c', i4, i5, i6⟩ := hh 3 5 34 (by simp)
    have r4 : f 4 = .pointer (some ⟨j4, 0, none⟩) := (ho 4 (by simp)).trans h4
    have r5 : f 5 = .pointer (some ⟨j5, 0, none⟩) := (ho 5 (by simp)).trans h5
    rw [r4] at i1
    injection i1 with i1
    injection i1 with i1
    injection i1 with i1
    subst i1
    rw [r5] at i4
    injection i4 with i4
    injection i4 with i4
    injection i4 with i4
    subst i4
    have h33 : IsN w' (f 33) p K := hf 33 rfl rfl
    have h34 : IsN w' (f 34) q K := hf 34 rfl rfl
    rw [i2] at h33
    rw [i5] at h34
    exact fin f w' (hold w' hg) ⟨A, l, c, i3, h33⟩ ⟨B, l', c', i6, h34⟩
end Go.Proofs.YtpjmfbiihhbjhaaGreatDoor
