/- Package whole: Of. -/
import Derived.Test.YtlkiikchjeapfaaGreatDoorWhA
namespace Go.Proofs.YtlkiikchjeapfaaGreatDoor
open Go.RowKit
set_option maxRecDepth 20000

def ofF (n k : Nat) (b : Bool) : Nat → World → Value → Prop
  | 5 => fun w v => IsN w v n k
  | 6 => fun _ v => v = .bool b
  | 7 => fun _ v => v = .bool b
  | 8 => fun w v => cond b (IsN w v n k) (v = undef)
  | 9 => fun _ v => cond b (v = .bool (n == 0)) (v = undef)
  | 10 => fun _ v => cond b (v = .bool (!(n == 0))) (v = undef)
  | 11 => fun _ v => v = .bool (b && !(n == 0))
  | 12 => fun w v => IsW w v (signed n (b && !(n == 0))) k
  | _ => fun _ _ => True

set_option maxRecDepth 100000 in
set_option maxHeartbeats 1000000 in
theorem of_region {Q : Exit → Act → World → Prop} {a0 : Act} {w0 : World} {n k p4 : Nat} {b : Bool} {p2 : Addr} {A l c} (hn : a0.tmps.size = 13)
    (h1 : a0.tmps.getD 1 undef = .bool b) (h2 : a0.tmps.getD 2 undef = .pointer (some p2)) (h4 : a0.tmps.getD 4 undef = .pointer (some ⟨p4, 0, none⟩))
    (k2 : w0.cell? p2 = some (.slice A l c)) (n2 : IsN w0 (.agg #[.slice A l c]) n k) (w4 : WB w0 p4)
    (fin : ∀ f w A l c x, Grow w0 w → IsW w (.agg #[.slice A l c, .bool x]) (signed n b) k → Q .normal (Rg.puts f [5, 6, 7, 8, 9, 10, 11, 12] a0) (stW w p4 A l c x)) :
    (Code.region 1 (Rg.regionOps Tryz.f26 1) true).wp Tryz.prog Q a0 w0 := by
  refine Rg.region3 (n := 13) (F := fun d _ w v => ofF n k b d w v) 8 [] [5, 6, 7, 8, 9, 10, 11, 12] (by kernel_rfl) (by kernel_rfl) hn (by kernel_rfl) rfl (by kernel_rfl) ?_ (fun _ _ _ _ _ h _ => h) (fun i hi => ?_) ?_
  · intro d _ w w' v h hg
    unfold ofF at h ⊢
    split at h <;> first | exact h | exact h.grow hg | (cases b <;> first | exact h | exact h.grow hg)
  · refine Rg.step2_of (F := ofF n k b) ?_
    match i, hi with
    | 0, _ => exact Rg.stepN (by kernel_rfl) (Rg.loadNat (d := 5) (p := 2) h2 (by kernel_rfl) k2 n2 (fun _ _ h => h))
    | 1, _ => exact Rg.stepN (by kernel_rfl) (Rg.move (d := 6) (x := .tmp 1) fun a w hg ha D => (ha.2.2 1 (by kernel_rfl)).trans h1)
    | 2, _ => exact Rg.stepN (by kernel_rfl) (Rg.move (d := 7) (x := .tmp 6) fun a w hg ha D => D 6 (by kernel_rfl))
    | 3, _ =>
      cases b with
      | true => exact Rg.stepG (i := 3) (j := 2) (dj := 7) (b := true) (by kernel_rfl) (by kernel_rfl) (by kernel_rfl) (fun _ _ h => h) (Rg.loadNat (d := 8) (p := 2) h2 (by kernel_rfl) k2 n2 (fun _ _ h => h))
      | false => exact Rg.stepS (i := 3) (j := 2) (dj := 7) (b := true) (c := false) (dst := some 8) (op := .load 26 (.tmp 2)) (by kernel_rfl) (by kernel_rfl) (by kernel_rfl) (fun _ _ h => h) rfl (fun d hd w => by cases hd; exact rfl)
    | 4, _ =>
      cases b with
      | true => exact Rg.stepG (i := 4) (j := 2) (dj := 7) (b := true) (by kernel_rfl) (by kernel_rfl) (by kernel_rfl) (fun _ _ h => h) (Rg.callZero (d := 9) (x := 8) (n := n) (k := k) (ts := #[26]) (by kernel_rfl) (fun _ _ h => h) (fun _ _ h => h))
      | false => exact Rg.stepS (i := 4) (j := 2) (dj := 7) (b := true) (c := false) (dst := some 9) (op := .call { callee := .value (.func 40), args := #[.tmp 8], argTypes := #[26] }) (by kernel_rfl) (by kernel_rfl) (by kernel_rfl) (fun _ _ h => h) rfl (fun d hd w => by cases hd; exact rfl)
    | 5, _ =>
      cases b with
      | true => exact Rg.stepG (i := 5) (j := 2) (dj := 7) (b := true) (by kernel_rfl) (by kernel_rfl) (by kernel_rfl) (fun _ _ h => h) (Rg.notB (d := 10) (x := 9) (b := (n == 0)) (c := !(n == 0)) (by kernel_rfl) (fun _ _ h => h) rfl (fun _ _ h => h))
      | false => exact Rg.stepS (i := 5) (j := 2) (dj := 7) (b := true) (c := false) (dst := some 10) (op := .unOp .not 4 (.tmp 9)) (by kernel_rfl) (by kernel_rfl) (by kernel_rfl) (fun _ _ h => h) rfl (fun d hd w => by cases hd; exact rfl)
    | 6, _ =>
      cases b with
      | true => exact Rg.stepN (by kernel_rfl) (Rg.pickT (d := 11) (c := 7) (x := .tmp 10) (y := .const (.bool false)) (by kernel_rfl) (fun _ _ h => h) fun _ _ _ _ D => D 10 (by kernel_rfl))
      | false => exact Rg.stepN (by kernel_rfl) (Rg.pickF (d := 11) (c := 7) (x := .tmp 10) (y := .const (.bool false)) (by kernel_rfl) (fun _ _ h => h) fun _ _ _ _ D => rfl)
    | 7, _ => exact Rg.stepN (by kernel_rfl) (Rg.buildW (d := 12) (x := 5) (y := 11) (n := n) (k := k) (b := (b && !(n == 0))) (by kernel_rfl) (by kernel_rfl) (fun _ _ h => h) (fun _ _ h => h) (fun h => by simp at h; exact h.2) (fun _ _ h => h))
    | i + 8, h => exact absurd h (by omega)
  · intro f w hg hf
    have h12 : IsW w (f 12) (signed n (b && !(n == 0))) k := hf 12 rfl
    obtain ⟨A, l, c, x, e, _⟩ := h12.open
    have hpg := Rg.puts_get f [5, 6, 7, 8, 9, 10, 11, 12] a0
    have hz : signed n (b && !(n == 0)) = signed n b := by
      unfold signed
      by_cases h0 : n = 0
      · subst h0; cases b <;> simp
      · cases b <;> simp [h0]
    rw [e, hz] at h12
    refine Rg.storeW_last (p := 4) (x := 12) (b := p4) (by kernel_rfl) ?_ ?_ (w4.grow hg) (fin f w A l c x hg h12)
    · rw [hpg 4 (by omega)]; exact h4
    · rw [hpg 12 (by omega)]; exact e

set_option maxHeartbeats 1000000 in
theorem of_w {w : World} {v : Value} {n k : Nat} {b : Bool} (h : IsN w v n k) : Calls Tryz.prog 26 #[v, .bool b] w (Ret w fun v' w' => IsW w' v' (signed n b) k) := by
  obtain ⟨A, l, c, rfl⟩ := h.cell
  have H := Lib.hid h
  clear h
  go_enter Tryz.func26, Tryz.ntmps26
  go_wp2_with fail
  have hc0 : ((w.alloc (Obj.cells #[Value.slice A l c] 26)).alloc (Obj.cells #[Value.slice none 0 0, Value.bool false] 28)).cell? ⟨w.heap.size, 0, none⟩ = some (.slice A l c) := by simp [go_sem]
  have hw4 := WB.new (w.alloc (Obj.cells #[Value.slice A l c] 26)) none 0 0 false 28
  rw [World.size_alloc] at hw4
  have hg0 := ((Grow.refl w).alloc (Obj.cells #[Value.slice A l c] 26)).alloc (Obj.cells #[Value.slice none 0 0, Value.bool false] 28)
  refine Rg.region_eq (by kernel_rfl) (of_region (n := n) (k := k) (b := b) (p4 := w.heap.size + 1) rfl rfl rfl rfl hc0 (H.out.grow hg0) hw4 ?_)
  intro f W A' l' c' x hg hW
  have hwb := hw4.grow hg
  have hk := hwb.cells A' l' c' x
  have HW := Lib.hid (hW.st hwb A' l' c' x)
  have HG := Lib.hid (grow_stW (hg0.trans hg) (b := w.heap.size + 1) (by omega) A' l' c' x)
  generalize stW W (w.heap.size + 1) A' l' c' x = W2 at *
  obtain ⟨k0, k1⟩ := hk
  clear hW hg hwb hc0 hw4 hg0
  simp only [Rg.puts, Act.put, List.setIfInBounds_toArray, List.set_cons_succ, List.set_cons_zero]
  go_wp2_with fail
  trace_state
  refine bodyPost_ret (v := .agg #[.slice A' l' c', .bool x]) (by simp [results, Tryz.results26, go_sem, k0, k1]) rfl (Ret.mk HW.out HG.out)
end Go.Proofs.YtlkiikchjeapfaaGreatDoor
