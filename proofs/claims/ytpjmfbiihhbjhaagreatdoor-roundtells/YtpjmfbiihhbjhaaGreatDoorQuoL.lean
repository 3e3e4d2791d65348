/- Contracts of package quot: apart. -/
import Derived.Test.YtpjmfbiihhbjhaaGreatDoorQuoK
import Derived.Test.YtpjmfbiihhbjhaaGreatDoorBQuo
namespace Go.Proofs.YtpjmfbiihhbjhaaGreatDoor
open Go.RowKit

namespace Rg
section
variable {ops : Array Oper} {Q : Exit → Act → World → Prop} {F : Facts} {a0 : Act} {w0 : World}
theorem buildX {i d x c : Nat} (hc : c < Mx.B) (dx : depI ops i x = true) (hx : ∀ w v, F x w v → v = .int .u64 (c : Int)) (hF : ∀ w v, Sl w v [c] → F d w v) : Owes Tryz.prog ops Q F a0 w0 i (some d) (.buildSlice 22 1 #[(0, .tmp x)]) :=
  fun o a w ho hd hg ha D => by
    have e := hx _ _ (D x dx)
    refine valOf (v := .slice (some ⟨w.heap.size, 0, none⟩) 1 1) (w' := w.alloc (.cells (Go.Proofs.YtpjmfbiihhbjhaaGreatDoor.vals [c]).toArray 63)) ?_ hd (hF _ _ (sl_built w [c] (by intro y hy; simp at hy; rw [hy]; exact hc))) ((Grow.refl w).alloc _)
    simp only [Array.getD_eq_getD_getElem?] at e
    simp [execOp, ho, go_sem, Go.Proofs.YtpjmfbiihhbjhaaGreatDoor.vals, Act.eval, e]
end
end Rg

noncomputable def apartOps1 : Array Oper := Rg.regionOps Tryz.f102 1
def apartF (a b s t k : Nat) : Rg.Facts := fun d w v =>
  match d with
  | 13 => v = .int .u64 (s : Int)
  | 14 => Sl w v [s]
  | 15 => IsN w v s 1
  | 16 => IsN w v a k
  | 17 => IsN w v (s * a) (1 + k)
  | 18 => v = .int .u64 (t : Int)
  | 19 => Sl w v [t]
  | 20 => IsN w v t 1
  | 21 => IsN w v b k
  | 22 => IsN w v (t * b) (1 + k)
  | _ => True

theorem Sl.store {w : World} {v : Value} {l : List Nat} (h : Sl w v l) {p : Addr} {A' : Option Addr} {k c : Nat} (hp : w.cell? p = some (.slice A' k c)) (u : Value) : Sl (w.setCell p u) v l := by
  obtain ⟨A, d, e, h1, h2, h3⟩ := h
  exact ⟨A, d, e, h1, h2, h3.store hp u⟩

set_option maxRecDepth 100000 in
set_option maxHeartbeats 1000000 in
theorem apart_region1 {Q : Exit → Act → World → Prop} {a0 : Act} {w0 : World} {a b s t k : Nat} {p4 p6 : Addr} {A4 A6 : Option Addr} {l4 c4 l6 c6 : Nat} (hn : a0.tmps.size = 36)
    (h1 : a0.tmps.getD 1 undef = .int .u64 (s : Int)) (h3 : a0.tmps.getD 3 undef = .int .u64 (t : Int)) (h4 : a0.tmps.getD 4 undef = .pointer (some p4)) (h6 : a0.tmps.getD 6 undef = .pointer (some p6))
    (k4 : w0.cell? p4 = some (.slice A4 l4 c4)) (n4 : IsN w0 (.agg #[.slice A4 l4 c4]) a k) (k6 : w0.cell? p6 = some (.slice A6 l6 c6)) (n6 : IsN w0 (.agg #[.slice A6 l6 c6]) b k)
    (hs : s < Mx.B) (ht : t < Mx.B) (hk : k ≤ 2147483648)
    (fin : ∀ f w i j, Grow w0 w → f 9 = .pointer (some ⟨i, 0, none⟩) → f 10 = .pointer (some ⟨j, 0, none⟩) → i ≠ j → w0.heap.size ≤ i → w0.heap.size ≤ j → w.frozen? ⟨i, 0, none⟩ = false → w.frozen? ⟨j, 0, none⟩ = false → VarN w i (s * a) (1 + k) → VarN w j (t * b) (1 + k) → Q .normal (Rg.puts f [13, 14, 15, 16, 17, 18, 19, 20, 21, 22, 9, 10] a0) w) :
    (Code.region 1 apartOps1 true).wp Tryz.prog Q a0 w0 := by
  refine Rg.region4 (n := 36) (F := fun d _ w v => apartF a b s t k d w v) ⟨[(10, 9), (11, 10)], [(12, 9, 17), (13, 10, 22)], []⟩ [] [] [13, 14, 15, 16, 17, 18, 19, 20, 21, 22, 9, 10] (by kernel_rfl) hn (by kernel_rfl) (by kernel_rfl) (by kernel_rfl) (by kernel_rfl) ?_ ?_ ?_ ?_ (by intro p hp; cases hp) (by intro p q hp; cases hp)
    (fun i hi hna hns => ?_) ?_
  · intro d f w w' v h hg
    unfold apartF at h ⊢
    split at h <;> first | exact h | exact h.grow hg
  · intro d f f' w v h _
    exact h
  · intro d f w v k A l c A' l' c' h hc
    unfold apartF at h ⊢
    split at h <;> first | exact h | exact h.store hc _
  · intro i p z hz f w v h
    simp only [List.mem_cons, Prod.mk.injEq, List.not_mem_nil, or_false] at hz
    rcases hz with ⟨rfl, rfl, rfl⟩ | ⟨rfl, rfl, rfl⟩
    · exact IsN.cell (n := s * a) (k := 1 + k) h
    · exact IsN.cell (n := t * b) (k := 1 + k) h
  · have hal : ∀ d, (([(10, 9), (11, 10)] : List (Nat × Nat)).map (·.2)).contains d = true → ∀ w v, apartF a b s t k d w v := by
      intro d hd w v
      have : d = 9 ∨ d = 10 := by simpa using hd
      rcases this with rfl | rfl <;> trivial
    have hi14 : i < 14 := Nat.lt_of_lt_of_eq hi (by kernel_rfl)
    match i, hi14 with
    | 0, _ => exact Rg.step4N (F := apartF a b s t k) (by kernel_rfl) hal (Rg.move (d := 13) (x := .tmp 1) fun a w hg ha _ => (ha.2.2 1 (by kernel_rfl)).trans h1)
    | 1, _ => exact Rg.step4N (F := apartF a b s t k) (by kernel_rfl) hal (Rg.buildX (d := 14) (x := 13) (c := s) hs (by kernel_rfl) (fun _ _ h => h) (fun _ _ h => h))
    | 2, _ => exact Rg.step4N (F := apartF a b s t k) (by kernel_rfl) hal (Rg.callOf1 (d := 15) (x := 14) (k := 1) (l := [s]) (ts := #[22]) (by kernel_rfl) (fun _ _ h => h) (by simp) (by omega) (fun _ _ h => by rw [Mx.val_one] at h; exact h))
    | 3, _ => exact Rg.step4N (F := apartF a b s t k) (by kernel_rfl) hal (Rg.loadNat (d := 16) (p := 4) h4 (by kernel_rfl) k4 n4 (fun _ _ h => h))
    | 4, _ => exact Rg.step4N (F := apartF a b s t k) (by kernel_rfl) hal (Rg.callMul (d := 17) (x := 15) (y := 16) (n := s) (m := a) (k := 1) (j := k) (ts := #[26, 26]) (by kernel_rfl) (by kernel_rfl) (fun _ _ h => h) (fun _ _ h => h) (by omega) (by omega) (fun _ _ h => h))
    | 5, _ => exact Rg.step4N (F := apartF a b s t k) (by kernel_rfl) hal (Rg.move (d := 18) (x := .tmp 3) fun a w hg ha _ => (ha.2.2 3 (by kernel_rfl)).trans h3)
    | 6, _ => exact Rg.step4N (F := apartF a b s t k) (by kernel_rfl) hal (Rg.buildX (d := 19) (x := 18) (c := t) ht (by kernel_rfl) (fun _ _ h => h) (fun _ _ h => h))
    | 7, _ => exact Rg.step4N (F := apartF a b s t k) (by kernel_rfl) hal (Rg.callOf1 (d := 20) (x := 19) (k := 1) (l := [t]) (ts := #[22]) (by kernel_rfl) (fun _ _ h => h) (by simp) (by omega) (fun _ _ h => by rw [Mx.val_one] at h; exact h))
    | 8, _ => exact Rg.step4N (F := apartF a b s t k) (by kernel_rfl) hal (Rg.loadNat (d := 21) (p := 6) h6 (by kernel_rfl) k6 n6 (fun _ _ h => h))
    | 9, _ => exact Rg.step4N (F := apartF a b s t k) (by kernel_rfl) hal (Rg.callMul (d := 22) (x := 20) (y := 21) (n := t) (m := b) (k := 1) (j := k) (ts := #[26, 26]) (by kernel_rfl) (by kernel_rfl) (fun _ _ h => h) (fun _ _ h => h) (by omega) (by omega) (fun _ _ h => h))
    | 10, _ => exact absurd hna (by decide)
    | 11, _ => exact absurd hna (by decide)
    | 12, _ => exact absurd hns (by decide)
    | 13, _ => exact absurd hns (by decide)
    | i + 14, h => exact absurd h (by omega)
  · intro f w hg hf hl hap hh _
    obtain ⟨i, A, l, c, e1, e2, e3⟩ := hh 12 9 17 (by simp)
    obtain ⟨j, B, l', c', e4, e5, e6⟩ := hh 13 10 22 (by simp)
    obtain ⟨i', q1, q2, _, q3, _⟩ := hl 9 rfl
    obtain ⟨j', r1, r2, _, r3, _⟩ := hl 10 rfl
    rw [e1] at q1
    injection q1 with q1
    injection q1 with q1
    injection q1 with q1
    subst q1
    rw [e4] at r1
    injection r1 with r1
    injection r1 with r1
    injection r1 with r1
    subst r1
    have h17 : IsN w (f 17) (s * a) (1 + k) := hf 17 rfl rfl
    have h22 : IsN w (f 22) (t * b) (1 + k) := hf 22 rfl rfl
    rw [e2] at h17
    rw [e5] at h22
    refine fin f w i j hg.toGrow e1 e4 ?_ (q2.elim id (fun h => by cases h)) (r2.elim id (fun h => by cases h)) q3 r3 ⟨A, l, c, e3, h17⟩ ⟨B, l', c', e6, h22⟩
    rintro rfl
    exact hap 9 10 rfl rfl (by omega) (e1.trans e4.symm)
end Go.Proofs.YtpjmfbiihhbjhaaGreatDoor
