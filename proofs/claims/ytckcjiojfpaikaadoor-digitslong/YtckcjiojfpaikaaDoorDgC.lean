/- Contracts of package digits: write. The text grows in a block of its own, whose cells are bytes. -/
import Derived.Test.YtckcjiojfpaikaaDoorDgB
import Derived.Test.YtckcjiojfpaikaaDoorOwn
import Derived.Test.YtckcjiojfpaikaaDoorRgvNat
import Derived.Deep.RegionHeld3
import Derived.WalkMore
namespace Go.Proofs.YtckcjiojfpaikaaDoor
open Go.RowKit
set_option maxRecDepth 20000

/-- A byte. -/
def isB (u : Value) : Prop := ∃ x, u = .int .u8 x
/-- A slice. -/
def isS (u : Value) : Prop := ∃ A n c, u = .slice A n c
theorem isB_u64 (x : Int) : ¬ isB (.int .u64 x) := by rintro ⟨y, h⟩; cases h
theorem isB_slice (A : Option Addr) (n c : Nat) : ¬ isB (.slice A n c) := by rintro ⟨y, h⟩; cases h
theorem isS_u64 (x : Int) : ¬ isS (.int .u64 x) := by rintro ⟨A, n, c, h⟩; cases h
/-- The text as far as it is written. -/
abbrev Tex (w : World) (v : Value) (l : List UInt8) : Prop := Own w 5 isB v (bvals l)
theorem cells_wrote {E : Value → Prop} {e : TypeId} {w w' : World} {v v' : Value} {xs : List Value} {A : Option Addr} {l : List Nat} (h : Cells w A l) (k : Wrote w v w' v') (ho : Own w e E v xs) (hE : ∀ x, ¬ E (.int .u64 x)) : Cells w' A l := fun hn => by
  obtain ⟨b, o, rfl, hb, hc⟩ := h hn
  exact ⟨b, o, rfl, Nat.lt_of_lt_of_le hb k.size, fun j x hx => k.cell ho (hc j x hx) (hE _)⟩
theorem IsNat.wrote {E : Value → Prop} {e : TypeId} {w w' : World} {v v' u : Value} {xs : List Value} {n : Nat} (h : IsNat w u n) (k : Wrote w v w' v') (ho : Own w e E v xs) (hE : ∀ x, ¬ E (.int .u64 x)) : IsNat w' u n := by
  obtain ⟨A, c, e1, hc, hl⟩ := h
  exact ⟨A, c, e1, hc, cells_wrote hl k ho hE⟩
theorem IsN.wrote {E : Value → Prop} {e : TypeId} {w w' : World} {v v' u : Value} {xs : List Value} {n b : Nat} (h : IsN w u n b) (k : Wrote w v w' v') (ho : Own w e E v xs) (hE : ∀ x, ¬ E (.int .u64 x)) : IsN w' u n b := ⟨h.1.wrote k ho hE, h.2⟩

/-- The number at which the j-th cut is made. -/
def cutAt (j : Nat) : Nat := 10 ^ (19 * 2 ^ j)
theorem cutAt_pos (j : Nat) : 0 < cutAt j := Nat.pow_pos (by decide)
theorem cutAt_sq (j : Nat) : cutAt (j + 1) = cutAt j * cutAt j := by
  unfold cutAt
  rw [← Nat.pow_add]
  congr 1
  rw [Nat.pow_succ]
  omega
/-- The first k cuts, as a list's elements. -/
def Cuts (w : World) (v : Value) (k b : Nat) : Prop := ∃ A c, v = .slice A k c ∧ k ≤ c ∧ (k ≠ 0 → ∃ g o, A = some ⟨g, o, none⟩ ∧ ∀ j, j < k → ∃ A' l' c', w.cell? ⟨g, o + j, none⟩ = some (.slice A' l' c') ∧ IsN w (.agg #[.slice A' l' c']) (cutAt j) b)
theorem Cuts.grow {w w' : World} {v : Value} {k b : Nat} (h : Cuts w v k b) (g : Grow w w') : Cuts w' v k b := by
  obtain ⟨A, c, e, hc, h⟩ := h
  refine ⟨A, c, e, hc, fun hk => ?_⟩
  obtain ⟨g', o, e', h⟩ := h hk
  refine ⟨g', o, e', fun j hj => ?_⟩
  obtain ⟨A', l', c', h1, h2⟩ := h j hj
  exact ⟨A', l', c', g.cells1 h1, h2.grow g⟩
theorem Cuts.wrote {w w' : World} {v v' u : Value} {xs : List Value} {k b : Nat} (h : Cuts w u k b) (g : Wrote w v w' v') (ho : Own w 5 isB v xs) : Cuts w' u k b := by
  obtain ⟨A, c, e, hc, h⟩ := h
  refine ⟨A, c, e, hc, fun hk => ?_⟩
  obtain ⟨g', o, e', h⟩ := h hk
  refine ⟨g', o, e', fun j hj => ?_⟩
  obtain ⟨A', l', c', h1, h2⟩ := h j hj
  exact ⟨A', l', c', g.cell ho h1 (isB_slice _ _ _), h2.wrote g ho isB_u64⟩
/-- All but the last. -/
theorem Cuts.init {w : World} {A : Option Addr} {k c b : Nat} (h : Cuts w (.slice A (k + 1) c) (k + 1) b) : Cuts w (.slice A k c) k b := by
  obtain ⟨A, c, e, hc, h⟩ := h
  injection e with e1 e2 e3
  subst e1 e3
  refine ⟨_, _, rfl, by omega, fun _ => ?_⟩
  obtain ⟨g', o, e', h⟩ := h (by omega)
  exact ⟨g', o, e', fun j hj => h j (by omega)⟩

namespace Rg
section
variable {ops : Array Oper} {Q : Exit → Act → World → Prop} {F : Facts} {a0 : Act} {w0 : World}
theorem idxNat {i d x y g o L C j : Nat} (dx : depI ops i x = true) (dy : depI ops i y = true) (hx : ∀ w v, F x w v → v = .slice (some ⟨g, o, none⟩) L C) (hy : ∀ w v, F y w v → v = .int .i64 (j : Int)) (hj : j < L)
    (hF : ∀ w v, v = .pointer (some ⟨g, o + j, none⟩) → F d w v) : Owes Tryd.prog ops Q F a0 w0 i (some d) (.indexAddr 55 (.tmp x) (.tmp y)) :=
  fun o' a w ho hd hg ha D => valOf (v := .pointer (some ⟨g, o + j, none⟩)) (w' := w) (by
    have e : a.tmps.getD x undef = .slice (some ⟨g, o, none⟩) L C := hx _ _ (D x dx)
    have e2 : a.tmps.getD y undef = .int .i64 (j : Int) := hy _ _ (D y dy)
    simp only [Array.getD_eq_getD_getElem?] at e e2
    have h1 : (j : Int) < (L : Int) := by omega
    simp [execOp, ho, go_sem, Act.eval, e, e2, h1]) hd (hF _ _ rfl) (Grow.refl w)
theorem loadNatAt {i d x : Nat} {b : Addr} {A : Option Addr} {L C n k : Nat} (dx : depI ops i x = true) (hx : ∀ w v, F x w v → v = .pointer (some b)) (hc : w0.cell? b = some (.slice A L C)) (hN : IsN w0 (.agg #[.slice A L C]) n k)
    (hF : ∀ w v, IsN w v n k → F d w v) : Owes Tryd.prog ops Q F a0 w0 i (some d) (.load 24 (.tmp x)) :=
  fun o a w ho hd hg ha D => valOf (v := .agg #[.slice A L C]) (w' := w) (by
    have e : a.eval (.tmp x) = .pointer (some b) := hx _ _ (D x dx)
    simp only [execOp, ho, e, Sem.run_bind, load_nat w b A L C (hg.cells1 hc)]
    rfl) hd (hF _ _ (hN.grow hg)) (Grow.refl w)
end
end Rg

noncomputable def writeOps5 : Array Oper := Rg.regionOps Tryd.f30 5
/-- What each operation yields. -/
def writeF (n m q s b g o k c : Nat) : Rg.Facts := fun d w v =>
  match d with
  | 24 => IsN w v n b
  | 25 => v = .slice (some ⟨g, o, none⟩) (k + 1) c
  | 26 => v = .int .i64 (k : Int)
  | 27 => v = .pointer (some ⟨g, o + k, none⟩)
  | 28 => IsN w v m b
  | 29 => IsQR w v q s b b
  | 23 => IsQR w v q s b b
  | 30 => IsN w v q b
  | 31 => IsN w v s b
  | 32 => v = .int .i64 0
  | 11 => v = .int .i64 0
  | _ => True

set_option maxRecDepth 100000 in
set_option maxHeartbeats 1000000 in
theorem write_region5 {Q : Exit → Act → World → Prop} {a0 : Act} {w0 : World} {n m q s b g o k c : Nat} {p4 : Addr} {A4 A5 : Option Addr} {l4 c4 l5 c5 : Nat} (hn : a0.tmps.size = 44)
    (h4 : a0.tmps.getD 4 undef = .pointer (some p4)) (h2 : a0.tmps.getD 2 undef = .slice (some ⟨g, o, none⟩) (k + 1) c) (h8 : a0.tmps.getD 8 undef = .int .i64 (k : Int))
    (k4 : w0.cell? p4 = some (.slice A4 l4 c4)) (n4 : IsN w0 (.agg #[.slice A4 l4 c4]) n b) (k5 : w0.cell? ⟨g, o + k, none⟩ = some (.slice A5 l5 c5)) (n5 : IsN w0 (.agg #[.slice A5 l5 c5]) m b)
    (hb : b ≤ 1073741824) (hm : m ≠ 0) (hq : n / m = q) (hs : n % m = s)
    (fin : ∀ f w i j, Grow w0 w → f 9 = .pointer (some ⟨i, 0, none⟩) → f 10 = .pointer (some ⟨j, 0, none⟩) → VarN w i q b → VarN w j s b → Q .normal (Rg.puts f [24, 25, 26, 27, 28, 29, 23, 30, 31, 32, 9, 10, 11] a0) w) :
    (Code.region 5 writeOps5 true).wp Tryd.prog Q a0 w0 := by
  refine Rg.region4 (n := 44) (F := fun d _ w v => writeF n m q s b g o k c d w v) ⟨[(10, 9), (11, 10)], [(12, 9, 30), (13, 10, 31)], []⟩ [] [] [24, 25, 26, 27, 28, 29, 23, 30, 31, 32, 9, 10, 11] (by kernel_rfl) hn (by kernel_rfl) (by kernel_rfl) (by kernel_rfl) (by kernel_rfl) ?_ ?_ ?_ ?_ (by intro p hp; cases hp) (by intro p q hp; cases hp)
    (fun i hi hna hns => ?_) ?_
  · intro d f w w' v h hg
    unfold writeF at h ⊢
    split at h <;> first | exact h | exact h.grow hg
  · intro d f f' w v h _
    exact h
  · intro d f w v k A l c A' l' c' h hc
    unfold writeF at h ⊢
    split at h <;> first | exact h | exact h.store hc _
  · intro i p z hz f w v h
    simp only [List.mem_cons, Prod.mk.injEq, List.not_mem_nil, or_false] at hz
    rcases hz with ⟨rfl, rfl, rfl⟩ | ⟨rfl, rfl, rfl⟩
    · exact IsN.cell (n := q) (k := b) h
    · exact IsN.cell (n := s) (k := b) h
  · have hal : ∀ d, (([(10, 9), (11, 10)] : List (Nat × Nat)).map (·.2)).contains d = true → ∀ w v, writeF n m q s b g o k c d w v := by
      intro d hd w v
      have : d = 9 ∨ d = 10 := by simpa using hd
      rcases this with rfl | rfl <;> trivial
    have hi15 : i < 15 := Nat.lt_of_lt_of_eq hi (by kernel_rfl)
    match i, hi15 with
    | 0, _ => exact Rg.step4N (F := writeF n m q s b g o k c) (by kernel_rfl) hal (Rg.loadNat (d := 24) (p := 4) h4 (by kernel_rfl) k4 n4 (fun _ _ h => h))
    | 1, _ => exact Rg.step4N (F := writeF n m q s b g o k c) (by kernel_rfl) hal (Rg.move (d := 25) (x := .tmp 2) fun a w hg ha D => (ha.2.2 2 (by kernel_rfl)).trans h2)
    | 2, _ => exact Rg.step4N (F := writeF n m q s b g o k c) (by kernel_rfl) hal (Rg.move (d := 26) (x := .tmp 8) fun a w hg ha D => (ha.2.2 8 (by kernel_rfl)).trans h8)
    | 3, _ => exact Rg.step4N (F := writeF n m q s b g o k c) (by kernel_rfl) hal (Rg.idxNat (d := 27) (x := 25) (y := 26) (g := g) (o := o) (L := k + 1) (C := c) (j := k) (by kernel_rfl) (by kernel_rfl) (fun _ _ h => h) (fun _ _ h => h) (by omega) (fun _ _ h => h))
    | 4, _ => exact Rg.step4N (F := writeF n m q s b g o k c) (by kernel_rfl) hal (Rg.loadNatAt (d := 28) (x := 27) (by kernel_rfl) (fun _ _ h => h) k5 n5 (fun _ _ h => h))
    | 5, _ => exact Rg.step4N (F := writeF n m q s b g o k c) (by kernel_rfl) hal (Rg.callDiv (d := 29) (x := 24) (y := 28) (n := n) (m := m) (k := b) (j := b) (ts := #[24, 24]) (by kernel_rfl) (by kernel_rfl) (fun _ _ h => h) (fun _ _ h => h) (by omega) hm (fun _ _ h => by rw [hq, hs] at h; exact h))
    | 6, _ => exact Rg.step4N (F := writeF n m q s b g o k c) (by kernel_rfl) hal (Rg.move (d := 23) (x := .tmp 29) fun _ _ _ _ D => D 29 (by kernel_rfl))
    | 7, _ => exact Rg.step4N (F := writeF n m q s b g o k c) (by kernel_rfl) hal (Rg.extract0 (d := 30) (x := 23) (q := q) (r := s) (j := b) (k := b) (by kernel_rfl) (fun _ _ h => h) (fun _ _ h => h))
    | 8, _ => exact Rg.step4N (F := writeF n m q s b g o k c) (by kernel_rfl) hal (Rg.extract1 (d := 31) (x := 23) (q := q) (r := s) (j := b) (k := b) (by kernel_rfl) (fun _ _ h => h) (fun _ _ h => h))
    | 9, _ => exact Rg.step4N (F := writeF n m q s b g o k c) (by kernel_rfl) hal (Rg.extract2 (d := 32) (x := 23) (q := q) (r := s) (j := b) (k := b) (by kernel_rfl) (fun _ _ h => h) (fun _ _ h => h))
    | 10, _ => exact absurd hna (by decide)
    | 11, _ => exact absurd hna (by decide)
    | 12, _ => exact absurd hns (by decide)
    | 13, _ => exact absurd hns (by decide)
    | 14, _ => exact Rg.step4N (F := writeF n m q s b g o k c) (by kernel_rfl) hal (Rg.assign (d := 11) (x := .tmp 32) fun _ _ _ _ D => D 32 (by kernel_rfl))
    | i + 15, h => exact absurd h (by omega)
  · intro f w hg hf hl hap hh _
    obtain ⟨i, A, l, c, e1, e2, e3⟩ := hh 12 9 30 (by simp)
    obtain ⟨j, B, l', c', e4, e5, e6⟩ := hh 13 10 31 (by simp)
    have h30 : IsN w (f 30) q b := hf 30 rfl rfl
    have h31 : IsN w (f 31) s b := hf 31 rfl rfl
    rw [e2] at h30
    rw [e5] at h31
    exact fin f w i j hg.toGrow e1 e4 ⟨A, l, c, e3, h30⟩ ⟨B, l', c', e6, h31⟩
end Go.Proofs.YtckcjiojfpaikaaDoor
