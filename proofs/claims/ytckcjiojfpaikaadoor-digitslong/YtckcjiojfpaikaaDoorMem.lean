/- Memory of the numbers' layer: slices of limbs that read as lists, numbers that lie in memory; all of it is kept while memory only grows. -/
import Derived.Test.YtckcjiojfpaikaaDoorMath
import Derived.Test.YtckcjiojfpaikaaDoorChecked
import Derived.WalkKit
import Derived.Below
import Derived.Deep.Draws
import Derived.Lib.Hide
namespace Go.Proofs.YtckcjiojfpaikaaDoor
open Go.RowKit

/-- Nothing that was there has turned; there may be more. -/
def Grow (w w' : World) : Prop := Below w.heap.size w w'

theorem Grow.refl (w : World) : Grow w w := Below.refl _ _
theorem Grow.trans {a b c : World} (h : Grow a b) (k : Grow b c) : Grow a c := Below.trans h (Below.mono k h.size)
theorem Grow.drew {a w : World} (h : Grow a w) : Grow a w.drew := Below.drew h
theorem Grow.alloc {a w : World} (h : Grow a w) (o : Obj) : Grow a (w.alloc o) := Below.alloc h h.size o
theorem Grow.setCell {a w : World} (h : Grow a w) {p : Addr} (hp : a.heap.size ≤ p.block) (u : Value) : Grow a (w.setCell p u) := Below.setCell h hp u
theorem Grow.size {a w : World} (h : Grow a w) : a.heap.size ≤ w.heap.size := Below.size h
theorem Grow.cell {a w : World} (h : Grow a w) {p : Addr} (hp : p.block < a.heap.size) : w.cell? p = a.cell? p := Below.cell h hp
theorem Grow.drewN {a w : World} (h : Grow a w) (n : Nat) : Grow a (w.drewN n) := ⟨h.os, h.tape, h.output, h.size, h.block⟩
theorem Grow.of_below {a w : World} (h : Below a.heap.size a w) : Grow a w := h

/-- The cells from A on hold the numbers l, each a uint64. -/
def Cells (w : World) (A : Option Addr) (l : List Nat) : Prop :=
  l ≠ [] → ∃ b o, A = some ⟨b, o, none⟩ ∧ b < w.heap.size ∧ ∀ j x : Nat, l[j]? = some x → w.cell? ⟨b, o + j, none⟩ = some (.int .u64 (x : Int))

theorem Cells.grow {w w' : World} {A : Option Addr} {l : List Nat} (h : Cells w A l) (g : Grow w w') : Cells w' A l := fun hn => by
  obtain ⟨b, o, e, hb, hc⟩ := h hn
  exact ⟨b, o, e, Nat.lt_of_lt_of_le hb g.size, fun j x hx => (g.cell (p := ⟨b, o + j, none⟩) hb).trans (hc j x hx)⟩
/-- A store over a cell that holds no number makes no difference. -/
theorem Cells.store {w : World} {A : Option Addr} {l : List Nat} (h : Cells w A l) {p : Addr} {A' : Option Addr} {n c : Nat} (hp : w.cell? p = some (.slice A' n c)) (u : Value) : Cells (w.setCell p u) A l := fun hn => by
  obtain ⟨b, o, e, hb, hc⟩ := h hn
  refine ⟨b, o, e, by simpa [World.setCell] using hb, fun j x hx => ?_⟩
  rw [World.cell?_setCell_other w p ⟨b, o + j, none⟩ u (fun e => ?_)]
  · exact hc j x hx
  · have h1 := hc j x hx
    rw [← e, hp] at h1
    cases h1
/-- The one cell of a block that was made first reads as it did, and may be written. -/
theorem Grow.new {w w' : World} {v : Value} {t : TypeId} (h : Grow (w.alloc (Obj.cells #[v] t)) w') : w'.cell? ⟨w.heap.size, 0, none⟩ = some v ∧ w'.frozen? ⟨w.heap.size, 0, none⟩ = false := by
  have hlt : (⟨w.heap.size, 0, none⟩ : Addr).block < (w.alloc (Obj.cells #[v] t)).heap.size := by simp
  refine ⟨(Below.cell h hlt).trans ?_, (Below.frozen h hlt).trans ?_⟩
  · simp [go_sem]
  · simp [go_sem]
theorem Grow.new2 {w w' : World} {v u : Value} {t t' : TypeId} (h : Grow ((w.alloc (Obj.cells #[v] t)).alloc (Obj.cells #[u] t')) w') :
    w'.cell? ⟨w.heap.size, 0, none⟩ = some v ∧ w'.cell? ⟨w.heap.size + 1, 0, none⟩ = some u := by
  have h1 : (⟨w.heap.size, 0, none⟩ : Addr).block < ((w.alloc (Obj.cells #[v] t)).alloc (Obj.cells #[u] t')).heap.size := by simp; omega
  have h2 : (⟨w.heap.size + 1, 0, none⟩ : Addr).block < ((w.alloc (Obj.cells #[v] t)).alloc (Obj.cells #[u] t')).heap.size := by simp
  exact ⟨(Below.cell h h1).trans (by simp [go_sem]), (Below.cell h h2).trans (by simp [go_sem])⟩
theorem Grow.new3 {w w' : World} {v u x : Value} {t t' t'' : TypeId} (h : Grow (((w.alloc (Obj.cells #[v] t)).alloc (Obj.cells #[u] t')).alloc (Obj.cells #[x] t'')) w') :
    w'.cell? ⟨w.heap.size, 0, none⟩ = some v ∧ w'.cell? ⟨w.heap.size + 1, 0, none⟩ = some u ∧ w'.cell? ⟨w.heap.size + 1 + 1, 0, none⟩ = some x ∧ w'.frozen? ⟨w.heap.size + 1 + 1, 0, none⟩ = false := by
  have h1 : (⟨w.heap.size, 0, none⟩ : Addr).block < (((w.alloc (Obj.cells #[v] t)).alloc (Obj.cells #[u] t')).alloc (Obj.cells #[x] t'')).heap.size := by simp; omega
  have h2 : (⟨w.heap.size + 1, 0, none⟩ : Addr).block < (((w.alloc (Obj.cells #[v] t)).alloc (Obj.cells #[u] t')).alloc (Obj.cells #[x] t'')).heap.size := by simp
  have h3 : (⟨w.heap.size + 1 + 1, 0, none⟩ : Addr).block < (((w.alloc (Obj.cells #[v] t)).alloc (Obj.cells #[u] t')).alloc (Obj.cells #[x] t'')).heap.size := by simp
  exact ⟨(Below.cell h h1).trans (by simp [go_sem]), (Below.cell h h2).trans (by simp [go_sem]), (Below.cell h h3).trans (by simp [go_sem]), (Below.frozen h h3).trans (by simp [go_sem])⟩
theorem lt_of_cell {w : World} {b o : Nat} {v : Value} (h : w.cell? ⟨b, o, none⟩ = some v) : b < w.heap.size := by
  rcases Nat.lt_or_ge b w.heap.size with hlt | hge
  · exact hlt
  · simp [World.cell?, Array.getElem?_eq_none hge] at h
theorem lt_of_cell' {w : World} {p : Addr} {v : Value} (h : w.cell? p = some v) : p.block < w.heap.size := by
  rcases Nat.lt_or_ge p.block w.heap.size with hlt | hge
  · exact hlt
  · simp [World.cell?, Array.getElem?_eq_none hge] at h
theorem Grow.cells1 {W W' : World} (g : Grow W W') {a : Addr} {u : Value} (h : W.cell? a = some u) : W'.cell? a = some u := (g.cell (lt_of_cell' h)).trans h
theorem Grow.cells2 {W W' : World} (g : Grow W W') {a b : Addr} {u v : Value} (h : W.cell? a = some u ∧ W.cell? b = some v) : W'.cell? a = some u ∧ W'.cell? b = some v := ⟨g.cells1 h.1, g.cells1 h.2⟩
theorem Grow.cells3 {W W' : World} (g : Grow W W') {a b c : Addr} {u v t : Value} (h : W.cell? a = some u ∧ W.cell? b = some v ∧ W.cell? c = some t) : W'.cell? a = some u ∧ W'.cell? b = some v ∧ W'.cell? c = some t := ⟨g.cells1 h.1, g.cells2 h.2⟩
theorem Grow.cells4 {W W' : World} (g : Grow W W') {a b c d : Addr} {u v t s : Value} (h : W.cell? a = some u ∧ W.cell? b = some v ∧ W.cell? c = some t ∧ W.cell? d = some s) : W'.cell? a = some u ∧ W'.cell? b = some v ∧ W'.cell? c = some t ∧ W'.cell? d = some s := ⟨g.cells1 h.1, g.cells3 h.2⟩
theorem Cells.nil (w : World) (A : Option Addr) : Cells w A [] := fun h => absurd rfl h
theorem Cells.take {w : World} {A : Option Addr} {l : List Nat} (h : Cells w A l) (k : Nat) : Cells w A (l.take k) := fun hn => by
  have hl : l ≠ [] := fun e => hn (by simp [e])
  obtain ⟨b, o, e, hb, hc⟩ := h hl
  refine ⟨b, o, e, hb, fun j x hx => hc j x ?_⟩
  rw [List.getElem?_take] at hx
  split at hx
  · exact hx
  · cases hx
theorem Cells.at {w : World} {A : Option Addr} {l : List Nat} (h : Cells w A l) (hn : l ≠ []) : ∃ b o, A = some ⟨b, o, none⟩ ∧ b < w.heap.size ∧ ∀ j, j < l.length → w.cell? ⟨b, o + j, none⟩ = some (.int .u64 (l.getD j 0 : Nat)) := by
  obtain ⟨b, o, e, hb, hc⟩ := h hn
  exact ⟨b, o, e, hb, fun j hj => by rw [List.getD_eq_getElem?_getD, List.getElem?_eq_getElem hj, Option.getD_some]; exact hc j _ (List.getElem?_eq_getElem hj)⟩

/-- A slice value that reads as a list of limbs. -/
def Sl (w : World) (v : Value) (l : List Nat) : Prop := ∃ A c, v = .slice A l.length c ∧ l.length ≤ c ∧ (∀ x ∈ l, x < Mx.B) ∧ Cells w A l
/-- A value of type Nat: the number n, in its canonical limbs. -/
def IsNat (w : World) (v : Value) (n : Nat) : Prop := ∃ A c, v = .agg #[.slice A (Mx.len n) c] ∧ Mx.len n ≤ c ∧ Cells w A (Mx.limbs n)

theorem Sl.grow {w w' : World} {v : Value} {l : List Nat} (h : Sl w v l) (g : Grow w w') : Sl w' v l := by
  obtain ⟨A, c, e, hc, hb, hl⟩ := h
  exact ⟨A, c, e, hc, hb, hl.grow g⟩
theorem IsNat.grow {w w' : World} {v : Value} {n : Nat} (h : IsNat w v n) (g : Grow w w') : IsNat w' v n := by
  obtain ⟨A, c, e, hc, hl⟩ := h
  exact ⟨A, c, e, hc, hl.grow g⟩

theorem quiet_left {P : Program} {f : FuncId} {args : Array Value} {w : World} {n : Nat} {v : Value}
    (h : Calls P f args (w.drewN n) fun e w' => e = .returned v ∧ w.drewN n = w') : Calls P f args (w.drewN n) fun e w'' => e = .returned v ∧ ∃ m, w'' = w.drewN m :=
  h.mono fun _ _ ⟨he, hm⟩ => ⟨he, n, hm.symm⟩

theorem info37 : (Tryd.prog.info? 48).map (fun i => (i.zero, i.size, i.bytes)) = some (some (.int .u64 0), 1, 8) := by kernel_rfl
end Go.Proofs.YtckcjiojfpaikaaDoor
