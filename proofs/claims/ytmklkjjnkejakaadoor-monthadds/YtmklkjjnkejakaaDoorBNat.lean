/- One text out of: Mem, NatA, NatB, NatC, NatD, NatE, NatF, NatG, NatV. -/
import Derived.Test.YtmklkjjnkejakaaDoorMath
import Derived.Test.YtmklkjjnkejakaaDoorChecked
import Derived.WalkKit
import Derived.Below
import Derived.Deep.Draws
import Derived.Lib.Hide
import Derived.Laws.CopyOwn
import Derived.Deep.OwnRows
import Derived.Deep.QuietTactic
import Derived.BigQuiet
import Derived.Laws.Externs
import Derived.Shelf.Spec.BitsCarry
import Derived.Shelf.Bits.Mul64
import Derived.Deep.RegionHeld3
import Derived.IntWalk
import Derived.Shelf.Strconv.Itoa0
import Derived.OpenShut
import Derived.ProofKit
/- Memory of the numbers' layer: slices of limbs that read as lists, numbers that lie in memory; all of it is kept while memory only grows. -/
namespace Go.Proofs.YtmklkjjnkejakaaDoor
open Go.RowKit

/-- Nothing that was there has turned; there may be more. -/
def Grow (w w' : World) : Prop := Below w.heap.size w w'

theorem Grow.refl (w : World) : Grow w w := Below.refl _ _
theorem Grow.trans {a b c : World} (h : Grow a b) (k : Grow b c) : Grow a c := Below.trans h (Below.mono k h.size)
theorem Grow.drew {a w : World} (h : Grow a w) : Grow a w.drew := Below.drew h
theorem Grow.alloc {a w : World} (h : Grow a w) (o : Obj) : Grow a (w.alloc o) := Below.alloc h h.size o
theorem Grow.setCell {a w : World} (h : Grow a w) {p : Addr} (hp : a.heap.size ≤ p.block) (u : Value) : Grow a (w.setCell p u) := Below.setCell h hp u
theorem Grow.size {a w : World} (h : Grow a w) : a.heap.size ≤ w.heap.size := Below.size h
theorem Grow.cell {a w : World} (h : Grow a w) {p : Addr} (hp : p.block < a.heap.size) : w.cell? p = a.cell? p := Below.cell h hp
theorem Grow.drewN {a w : World} (h : Grow a w) (n : Nat) : Grow a (w.drewN n) := ⟨h.os, h.tape, h.output, h.size, h.block⟩
theorem Grow.of_below {a w : World} (h : Below a.heap.size a w) : Grow a w := h

/-- The cells from A on hold the numbers l, each a uint64. -/
def Cells (w : World) (A : Option Addr) (l : List Nat) : Prop :=
  l ≠ [] → ∃ b o, A = some ⟨b, o, none⟩ ∧ b < w.heap.size ∧ ∀ j x : Nat, l[j]? = some x → w.cell? ⟨b, o + j, none⟩ = some (.int .u64 (x : Int))

theorem Cells.grow {w w' : World} {A : Option Addr} {l : List Nat} (h : Cells w A l) (g : Grow w w') : Cells w' A l := fun hn => by
  obtain ⟨b, o, e, hb, hc⟩ := h hn
  exact ⟨b, o, e, Nat.lt_of_lt_of_le hb g.size, fun j x hx => (g.cell (p := ⟨b, o + j, none⟩) hb).trans (hc j x hx)⟩
/-- A store over a cell that holds no number makes no difference. -/
theorem Cells.store {w : World} {A : Option Addr} {l : List Nat} (h : Cells w A l) {p : Addr} {A' : Option Addr} {n c : Nat} (hp : w.cell? p = some (.slice A' n c)) (u : Value) : Cells (w.setCell p u) A l := fun hn => by
  obtain ⟨b, o, e, hb, hc⟩ := h hn
  refine ⟨b, o, e, by simpa [World.setCell] using hb, fun j x hx => ?_⟩
  rw [World.cell?_setCell_other w p ⟨b, o + j, none⟩ u (fun e => ?_)]
  · exact hc j x hx
  · have h1 := hc j x hx
    rw [← e, hp] at h1
    cases h1
/-- The one cell of a block that was made first reads as it did, and may be written. -/
theorem Grow.new {w w' : World} {v : Value} {t : TypeId} (h : Grow (w.alloc (Obj.cells #[v] t)) w') : w'.cell? ⟨w.heap.size, 0, none⟩ = some v ∧ w'.frozen? ⟨w.heap.size, 0, none⟩ = false := by
  have hlt : (⟨w.heap.size, 0, none⟩ : Addr).block < (w.alloc (Obj.cells #[v] t)).heap.size := by simp
  refine ⟨(Below.cell h hlt).trans ?_, (Below.frozen h hlt).trans ?_⟩
  · simp [go_sem]
  · simp [go_sem]
theorem Grow.new2 {w w' : World} {v u : Value} {t t' : TypeId} (h : Grow ((w.alloc (Obj.cells #[v] t)).alloc (Obj.cells #[u] t')) w') :
    w'.cell? ⟨w.heap.size, 0, none⟩ = some v ∧ w'.cell? ⟨w.heap.size + 1, 0, none⟩ = some u := by
  have h1 : (⟨w.heap.size, 0, none⟩ : Addr).block < ((w.alloc (Obj.cells #[v] t)).alloc (Obj.cells #[u] t')).heap.size := by simp; omega
  have h2 : (⟨w.heap.size + 1, 0, none⟩ : Addr).block < ((w.alloc (Obj.cells #[v] t)).alloc (Obj.cells #[u] t')).heap.size := by simp
  exact ⟨(Below.cell h h1).trans (by simp [go_sem]), (Below.cell h h2).trans (by simp [go_sem])⟩
theorem Grow.new3 {w w' : World} {v u x : Value} {t t' t'' : TypeId} (h : Grow (((w.alloc (Obj.cells #[v] t)).alloc (Obj.cells #[u] t')).alloc (Obj.cells #[x] t'')) w') :
    w'.cell? ⟨w.heap.size, 0, none⟩ = some v ∧ w'.cell? ⟨w.heap.size + 1, 0, none⟩ = some u ∧ w'.cell? ⟨w.heap.size + 1 + 1, 0, none⟩ = some x ∧ w'.frozen? ⟨w.heap.size + 1 + 1, 0, none⟩ = false := by
  have h1 : (⟨w.heap.size, 0, none⟩ : Addr).block < (((w.alloc (Obj.cells #[v] t)).alloc (Obj.cells #[u] t')).alloc (Obj.cells #[x] t'')).heap.size := by simp; omega
  have h2 : (⟨w.heap.size + 1, 0, none⟩ : Addr).block < (((w.alloc (Obj.cells #[v] t)).alloc (Obj.cells #[u] t')).alloc (Obj.cells #[x] t'')).heap.size := by simp
  have h3 : (⟨w.heap.size + 1 + 1, 0, none⟩ : Addr).block < (((w.alloc (Obj.cells #[v] t)).alloc (Obj.cells #[u] t')).alloc (Obj.cells #[x] t'')).heap.size := by simp
  exact ⟨(Below.cell h h1).trans (by simp [go_sem]), (Below.cell h h2).trans (by simp [go_sem]), (Below.cell h h3).trans (by simp [go_sem]), (Below.frozen h h3).trans (by simp [go_sem])⟩
theorem lt_of_cell {w : World} {b o : Nat} {v : Value} (h : w.cell? ⟨b, o, none⟩ = some v) : b < w.heap.size := by
  rcases Nat.lt_or_ge b w.heap.size with hlt | hge
  · exact hlt
  · simp [World.cell?, Array.getElem?_eq_none hge] at h
theorem lt_of_cell' {w : World} {p : Addr} {v : Value} (h : w.cell? p = some v) : p.block < w.heap.size := by
  rcases Nat.lt_or_ge p.block w.heap.size with hlt | hge
  · exact hlt
  · simp [World.cell?, Array.getElem?_eq_none hge] at h
theorem Grow.cells1 {W W' : World} (g : Grow W W') {a : Addr} {u : Value} (h : W.cell? a = some u) : W'.cell? a = some u := (g.cell (lt_of_cell' h)).trans h
theorem Grow.cells2 {W W' : World} (g : Grow W W') {a b : Addr} {u v : Value} (h : W.cell? a = some u ∧ W.cell? b = some v) : W'.cell? a = some u ∧ W'.cell? b = some v := ⟨g.cells1 h.1, g.cells1 h.2⟩
theorem Grow.cells3 {W W' : World} (g : Grow W W') {a b c : Addr} {u v t : Value} (h : W.cell? a = some u ∧ W.cell? b = some v ∧ W.cell? c = some t) : W'.cell? a = some u ∧ W'.cell? b = some v ∧ W'.cell? c = some t := ⟨g.cells1 h.1, g.cells2 h.2⟩
theorem Grow.cells4 {W W' : World} (g : Grow W W') {a b c d : Addr} {u v t s : Value} (h : W.cell? a = some u ∧ W.cell? b = some v ∧ W.cell? c = some t ∧ W.cell? d = some s) : W'.cell? a = some u ∧ W'.cell? b = some v ∧ W'.cell? c = some t ∧ W'.cell? d = some s := ⟨g.cells1 h.1, g.cells3 h.2⟩
theorem Cells.nil (w : World) (A : Option Addr) : Cells w A [] := fun h => absurd rfl h
theorem Cells.take {w : World} {A : Option Addr} {l : List Nat} (h : Cells w A l) (k : Nat) : Cells w A (l.take k) := fun hn => by
  have hl : l ≠ [] := fun e => hn (by simp [e])
  obtain ⟨b, o, e, hb, hc⟩ := h hl
  refine ⟨b, o, e, hb, fun j x hx => hc j x ?_⟩
  rw [List.getElem?_take] at hx
  split at hx
  · exact hx
  · cases hx
theorem Cells.at {w : World} {A : Option Addr} {l : List Nat} (h : Cells w A l) (hn : l ≠ []) : ∃ b o, A = some ⟨b, o, none⟩ ∧ b < w.heap.size ∧ ∀ j, j < l.length → w.cell? ⟨b, o + j, none⟩ = some (.int .u64 (l.getD j 0 : Nat)) := by
  obtain ⟨b, o, e, hb, hc⟩ := h hn
  exact ⟨b, o, e, hb, fun j hj => by rw [List.getD_eq_getElem?_getD, List.getElem?_eq_getElem hj, Option.getD_some]; exact hc j _ (List.getElem?_eq_getElem hj)⟩

/-- A slice value that reads as a list of limbs. -/
def Sl (w : World) (v : Value) (l : List Nat) : Prop := ∃ A c, v = .slice A l.length c ∧ l.length ≤ c ∧ (∀ x ∈ l, x < Mx.B) ∧ Cells w A l
/-- A value of type Nat: the number n, in its canonical limbs. -/
def IsNat (w : World) (v : Value) (n : Nat) : Prop := ∃ A c, v = .agg #[.slice A (Mx.len n) c] ∧ Mx.len n ≤ c ∧ Cells w A (Mx.limbs n)

theorem Sl.grow {w w' : World} {v : Value} {l : List Nat} (h : Sl w v l) (g : Grow w w') : Sl w' v l := by
  obtain ⟨A, c, e, hc, hb, hl⟩ := h
  exact ⟨A, c, e, hc, hb, hl.grow g⟩
theorem IsNat.grow {w w' : World} {v : Value} {n : Nat} (h : IsNat w v n) (g : Grow w w') : IsNat w' v n := by
  obtain ⟨A, c, e, hc, hl⟩ := h
  exact ⟨A, c, e, hc, hl.grow g⟩

theorem quiet_left {P : Program} {f : FuncId} {args : Array Value} {w : World} {n : Nat} {v : Value}
    (h : Calls P f args (w.drewN n) fun e w' => e = .returned v ∧ w.drewN n = w') : Calls P f args (w.drewN n) fun e w'' => e = .returned v ∧ ∃ m, w'' = w.drewN m :=
  h.mono fun _ _ ⟨he, hm⟩ => ⟨he, n, hm.symm⟩

end Go.Proofs.YtmklkjjnkejakaaDoor

/- Contracts of package nat's small functions: withoutNoughts, fresh, keep, Of, Limbs, Zero, limbAt. -/
namespace Go.Proofs.YtmklkjjnkejakaaDoor
open Go.RowKit

/-- From k on there are noughts. -/
def NoughtsFrom (l : List Nat) (k : Nat) : Prop := ∀ j, k ≤ j → j < l.length → l.getD j 0 = 0

theorem len_of_noughts {l : List Nat} {k : Nat} (hb : ∀ x ∈ l, x < Mx.B) (hk : k ≤ l.length) (hz : NoughtsFrom l k) (hl : k = 0 ∨ l.getD (k - 1) 0 ≠ 0) : Mx.len (Mx.val l) = k := by
  unfold Mx.len
  rw [Mx.limbs_take l k hb hk hz hl, List.length_take, Nat.min_eq_left hk]


/-- Numbers as values. -/
def vals (l : List Nat) : List Value := l.map fun x => Value.int .u64 ((x : Nat) : Int)
theorem vals_length (l : List Nat) : (vals l).length = l.length := by simp [vals]
theorem vals_get (l : List Nat) (j : Nat) : (vals l)[j]? = (l[j]?).map fun x => Value.int .u64 ((x : Nat) : Int) := by simp [vals]
theorem vals_one (l : List Nat) : ∀ v ∈ vals l, v.oneCell' = true := by
  intro v hv
  simp only [vals, List.mem_map] at hv
  obtain ⟨x, _, rfl⟩ := hv
  rfl


theorem lt_of_heap {w : World} {b : Nat} {o : Obj} (h : w.heap[b]? = some o) : b < w.heap.size := by
  rcases Nat.lt_or_ge b w.heap.size with hlt | hge
  · exact hlt
  · rw [Array.getElem?_eq_none hge] at h; cases h

theorem Cells.of_block {w : World} {b : Nat} {l : List Nat} {t : TypeId} (h : w.heap[b]? = some (.cells (vals l).toArray t (0, 0))) : Cells w (some ⟨b, 0, none⟩) l := fun _ =>
  ⟨b, 0, rfl, lt_of_heap h, fun j x hx => by
    rw [cell_of_row w b (0 + j) _ t (0, 0) h]
    simp [vals_get, hx]⟩


theorem splice_all (cur cs : List Value) (h : cur.length = cs.length) : splice cur 0 cs = cs := by
  simp [splice, ← h]

theorem made_list (n : Nat) : (madeCells #[Value.int .u64 0] n) = (List.replicate n (Value.int .u64 0)).toArray := by
  apply Array.ext
  · simp [size_madeCells]
  · intro i h1 h2
    simp [madeCells, Nat.mod_one]



/-- What a function of this program that only makes memory leaves: a value of which P is known, and nothing old turned. -/
def Ret (w : World) (P : Value → World → Prop) (e : Ending) (w' : World) : Prop := ∃ v, e = .returned v ∧ P v w' ∧ Grow w w'
theorem Ret.mk {w w' : World} {P : Value → World → Prop} {v : Value} (h : P v w') (g : Grow w w') : Ret w P (.returned v) w' := ⟨v, rfl, h, g⟩
theorem Ret.mono {w w' : World} {P P' : Value → World → Prop} {e : Ending} (h : Ret w P e w') (hp : ∀ v w', P v w' → P' v w') : Ret w P' e w' := by
  obtain ⟨v, rfl, h, g⟩ := h
  exact ⟨v, rfl, hp _ _ h, g⟩


end Go.Proofs.YtmklkjjnkejakaaDoor

/- Contracts of package nat: Limbs, Zero, limbAt, Cmp; of the library: cmp.Compare at int and uint64. -/
namespace Go.Proofs.YtmklkjjnkejakaaDoor
open Go.RowKit





set_option maxHeartbeats 400000 in
theorem compareInt_any (w : World) (n m : Nat) :
    Calls Tryd.prog 28 #[.int .i64 (n : Int), .int .i64 (m : Int)] w fun e w' => e = .returned (.int .i64 (Mx.cmp n m)) ∧ w = w' := by
  rcases Nat.lt_trichotomy n m with h | h | h
  · rw [Mx.cmp_lt h]
    go_enter Tryd.func28, Tryd.ntmps28
    go_wp2
    go_ret
    exact ⟨rfl, rfl⟩
  · subst h
    rw [Mx.cmp_self]
    go_enter Tryd.func28, Tryd.ntmps28
    go_wp2
    go_ret
    exact ⟨rfl, rfl⟩
  · rw [Mx.cmp_gt h]
    have h' : ¬ n < m := by omega
    go_enter Tryd.func28, Tryd.ntmps28
    go_wp2
    go_ret
    exact ⟨rfl, rfl⟩


/-- Above place k the two lists are the same. -/
def SameFrom (l r : List Nat) (k : Nat) : Prop := ∀ j, k ≤ j → l.getD j 0 = r.getD j 0

theorem cmp_of_same {n m k : Nat} (hlen : Mx.len n = Mx.len m) (hk : k = 0) (h : SameFrom (Mx.limbs n) (Mx.limbs m) k) : Mx.cmp n m = 0 :=
  Mx.cmp_eq (Mx.limbs_inj (Mx.ext_getD _ _ hlen fun j _ => h j (by omega)))
theorem cmp_of_limb {n m k : Nat} (hlen : Mx.len n = Mx.len m) (hk : k < Mx.len n) (h : SameFrom (Mx.limbs n) (Mx.limbs m) (k + 1)) (hne : (Mx.limbs n).getD k 0 ≠ (Mx.limbs m).getD k 0) :
    Mx.cmp n m = Mx.cmp ((Mx.limbs n).getD k 0) ((Mx.limbs m).getD k 0) := by
  rcases Nat.lt_or_gt_of_ne hne with hlt | hgt
  · rw [Mx.cmp_lt hlt]
    have := Mx.val_take_lt (Mx.limbs n) (Mx.limbs m) k hk (by unfold Mx.len at hlen hk; omega) hlen (Mx.limbs_lt n) (fun j hj => h j hj) hlt
    rw [Mx.val_limbs, Mx.val_limbs] at this
    exact Mx.cmp_lt this
  · rw [Mx.cmp_gt hgt]
    have := Mx.val_take_lt (Mx.limbs m) (Mx.limbs n) k (by unfold Mx.len at hlen hk; omega) hk hlen.symm (Mx.limbs_lt m) (fun j hj => (h j hj).symm) hgt
    rw [Mx.val_limbs, Mx.val_limbs] at this
    exact Mx.cmp_gt this

end Go.Proofs.YtmklkjjnkejakaaDoor

/- Contracts of package nat: Add; of the library: math/bits.Add64, Sub64. -/
namespace Go.Proofs.YtmklkjjnkejakaaDoor
open Go.RowKit



theorem set_mid (s : List Nat) (i k x : Nat) (hs : s.length = i) : (s ++ List.replicate (k + 1) 0).set i x = (s ++ [x]) ++ List.replicate k 0 := by
  subst hs
  rw [List.replicate_succ, List.set_append_right _ _ (Nat.le_refl _)]
  simp

end Go.Proofs.YtmklkjjnkejakaaDoor

/- Contracts of package nat: Sub; of the library: math/bits.Sub64. -/
namespace Go.Proofs.YtmklkjjnkejakaaDoor
open Go.RowKit



end Go.Proofs.YtmklkjjnkejakaaDoor

/- Contracts of package nat: addTimes, Mul; of the library: math/bits.Mul64 (by the shelf's contract, laid at this program). -/
namespace Go.Proofs.YtmklkjjnkejakaaDoor
open Go.RowKit


/-- Only block g has turned. -/
theorem only_refl (w : World) (g : Nat) : w.grownBy w (some g) := World.grownBy.refl w _
theorem only_set {w w' : World} {g : Nat} (h : w.grownBy w' (some g)) (o : Nat) (u : Value) : w.grownBy (w'.setCell ⟨g, o, none⟩ u) (some g) :=
  ⟨h.os, h.tape, h.output, by simpa [World.setCell] using h.size, fun i hi hne => (Below.heap_setCell w' ⟨g, o, none⟩ u i (fun e => hne (by rw [e]))).trans (h.block i hi hne)⟩
theorem only_cell {w w' : World} {g : Nat} (h : w.grownBy w' (some g)) {p : Addr} (hp : p.block < w.heap.size) (hne : p.block ≠ g) : w'.cell? p = w.cell? p :=
  World.cell?_of_block (h.block p.block hp (fun e => hne (by injection e)))
theorem only_grow {w0 w w' : World} {g : Nat} (h : w.grownBy w' (some g)) (k : Grow w0 w) (hg : w0.heap.size ≤ g) : Grow w0 w' := Below.grown k h k.size (fun _ e => by injection e with e; omega)

theorem mul_word {x y s c : Nat} (hx : x < Mx.B) (hy : y < Mx.B) (hs : s < Mx.B) (hc : c < Mx.B) :
    Mx.addLo (Mx.addLo (Mx.mulLo x y) s 0) c 0 = Mx.macLo x y s c ∧ Mx.mulHi x y + Mx.addHi (Mx.mulLo x y) s 0 + Mx.addHi (Mx.addLo (Mx.mulLo x y) s 0) c 0 = Mx.macHi x y s c ∧ Mx.macHi x y s c < Mx.B := by
  have h1 : Mx.mulLo x y + Mx.B * Mx.mulHi x y = x * y := Nat.mod_add_div _ _
  have h2 := Mx.add_split (Mx.mulLo x y) s 0
  have h3 := Mx.add_split (Mx.addLo (Mx.mulLo x y) s 0) c 0
  have h := Mx.mac_parts (x := x) (y := y) (s := s) (c := c) h1 (by simpa using h2) (by simpa using h3) (Mx.addLo_lt _ _ _)
  exact ⟨h.1, h.2, Mx.macHi_lt hx hy hs hc⟩

theorem wrap_sum (a b : Nat) (h : a + b < Mx.B) : IntKind.u64.wrap ((a : Int) + (b : Int)) = ((a + b : Nat) : Int) := by
  rw [Mx.B_eq] at h
  rw [IntKind.wrap_u64]
  omega


/-- Product's block: what the round does to it. -/
theorem mul_round (nl ml : List Nat) (i k : Nat) : (Mx.patch (Mx.mulList nl ml i ++ List.replicate (k + 1) 0) i (Mx.mulTo (((Mx.mulList nl ml i) ++ List.replicate (k + 1) 0).drop i) ml (nl.getD i 0) ml.length).1).set (i + ml.length) (Mx.mulTo (((Mx.mulList nl ml i) ++ List.replicate (k + 1) 0).drop i) ml (nl.getD i 0) ml.length).2
    = Mx.mulList nl ml (i + 1) ++ List.replicate k 0 := by
  have hq := Mx.mulList_length nl ml i
  have e := Mx.mulTo_drop (Mx.mulList nl ml i) (List.replicate (k + 1) 0) ml (nl.getD i 0) i (by omega)
  rw [e]
  have hstep : Mx.mulList nl ml (i + 1) = (Mx.mulList nl ml i).take i ++ (Mx.mulTo ((Mx.mulList nl ml i).drop i) ml (nl.getD i 0) ml.length).1 ++ [(Mx.mulTo ((Mx.mulList nl ml i).drop i) ml (nl.getD i 0) ml.length).2] := rfl
  have hr := Mx.mulTo_length ((Mx.mulList nl ml i).drop i) ml (nl.getD i 0) ml.length
  rw [hstep]
  generalize Mx.mulList nl ml i = Q at *
  generalize (Mx.mulTo (Q.drop i) ml (nl.getD i 0) ml.length).1 = r at *
  generalize (Mx.mulTo (Q.drop i) ml (nl.getD i 0) ml.length).2 = cr at *
  unfold Mx.patch
  have h1 : (Q ++ List.replicate (k + 1) 0).take i = Q.take i := by rw [List.take_append_of_le_length (by omega)]
  have h2 : (Q ++ List.replicate (k + 1) 0).drop (i + r.length) = List.replicate (k + 1) 0 := by
    rw [hr, ← hq, List.drop_left]
  rw [h1, h2]
  have h3 : (Q.take i ++ r).length = i + ml.length := by rw [List.length_append, List.length_take, hr]; omega
  rw [set_mid _ _ _ _ h3]

end Go.Proofs.YtmklkjjnkejakaaDoor

/- Contracts of package nat: Bits; of the library: math/bits.Len64 (by the shelf's contract). -/
namespace Go.Proofs.YtmklkjjnkejakaaDoor
open Go.RowKit


theorem bitLen_bits (x : Nat) (hx : x < Mx.B) : Lib.bitLen x = Mx.bits x := by
  have key : ∀ f x, x < 2 ^ f → Lib.bitLenAux f x = Mx.bits x := by
    intro f
    induction f with
    | zero =>
      intro x h
      obtain rfl : x = 0 := by simpa using h
      rfl
    | succ f ih =>
      intro x h
      rw [Lib.bitLenAux]
      by_cases h0 : x = 0
      · subst h0; rfl
      · rw [if_neg h0, ih (x / 2) (by rw [Nat.pow_succ] at h; omega)]
        by_cases h1 : x / 2 = 0
        · obtain rfl : x = 1 := by omega
          rfl
        · have a := Mx.bits_le h1
          have b := Mx.bits_lt (x / 2)
          have c := Mx.bits_pos h1
          have e : 2 ^ Mx.bits (x / 2) = 2 ^ (Mx.bits (x / 2) - 1) * 2 := by rw [← Nat.pow_succ]; congr 1; omega
          have := Mx.bits_unique (n := x) (k := Mx.bits (x / 2)) (by omega) (by rw [Nat.pow_succ]; omega)
          omega
  exact key 64 x hx



/-- The two lists are the same below place k. -/
def SameTo (l r : List Nat) (k : Nat) : Prop := ∀ j, j < k → l.getD j 0 = r.getD j 0

end Go.Proofs.YtmklkjjnkejakaaDoor

/- Numbers with a bound of limbs, for callers; a slice that came in. -/
namespace Go.Proofs.YtmklkjjnkejakaaDoor
open Go.RowKit


def top : Nat := 18446744073709551615
theorem len_one {x : Nat} (h : x < Mx.B) : Mx.len (Mx.val [x]) ≤ 1 := Mx.len_val [x] (by intro y hy; simp at hy; rw [hy]; exact h)
theorem top_lt : top < Mx.B := by rw [Mx.B_eq]; unfold top; omega
theorem small_lt {x : Nat} (h : x ≤ 1000) : x < Mx.B := by rw [Mx.B_eq]; omega

/-- A slice of uint64 that came in. -/
theorem sl_of_row {w : World} {a : Option Addr} {len cap : Nat} {zs : List Int} (h : (a = none ∧ len = 0 ∧ cap = 0 ∧ zs = []) ∨
    ∃ x, a = some x ∧ len ≤ cap ∧ cap ≤ maxLen ∧ zs.length = cap ∧ (∀ i, i < zs.length → w.cell? (x.add i) = some (.int .u64 (zs.getD i 0))) ∧ ∀ n ∈ zs, (Lit.int .u64 n).wf = true) :
    Sl w (.slice a len cap) ((zs.take len).map Int.toNat) := by
  rcases h with ⟨rfl, rfl, rfl, rfl⟩ | ⟨x, rfl, hl, hm, hz, hc, hw⟩
  · exact ⟨none, 0, rfl, Nat.le_refl _, by simp, Cells.nil _ _⟩
  · have hlen : ((zs.take len).map Int.toNat).length = len := by simp; omega
    refine ⟨some x, cap, by rw [hlen], by omega, ?_, ?_⟩
    · intro y hy
      simp only [List.mem_map] at hy
      obtain ⟨z, hz1, rfl⟩ := hy
      have := bounds_u64 (hw z (List.mem_of_mem_take hz1))
      rw [Mx.B_eq]
      omega
    · intro hn
      have hp : 0 < len := by
        rcases Nat.eq_zero_or_pos len with h0 | h0
        · subst h0; simp at hn
        · exact h0
      obtain ⟨b, off, rfl, hc2⟩ := ints_at hc (by omega : 0 < zs.length)
      refine ⟨b, off, rfl, lt_of_cell (hc2 0 (by omega)), fun j y hy => ?_⟩
      rw [List.getElem?_map] at hy
      obtain ⟨z, hz1, rfl⟩ := Option.map_eq_some_iff.1 hy
      rw [List.getElem?_take] at hz1
      split at hz1
      · next hj =>
        have h2 := hc2 j (by omega)
        rw [List.getD_eq_getElem?_getD, hz1, Option.getD_some] at h2
        have := bounds_u64 (hw z (List.mem_of_getElem? hz1))
        rw [h2, Int.toNat_of_nonneg this.1]
      · cases hz1

/-- The number n, of k limbs at most. -/
def IsN (w : World) (v : Value) (n k : Nat) : Prop := IsNat w v n ∧ Mx.len n ≤ k
theorem IsN.grow {w w' : World} {v : Value} {n k : Nat} (h : IsN w v n k) (g : Grow w w') : IsN w' v n k := ⟨h.1.grow g, h.2⟩

theorem IsN.zero (w : World) : IsN w (.agg #[.slice none 0 0]) 0 0 := ⟨⟨none, 0, rfl, Nat.le_refl _, Cells.nil _ _⟩, Nat.le_refl _⟩
end Go.Proofs.YtmklkjjnkejakaaDoor

/- Variables of type Nat that a function makes. -/
namespace Go.Proofs.YtmklkjjnkejakaaDoor
open Go.RowKit

theorem IsN.weak {w : World} {v : Value} {n k j : Nat} (h : IsN w v n k) (hk : k ≤ j) : IsN w v n j := ⟨h.1, Nat.le_trans h.2 hk⟩
/-- A variable at block k holds the number n. -/
def VarN (w : World) (k n b : Nat) : Prop := ∃ A l c, w.cell? ⟨k, 0, none⟩ = some (.slice A l c) ∧ IsN w (.agg #[.slice A l c]) n b
theorem VarN.grow {w w' : World} {k n b : Nat} (h : VarN w k n b) (g : Grow w w') : VarN w' k n b := by
  obtain ⟨A, l, c, h1, h2⟩ := h
  exact ⟨A, l, c, g.cells1 h1, h2.grow g⟩
/-- A variable that was just made holds its number. -/
theorem IsN.cell {w : World} {v : Value} {n k : Nat} (h : IsN w v n k) : ∃ A l c, v = .agg #[.slice A l c] := by
  obtain ⟨⟨A, c, e, _, _⟩, _⟩ := h
  exact ⟨A, _, c, e⟩
theorem two_new {w W : World} {v u : Value} {t : TypeId} (h : Grow ((w.alloc (Obj.cells #[v] t)).alloc (Obj.cells #[u] t)) W) : W.cell? ⟨w.heap.size, 0, none⟩ = some v ∧ W.cell? ⟨w.heap.size + 1, 0, none⟩ = some u := h.new2
end Go.Proofs.YtmklkjjnkejakaaDoor
