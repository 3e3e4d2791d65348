/- Contracts of package quot: Div. -/
import Derived.Test.YtckcjiojfpaikaaDoorQuoF
import Derived.Deep.RegionHeld3
namespace Go.Proofs.YtckcjiojfpaikaaDoor
open Go.RowKit

/-- The four blocks that Div makes first. -/
abbrev divW (w : World) (A : Option Addr) (n c : Nat) (D : Option Addr) (m d : Nat) : World :=
  (((w.alloc (Obj.cells #[Value.slice A n c] 24)).alloc (Obj.cells #[Value.slice D m d] 24)).alloc (Obj.cells #[Value.slice none 0 0] 24)).alloc (Obj.cells #[Value.slice none 0 0] 24)
theorem divW_grow (w : World) (A : Option Addr) (n c : Nat) (D : Option Addr) (m d : Nat) : Grow w (divW w A n c D m d) := ((((Grow.refl w).alloc _).alloc _).alloc _).alloc _
/-- What they hold in a later world: the two numbers, and the results' places. -/
structure DivB (w W : World) (A : Option Addr) (n c : Nat) (D : Option Addr) (m d : Nat) : Prop where
  c0 : W.cell? ⟨w.heap.size, 0, none⟩ = some (.slice A n c)
  c1 : W.cell? ⟨w.heap.size + 1, 0, none⟩ = some (.slice D m d)
  c2 : W.cell? ⟨w.heap.size + 1 + 1, 0, none⟩ = some (.slice none 0 0)
  c3 : W.cell? ⟨w.heap.size + 1 + 1 + 1, 0, none⟩ = some (.slice none 0 0)
  f2 : W.frozen? ⟨w.heap.size + 1 + 1, 0, none⟩ = false
  f3 : W.frozen? ⟨w.heap.size + 1 + 1 + 1, 0, none⟩ = false
theorem DivB.of {w W : World} {A : Option Addr} {n c : Nat} {D : Option Addr} {m d : Nat} (h : Grow (divW w A n c D m d) W) : DivB w W A n c D m d := by
  have hs : (divW w A n c D m d).heap.size = w.heap.size + 1 + 1 + 1 + 1 := by simp [divW]
  refine ⟨(h.cell (p := ⟨w.heap.size, 0, none⟩) (by show w.heap.size < _; omega)).trans (by simp [go_sem]), (h.cell (p := ⟨w.heap.size + 1, 0, none⟩) (by show w.heap.size + 1 < _; omega)).trans (by simp [go_sem]),
    (h.cell (p := ⟨w.heap.size + 1 + 1, 0, none⟩) (by show w.heap.size + 1 + 1 < _; omega)).trans (by simp [go_sem]), (h.cell (p := ⟨w.heap.size + 1 + 1 + 1, 0, none⟩) (by show w.heap.size + 1 + 1 + 1 < _; omega)).trans (by simp [go_sem]),
    (Below.frozen h (p := ⟨w.heap.size + 1 + 1, 0, none⟩) (by show w.heap.size + 1 + 1 < _; omega)).trans (by simp [go_sem]), (Below.frozen h (p := ⟨w.heap.size + 1 + 1 + 1, 0, none⟩) (by show w.heap.size + 1 + 1 + 1 < _; omega)).trans (by simp [go_sem])⟩

/-- Div's answer. -/
def DivRet (n m : Nat) (v : Value) (w' : World) : Prop := ∃ q r, v = .tuple #[q, r, .int .i64 0] ∧ IsNat w' q (n / m) ∧ IsNat w' r (n % m)

theorem IsNat.store {w : World} {v : Value} {n : Nat} (h : IsNat w v n) {p : Addr} {A' : Option Addr} {k c : Nat} (hp : w.cell? p = some (.slice A' k c)) (u : Value) : IsNat (w.setCell p u) v n := by
  obtain ⟨A, c, e, hc, hl⟩ := h
  exact ⟨A, c, e, hc, hl.store hp u⟩
theorem IsNat.none (w : World) : IsNat w (.agg #[.slice Option.none 0 0]) 0 := ⟨Option.none, 0, rfl, Nat.le_refl _, Cells.nil _ _⟩
/-- The two results' places, written one after the other. -/
theorem two_set {W : World} {k : Nat} {A B A' B' : Option Addr} {n m n' m' c d c' d' : Nat} (h2 : W.cell? ⟨k, 0, none⟩ = some (.slice A n c)) (h3 : W.cell? ⟨k + 1, 0, none⟩ = some (.slice B m d)) :
    ((W.setCell ⟨k, 0, none⟩ (.slice A' n' c')).setCell ⟨k + 1, 0, none⟩ (.slice B' m' d')).cell? ⟨k, 0, none⟩ = some (.slice A' n' c') ∧
    ((W.setCell ⟨k, 0, none⟩ (.slice A' n' c')).setCell ⟨k + 1, 0, none⟩ (.slice B' m' d')).cell? ⟨k + 1, 0, none⟩ = some (.slice B' m' d') ∧
    (W.setCell ⟨k, 0, none⟩ (.slice A' n' c')).cell? ⟨k + 1, 0, none⟩ = some (.slice B m d) := by
  have e1 : (W.setCell ⟨k, 0, none⟩ (.slice A' n' c')).cell? ⟨k + 1, 0, none⟩ = some (.slice B m d) := by
    rw [World.cell?_setCell_other _ _ _ _ (by intro e; injection e with e; omega)]; exact h3
  refine ⟨?_, ?_, e1⟩
  · rw [World.cell?_setCell_other _ _ _ _ (by intro e; injection e with e; omega)]
    simp [go_sem, h2]
  · simp [go_sem, e1]

set_option maxHeartbeats 1000000 in
theorem div_zero (w : World) (va vb : Value) (n : Nat) (ha : IsNat w va n) (hb : IsNat w vb 0) :
    Calls Tryd.prog 57 #[va, vb] w (Ret w fun v w' => ∃ q r, v = .tuple #[q, r, .int .i64 8] ∧ IsNat w' q 0 ∧ IsNat w' r 0) := by
  have HZ := Lib.hid (fun W (g : Grow w W) => zero_any W vb 0 (hb.grow g))
  obtain ⟨A, c, rfl, hc, hl⟩ := ha
  obtain ⟨D, d, rfl, hd, hr⟩ := hb
  simp only [BEq.rfl] at HZ
  go_enter Tryd.func57, Tryd.ntmps57
  go_wp2_with fail
  refine (HZ.out _ (divW_grow w A (Mx.len n) c D (Mx.len 0) d)).mono ?_
  rintro e w1 ⟨v1, rfl, rfl, hg⟩
  obtain ⟨c0, c1, c2, c3, f2, f3⟩ := DivB.of hg
  have HG := Lib.hid hg
  clear hg HZ
  have hs : w.heap.size + 1 + 1 + 1 < w1.heap.size := lt_of_cell c3
  go_wp2_with fail
  obtain ⟨s2, s3, _⟩ := two_set (A' := none) (B' := none) (n' := 0) (m' := 0) (c' := 0) (d' := 0) c2 c3
  refine bodyPost_ret (v := .tuple #[.agg #[.slice none 0 0], .agg #[.slice none 0 0], .int .i64 8]) (by simp [results, Tryd.results57, go_sem, s2, s3]) rfl (Ret.mk ⟨_, _, rfl, IsNat.none _, IsNat.none _⟩ ?_)
  exact (((divW_grow w A (Mx.len n) c D (Mx.len 0) d).trans HG.out).setCell (by show w.heap.size ≤ w.heap.size + 1 + 1; omega) _).setCell (by show w.heap.size ≤ w.heap.size + 1 + 1 + 1; omega) _

set_option maxHeartbeats 1000000 in
theorem div_less (w : World) (va vb : Value) (n m : Nat) (hn : Mx.len n ≤ 4294967296) (ha : IsNat w va n) (hb : IsNat w vb m) (hlt : n < m) :
    Calls Tryd.prog 57 #[va, vb] w (Ret w (DivRet n m)) := by
  have HZ := Lib.hid (fun W (g : Grow w W) => zero_any W vb m (hb.grow g))
  have HC := Lib.hid (fun W (g : Grow w W) => cmp_any W va vb n m (by omega) (ha.grow g) (hb.grow g))
  rw [Mx.cmp_lt hlt] at HC
  rw [show (m == 0) = false by rw [beq_eq_false_iff_ne]; omega] at HZ
  obtain ⟨A, c, rfl, hc, hl⟩ := ha
  obtain ⟨D, d, rfl, hd, hr⟩ := hb
  have HD := Lib.hid (And.intro (Nat.div_eq_of_lt hlt) (Nat.mod_eq_of_lt hlt))
  clear hlt
  go_enter Tryd.func57, Tryd.ntmps57
  go_wp2_with fail
  refine (HZ.out _ (divW_grow w A (Mx.len n) c D (Mx.len m) d)).mono ?_
  rintro e w1 ⟨v1, rfl, rfl, hg⟩
  have HB1 := Lib.hid (DivB.of hg)
  have c0 := HB1.out.c0
  have c1 := HB1.out.c1
  clear HZ
  go_wp2_with fail
  refine (HC.out _ ((divW_grow w A (Mx.len n) c D (Mx.len m) d).trans hg)).mono ?_
  rintro e w2 ⟨v2, rfl, rfl, hg2⟩
  have hg := hg.trans hg2
  clear c0 c1 HB1 HC hg2
  obtain ⟨c0, c1, c2, c3, f2, f3⟩ := DivB.of hg
  have HG := Lib.hid hg
  clear hg
  have hs : w.heap.size + 1 + 1 + 1 < w2.heap.size := lt_of_cell c3
  go_wp2_with fail
  go_region
  go_wp2_with fail
  obtain ⟨s2, s3, s4⟩ := two_set (A' := none) (B' := A) (n' := 0) (m' := Mx.len n) (c' := 0) (d' := c) c2 c3
  have gw := ((divW_grow w A (Mx.len n) c D (Mx.len m) d).trans HG.out)
  refine bodyPost_ret (v := .tuple #[.agg #[.slice none 0 0], .agg #[.slice A (Mx.len n) c], .int .i64 0]) (by simp [results, Tryd.results57, go_sem, s2, s3]) rfl (Ret.mk ⟨_, _, rfl, by rw [HD.out.1]; exact IsNat.none _, ?_⟩ ?_)
  · rw [HD.out.2]
    exact ((IsNat.grow (v := .agg #[.slice A (Mx.len n) c]) (n := n) ⟨A, c, rfl, hc, hl⟩ gw).store c2 _).store s4 _
  · exact ((gw.setCell (by show w.heap.size ≤ w.heap.size + 1 + 1; omega) _).setCell (by show w.heap.size ≤ w.heap.size + 1 + 1 + 1; omega) _).drew
end Go.Proofs.YtckcjiojfpaikaaDoor
