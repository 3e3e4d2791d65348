/- The contract of digits.Pow. -/
import Derived.Test.YtckcjiojfpaikaaDoorDgI
namespace Go.Proofs.YtckcjiojfpaikaaDoor
open Go.RowKit
set_option maxRecDepth 20000

/-- What Pow answers. -/
def powE (n : Nat) (t : Int) : Int := if t < 0 then 2 else if 1200 < t ∨ 262144 < (Mx.bits n : Int) * t then 6 else 0
def powN (n : Nat) (t : Int) : Nat := if powE n t = 0 then n ^ t.toNat else 0
theorem powE_neg {n : Nat} {t : Int} (h : t < 0) : powE n t = 2 ∧ powN n t = 0 := by
  have e : powE n t = 2 := by unfold powE; rw [if_pos h]
  exact ⟨e, by unfold powN; rw [e, if_neg (by omega)]⟩
theorem powE_many {n : Nat} {t : Int} (h : ¬ t < 0) (h1 : 1200 < t ∨ 262144 < (Mx.bits n : Int) * t) : powE n t = 6 ∧ powN n t = 0 := by
  have e : powE n t = 6 := by unfold powE; rw [if_neg h, if_pos h1]
  exact ⟨e, by unfold powN; rw [e, if_neg (by omega)]⟩
theorem powE_ok {n k : Nat} (h1 : ¬ (1200 : Int) < (k : Int)) (h2 : ¬ 262144 < (Mx.bits n : Int) * (k : Int)) : powE n (k : Int) = 0 ∧ powN n (k : Int) = n ^ k := by
  have e : powE n (k : Int) = 0 := by unfold powE; rw [if_neg (by omega), if_neg (by rintro (h | h) <;> contradiction)]
  exact ⟨e, by unfold powN; rw [e, if_pos rfl]; rfl⟩

set_option maxHeartbeats 1000000 in
theorem pow_any (w : World) (vn : Value) (n b : Nat) (t : Int) (hn : IsN w vn n b) (hb : b ≤ 536870912) :
    Calls Tryd.prog 20 #[vn, .int .i64 t] w (Ret w fun v w' => IsNE w' v (powN n t) 4097 (powE n t)) := by
  obtain ⟨A4, l4, c4, rfl⟩ := hn.cell
  by_cases h0 : t < 0
  · rw [(powE_neg h0).1, (powE_neg h0).2]
    clear hn
    go_enter Tryd.func20, Tryd.ntmps20
    go_wp2_with fail
    refine bodyPost_ret (v := .tuple #[.agg #[.slice none 0 0], .int .i64 2]) (by simp [results, Tryd.results20, go_sem]) rfl (Ret.mk ⟨_, rfl, (IsN.zero _).weak (by omega)⟩ (((Grow.refl w).alloc _).alloc _))
  by_cases h1 : 1200 < t
  · rw [(powE_many h0 (.inl h1)).1, (powE_many h0 (.inl h1)).2]
    clear hn
    go_enter Tryd.func20, Tryd.ntmps20
    go_wp2_with fail
    refine bodyPost_ret (v := .tuple #[.agg #[.slice none 0 0], .int .i64 6]) (by simp [results, Tryd.results20, go_sem]) rfl (Ret.mk ⟨_, rfl, (IsN.zero _).weak (by omega)⟩ (((Grow.refl w).alloc _).alloc _))
  obtain ⟨k, rfl⟩ : ∃ k : Nat, t = (k : Int) := ⟨t.toNat, by omega⟩
  have hbits : Mx.bits n ≤ 64 * b := Nat.le_trans (Mx.bits_len n) (Nat.mul_le_mul_left _ hn.2)
  have hprod : Mx.bits n * k ≤ 64 * b * 1200 := Nat.mul_le_mul hbits (by omega)
  have hcast : (Mx.bits n : Int) * (k : Int) = ((Mx.bits n * k : Nat) : Int) := (Int.natCast_mul _ _).symm
  have HB := Lib.hid (fun W (g : Grow w W) => bits_n (hn.grow g) (by omega))
  have HC : Hid ((262144 < Mx.bits n * k → powE n (k : Int) = 6 ∧ powN n (k : Int) = 0) ∧ (¬ 262144 < Mx.bits n * k → powE n (k : Int) = 0 ∧ powN n (k : Int) = n ^ k)) :=
    Lib.hid ⟨fun h => powE_many h0 (.inr (by omega)), fun h => powE_ok h1 (by omega)⟩
  have HP := Lib.hid (fun (h : ¬ 262144 < Mx.bits n * k) W (g : Grow w W) => power_any k W _ n b k (Nat.le_refl _) (hn.grow g) hb (by omega) (by omega))
  have hwr : IntKind.i64.wrap ((Mx.bits n : Int) * (k : Int)) = ((Mx.bits n * k : Nat) : Int) := by
    rw [hcast]
    exact IntWalk.i64_in _ (by omega)
  clear hn hcast hbits
  generalize Mx.bits n * k = pr at *
  generalize Mx.bits n = bi at *
  by_cases h2 : 262144 < pr
  · rw [(HC.out.1 h2).1, (HC.out.1 h2).2]
    have h2' : (262144 : Int) < (pr : Int) := by omega
    clear HP HC
    go_enter Tryd.func20, Tryd.ntmps20
    go_wp2_with fail
    refine (HB.out _ (((Grow.refl w).alloc _).alloc _)).mono ?_
    rintro e w1 ⟨v1, rfl, rfl, g1⟩
    have cr : w1.cell? ⟨w.heap.size + 1, 0, none⟩ = some (.slice none 0 0) := g1.new2.2
    have fr : w1.frozen? ⟨w.heap.size + 1, 0, none⟩ = false := (Below.frozen g1 (p := ⟨w.heap.size + 1, 0, none⟩) (by show w.heap.size + 1 < _; simp)).trans (by simp [go_sem])
    have H := Lib.hid ((((Grow.refl w).alloc _).alloc _).trans g1)
    clear g1 HB
    go_wp2_with fail
    refine bodyPost_ret (v := .tuple #[.agg #[.slice none 0 0], .int .i64 6]) (by simp [results, Tryd.results20, go_sem, cr]) rfl (Ret.mk ⟨_, rfl, (IsN.zero _).weak (by omega)⟩ (H.out.setCell (p := ⟨w.heap.size + 1, 0, none⟩) (Nat.le_succ _) _))
  · rw [(HC.out.2 h2).1, (HC.out.2 h2).2]
    have h2' : ¬ (262144 : Int) < (pr : Int) := by omega
    have HP2 := Lib.hid (HP.out h2)
    clear HP HC
    generalize n ^ k = x at *
    go_enter Tryd.func20, Tryd.ntmps20
    go_wp2_with fail
    refine (HB.out _ (((Grow.refl w).alloc _).alloc _)).mono ?_
    rintro e w1 ⟨v1, rfl, rfl, g1⟩
    obtain ⟨k4, cr⟩ := g1.new2
    have fr : w1.frozen? ⟨w.heap.size + 1, 0, none⟩ = false := (Below.frozen g1 (p := ⟨w.heap.size + 1, 0, none⟩) (by show w.heap.size + 1 < _; simp)).trans (by simp [go_sem])
    have gw1 : Grow w w1 := (((Grow.refl w).alloc _).alloc _).trans g1
    clear g1 HB
    go_wp2_with fail
    refine (HP2.out _ gw1).mono ?_
    rintro e w3 ⟨v3, rfl, h3, g3⟩
    obtain ⟨A3, l3, c3, rfl⟩ := h3.cell
    have cr3 := g3.cells1 cr
    have fr3 := (Below.frozen g3 (p := ⟨w.heap.size + 1, 0, none⟩) (lt_of_cell cr)).trans fr
    have H := Lib.hid (And.intro h3 (gw1.trans g3))
    clear HP2 h3 g3 gw1 cr fr k4
    go_wp2_with fail
    refine bodyPost_ret (v := .tuple #[.agg #[.slice A3 l3 c3], .int .i64 0]) (by simp [results, Tryd.results20, go_sem, cr3]) rfl ?_
    exact Ret.mk ⟨_, rfl, H.out.1.store cr3 _⟩ (H.out.2.setCell (p := ⟨w.heap.size + 1, 0, none⟩) (Nat.le_succ _) _)
end Go.Proofs.YtckcjiojfpaikaaDoor
