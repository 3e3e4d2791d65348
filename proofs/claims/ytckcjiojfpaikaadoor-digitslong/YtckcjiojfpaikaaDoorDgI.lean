/- The contracts of digits.power, digits.Pow and digits.Ten. -/
import Derived.Test.YtckcjiojfpaikaaDoorDgH
namespace Go.Proofs.YtckcjiojfpaikaaDoor
open Go.RowKit
set_option maxRecDepth 20000

theorem pow_bits (n k : Nat) : Mx.bits (n ^ k) ≤ Mx.bits n * k + 1 := by
  refine Mx.bits_le_of_lt ?_
  have h1 : n ^ k ≤ (2 ^ Mx.bits n) ^ k := Nat.pow_le_pow_left (Nat.le_of_lt (Mx.bits_lt n)) k
  rw [← Nat.pow_mul] at h1
  rw [Nat.pow_succ]
  have : 0 < 2 ^ (Mx.bits n * k) := Nat.pow_pos (by decide)
  omega
theorem pow_len {n k : Nat} (h : Mx.bits n * k ≤ 262144) : Mx.len (n ^ k) ≤ 4097 := len_of_bits (by have := pow_bits n k; omega)
theorem IsN.re {w : World} {v : Value} {n k j : Nat} (h : IsN w v n k) (hj : Mx.len n ≤ j) : IsN w v n j := ⟨h.1, hj⟩
theorem pow_even {n k : Nat} (h : k % 2 = 0) : n ^ (k / 2) * n ^ (k / 2) = n ^ k := by rw [← Nat.pow_add]; congr 1; omega
theorem pow_odd {n k : Nat} (h : ¬ k % 2 = 0) : n ^ (k / 2) * n ^ (k / 2) * n = n ^ k := by
  rw [← Nat.pow_add, ← Nat.pow_succ]; congr 1; omega

set_option maxHeartbeats 2000000 in
theorem power_any (m : Nat) : ∀ (w : World) (vn : Value) (n b t : Nat), t ≤ m → IsN w vn n b → b ≤ 536870912 → t ≤ 4096 → Mx.bits n * t ≤ 262144 →
    Calls Tryd.prog 43 #[vn, .int .i64 (t : Int)] w (Ret w fun v' w' => IsN w' v' (n ^ t) 4097) := by
  induction m with
  | zero =>
    intro w vn n b t ht hn hb _ _
    have h0 : t = 0 := by omega
    subst h0
    obtain ⟨A4, l4, c4, rfl⟩ := hn.cell
    clear hn
    go_enter Tryd.func43, Tryd.ntmps43
    go_wp2_with fail
    refine (num_at (x := 1) (by simp) (by rw [Mx.B_eq]; omega)).mono ?_
    rintro e w2 ⟨v2, rfl, h2, g2⟩
    obtain ⟨A2, l2, c2, rfl⟩ := h2.cell
    have H := Lib.hid (And.intro h2 g2)
    have cr : w2.cell? ⟨w.heap.size + 1, 0, none⟩ = some (.slice none 0 0) := (g2.cell (p := ⟨w.heap.size + 1, 0, none⟩) (by show w.heap.size + 1 < _; simp)).trans (by simp [go_sem])
    have fr : w2.frozen? ⟨w.heap.size + 1, 0, none⟩ = false := (Below.frozen g2 (p := ⟨w.heap.size + 1, 0, none⟩) (by show w.heap.size + 1 < _; simp)).trans (by simp [go_sem])
    clear h2 g2
    go_wp2_with fail
    refine bodyPost_ret (v := .agg #[.slice A2 l2 c2]) (by simp [results, Tryd.results43, go_sem, cr]) rfl ?_
    refine Ret.mk ((H.out.1.weak (by omega)).store cr _) (Grow.setCell ((((Grow.refl w).alloc _).alloc _).alloc _ |>.trans H.out.2) (p := ⟨w.heap.size + 1, 0, none⟩) (Nat.le_succ _) _)
  | succ m ih =>
    intro w vn n b t ht hn hb ht2 hbt
    by_cases h0 : t = 0
    · exact ih w vn n b t (by omega) hn hb ht2 hbt
    have h0' : ¬ (t : Int) = 0 := by omega
    have h0b : ((t : Int) == 0) = false := by simp; omega
    have hq : Int.tdiv (t : Int) 2 = ((t / 2 : Nat) : Int) := rfl
    have hr : Int.tmod (t : Int) 2 = ((t % 2 : Nat) : Int) := rfl
    have hbt2 : Mx.bits n * (t / 2) ≤ 262144 := Nat.le_trans (Nat.mul_le_mul_left _ (Nat.div_le_self _ _)) hbt
    have HI := Lib.hid (fun W (g : Grow w W) => ih W vn n b (t / 2) (by omega) (hn.grow g) hb (by omega) hbt2)
    have HN := Lib.hid hn
    have HL := Lib.hid (pow_len hbt)
    have HE := Lib.hid (fun h => pow_even (n := n) (k := t) h)
    have HO := Lib.hid (fun h => pow_odd (n := n) (k := t) h)
    obtain ⟨A4, l4, c4, rfl⟩ := hn.cell
    clear hn ih hbt hbt2 h0
    obtain ⟨x, hx⟩ : ∃ x, n ^ (t / 2) = x := ⟨_, rfl⟩
    rw [hx] at HI HE HO
    clear hx
    obtain ⟨y, hy⟩ : ∃ y, n ^ t = y := ⟨_, rfl⟩
    rw [hy] at HL HE HO ⊢
    clear hy
    go_enter Tryd.func43, Tryd.ntmps43
    go_wp2_with fail
    refine (HI.out _ (((Grow.refl w).alloc _).alloc _)).mono ?_
    rintro e w2 ⟨v2, rfl, h2, g2⟩
    obtain ⟨A2, l2, c2, rfl⟩ := h2.cell
    obtain ⟨k4, cr⟩ := g2.new2
    have fr : w2.frozen? ⟨w.heap.size + 1, 0, none⟩ = false := (Below.frozen g2 (p := ⟨w.heap.size + 1, 0, none⟩) (by show w.heap.size + 1 < _; simp)).trans (by simp [go_sem])
    have gw2 : Grow w w2 := (((Grow.refl w).alloc _).alloc _).trans g2
    have hwl : w.heap.size + 1 < w2.heap.size := lt_of_cell cr
    clear g2 HI
    go_wp2_with fail
    refine (mul_n (h2.grow ((Grow.refl _).alloc _)) (h2.grow ((Grow.refl _).alloc _)) (by omega) (by omega)).mono ?_
    rintro e w3 ⟨v3, rfl, h3, g3⟩
    obtain ⟨A3, l3, c3, rfl⟩ := h3.cell
    have g23 : Grow w2 w3 := ((Grow.refl w2).alloc _).trans g3
    have gw3 := gw2.trans g23
    have k4' := g23.cells1 k4
    have cr' := g23.cells1 cr
    have fr' := (Below.frozen g23 (p := ⟨w.heap.size + 1, 0, none⟩) hwl).trans fr
    have hwl3 : w.heap.size + 1 < w3.heap.size := lt_of_cell cr'
    have hwl4 : w.heap.size < w3.heap.size := by omega
    clear k4 cr fr g3 g23 gw2 h2 hwl
    by_cases hpar : t % 2 = 0
    · have hpar' : ((t % 2 : Nat) : Int) = 0 := by omega
      have hpb : (((t % 2 : Nat) : Int) == 0) = true := by simp; omega
      have H3 := Lib.hid (And.intro h3 gw3)
      rw [HE.out hpar] at H3
      clear h3 gw3 HE HO HN
      generalize ((t % 2 : Nat) : Int) = pm at *
      go_wp2_with fail
      have hce : ((w3.setCell ⟨w.heap.size + 1, 0, none⟩ (.slice A3 l3 c3)).alloc (Obj.cells #[Value.slice A3 l3 c3] 24)).cell? ⟨w.heap.size + 1, 0, none⟩ = some (.slice A3 l3 c3) := by
        refine Grow.cells1 ((Grow.refl _).alloc _) ?_
        simp [go_sem, cr']
      refine bodyPost_ret (v := .agg #[.slice A3 l3 c3]) (by simp [results, Tryd.results43, go_sem, hce]) rfl ?_
      exact Ret.mk (((H3.out.1.re HL.out).store cr' _).grow ((Grow.refl _).alloc _)) ((H3.out.2.setCell (p := ⟨w.heap.size + 1, 0, none⟩) (Nat.le_succ _) _).alloc _)
    · have hpar' : ¬ ((t % 2 : Nat) : Int) = 0 := by omega
      have hpb : (((t % 2 : Nat) : Int) == 0) = false := by simp; omega
      have H3 := Lib.hid (And.intro h3 gw3)
      have HOO := Lib.hid (HO.out hpar)
      clear h3 gw3 HE HO
      generalize ((t % 2 : Nat) : Int) = pm at *
      go_wp2_with fail
      refine (mul_n (H3.out.1.grow ((Grow.refl _).alloc _)) (HN.out.grow (H3.out.2.alloc _)) (by omega) (by omega)).mono ?_
      rintro e w4 ⟨v4, rfl, h4, g4⟩
      rw [HOO.out] at h4
      obtain ⟨A5, l5, c5, rfl⟩ := h4.cell
      have g34 : Grow w3 w4 := ((Grow.refl w3).alloc _).trans g4
      have gw4 := H3.out.2.trans g34
      have cr4 := g34.cells1 cr'
      have fr4 := (Below.frozen g34 (p := ⟨w.heap.size + 1, 0, none⟩) hwl3).trans fr'
      have H4 := Lib.hid (And.intro h4 gw4)
      clear h4 gw4 g34 g4 H3 cr' fr' k4'
      go_wp2_with fail
      refine bodyPost_ret (v := .agg #[.slice A5 l5 c5]) (by simp [results, Tryd.results43, go_sem, cr4]) rfl ?_
      exact Ret.mk ((H4.out.1.re HL.out).store cr4 _) (H4.out.2.setCell (p := ⟨w.heap.size + 1, 0, none⟩) (Nat.le_succ _) _)

theorem power_ten (t : Nat) (ht : t ≤ 4096) : Mx.bits 10 * t ≤ 262144 := by
  have e : Mx.bits 10 = 3 + 1 := Mx.bits_unique (by decide) (by decide)
  rw [e]
  omega

/-- A number and an error's number. -/
def IsNE (w : World) (v : Value) (n b : Nat) (e : Int) : Prop := ∃ u, v = .tuple #[u, .int .i64 e] ∧ IsN w u n b
theorem IsNE.grow {w w' : World} {v : Value} {n b : Nat} {e : Int} (h : IsNE w v n b e) (g : Grow w w') : IsNE w' v n b e := by
  obtain ⟨u, h1, h2⟩ := h
  exact ⟨u, h1, h2.grow g⟩
/-- What Ten answers. -/
def tenE (t : Int) : Int := if t < 0 then 2 else if 4096 < t then 6 else 0
def tenN (t : Int) : Nat := if 0 ≤ t ∧ t ≤ 4096 then 10 ^ t.toNat else 0

set_option maxHeartbeats 1000000 in
theorem ten_any (w : World) (t : Int) : Calls Tryd.prog 21 #[.int .i64 t] w (Ret w fun v w' => IsNE w' v (tenN t) 4097 (tenE t)) := by
  by_cases h0 : t < 0
  · have e1 : tenE t = 2 := by unfold tenE; rw [if_pos h0]
    have e2 : tenN t = 0 := by unfold tenN; rw [if_neg (by omega)]
    rw [e1, e2]
    go_enter Tryd.func21, Tryd.ntmps21
    go_wp2_with fail
    refine bodyPost_ret (v := .tuple #[.agg #[.slice none 0 0], .int .i64 2]) (by simp [results, Tryd.results21, go_sem]) rfl (Ret.mk ⟨_, rfl, (IsN.zero _).weak (by omega)⟩ ((Grow.refl w).alloc _))
  · by_cases h1 : 4096 < t
    · have e1 : tenE t = 6 := by unfold tenE; rw [if_neg h0, if_pos h1]
      have e2 : tenN t = 0 := by unfold tenN; rw [if_neg (by omega)]
      rw [e1, e2]
      go_enter Tryd.func21, Tryd.ntmps21
      go_wp2_with fail
      refine bodyPost_ret (v := .tuple #[.agg #[.slice none 0 0], .int .i64 6]) (by simp [results, Tryd.results21, go_sem]) rfl (Ret.mk ⟨_, rfl, (IsN.zero _).weak (by omega)⟩ ((Grow.refl w).alloc _))
    · obtain ⟨k, rfl⟩ : ∃ k : Nat, t = (k : Int) := ⟨t.toNat, by omega⟩
      have e1 : tenE (k : Int) = 0 := by unfold tenE; rw [if_neg h0, if_neg h1]
      have e2 : tenN (k : Int) = 10 ^ k := by unfold tenN; rw [if_pos (by omega)]; rfl
      rw [e1, e2]
      have HP := Lib.hid (fun W v (h : IsN W v 10 1) => power_any k W v 10 1 k (Nat.le_refl _) h (by omega) (by omega) (power_ten k (by omega)))
      generalize 10 ^ k = x at *
      go_enter Tryd.func21, Tryd.ntmps21
      go_wp2_with fail
      refine (num_at (x := 10) (by simp) (by rw [Mx.B_eq]; omega)).mono ?_
      rintro e w2 ⟨v2, rfl, h2, g2⟩
      have cr : w2.cell? ⟨w.heap.size, 0, none⟩ = some (.slice none 0 0) := (g2.cell (p := ⟨w.heap.size, 0, none⟩) (by show w.heap.size < _; simp; omega)).trans (by simp [go_sem])
      have fr : w2.frozen? ⟨w.heap.size, 0, none⟩ = false := (Below.frozen g2 (p := ⟨w.heap.size, 0, none⟩) (by show w.heap.size < _; simp; omega)).trans (by simp [go_sem])
      have gw2 : Grow w w2 := (((Grow.refl w).alloc _).alloc _).trans g2
      clear g2
      go_wp2_with fail
      refine (HP.out _ _ h2).mono ?_
      rintro e w3 ⟨v3, rfl, h3, g3⟩
      obtain ⟨A3, l3, c3, rfl⟩ := h3.cell
      have cr3 := g3.cells1 cr
      have fr3 := (Below.frozen g3 (p := ⟨w.heap.size, 0, none⟩) (lt_of_cell cr)).trans fr
      have H := Lib.hid (And.intro h3 (gw2.trans g3))
      clear HP h2 h3 g3 gw2 cr fr
      go_wp2_with fail
      refine bodyPost_ret (v := .tuple #[.agg #[.slice A3 l3 c3], .int .i64 0]) (by simp [results, Tryd.results21, go_sem, cr3]) rfl ?_
      exact Ret.mk ⟨_, rfl, H.out.1.store cr3 _⟩ (H.out.2.setCell (p := ⟨w.heap.size, 0, none⟩) (Nat.le_refl _) _)
end Go.Proofs.YtckcjiojfpaikaaDoor
