/- Contracts of package quot: apart, whole. -/
import Derived.Test.YtpjmfbiihhbjhaaGreatDoorQuoL
namespace Go.Proofs.YtpjmfbiihhbjhaaGreatDoor
open Go.RowKit

/-- What the cut behind apart's first region keeps. -/
def ApC (w : World) (p q k : Nat) (v9 v10 : Value) (W : World) : Prop := ∃ i j, v9 = .pointer (some ⟨i, 0, none⟩) ∧ v10 = .pointer (some ⟨j, 0, none⟩) ∧ i ≠ j ∧ w.heap.size ≤ i ∧ w.heap.size ≤ j ∧ W.frozen? ⟨i, 0, none⟩ = false ∧ W.frozen? ⟨j, 0, none⟩ = false ∧ VarN W i p k ∧ VarN W j q k ∧ Grow w W

set_option maxRecDepth 100000 in
set_option maxHeartbeats 2000000 in
theorem apart_any (w : World) (va vb : Value) (a b s t k : Nat) (ha : IsN w va a k) (hb : IsN w vb b k) (hs : s < Mx.B) (ht : t < Mx.B) (hk : k ≤ 2147483648) :
    Calls Tryz.prog 102 #[va, .int .u64 (s : Int), vb, .int .u64 (t : Int)] w (Ret w fun v w' => IsN w' v (Mx.far (s * a) (t * b)) (1 + k)) := by
  obtain ⟨A4, l4, c4, rfl⟩ := ha.cell
  obtain ⟨A6, l6, c6, rfl⟩ := hb.cell
  have HN := Lib.hid (And.intro ha hb)
  have HB := Lib.hid (And.intro hs (And.intro ht hk))
  clear ha hb hs ht hk
  go_enter Tryz.func102, Tryz.ntmps102
  go_upto_region 1 with fail
  have gg : Grow w (((w.alloc (Obj.cells #[Value.slice A4 l4 c4] 26)).alloc (Obj.cells #[Value.slice A6 l6 c6] 26)).alloc (Obj.cells #[Value.slice none 0 0] 26)) := (((Grow.refl _).alloc _).alloc _).alloc _
  obtain ⟨k4, k6, k8, f8⟩ := Grow.new3 (Grow.refl (((w.alloc (Obj.cells #[Value.slice A4 l4 c4] 26)).alloc (Obj.cells #[Value.slice A6 l6 c6] 26)).alloc (Obj.cells #[Value.slice none 0 0] 26)))
  have n4 := HN.out.1.grow gg
  have n6 := HN.out.2.grow gg
  generalize ((w.alloc (Obj.cells #[Value.slice A4 l4 c4] 26)).alloc (Obj.cells #[Value.slice A6 l6 c6] 26)).alloc (Obj.cells #[Value.slice none 0 0] 26) = w1 at *
  clear HN
  go_cut [9, 10] (fun v9 v10 W => ApC w1 (s * a) (t * b) (1 + k) v9 v10 W)
  case first =>
    refine Rg.region_eq (ops' := apartOps1) (by kernel_rfl) (apart_region1 (a := a) (b := b) (s := s) (t := t) (k := k) rfl rfl rfl rfl rfl k4 n4 k6 n6 HB.out.1 HB.out.2.1 HB.out.2.2 ?_)
    intro f w2 i j g2 e9 e10 hij hi hj fi fj vi vj
    have H := Lib.hid (And.intro hij (And.intro hi (And.intro hj (And.intro fi (And.intro fj (And.intro vi (And.intro vj g2)))))))
    clear hij hi hj fi fj vi vj g2
    simp only [Rg.puts, Act.put, List.setIfInBounds_toArray, List.set_cons_succ, List.set_cons_zero]
    rw [e9, e10]
    go_wp2_with fail
    go_meet
    exact ⟨i, j, rfl, rfl, H.out⟩
  case rest =>
    obtain ⟨w2, rfl⟩ : ∃ x, x = wc := ⟨wc, rfl⟩
    obtain ⟨i, j, rfl, rfl, hij, hi, hj, fi, fj, vi, vj, g2⟩ := hcut
    have hk8 : w.heap.size + 1 + 1 < w1.heap.size := lt_of_cell k8
    have k8 := g2.cells1 k8
    have f8 := (Below.frozen g2 (p := ⟨w.heap.size + 1 + 1, 0, none⟩) hk8).trans f8
    have hgg := gg.trans g2
    clear k4 k6 n4 n6 g2 gg
    obtain ⟨AI, lI, cI, hI, nI⟩ := vi
    obtain ⟨AJ, lJ, cJ, hJ, nJ⟩ := vj
    have HN := Lib.hid (And.intro nI nJ)
    have HG := Lib.hid hgg
    clear nI nJ hgg
    go_wp2_with fail
    refine (cmp_n HN.out.1 HN.out.2 (by have := HB.out.2.2; omega)).mono ?_
    rintro e w3 ⟨v3, rfl, rfl, g3⟩
    have fi := (Below.frozen g3 (p := ⟨i, 0, none⟩) (lt_of_cell hI)).trans fi
    have fj := (Below.frozen g3 (p := ⟨j, 0, none⟩) (lt_of_cell hJ)).trans fj
    have f8 := (Below.frozen g3 (p := ⟨w.heap.size + 1 + 1, 0, none⟩) (lt_of_cell k8)).trans f8
    have hI := g3.cells1 hI
    have hJ := g3.cells1 hJ
    have k8 := g3.cells1 k8
    have nI := HN.out.1.grow g3
    have nJ := HN.out.2.grow g3
    have hG := HG.out.trans g3
    clear HN HG g3
    by_cases hlt : s * a < t * b
    · rw [Mx.cmp_lt hlt]
      have hi8 : w.heap.size + 1 + 1 ≠ i := by omega
      have hj8 : w.heap.size + 1 + 1 ≠ j := by omega
      have hwi : w.heap.size ≤ i := by omega
      have hwj : w.heap.size ≤ j := by omega
      have hJ' : (w3.setCell ⟨i, 0, none⟩ (.slice AJ lJ cJ)).cell? ⟨j, 0, none⟩ = some (.slice AJ lJ cJ) := by rw [World.cell?_setCell_other _ _ _ _ (by intro e; injection e with e; exact hij e)]; exact hJ
      have hX : ((w3.setCell ⟨i, 0, none⟩ (.slice AJ lJ cJ)).setCell ⟨j, 0, none⟩ (.slice AI lI cI)).cell? ⟨i, 0, none⟩ = some (.slice AJ lJ cJ) := by
        rw [World.cell?_setCell_other _ _ _ _ (by intro e; injection e with e; exact hij e.symm)]; simp [go_sem, hI]
      have hY : ((w3.setCell ⟨i, 0, none⟩ (.slice AJ lJ cJ)).setCell ⟨j, 0, none⟩ (.slice AI lI cI)).cell? ⟨j, 0, none⟩ = some (.slice AI lI cI) := by simp [go_sem, hJ']
      have k8' : ((w3.setCell ⟨i, 0, none⟩ (.slice AJ lJ cJ)).setCell ⟨j, 0, none⟩ (.slice AI lI cI)).cell? ⟨w.heap.size + 1 + 1, 0, none⟩ = some (.slice none 0 0) := by
        rw [World.cell?_setCell_other _ _ _ _ (by intro e; injection e with e; exact hj8 e.symm), World.cell?_setCell_other _ _ _ _ (by intro e; injection e with e; exact hi8 e.symm)]; exact k8
      have f8' : ((w3.setCell ⟨i, 0, none⟩ (.slice AJ lJ cJ)).setCell ⟨j, 0, none⟩ (.slice AI lI cI)).frozen? ⟨w.heap.size + 1 + 1, 0, none⟩ = false := by simpa using f8
      have nX := (nJ.store hI (.slice AJ lJ cJ)).store hJ' (.slice AI lI cI)
      have nY := (nI.store hI (.slice AJ lJ cJ)).store hJ' (.slice AI lI cI)
      have gW := (hG.setCell (p := ⟨i, 0, none⟩) hwi (.slice AJ lJ cJ)).setCell (p := ⟨j, 0, none⟩) hwj (.slice AI lI cI)
      have HLE := Lib.hid (Nat.le_of_lt hlt)
      have HLT := Lib.hid hlt
      have HH := Lib.hid (And.intro (And.intro hX hY) (And.intro (And.intro k8' f8') (And.intro (And.intro nX nY) gW)))
      clear hX hY k8' f8' nX nY gW hlt nI nJ hG k8 f8 hi8 hj8 hwi hwj
      go_upto_region 4 with fail
      obtain ⟨⟨hX, hY⟩, ⟨k8, f8⟩, ⟨nX, nY⟩, gW⟩ := HH.out
      clear HH hJ' hI hJ fi fj
      generalize (w3.setCell ⟨i, 0, none⟩ (.slice AJ lJ cJ)).setCell ⟨j, 0, none⟩ (.slice AI lI cI) = w4 at *
      have HN := Lib.hid (And.intro nX nY)
      have HG := Lib.hid gW
      have HC := Lib.hid (And.intro k8 f8)
      clear nX nY gW
      go_wp2_with fail
      refine (sub_n HN.out.1 HN.out.2 (by have := HB.out.2.2; omega) HLE.out).mono ?_
      rintro e w5 ⟨v5, rfl, ⟨u, rfl, hu⟩, g5⟩
      obtain ⟨A5, l5, c5, rfl⟩ := hu.cell
      have gg : Grow w5 (w5.alloc (Obj.cells #[Value.slice A5 l5 c5] 26)) := (Grow.refl _).alloc _
      have k8' := (g5.trans gg).cells1 HC.out.1
      have f8' := (Below.frozen (g5.trans gg) (p := ⟨w.heap.size + 1 + 1, 0, none⟩) (by show w.heap.size + 1 + 1 < _; exact lt_of_cell HC.out.1)).trans HC.out.2
      have HU := Lib.hid ((hu.grow gg).store k8' (.slice A5 l5 c5))
      have HG := Lib.hid ((HG.out.trans (g5.trans gg)).setCell (p := ⟨w.heap.size + 1 + 1, 0, none⟩) (by show w.heap.size ≤ w.heap.size + 1 + 1; omega) (.slice A5 l5 c5))
      clear hu g5 gg k8 f8 hX hY
      go_wp2_with fail
      refine bodyPost_ret (v := .agg #[.slice A5 l5 c5]) (by simp [results, Tryz.results102, go_sem, k8']) rfl (Ret.mk ?_ HG.out)
      rw [show Mx.far (s * a) (t * b) = t * b - s * a from if_pos HLT.out]
      exact HU.out
    · have hX := hI
      have hY := hJ
      have nX := nI
      have nY := nJ
      have gW := hG
      have HLE := Lib.hid (Nat.le_of_not_lt hlt)
      have HLT := Lib.hid hlt
      have hd : decide (Mx.cmp (s * a) (t * b) < 0) = false := decide_eq_false (by unfold Mx.cmp; rw [if_neg hlt]; split <;> omega)
      generalize Mx.cmp (s * a) (t * b) = cc at *
      clear hlt nI nJ hG hI hJ fi fj
      have HN := Lib.hid (And.intro nX nY)
      have HG := Lib.hid gW
      have HC := Lib.hid (And.intro k8 f8)
      clear nX nY gW
      go_wp2_with fail
      refine (sub_n HN.out.1 HN.out.2 (by have := HB.out.2.2; omega) HLE.out).mono ?_
      rintro e w5 ⟨v5, rfl, ⟨u, rfl, hu⟩, g5⟩
      obtain ⟨A5, l5, c5, rfl⟩ := hu.cell
      have gg : Grow w5 (w5.alloc (Obj.cells #[Value.slice A5 l5 c5] 26)) := (Grow.refl _).alloc _
      have k8' := (g5.trans gg).cells1 HC.out.1
      have f8' := (Below.frozen (g5.trans gg) (p := ⟨w.heap.size + 1 + 1, 0, none⟩) (by show w.heap.size + 1 + 1 < _; exact lt_of_cell HC.out.1)).trans HC.out.2
      have HU := Lib.hid ((hu.grow gg).store k8' (.slice A5 l5 c5))
      have HG := Lib.hid ((HG.out.trans (g5.trans gg)).setCell (p := ⟨w.heap.size + 1 + 1, 0, none⟩) (by show w.heap.size ≤ w.heap.size + 1 + 1; omega) (.slice A5 l5 c5))
      clear hu g5 gg k8 f8 hX hY
      go_wp2_with fail
      refine bodyPost_ret (v := .agg #[.slice A5 l5 c5]) (by simp [results, Tryz.results102, go_sem, k8']) rfl (Ret.mk ?_ HG.out)
      rw [show Mx.far (s * a) (t * b) = s * a - t * b from if_neg HLT.out]
      exact HU.out
end Go.Proofs.YtpjmfbiihhbjhaaGreatDoor
