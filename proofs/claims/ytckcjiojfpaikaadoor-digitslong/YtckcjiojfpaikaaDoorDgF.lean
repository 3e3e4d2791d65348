/- The contract of digits.cuts. -/
import Derived.Test.YtckcjiojfpaikaaDoorDgE
import Derived.Deep.LoopGhost
import Derived.Deep.AppendLies
import Derived.Test.YtckcjiojfpaikaaDoorRefB
namespace Go.Proofs.YtckcjiojfpaikaaDoor
open Go.RowKit
set_option maxRecDepth 20000

theorem infoN : (Tryd.prog.info? 24).map (fun i => (i.zero, i.size, i.bytes)) = some (some (.agg #[.slice none 0 0]), 1, 24) := by kernel_rfl
theorem cutAt_zero : cutAt 0 = 10000000000000000000 := by decide
theorem cutAt_ne (j : Nat) : cutAt j ≠ 0 := Nat.pos_iff_ne_zero.1 (cutAt_pos j)
theorem cutAt_big (j : Nat) : 2 ≤ Mx.bits (cutAt j) := by
  have h : cutAt 0 ≤ cutAt j := Nat.pow_le_pow_right (by decide) (Nat.mul_le_mul_left _ (Nat.pow_le_pow_right (by decide) (Nat.zero_le j)))
  have h2 := Mx.bits_mono h
  have h3 : Mx.bits (cutAt 0) = 63 + 1 := by
    rw [cutAt_zero]
    exact Mx.bits_unique (by decide) (by decide)
  omega
theorem bits_sq (j : Nat) : Mx.bits (cutAt (j + 1)) = 2 * Mx.bits (cutAt j) ∨ Mx.bits (cutAt (j + 1)) = 2 * Mx.bits (cutAt j) - 1 := by
  rw [cutAt_sq]
  have := Mx.bits_mul (cutAt_ne j) (cutAt_ne j)
  omega
/-- Where the cuts end: the next one would be above n. -/
theorem cut_above {n j : Nat} (h : Mx.bits n < 2 * Mx.bits (cutAt j) - 1) : n < cutAt (j + 1) := by
  have h1 := bits_sq j
  have h2 := Mx.bits_lt n
  have h3 := Mx.bits_le (cutAt_ne (j + 1))
  refine Nat.lt_of_lt_of_le h2 (Nat.le_trans (Nat.pow_le_pow_right (by decide) ?_) h3)
  omega
theorem len_of_bits {n k : Nat} (h : Mx.bits n ≤ 64 * k) : Mx.len n ≤ k := by
  rcases Nat.eq_zero_or_pos n with rfl | hn
  · exact Nat.zero_le _
  · have h1 := Mx.bits_limbs (Nat.pos_iff_ne_zero.1 hn)
    have h2 := Mx.bits_pos h1.2
    omega
/-- The cells of the cuts' list. -/
def CutCells (w : World) (xs : List Value) (b : Nat) : Prop := ∀ j u, xs[j]? = some u → ∃ A l c, u = .slice A l c ∧ IsN w (.agg #[.slice A l c]) (cutAt j) b
theorem CutCells.grow {w w' : World} {xs : List Value} {b : Nat} (h : CutCells w xs b) (g : Grow w w') : CutCells w' xs b := fun j u hj => by
  obtain ⟨A, l, c, e, h1⟩ := h j u hj
  exact ⟨A, l, c, e, h1.grow g⟩
theorem CutCells.store {w : World} {xs : List Value} {b : Nat} (h : CutCells w xs b) {p : Addr} {A' : Option Addr} {k c : Nat} (hp : w.cell? p = some (.slice A' k c)) (u : Value) : CutCells (w.setCell p u) xs b := fun j u' hj => by
  obtain ⟨A, l, c, e, h1⟩ := h j u' hj
  exact ⟨A, l, c, e, h1.store hp u⟩
theorem CutCells.wrote {w w' : World} {v v' : Value} {ys xs : List Value} {b : Nat} (h : CutCells w xs b) (k : Wrote w v w' v') (ho : Own w 24 isS v ys) : CutCells w' xs b := fun j u hj => by
  obtain ⟨A, l, c, e, h1⟩ := h j u hj
  exact ⟨A, l, c, e, h1.wrote k ho isS_u64⟩
/-- What holds while the cuts are made: the list v of j + 1 of them; the last one in the variable q; the number in p. -/
structure CutsS (w : World) (n b p q j : Nat) (v : Value) (xs : List Value) (W : World) : Prop where
  grow : Grow w W
  own : Own W 24 isS v xs
  len : xs.length = j + 1
  cells : CutCells W xs (b + 1)
  num : VarN W p n b
  last : VarN W q (cutAt j) (b + 1)
  unfz : W.frozen? ⟨q, 0, none⟩ = false
  pq : p ≠ q
  wq : w.heap.size ≤ q
  farp : v.ownBlock ≠ some p
  farq : v.ownBlock ≠ some q
  bd : Mx.bits (cutAt j) ≤ Mx.bits n + 64
  base : v.ownBlock = none ∨ ∃ g, v.ownBlock = some g ∧ w.heap.size ≤ g
theorem Own.store_far {w : World} {e : TypeId} {E : Value → Prop} {v : Value} {xs : List Value} (h : Own w e E v xs) {p : Addr} (hp : v.ownBlock ≠ some p.block) (u : Value) : Own (w.setCell p u) e E v xs := by
  rcases h with h | ⟨g, cap, r, h1, h2, h3⟩
  · exact .inl h
  · refine .inr ⟨g, cap, r, h1, (Below.heap_setCell w p u g (fun e => hp (by rw [h1, ← e]; rfl))).trans h2, h3⟩
theorem VarN.store_far {w : World} {k n b : Nat} (h : VarN w k n b) {p : Nat} {A' : Option Addr} {l' c' : Nat} (hp : w.cell? ⟨p, 0, none⟩ = some (.slice A' l' c')) (hne : k ≠ p) (u : Value) : VarN (w.setCell ⟨p, 0, none⟩ u) k n b := by
  obtain ⟨A, l, c, h1, h2⟩ := h
  exact ⟨A, l, c, by rw [World.cell?_setCell_other _ _ _ _ (by intro e; injection e with e; exact hne e.symm)]; exact h1, h2.store hp u⟩
theorem VarN.wrote {w w' : World} {v v' : Value} {xs : List Value} {k n b : Nat} (h : VarN w k n b) (g : Wrote w v w' v') (ho : Own w 24 isS v xs) (hne : v.ownBlock ≠ some k) : VarN w' k n b := by
  obtain ⟨A, l, c, h1, h2⟩ := h
  exact ⟨A, l, c, (World.cell?_of_block (g.1.block k (lt_of_cell h1) (fun e => hne e.symm))).trans h1, h2.wrote g ho isS_u64⟩
theorem CutsS.more {w W W' : World} {n b p q j : Nat} {v : Value} {xs : List Value} (h : CutsS w n b p q j v xs W) (g : Grow W W') : CutsS w n b p q j v xs W' where
  grow := h.grow.trans g
  own := h.own.grow g
  len := h.len
  cells := h.cells.grow g
  num := h.num.grow g
  last := h.last.grow g
  unfz := (Below.frozen g (p := ⟨q, 0, none⟩) (by obtain ⟨A, l, c, h1, _⟩ := h.last; exact lt_of_cell h1)).trans h.unfz
  pq := h.pq
  wq := h.wq
  farp := h.farp
  farq := h.farq
  bd := h.bd
  base := h.base
/-- At the end the list is what write wants. -/
theorem CutsS.done {w W : World} {n b p q j : Nat} {v : Value} {xs : List Value} (h : CutsS w n b p q j v xs W) : Cuts W v (j + 1) (b + 1) := by
  have hne : xs ≠ [] := by
    intro e
    have := h.len
    rw [e] at this
    simp at this
  obtain ⟨g, c, e, hc, hcell⟩ := h.own.cells hne
  rw [h.len] at e hc
  refine ⟨_, _, e, hc, fun _ => ⟨g, 0, rfl, fun i hi => ?_⟩⟩
  have hi' : i < xs.length := by rw [h.len]; exact hi
  obtain ⟨A, l, c', e1, h1⟩ := h.cells i _ (List.getElem?_eq_getElem hi')
  have := hcell i _ (List.getElem?_eq_getElem hi')
  rw [e1] at this
  exact ⟨A, l, c', by rw [Nat.zero_add]; exact this, h1⟩
theorem bits_cut (j : Nat) : 3 * (19 * 2 ^ j) < Mx.bits (cutAt j) := by
  have h1 : 2 ^ (3 * (19 * 2 ^ j)) ≤ cutAt j := by
    unfold cutAt
    rw [Nat.pow_mul]
    exact Nat.pow_le_pow_left (by decide) _
  exact (Nat.pow_lt_pow_iff_right (by decide)).1 (Nat.lt_of_le_of_lt h1 (Mx.bits_lt _))

theorem CutsS.next {w W : World} {n b p q j : Nat} {v : Value} {xs : List Value} {A : Option Addr} {l c : Nat} (S : CutsS w n b p q j v xs W) (hN : IsN W (.agg #[.slice A l c]) (cutAt (j + 1)) (b + 1)) (hbd : Mx.bits (cutAt (j + 1)) ≤ Mx.bits n + 64) :
    Own ((W.setCell ⟨q, 0, none⟩ (.slice A l c)).alloc (Obj.cells #[.slice A l c] 24)) 24 isS v xs ∧ ∀ v' w', Own w' 24 isS v' (xs ++ [.slice A l c]) → Wrote ((W.setCell ⟨q, 0, none⟩ (.slice A l c)).alloc (Obj.cells #[.slice A l c] 24)) v w' v' → CutsS w n b p q (j + 1) v' (xs ++ [.slice A l c]) w' := by
  obtain ⟨Aq, lq, cq, kq, nq⟩ := S.last
  obtain ⟨Ap, lp, cp, kp, np⟩ := S.num
  have hq := lt_of_cell kq
  have hp := lt_of_cell kp
  have ga : Grow (W.setCell ⟨q, 0, none⟩ (.slice A l c)) ((W.setCell ⟨q, 0, none⟩ (.slice A l c)).alloc (Obj.cells #[.slice A l c] 24)) := (Grow.refl _).alloc _
  have hs : (W.setCell ⟨q, 0, none⟩ (.slice A l c)).heap.size = W.heap.size := by simp [World.setCell]
  have ho := (S.own.store_far (p := ⟨q, 0, none⟩) S.farq (.slice A l c)).grow ga
  refine ⟨ho, fun v' w' hown hw => ?_⟩
  have hnq : IsN (W.setCell ⟨q, 0, none⟩ (.slice A l c)) (.agg #[.slice A l c]) (cutAt (j + 1)) (b + 1) := hN.store kq _
  have hfar : ∀ k, k < W.heap.size → v.ownBlock ≠ some k → v'.ownBlock ≠ some k := by
    intro k hk h
    rcases hw.2 with e | ⟨g, e, hg⟩
    · rw [e]; exact h
    · rw [e]
      intro e'
      injection e' with e'
      rw [World.size_alloc, hs] at hg
      omega
  refine ⟨?_, hown, by rw [List.length_append, S.len]; rfl, ?_, ?_, ?_, ?_, S.pq, S.wq, hfar p hp S.farp, hfar q hq S.farq, hbd, ?_⟩
  · have h1 : Grow w ((W.setCell ⟨q, 0, none⟩ (.slice A l c)).alloc (Obj.cells #[.slice A l c] 24)) := (S.grow.setCell (p := ⟨q, 0, none⟩) S.wq _).trans ga
    refine Below.grown h1 hw.1 h1.size fun k hk => ?_
    rcases S.base with e | ⟨g, e, hg⟩
    · rw [e] at hk; cases hk
    · rw [e] at hk
      injection hk with hk
      omega
  · intro i u hi
    rw [List.getElem?_append] at hi
    split at hi
    · obtain ⟨A', l', c', e, h⟩ := S.cells i u hi
      exact ⟨A', l', c', e, ((h.store kq _).grow ga).wrote hw ho isS_u64⟩
    · rw [List.getElem?_singleton] at hi
      split at hi
      · injection hi with hi
        have : i = j + 1 := by have := S.len; omega
        rw [this]
        exact ⟨A, l, c, hi.symm, (hnq.grow ga).wrote hw ho isS_u64⟩
      · cases hi
  · exact ((S.num.store_far kq S.pq _).grow ga).wrote hw ho S.farp
  · refine VarN.wrote (VarN.grow ⟨A, l, c, ?_, hnq⟩ ga) hw ho S.farq
    simp [go_sem, kq]
  · rw [hw.1.frozen_far ⟨q, 0, none⟩ (by rw [World.size_alloc, hs]; show q < _; omega) (fun e => S.farq e.symm)]
    refine (Below.frozen ga (p := ⟨q, 0, none⟩) (by rw [hs]; exact hq)).trans ?_
    simpa using S.unfz
  · rcases hw.2 with e | ⟨g, e, hg⟩
    · rw [e]; exact S.base
    · rw [World.size_alloc, hs] at hg
      exact .inr ⟨g, e, Nat.le_trans S.grow.size (by omega)⟩

set_option maxHeartbeats 2000000 in
theorem cuts_any (w : World) (vn : Value) (n b : Nat) (hn : IsN w vn n b) (hb : b ≤ 536870912) :
    Calls Tryd.prog 31 #[vn] w (Ret w fun v' w' => ∃ k, Cuts w' v' k (b + 1) ∧ n < cutAt k ∧ 19 * 2 ^ k ≤ 64 * b + 64) := by
  obtain ⟨i0, hi, hz0, hz1, hz2⟩ := info_parts infoN
  have hbn : Mx.bits n ≤ 64 * b := Nat.le_trans (Mx.bits_len n) (Nat.mul_le_mul_left _ hn.2)
  obtain ⟨A4, l4, c4, rfl⟩ := hn.cell
  have HN := Lib.hid hn
  clear hn
  go_enter Tryd.func31, Tryd.ntmps31
  go_wp2_with fail
  refine (num_at (x := 10000000000000000000) (by simp) (by rw [Mx.B_eq]; omega)).mono ?_
  rintro e w1 ⟨v1, rfl, h1, g1⟩
  have hm : maxLen = 9223372036854775807 := rfl
  obtain ⟨A5, l5, c5, rfl⟩ := h1.cell
  have hp0 : w.heap.size + 1 + 1 ≤ w1.heap.size := by have := g1.size; simpa using this
  have S0 : CutsS w n b w.heap.size w1.heap.size 0 (.slice (some ⟨w1.heap.size + 1, 0, none⟩) 1 1) [.slice A5 l5 c5] ((w1.alloc (Obj.cells #[.slice A5 l5 c5] 24)).alloc (Obj.cells #[.slice A5 l5 c5] 24)) := by
    have gw : Grow w w1 := (((Grow.refl w).alloc _).alloc _).trans g1
    have ga : Grow w1 ((w1.alloc (Obj.cells #[.slice A5 l5 c5] 24)).alloc (Obj.cells #[.slice A5 l5 c5] 24)) := ((Grow.refl _).alloc _).alloc _
    have hz : IsN w1 (.agg #[.slice A5 l5 c5]) (cutAt 0) (b + 1) := by rw [cutAt_zero]; exact h1.weak (by omega)
    refine ⟨gw.trans ga, .inr ⟨w1.heap.size + 1, 1, [], rfl, ?_, rfl, by rw [hm]; omega, ?_⟩, rfl, ?_, ?_, ?_, ?_, by omega, by omega, ?_, ?_, ?_, .inr ⟨_, rfl, by show w.heap.size ≤ w1.heap.size + 1; omega⟩⟩
    · have := heap_alloc_new (w1.alloc (Obj.cells #[.slice A5 l5 c5] 24)) (Obj.cells #[.slice A5 l5 c5] 24)
      rw [World.size_alloc] at this
      exact this
    · intro u hu
      simp at hu
      exact ⟨_, _, _, hu⟩
    · intro j u hj
      match j, hj with
      | 0, hj => simp at hj; exact ⟨A5, l5, c5, hj.symm, hz.grow ga⟩
    · refine ⟨A4, l4, c4, ?_, HN.out.grow (gw.trans ga)⟩
      refine ga.cells1 ((g1.cell (p := ⟨w.heap.size, 0, none⟩) (by show w.heap.size < _; simp; omega)).trans (by simp [go_sem]))
    · exact ⟨A5, l5, c5, (Grow.new2 (Grow.refl _)).1, hz.grow ga⟩
    · simp [go_sem]
    · simp [Value.ownBlock]; omega
    · simp [Value.ownBlock]
    · have h3 : Mx.bits (cutAt 0) = 63 + 1 := by rw [cutAt_zero]; exact Mx.bits_unique (by decide) (by decide)
      omega
  clear h1 g1 hp0 HN
  go_upto_block 0 with fail
  generalize (w1.alloc (Obj.cells #[.slice A5 l5 c5] 24)).alloc (Obj.cells #[.slice A5 l5 c5] 24) = W0 at *
  go_wp2_with fail
  go_loopg [4] (Mx.bits n) (fun k lv wr => ∃ j xs, Mx.bits n ≤ k + Mx.bits (cutAt j) ∧ CutsS w n b w.heap.size w1.heap.size j lv xs wr)
  case atStart => exact ⟨0, _, by omega, S0⟩
  case round =>
    obtain ⟨j, xs, hjk, S⟩ := hrel
    clear S0
    obtain ⟨Al, cl, e, hcl, _⟩ := S.own.len
    subst e
    have HS := Lib.hid S
    have hxl := S.len
    obtain ⟨A1, l1, c1, k1, n1⟩ := S.num
    obtain ⟨A2, l2, c2, k2, n2⟩ := S.last
    have HB1 := Lib.hid (fun W (g : Grow wr W) => (bits_n (n1.grow g) (by omega)).mono fun e w' ⟨v', e1, e2, g'⟩ => (⟨v', e1, e2, g.trans g'⟩ : ∃ v', e = Ending.returned v' ∧ v' = Value.int .i64 ((Mx.bits (n) : Nat) : Int) ∧ Grow wr w'))
    have HB2 := Lib.hid (fun W (g : Grow wr W) => (bits_n (n2.grow g) (by omega)).mono fun e w' ⟨v', e1, e2, g'⟩ => (⟨v', e1, e2, g.trans g'⟩ : ∃ v', e = Ending.returned v' ∧ v' = Value.int .i64 ((Mx.bits (cutAt j) : Nat) : Int) ∧ Grow wr w'))
    have N2 := Lib.hid n2
    have hbd := S.bd
    have hbig := cutAt_big j
    have HSQ := Lib.hid (bits_sq j)
    have HAB := Lib.hid (fun h => cut_above (n := n) (j := j) h)
    have HCT := Lib.hid (bits_cut j)
    have HP2 := Lib.hid (show 19 * 2 ^ (j + 1) = 2 * (19 * 2 ^ j) by rw [Nat.pow_succ]; omega)
    have HJK := Lib.hid hjk
    have HXL := Lib.hid hxl
    clear S n1 n2 hjk
    rw [hxl] at hcl ⊢
    clear hxl
    generalize hbc : Mx.bits (cutAt j) = bc at *
    generalize hbn' : Mx.bits n = bn at *
    have HBC := Lib.hid (And.intro hbc hbn')
    clear hbc hbn'
    have hs1 : (fun W : World => W.cell? ⟨w.heap.size, 0, none⟩ = some (.slice A1 l1 c1) ∧ W.cell? ⟨w1.heap.size, 0, none⟩ = some (.slice A2 l2 c2)) wr := ⟨k1, k2⟩
    have HKP := Lib.hid (fun W (g : Grow wr W) => (Grow.cells2 g ⟨k1, k2⟩ : W.cell? ⟨w.heap.size, 0, none⟩ = some (.slice A1 l1 c1) ∧ W.cell? ⟨w1.heap.size, 0, none⟩ = some (.slice A2 l2 c2)))
    clear k1 k2 hs1
    by_cases hle : 2 * bc - 1 ≤ bn
    · have hle' : (2 : Int) * (bc : Int) - 1 ≤ (bn : Int) := by omega
      have hw1 : IntKind.i64.wrap (2 * (bc : Int)) = 2 * (bc : Int) := IntWalk.i64_in _ (by omega)
      have hw2 : IntKind.i64.wrap (2 * (bc : Int) - 1) = 2 * (bc : Int) - 1 := IntWalk.i64_in _ (by omega)
      go_upto_region 3 with fail
      go_region_held3 (fun W => W.cell? ⟨w.heap.size, 0, none⟩ = some (.slice A1 l1 c1) ∧ W.cell? ⟨w1.heap.size, 0, none⟩ = some (.slice A2 l2 c2))
        (first | exact HKP.out _ (Grow.refl _) | exact HKP.out _ (Grow.drew (Grow.refl _)) | exact HKP.out _ g3 | exact HKP.out _ g4)
        (first
          | (go_at_call 22; with_reducible refine (HB2.out _ ?_).mono ?_; (first | exact Grow.refl _ | exact (Grow.refl _).drew); rintro e w3 ⟨v3, rfl, rfl, g3⟩)
          | (go_at_call 22; with_reducible refine (HB1.out _ g3).mono ?_; rintro e w4 ⟨v4, rfl, rfl, g4⟩))
      have S4 := HS.out.more g4
      obtain ⟨k1, k2⟩ := HKP.out _ g4
      have N4 := N2.out.grow g4
      have hsq := HSQ.out
      have hcn : bn = Mx.bits n := HBC.out.2.symm
      have HL2 : Hid (Mx.len (cutAt (j + 1)) ≤ b + 1) := Lib.hid (len_of_bits (by omega))
      have HBD : Hid (Mx.bits (cutAt (j + 1)) ≤ Mx.bits n + 64) := Lib.hid (by omega)
      have HM : Hid (bn - Mx.bits (cutAt (j + 1)) < gk) := Lib.hid (by have := HJK.out; omega)
      have hjb : j ≤ 100000000000 := by
        have h1 := HCT.out
        have h2 := @Nat.lt_two_pow_self j
        omega
      clear HB1 HB2 HKP hsq hcn HSQ HAB HCT HP2 HS N2 g3 g4 hw1 hw2
      have H4 := Lib.hid S4
      clear S4
      go_wp2_with fail
      refine (mul_n N4 N4 (by omega) (by omega)).mono ?_
      rintro e w5 ⟨v5, rfl, h5, g5⟩
      have S5 := H4.out.more g5
      have hlt5 : w1.heap.size < w5.heap.size := by
        obtain ⟨A, l, c, h, _⟩ := S5.last
        exact lt_of_cell h
      have h5' : IsN w5 v5 (cutAt (j + 1)) (b + 1) := ⟨by rw [cutAt_sq]; exact h5.1, HL2.out⟩
      obtain ⟨A6, l6, c6, rfl⟩ := h5'.cell
      have hnx := S5.next h5' HBD.out
      obtain ⟨A7, l7, c7, kq, _⟩ := S5.last
      have fq := S5.unfz
      have HNX := Lib.hid hnx
      have HX2 := HXL.out
      clear hnx S5 h5 h5' H4 k1 k2 N4 g5
      rw [HXL.out] at HNX
      go_upto_region 5 with fail
      have hnz : ∀ W : World, ∀ (i : Nat) u, [Value.slice A6 l6 c6][i]? = some u → (W.alloc (Obj.cells #[.slice A6 l6 c6] 24)).cell? ((⟨W.heap.size, 0, none⟩ : Addr).add i) = some u := fun W => cells_one W _ _
      have kq6 : (w5.setCell ⟨w1.heap.size, 0, none⟩ (.slice A6 l6 c6)).cell? ⟨w1.heap.size, 0, none⟩ = some (.slice A6 l6 c6) := by simp [go_sem, kq]
      generalize w5.setCell ⟨w1.heap.size, 0, none⟩ (.slice A6 l6 c6) = w6 at *
      have HNZ := Lib.hid (hnz w6)
      clear hnz
      go_wp2_with (at_builtin; refine wpList_own_append rfl _ _ 55 rfl 24 i0 (.agg #[.slice none 0 0]) 24 Tryd.underlying55 hi hz0 hz1 hz2 rfl (E := isS) ⟨_, _, _, rfl⟩ (by rintro _ ⟨A, l, c, rfl⟩; rfl) rfl HNX.out.1 ⟨w6.heap.size, 0, none⟩ 1 1 [.slice A6 l6 c6] rfl rfl (by omega) HNZ.out (by intro u hu; simp at hu; subst hu; exact ⟨_, _, _, rfl⟩) (by rw [HX2]; omega) (by rw [HX2, hm]; omega) ?_)
      intro v' w7 hown hwr
      have HF := Lib.hid (HNX.out.2 v' w7 hown hwr)
      clear hown hwr HNX HNZ kq kq6 fq
      go_wp2_with fail
      go_roundg (bn - Mx.bits (cutAt (j + 1)))
      case measure => exact HM.out
      case rel => exact ⟨j + 1, _, by omega, HF.out⟩
    · have hle' : ¬ (2 : Int) * (bc : Int) - 1 ≤ (bn : Int) := by omega
      have hw1 : IntKind.i64.wrap (2 * (bc : Int)) = 2 * (bc : Int) := IntWalk.i64_in _ (by omega)
      have hw2 : IntKind.i64.wrap (2 * (bc : Int) - 1) = 2 * (bc : Int) - 1 := IntWalk.i64_in _ (by omega)
      go_upto_region 3 with fail
      go_region_held3 (fun W => W.cell? ⟨w.heap.size, 0, none⟩ = some (.slice A1 l1 c1) ∧ W.cell? ⟨w1.heap.size, 0, none⟩ = some (.slice A2 l2 c2))
        (first | exact HKP.out _ (Grow.refl _) | exact HKP.out _ (Grow.drew (Grow.refl _)) | exact HKP.out _ g3 | exact HKP.out _ g4)
        (first
          | (go_at_call 22; with_reducible refine (HB2.out _ ?_).mono ?_; (first | exact Grow.refl _ | exact (Grow.refl _).drew); rintro e w3 ⟨v3, rfl, rfl, g3⟩)
          | (go_at_call 22; with_reducible refine (HB1.out _ g3).mono ?_; rintro e w4 ⟨v4, rfl, rfl, g4⟩))
      have HF := Lib.hid (HS.out.more g4)
      have HE : Hid (n < cutAt (j + 1) ∧ 19 * 2 ^ (j + 1) ≤ 64 * b + 64) := Lib.hid ⟨HAB.out (by omega), by rw [HP2.out]; have := HCT.out; omega⟩
      have HXX := HXL.out
      rw [HXX] at HF
      clear HB1 HB2 HKP HSQ HAB HCT HP2 HS N2 g3 g4 hw1 hw2
      go_wp2_with fail
      go_ret
      exact Ret.mk ⟨j + 1, HF.out.done, HE.out⟩ HF.out.grow
end Go.Proofs.YtckcjiojfpaikaaDoor
