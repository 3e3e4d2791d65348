/- The reference's Add, Sub, Small. -/
import Derived.Test.YtckcjiojfpaikaaDoorRefA
import Derived.OwnWalk
namespace Go.Proofs.YtckcjiojfpaikaaDoor
open Go.RowKit

/-- Numbers as values. -/
def valsD (l : List Nat) : List Value := l.map fun x => Value.int .i64 ((x : Nat) : Int)
theorem valsD_length (l : List Nat) : (valsD l).length = l.length := by simp [valsD]
theorem valsD_get (l : List Nat) (j : Nat) : (valsD l)[j]? = (l[j]?).map fun x => Value.int .i64 ((x : Nat) : Int) := by simp [valsD]
theorem valsD_snoc (l : List Nat) (x : Nat) : valsD l ++ [.int .i64 (x : Int)] = valsD (l ++ [x]) := by simp [valsD]
theorem info3 : (Tryd.prog.info? 3).map (fun i => (i.zero, i.size, i.bytes)) = some (some (.int .i64 0), 1, 8) := by kernel_rfl

/-- What the call owns reads as digits. -/
theorem ds_of_own {w : World} {base n : Nat} {v : Value} {l : List Nat} (h : w.ownsRow base 3 1 v n (valsD l)) (hb : ∀ x ∈ l, x < Dx.B) : DS w v l := by
  obtain ⟨h1, h2⟩ := h
  rw [valsD_length, Nat.mul_one] at h1
  subst h1
  rcases h2 with ⟨rfl, h0⟩ | ⟨g, cap, cur, rfl, _, hh, hc, _, hs, ht⟩
  · have : l = [] := List.eq_nil_of_length_eq_zero h0
    subst this
    exact ⟨none, 0, rfl, Nat.le_refl _, by simp, CellsD.nil _ _⟩
  · refine ⟨_, cap, rfl, hc, hb, fun _ => ⟨g, 0, rfl, lt_of_heap hh, fun j x hx => ?_⟩⟩
    rw [cell_of_row w g (0 + j) _ _ _ hh, Nat.zero_add]
    have hj : (valsD l)[j]? = some (.int .i64 (x : Int)) := by rw [valsD_get, hx]; rfl
    rw [← ht, Nat.mul_one, List.getElem?_take] at hj
    split at hj
    · rw [← hj]; simp
    · cases hj

theorem addTo_end {a b : List Nat} {i : Nat} (ha : ∀ x ∈ a, x < Dx.B) (hb : ∀ x ∈ b, x < Dx.B) (h1 : a.length < i) (h2 : b.length < i) : (Dx.addTo a b i).2 = 0 := by
  obtain ⟨j, rfl⟩ : ∃ j, i = j + 1 := ⟨i - 1, by omega⟩
  have e1 : a.getD j 0 = 0 := by rw [List.getD_eq_getElem?_getD, List.getElem?_eq_none (by omega)]; rfl
  have e2 : b.getD j 0 = 0 := by rw [List.getD_eq_getElem?_getD, List.getElem?_eq_none (by omega)]; rfl
  have hc := Dx.addTo_carry ha hb j
  show Dx.addHi (a.getD j 0) (b.getD j 0) (Dx.addTo a b j).2 = 0
  rw [e1, e2]
  unfold Dx.addHi
  rw [Dx.B_eq]
  omega

theorem cells_one (w : World) (v : Value) (t : TypeId) : ∀ (j : Nat) (u : Value), [v][j]? = some u → (w.alloc (Obj.cells #[v] t)).cell? ((⟨w.heap.size, 0, none⟩ : Addr).add j) = some u := by
  intro j u hj
  match j, hj with
  | 0, hj => simp at hj; subst hj; simp [Addr.add, go_sem]
theorem own_ge {w : World} {base e size n : Nat} {v : Value} {xs : List Value} (h : w.ownsRow base e size v n xs) {k : Nat} (hk : v.ownBlock = some k) : base ≤ k := by
  rcases h.2 with ⟨rfl, _⟩ | ⟨g, cap, cur, rfl, hg, _⟩
  · cases hk
  · simp [Value.ownBlock] at hk
    omega

set_option maxRecDepth 20000 in
set_option maxHeartbeats 2000000 in
theorem refAdd_any (w : World) (va vb : Value) (n m k j : Nat) (hk : k ≤ 4294967296) (hj : j ≤ 4294967296) (ha : IsD w va n k) (hb : IsD w vb m j) :
    Calls Tryd.prog 37 #[va, vb] w (Ret w fun v' w' => IsD w' v' (n + m) (max k j + 1)) := by
  obtain ⟨A, c, rfl, hc, hl, hkn⟩ := ha
  obtain ⟨D, d, rfl, hd, hr, hjm⟩ := hb
  obtain ⟨i0, hi, hz0, hz1, hz2⟩ := info_parts info3
  go_enter Tryd.func37, Tryd.ntmps37
  go_wp2
  go_loopw [5, 6, 7] (fun ov cv iv wr => ∃ i : Nat, i ≤ max (Dx.len n) (Dx.len m) + 1 ∧ iv = .int .i64 i ∧ cv = .int .i64 ((Dx.addTo (Dx.limbs n) (Dx.limbs m) i).2 : Nat) ∧ Grow w wr ∧ wr.ownsRow w.heap.size 3 1 ov i (valsD (Dx.addTo (Dx.limbs n) (Dx.limbs m) i).1)) (fun _ _ iv _ => max (Dx.len n) (Dx.len m) + 1 - (intOf iv).toNat)
  case atStart => exact ⟨0, Nat.zero_le _, rfl, rfl, Grow.refl _, World.ownsRow_nil _ _ _ _⟩
  case round =>
    obtain ⟨i, hib, rfl, rfl, hg, hown⟩ := hrel
    have hlenS := Dx.addTo_length (Dx.limbs n) (Dx.limbs m) i
    have hcar := Dx.addTo_carry (Dx.limbs_lt n) (Dx.limbs_lt m) i
    by_cases hend : Dx.len n ≤ i ∧ Dx.len m ≤ i ∧ (Dx.addTo (Dx.limbs n) (Dx.limbs m) i).2 = 0
    · obtain ⟨he1, he2, he3⟩ := hend
      have hval := Dx.addTo_val (Dx.limbs n) (Dx.limbs m) i
      rw [he3, Nat.mul_zero, Nat.add_zero, List.take_of_length_le he1, List.take_of_length_le he2, Dx.val_limbs, Dx.val_limbs] at hval
      have hds := ds_of_own hown (Dx.addTo_lt (Dx.limbs n) (Dx.limbs m) i)
      have HT := Lib.hid (refTrim_any wr _ _ (by rw [hlenS]; omega) hds)
      rw [hval, hlenS] at HT
      rw [he3]
      generalize (Dx.addTo (Dx.limbs n) (Dx.limbs m) i).1 = ss at *
      clear hval hds hown hlenS he3 hcar
      go_wp2_with fail
      refine HT.out.mono ?_
      rintro e w' ⟨v', rfl, hD, rfl⟩
      clear HT
      go_wp2_with fail
      go_ret
      exact Ret.mk (hD.more (by omega)) hg
    · have hiM : i ≤ max (Dx.len n) (Dx.len m) := by
        rcases Nat.lt_or_ge (max (Dx.len n) (Dx.len m)) i with h | h
        · exact absurd ⟨by omega, by omega, addTo_end (Dx.limbs_lt n) (Dx.limbs_lt m) (by show Dx.len n < i; omega) (by show Dx.len m < i; omega)⟩ hend
        · exact h
      have hstep : Dx.addTo (Dx.limbs n) (Dx.limbs m) (i + 1) = ((Dx.addTo (Dx.limbs n) (Dx.limbs m) i).1 ++ [Dx.addLo ((Dx.limbs n).getD i 0) ((Dx.limbs m).getD i 0) (Dx.addTo (Dx.limbs n) (Dx.limbs m) i).2], Dx.addHi ((Dx.limbs n).getD i 0) ((Dx.limbs m).getD i 0) (Dx.addTo (Dx.limbs n) (Dx.limbs m) i).2) := rfl
      have hx := Dx.getD_lt _ (Dx.limbs_lt n) i
      have hy := Dx.getD_lt _ (Dx.limbs_lt m) i
      have HA1 := Lib.hid (refAt_any wr A (Dx.limbs n) c i (hl.grow hg))
      have HA2 := Lib.hid (refAt_any wr D (Dx.limbs m) d i (hr.grow hg))
      generalize (Dx.limbs n).getD i 0 = x at hstep hx HA1
      generalize (Dx.limbs m).getD i 0 = y at hstep hy HA2
      generalize (Dx.addTo (Dx.limbs n) (Dx.limbs m) i).2 = cr at *
      generalize (Dx.addTo (Dx.limbs n) (Dx.limbs m) i).1 = ss at *
      rw [Dx.B_eq] at hx hy
      have hmod : ((x : Int) + (y : Int) + (cr : Int)) % 10000 = ((Dx.addLo x y cr : Nat) : Int) := by unfold Dx.addLo; rw [Dx.B_eq]; omega
      have hdiv : ((x : Int) + (y : Int) + (cr : Int)) / 10000 = ((Dx.addHi x y cr : Nat) : Int) := by unfold Dx.addHi; rw [Dx.B_eq]; omega
      generalize Dx.addLo x y cr = lo at *
      generalize Dx.addHi x y cr = hi' at *
      have HS := Lib.hid hstep
      have HLS := Lib.hid hlenS
      have hvl : (valsD ss).length = i := by rw [valsD_length]; exact hlenS
      have HVL := Lib.hid hvl
      clear hstep hlenS hvl
      generalize hvs : valsD ss = vs at *
      have HVS := Lib.hid hvs
      clear hvs
      have hcp : Dx.len n ≤ i → Dx.len m ≤ i → 0 < cr := fun h1 h2 => by
        rcases Nat.eq_zero_or_pos cr with h | h
        · exact absurd ⟨h1, h2, h⟩ hend
        · exact h
      clear hend
      rcases Nat.lt_or_ge i (Dx.len n) with hc1 | hc1
      · clear hcp
        go_wp2_with fail
        refine HA1.out.mono ?_
        rintro e w' ⟨rfl, rfl⟩
        go_wp2_with fail
        refine HA2.out.mono ?_
        rintro e w' ⟨rfl, rfl⟩
        go_wp2_with (at_builtin; refine wpList_append_own _ rfl _ _ 32 rfl w.heap.size 3 i0 (.int .i64 0) 1 8 Tryd.underlying32 hi hz0 hz1 hz2 rfl (by decide) _ _ _ rfl (hown.alloc _) ⟨wr.heap.size, 0, none⟩ 1 1 [.int .i64 (lo : Int)] rfl rfl (cells_one _ _ _) (by intro u hu; simp at hu; subst hu; rfl) (by unfold maxLen; omega) (by omega) (by have := hg.size; simp; omega) ?_)
        intro v' w1 hown' hgrow _
        have R1 : Grow w w1 := Below.grown (hg.alloc _) hgrow (by have := hg.size; simp; omega) (fun k e => own_ge hown e)
        rw [← HVS.out, valsD_snoc] at hown'
        have HO := Lib.hid hown'
        clear hown' hgrow hown
        go_wp2
        go_roundw
        case rel => exact ⟨i + 1, by omega, by go_num, by rw [HS.out, hdiv], R1, by rw [HS.out]; exact HO.out⟩
        case measure => simp [intOf]; omega
      rcases Nat.lt_or_ge i (Dx.len m) with hc2 | hc2
      · clear hcp
        go_wp2_with fail
        refine HA1.out.mono ?_
        rintro e w' ⟨rfl, rfl⟩
        go_wp2_with fail
        refine HA2.out.mono ?_
        rintro e w' ⟨rfl, rfl⟩
        go_wp2_with (at_builtin; refine wpList_append_own _ rfl _ _ 32 rfl w.heap.size 3 i0 (.int .i64 0) 1 8 Tryd.underlying32 hi hz0 hz1 hz2 rfl (by decide) _ _ _ rfl (hown.alloc _) ⟨wr.heap.size, 0, none⟩ 1 1 [.int .i64 (lo : Int)] rfl rfl (cells_one _ _ _) (by intro u hu; simp at hu; subst hu; rfl) (by unfold maxLen; omega) (by omega) (by have := hg.size; simp; omega) ?_)
        intro v' w1 hown' hgrow _
        have R1 : Grow w w1 := Below.grown (hg.alloc _) hgrow (by have := hg.size; simp; omega) (fun k e => own_ge hown e)
        rw [← HVS.out, valsD_snoc] at hown'
        have HO := Lib.hid hown'
        clear hown' hgrow hown
        go_wp2
        go_roundw
        case rel => exact ⟨i + 1, by omega, by go_num, by rw [HS.out, hdiv], R1, by rw [HS.out]; exact HO.out⟩
        case measure => simp [intOf]; omega
      · have hc3 := hcp hc1 hc2
        clear hcp
        go_wp2_with fail
        refine HA1.out.mono ?_
        rintro e w' ⟨rfl, rfl⟩
        go_wp2_with fail
        refine HA2.out.mono ?_
        rintro e w' ⟨rfl, rfl⟩
        go_wp2_with (at_builtin; refine wpList_append_own _ rfl _ _ 32 rfl w.heap.size 3 i0 (.int .i64 0) 1 8 Tryd.underlying32 hi hz0 hz1 hz2 rfl (by decide) _ _ _ rfl (hown.alloc _) ⟨wr.heap.size, 0, none⟩ 1 1 [.int .i64 (lo : Int)] rfl rfl (cells_one _ _ _) (by intro u hu; simp at hu; subst hu; rfl) (by unfold maxLen; omega) (by omega) (by have := hg.size; simp; omega) ?_)
        intro v' w1 hown' hgrow _
        have R1 : Grow w w1 := Below.grown (hg.alloc _) hgrow (by have := hg.size; simp; omega) (fun k e => own_ge hown e)
        rw [← HVS.out, valsD_snoc] at hown'
        have HO := Lib.hid hown'
        clear hown' hgrow hown
        go_wp2
        go_roundw
        case rel => exact ⟨i + 1, by omega, by go_num, by rw [HS.out, hdiv], R1, by rw [HS.out]; exact HO.out⟩
        case measure => simp [intOf]; omega
end Go.Proofs.YtckcjiojfpaikaaDoor
