/- The reference of layer 1: Read. -/
import Derived.Test.YtcogmabjnkjdfaaDoorBRf
namespace Go.Proofs.YtcogmabjnkjdfaaDoor
open Go.RowKit
set_option maxRecDepth 20000

theorem dval_snoc (xs : List Nat) (d : Nat) : Dx.val (xs ++ [d]) = Dx.val xs + Dx.B ^ xs.length * d := by
  rw [Dx.val_append]
  simp [Dx.val]
theorem digit_word {x c : Nat} (hc : 48 ≤ c ∧ c ≤ 57) : 10 * (x : Int) + (c : Int) - 48 = ((10 * x + (c - 48) : Nat) : Int) := by omega
theorem wrap_in {n : Int} (h : -9223372036854775808 ≤ n ∧ n ≤ 9223372036854775807) : wrap64 n = n := by
  unfold wrap64
  omega
theorem read_wrap {x c : Nat} (hx : x < 10000) (hc : c ≤ 57) : wrap64 (wrap64 (10 * (x : Int) + wrap64 (c : Int)) - 48) = 10 * (x : Int) + (c : Int) - 48 := by
  rw [wrap_in (n := (c : Int)) (by omega), wrap_in (n := 10 * (x : Int) + (c : Int)) (by omega), wrap_in (by omega)]
/-- From which place on the j-th group of four begins, counted from the end. -/
def from4 (n j : Nat) : Nat := n - 4 * j
theorem rd_small (l : List UInt8) (hd : ∀ b ∈ l, Tx.isDig b) (hl : l.length ≤ 4) : Tx.rd l < 10000 := by
  have h := Tx.rd_lt l hd
  have h2 : 10 ^ l.length ≤ 10 ^ 4 := Nat.pow_le_pow_right (by decide) hl
  omega

set_option maxHeartbeats 2000000 in
theorem refRead_any (w : World) (s : ByteArray) (hs : s.size ≤ 4096) (hd : ∀ b ∈ bytesOf s, Tx.isDig b) :
    Calls Tryd.prog 38 #[.string s] w (Ret w fun v' w' => IsD w' v' (Tx.rd (bytesOf s)) 2000) := by
  obtain ⟨i0, hi, hz0, hz1, hz2⟩ := info_parts info3
  have hlen : s.size = (bytesOf s).length := Lib.size_eq s
  have HD := Lib.hid hd
  have HLEN := Lib.hid hlen
  clear hd hlen
  go_enter Tryd.func38, Tryd.ntmps38
  go_wp2_with fail
  go_loopw [3, 4] (fun ov ev wr => ∃ (j : Nat) (xs : List Nat), 4 * j ≤ s.size + 3 ∧ ev = .int .i64 ((s.size : Int) - 4 * (j : Int)) ∧ xs.length = j ∧ (∀ x ∈ xs, x < Dx.B) ∧ Hid (Dx.val xs = Tx.rd ((bytesOf s).drop (s.size - 4 * j))) ∧ Grow w wr ∧ wr.ownsRow w.heap.size 3 1 ov j (valsD xs)) (fun _ ev _ => (intOf ev + 3).toNat)
  case atStart =>
    refine ⟨0, [], by omega, by simp, rfl, by simp, ?_, Grow.refl _, World.ownsRow_nil _ _ _ _⟩
    refine Lib.hid ?_
    rw [Nat.mul_zero, Nat.sub_zero, List.drop_of_length_le (by rw [HLEN.out]; exact Nat.le_refl _)]
    rfl
  case round =>
    obtain ⟨j, xs, hj, rfl, hxl, hxb, HV, hg, hown⟩ := hrel
    by_cases hend : 4 * j < s.size
    · obtain ⟨e, he⟩ : ∃ e, s.size = e + 4 * j := ⟨s.size - 4 * j, by omega⟩
      obtain ⟨st, hst⟩ : ∃ st, e - 4 = st := ⟨_, rfl⟩
      have hev : (s.size : Int) - 4 * (j : Int) = (e : Int) := by omega
      have hpos : (0 : Int) < (e : Int) := by omega
      have hposN : 0 < e := by omega
      have hse : st ≤ e := by omega
      have hse4 : e ≤ st + 4 := by omega
      have hes : e ≤ s.size := by omega
      have hmax : max 0 ((e : Int) - 4) = (st : Int) := by omega
      have HNX : Hid ((s.size : Int) - 4 * ((j + 1 : Nat) : Int) = (e : Int) - 4 ∧ s.size - 4 * (j + 1) = st ∧ s.size - 4 * j = e ∧ 4 * (j + 1) ≤ s.size + 3 ∧ j ≤ 2000 ∧ s.size - e = 4 * j) := Lib.hid (by omega)
      rw [hev]
      have HJ := Lib.hid hj
      clear he hst hev hend hj
      have HO := Lib.hid (And.intro hown hg)
      clear hown
      go_wp2_with fail
      go_loopw [5, 6] (fun dv iv wq => ∃ i : Nat, st ≤ i ∧ i ≤ e ∧ iv = .int .i64 (i : Int) ∧ dv = .int .i64 ((Tx.rd (((bytesOf s).drop st).take (i - st)) : Nat) : Int) ∧ wr = wq) (fun _ iv _ => e - (intOf iv).toNat)
      case atStart => exact ⟨st, Nat.le_refl _, hse, rfl, by rw [Nat.sub_self, List.take_zero]; rfl, rfl⟩
      case round =>
        obtain ⟨i, hsi, hie, rfl, rfl, rfl⟩ := hrel
        have hdig : ∀ b ∈ ((bytesOf s).drop st).take (i - st), Tx.isDig b := fun b hb => HD.out b (List.mem_of_mem_drop (List.mem_of_mem_take hb))
        have hsm := rd_small _ hdig (by rw [List.length_take]; omega)
        clear hdig
        by_cases hlt : i < e
        · have hlt' : (i : Int) < (e : Int) := by omega
          have his : i < s.size := by omega
          have his' : (i : Int) < (s.size : Int) := by omega
          have hat := byte_at s i his
          have hc := HD.out _ (List.mem_of_getElem? hat)
          have hnx : Tx.rd (((bytesOf s).drop st).take (i + 1 - st)) = 10 * Tx.rd (((bytesOf s).drop st).take (i - st)) + ((s[i]'his).toNat - 48) := by
            have e1 : i + 1 - st = i - st + 1 := by omega
            have e2 : ((bytesOf s).drop st)[i - st]? = some (s[i]'his) := by
              rw [List.getElem?_drop]
              have e3 : st + (i - st) = i := by omega
              rw [e3]
              exact hat
            rw [e1, take_succ_at e2, Tx.rd_snoc]
          have hw := digit_word (x := Tx.rd (((bytesOf s).drop st).take (i - st))) hc
          have HX := Lib.hid (And.intro hnx (And.intro hw hc.2))
          clear hnx hw hat hc
          generalize Tx.rd (((bytesOf s).drop st).take (i - st)) = x at *
          go_wp2_with fail
          refine ⟨⟨i + 1, by omega, by omega, by go_num, ?_, trivial⟩, by simp [intOf]; omega⟩
          rw [HX.out.1, ← HX.out.2.1]
          have hc2 := HX.out.2.2
          rw [read_wrap hsm hc2]
        · have hie2 : i = e := by omega
          subst hie2
          have hlt' : ¬ (i : Int) < (i : Int) := by omega
          have hnew : Dx.val (xs ++ [Tx.rd (((bytesOf s).drop st).take (i - st))]) = Tx.rd ((bytesOf s).drop st) := by
            rw [dval_snoc, HV.out, HNX.out.2.2.1, hxl]
            have e1 : (bytesOf s).drop st = ((bytesOf s).drop st).take (i - st) ++ (bytesOf s).drop i := by
              have e2 := (List.take_append_drop (i - st) ((bytesOf s).drop st)).symm
              rw [List.drop_drop] at e2
              have e3 : st + (i - st) = i := by omega
              rw [e3] at e2
              exact e2
            have e4 : Dx.B ^ j = 10 ^ (4 * j) := by rw [Nat.pow_mul]; rfl
            conv => rhs; rw [e1]
            rw [Tx.rd_append, List.length_drop, ← HLEN.out, HNX.out.2.2.2.2.2, e4, Nat.mul_comm, Nat.add_comm]
          have hxb' : ∀ x ∈ xs ++ [Tx.rd (((bytesOf s).drop st).take (i - st))], x < Dx.B := by
            intro x hx
            rcases List.mem_append.1 hx with hx | hx
            · exact hxb x hx
            · rw [List.mem_singleton] at hx
              rw [hx, Dx.B_eq]
              exact hsm
          have HNEW := Lib.hid (And.intro hnew hxb')
          clear hnew hxb' hxb HV
          generalize Tx.rd (((bytesOf s).drop st).take (i - st)) = x at *
          have hown := HO.out.1
          have hj2 := HNX.out.2.2.2.2.1
          have hbs : w.heap.size ≤ wr.heap.size := HO.out.2.size
          go_wp2_with (at_builtin; refine wpList_append_own _ rfl _ _ 49 rfl w.heap.size 3 i0 (.int .i64 0) 1 8 Tryd.underlying49 hi hz0 hz1 hz2 rfl (by decide) _ _ _ rfl (hown.alloc _) ⟨wr.heap.size, 0, none⟩ 1 1 [.int .i64 (x : Int)] rfl rfl (cells_one _ _ _) (by intro u hu; simp at hu; subst hu; rfl) (by simp only [maxLen]; omega) (by omega) (by simp; omega) ?_)
          intro v' w1 hown' hgrow _
          have R1 : Grow w w1 := Below.grown (HO.out.2.alloc _) hgrow (by simp; omega) (fun k e => own_ge hown e)
          rw [valsD_snoc] at hown'
          have HO2 := Lib.hid (And.intro R1 hown')
          clear hown' hgrow hown R1 HO
          go_wp2_with fail
          go_roundw
          case rel => exact ⟨j + 1, xs ++ [x], HNX.out.2.2.2.1, by rw [HNX.out.1], by simp [hxl], HNEW.out.2, by rw [HNX.out.2.1]; exact Lib.hid HNEW.out.1, HO2.out⟩
          case measure => simp [intOf]; omega
    · have hend' : ¬ (0 : Int) < (s.size : Int) - 4 * (j : Int) := by omega
      have hval : Dx.val xs = Tx.rd (bytesOf s) := by
        have := HV.out
        rwa [Nat.sub_eq_zero_of_le (by omega), List.drop_zero] at this
      have hds := ds_of_own hown hxb
      have HT := Lib.hid (refTrim_any wr _ _ (by rw [hxl]; omega) hds)
      rw [hval] at HT
      clear hds hown HV hval hxb
      generalize (s.size : Int) - 4 * (j : Int) = ev at *
      go_wp2_with fail
      refine HT.out.mono ?_
      rintro e w' ⟨v', rfl, hD, rfl⟩
      clear HT
      go_wp2_with fail
      go_ret
      exact Ret.mk (hD.more (by omega)) hg
end Go.Proofs.YtcogmabjnkjdfaaDoor
