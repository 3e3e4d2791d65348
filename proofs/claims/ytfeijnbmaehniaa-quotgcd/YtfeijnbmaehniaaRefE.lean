/- The reference's Of: limbs in digits. -/
import Derived.Test.YtfeijnbmaehniaaRefD
import Derived.Laws.Bits64b
namespace Go.Proofs.Ytfeijnbmaehniaa
open Go.RowKit

theorem IsD.tight {w : World} {v : Value} {n k k' : Nat} (h : IsD w v n k) (hk : Dx.len n ≤ k') : IsD w v n k' := by
  obtain ⟨A, c, e, hc, hl, _⟩ := h
  exact ⟨A, c, e, hc, hl, hk⟩

theorem dlen_bound {n L : Nat} (h : n < Mx.B ^ L) : Dx.len n ≤ 8 * L := by
  apply Dx.len_le_of_lt
  refine Nat.lt_of_lt_of_le h ?_
  rw [Nat.pow_mul]
  exact Nat.pow_le_pow_left (by rw [Mx.B_eq, Dx.B_eq]; decide) L
/-- What has been read of a limb x, with q parts of 16 bits to go, behind the limbs V. -/
def partVal (V x q : Nat) : Nat := V * 65536 ^ (4 - q) + x / 65536 ^ q
theorem part_start (V x : Nat) (hx : x < Mx.B) : partVal V x 4 = V := by
  unfold partVal
  rw [Mx.B_eq] at hx
  rw [Nat.div_eq_of_lt hx, Nat.sub_self, Nat.pow_zero, Nat.mul_one, Nat.add_zero]
theorem part_end (V x : Nat) : partVal V x 0 = x + Mx.B * V := by
  unfold partVal
  rw [Nat.pow_zero, Nat.div_one, Mx.B_eq, Nat.mul_comm, Nat.add_comm]
theorem part_bound {l : List Nat} {t x V : Nat} (q : Nat) (hb : ∀ y ∈ l, y < Mx.B) (hv : Mx.val (l.drop t) = x + Mx.B * V) : Dx.len (partVal V x q) ≤ 8 * l.length := by
  apply dlen_bound
  unfold partVal
  have h1 := Mx.val_lt (l.drop t) (fun y hy => hb y (List.mem_of_mem_drop hy))
  have h2 : Mx.B ^ (l.drop t).length ≤ Mx.B ^ l.length := Nat.pow_le_pow_right Mx.B_pos (by rw [List.length_drop]; omega)
  have h3 : V * 65536 ^ (4 - q) ≤ V * Mx.B := Nat.mul_le_mul_left V (Nat.le_trans (Nat.pow_le_pow_right (by omega) (by omega : 4 - q ≤ 4)) (by rw [Mx.B_eq]; decide))
  have h4 : x / 65536 ^ q ≤ x := Nat.div_le_self _ _
  rw [Nat.mul_comm V Mx.B] at h3
  omega
theorem part_step (V x q : Nat) (hq : q + 1 ≤ 4) : partVal V x (q + 1) * 65536 + x / 65536 ^ q % 65536 = partVal V x q := by
  unfold partVal
  have e1 : 65536 ^ (4 - q) = 65536 ^ (4 - (q + 1)) * 65536 := by rw [← Nat.pow_succ]; congr 1; omega
  have e2 : x / 65536 ^ (q + 1) = x / 65536 ^ q / 65536 := by rw [Nat.pow_succ, Nat.div_div_eq_div_mul]
  rw [e1, e2, Nat.add_mul, Nat.mul_assoc]
  have := Nat.div_add_mod (x / 65536 ^ q) 65536
  omega
theorem part_0 (V x : Nat) : partVal V x 1 * 65536 + x % 65536 = partVal V x 0 := by
  have := part_step V x 0 (by omega)
  rwa [Nat.pow_zero, Nat.div_one] at this
theorem part_1 (V x : Nat) : partVal V x 2 * 65536 + x / 65536 % 65536 = partVal V x 1 := by
  have := part_step V x 1 (by omega)
  rwa [Nat.pow_one] at this
theorem part_2 (V x : Nat) : partVal V x 3 * 65536 + x / 4294967296 % 65536 = partVal V x 2 := part_step V x 2 (by omega)
theorem part_3 (V x : Nat) : partVal V x 4 * 65536 + x / 281474976710656 % 65536 = partVal V x 3 := part_step V x 3 (by omega)
theorem and_mask (a : Nat) (ha : a < 18446744073709551616) : wrap64 (bits .and .u64 (a : Int) 65535) = ((a % 65536 : Nat) : Int) := by
  have h := bits_and_u64_nat a 65535 ha (by omega)
  have e : a &&& 65535 = a % 65536 := Nat.and_two_pow_sub_one_eq_mod a 16
  rw [e] at h
  rw [show ((65535 : Nat) : Int) = 65535 from rfl] at h
  rw [h]
  unfold wrap64
  omega

set_option maxHeartbeats 4000000 in
theorem refOf_any (w : World) (v : Value) (l : List Nat) (hlen : l.length ≤ 1048576) (h : Sl w v l) :
    Calls Try.prog 11 #[v] w (Ret w fun v' w' => IsD w' v' (Mx.val l) (8 * l.length)) := by
  obtain ⟨A, c, rfl, hc, hb, hl⟩ := h
  have HB := Lib.hid hb
  clear hb
  go_enter Try.func11, Try.ntmps11
  go_wp2_with fail
  refine (refSmall_any _ 65536 (by omega)).mono ?_
  rintro e w1 ⟨v1, rfl, hbase, g1⟩
  go_wp2_with fail
  go_loopw [3, 5] (fun ov iv wr => ∃ t : Nat, t ≤ l.length ∧ iv = .int .i64 ((t : Int) - 1) ∧ IsD wr ov (Mx.val (l.drop t)) (8 * l.length) ∧ Grow w1 wr) (fun _ iv _ => (intOf iv + 1).toNat)
  case atStart => exact ⟨l.length, Nat.le_refl _, rfl, by rw [List.drop_of_length_le (Nat.le_refl _)]; exact (IsD.zero _).more (Nat.zero_le _), Grow.refl _⟩
  case round =>
    obtain ⟨t, ht, rfl, hov, hg⟩ := hrel
    rcases Nat.eq_zero_or_pos t with h0 | h0
    · subst h0
      have HO := Lib.hid hov
      clear hov
      go_wp2
      go_ret
      exact Ret.mk (by simpa using HO.out) (g1.trans hg)
    · obtain ⟨t, rfl⟩ : ∃ t', t = t' + 1 := ⟨t - 1, by omega⟩
      rw [show (((t + 1 : Nat) : Int) - 1) = (t : Int) by omega]
      have hx := Mx.getD_lt l HB.out t
      have hti : (t : Int) < (l.length : Int) := by omega
      have HV := Lib.hid (show Mx.val (l.drop t) = l.getD t 0 + Mx.B * Mx.val (l.drop (t + 1)) by
        rw [List.drop_eq_getElem_cons (show t < l.length by omega)]
        rw [List.getD_eq_getElem?_getD, List.getElem?_eq_getElem (show t < l.length by omega)]
        rfl)
      obtain ⟨b1, o1, rfl, hb1, hd1⟩ := hl.at (by intro e; subst e; simp at ht)
      have hcx0 := hd1 t (by omega)
      clear hd1
      generalize l.getD t 0 = x at *
      go_wp2
      go_loopw [3, 6] (fun ov pv wr => ∃ q : Nat, q ≤ 4 ∧ pv = .int .i64 ((q : Int) - 1) ∧ IsD wr ov (partVal (Mx.val (l.drop (t + 1))) x q) (8 * l.length) ∧ Grow w1 wr) (fun _ pv _ => (intOf pv + 1).toNat)
      case atStart => exact ⟨4, Nat.le_refl _, rfl, by rw [part_start _ _ hx]; exact hov, hg⟩
      case round =>
        obtain ⟨q, hq, rfl, hov2, hg2⟩ := hrel
        have hcx := (g1.trans hg2).cells1 hcx0
        rcases Nat.eq_zero_or_pos q with h0 | h0
        · subst h0
          have he : partVal (Mx.val (l.drop (t + 1))) x 0 = Mx.val (l.drop t) := by rw [HV.out, part_end]
          rw [he] at hov2
          have HO := Lib.hid hov2
          clear hov2 he
          rw [show ((0 : Nat) : Int) - 1 = -1 from rfl]
          go_wp2
          go_roundw
          case rel => exact ⟨t, by omega, rfl, HO.out, hg2⟩
          case measure => simp [intOf]
        · have hqq : q = 1 ∨ q = 2 ∨ q = 3 ∨ q = 4 := by omega
          have hx2 : x < 18446744073709551616 := by rw [Mx.B_eq] at hx; exact hx
          rcases hqq with rfl | rfl | rfl | rfl
          · have hand : wrap64 (bits .and .u64 (x : Int) 65535) = (((x) % 65536 : Nat) : Int) := and_mask (x) (by omega)
            have hst := part_0 (Mx.val (l.drop (t + 1))) x
            have hbd := part_bound 0 HB.out HV.out
            have hdl : (x) % 65536 ≤ 65535 := by omega
            generalize (x) % 65536 = dd at hand hst hdl
            generalize partVal (Mx.val (l.drop (t + 1))) x 1 = old at hst hov2
            generalize hnew : partVal (Mx.val (l.drop (t + 1))) x 0 = new at hst hbd
            have HN := Lib.hid hnew
            have HST := Lib.hid hst
            clear hst hnew
            rw [show ((1 : Nat) : Int) - 1 = 0 from rfl]
            go_wp2_with fail
            refine (refSmall_any _ dd (by omega)).mono ?_
            rintro e w2 ⟨v2, rfl, h2, k2⟩
            have hov3 := hov2.grow k2
            have hbase3 := hbase.grow (hg2.trans k2)
            go_wp2_with fail
            refine (refMul_any _ _ _ _ _ _ _ (by omega) (by omega) hov3 hbase3).mono ?_
            rintro e w3 ⟨v3, rfl, h3, k3⟩
            have h2' := h2.grow k3
            go_wp2_with fail
            refine (refAdd_any _ _ _ _ _ _ _ (by omega) (by omega) h3 h2').mono ?_
            rintro e w4 ⟨v4, rfl, h4, k4⟩
            rw [HST.out] at h4
            have h5 := h4.tight hbd
            have hg5 := ((hg2.trans k2).trans k3).trans k4
            clear h2 h2' h3 h4 k2 k3 k4 hov3 hbase3 hov2
            go_wp2
            go_roundw
            case rel => exact ⟨0, by omega, rfl, by rw [HN.out]; exact h5, hg5⟩
            case measure => simp [intOf]
          · have hand : wrap64 (bits .and .u64 ((x : Int) / 65536) 65535) = (((x / 65536) % 65536 : Nat) : Int) := and_mask (x / 65536) (by omega)
            have hst := part_1 (Mx.val (l.drop (t + 1))) x
            have hbd := part_bound 1 HB.out HV.out
            have hdl : (x / 65536) % 65536 ≤ 65535 := by omega
            generalize (x / 65536) % 65536 = dd at hand hst hdl
            generalize partVal (Mx.val (l.drop (t + 1))) x 2 = old at hst hov2
            generalize hnew : partVal (Mx.val (l.drop (t + 1))) x 1 = new at hst hbd
            have HN := Lib.hid hnew
            have HST := Lib.hid hst
            clear hst hnew
            rw [show ((2 : Nat) : Int) - 1 = 1 from rfl]
            go_wp2_with fail
            refine (refSmall_any _ dd (by omega)).mono ?_
            rintro e w2 ⟨v2, rfl, h2, k2⟩
            have hov3 := hov2.grow k2
            have hbase3 := hbase.grow (hg2.trans k2)
            go_wp2_with fail
            refine (refMul_any _ _ _ _ _ _ _ (by omega) (by omega) hov3 hbase3).mono ?_
            rintro e w3 ⟨v3, rfl, h3, k3⟩
            have h2' := h2.grow k3
            go_wp2_with fail
            refine (refAdd_any _ _ _ _ _ _ _ (by omega) (by omega) h3 h2').mono ?_
            rintro e w4 ⟨v4, rfl, h4, k4⟩
            rw [HST.out] at h4
            have h5 := h4.tight hbd
            have hg5 := ((hg2.trans k2).trans k3).trans k4
            clear h2 h2' h3 h4 k2 k3 k4 hov3 hbase3 hov2
            go_wp2
            go_roundw
            case rel => exact ⟨1, by omega, rfl, by rw [HN.out]; exact h5, hg5⟩
            case measure => simp [intOf]
          · have hand : wrap64 (bits .and .u64 ((x : Int) / 4294967296) 65535) = (((x / 4294967296) % 65536 : Nat) : Int) := and_mask (x / 4294967296) (by omega)
            have hst := part_2 (Mx.val (l.drop (t + 1))) x
            have hbd := part_bound 2 HB.out HV.out
            have hdl : (x / 4294967296) % 65536 ≤ 65535 := by omega
            generalize (x / 4294967296) % 65536 = dd at hand hst hdl
            generalize partVal (Mx.val (l.drop (t + 1))) x 3 = old at hst hov2
            generalize hnew : partVal (Mx.val (l.drop (t + 1))) x 2 = new at hst hbd
            have HN := Lib.hid hnew
            have HST := Lib.hid hst
            clear hst hnew
            rw [show ((3 : Nat) : Int) - 1 = 2 from rfl]
            go_wp2_with fail
            refine (refSmall_any _ dd (by omega)).mono ?_
            rintro e w2 ⟨v2, rfl, h2, k2⟩
            have hov3 := hov2.grow k2
            have hbase3 := hbase.grow (hg2.trans k2)
            go_wp2_with fail
            refine (refMul_any _ _ _ _ _ _ _ (by omega) (by omega) hov3 hbase3).mono ?_
            rintro e w3 ⟨v3, rfl, h3, k3⟩
            have h2' := h2.grow k3
            go_wp2_with fail
            refine (refAdd_any _ _ _ _ _ _ _ (by omega) (by omega) h3 h2').mono ?_
            rintro e w4 ⟨v4, rfl, h4, k4⟩
            rw [HST.out] at h4
            have h5 := h4.tight hbd
            have hg5 := ((hg2.trans k2).trans k3).trans k4
            clear h2 h2' h3 h4 k2 k3 k4 hov3 hbase3 hov2
            go_wp2
            go_roundw
            case rel => exact ⟨2, by omega, rfl, by rw [HN.out]; exact h5, hg5⟩
            case measure => simp [intOf]
          · have hand : wrap64 (bits .and .u64 ((x : Int) / 281474976710656) 65535) = (((x / 281474976710656) % 65536 : Nat) : Int) := and_mask (x / 281474976710656) (by omega)
            have hst := part_3 (Mx.val (l.drop (t + 1))) x
            have hbd := part_bound 3 HB.out HV.out
            have hdl : (x / 281474976710656) % 65536 ≤ 65535 := by omega
            generalize (x / 281474976710656) % 65536 = dd at hand hst hdl
            generalize partVal (Mx.val (l.drop (t + 1))) x 4 = old at hst hov2
            generalize hnew : partVal (Mx.val (l.drop (t + 1))) x 3 = new at hst hbd
            have HN := Lib.hid hnew
            have HST := Lib.hid hst
            clear hst hnew
            rw [show ((4 : Nat) : Int) - 1 = 3 from rfl]
            go_wp2_with fail
            refine (refSmall_any _ dd (by omega)).mono ?_
            rintro e w2 ⟨v2, rfl, h2, k2⟩
            have hov3 := hov2.grow k2
            have hbase3 := hbase.grow (hg2.trans k2)
            go_wp2_with fail
            refine (refMul_any _ _ _ _ _ _ _ (by omega) (by omega) hov3 hbase3).mono ?_
            rintro e w3 ⟨v3, rfl, h3, k3⟩
            have h2' := h2.grow k3
            go_wp2_with fail
            refine (refAdd_any _ _ _ _ _ _ _ (by omega) (by omega) h3 h2').mono ?_
            rintro e w4 ⟨v4, rfl, h4, k4⟩
            rw [HST.out] at h4
            have h5 := h4.tight hbd
            have hg5 := ((hg2.trans k2).trans k3).trans k4
            clear h2 h2' h3 h4 k2 k3 k4 hov3 hbase3 hov2
            go_wp2
            go_roundw
            case rel => exact ⟨3, by omega, rfl, by rw [HN.out]; exact h5, hg5⟩
            case measure => simp [intOf]
end Go.Proofs.Ytfeijnbmaehniaa
