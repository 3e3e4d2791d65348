/- The reference of layer 3: Text, Pow; the laws' same. -/
import Derived.Test.YtckcjiojfpaikaaDoorLaw3A
import Derived.Test.YtckcjiojfpaikaaDoorBRef
namespace Go.Proofs.YtckcjiojfpaikaaDoor
open Go.RowKit
set_option maxRecDepth 20000

set_option maxHeartbeats 1000000 in
theorem refText_any (w : World) (s : ByteArray) (b : Bool) (hs : s.size ≤ 4611686018427387904) (hb : b = true ↔ Tx.okText (bytesOf s)) :
    Calls Tryd.prog 16 #[.string s] w fun e w' => e = .returned (.bool b) ∧ w = w' := by
  have hsz : s.size = (bytesOf s).length := Lib.size_eq s
  by_cases h0 : s.size = 0
  · have hbf : b = false := by
      cases b with
      | false => rfl
      | true =>
        have h := hb.1 rfl
        have e : bytesOf s = [] := List.length_eq_zero_iff.1 (by omega)
        rw [e] at h
        rcases h.2 with h | h
        · cases h
        · exact absurd rfl h.1
    subst hbf
    have h0' : (s.size : Int) = 0 := by omega
    clear hb hsz h0
    go_enter Tryd.func16, Tryd.ntmps16
    go_wp2_with fail
    go_ret
    exact ⟨rfl, rfl⟩
  have hpos : 0 < s.size := by omega
  have hat0 := byte_at s 0 hpos
  have hhead : (bytesOf s).head? = some (s[0]'hpos) := by rw [List.head?_eq_getElem?]; exact hat0
  have h0' : ¬ (s.size : Int) = 0 := by omega
  have hk48 : (48 : UInt8).toNat = 48 := rfl
  by_cases h1 : 1 < s.size ∧ (s[0]'hpos) = 48
  · have hbf : b = false := by
      cases b with
      | false => rfl
      | true =>
        have h := hb.1 rfl
        rcases h.2 with h | h
        · rw [h, List.length_singleton] at hsz
          omega
        · rw [hhead, h1.2] at h
          exact absurd rfl h.2
    subst hbf
    have h1' : (1 : Int) < (s.size : Int) := by omega
    have h2' : ((s[0]'hpos).toNat : Int) = 48 := by rw [h1.2]; rfl
    clear hb hsz h0 hat0 hhead h1
    go_enter Tryd.func16, Tryd.ntmps16
    go_wp2_with fail
    go_ret
    exact ⟨rfl, rfl⟩
  have HB : Hid (b = true ↔ ∀ c ∈ bytesOf s, Tx.isDig c) := Lib.hid (hb.trans ⟨fun h => h.1, fun h => ⟨h, by
    by_cases h48 : (s[0]'hpos) = 48
    · refine .inl ?_
      have hl1 : (bytesOf s).length = 1 := by
        rcases Nat.lt_or_ge 1 s.size with h' | h'
        · exact absurd ⟨h', h48⟩ h1
        · omega
      rw [h48] at hhead
      obtain ⟨x, hx⟩ := List.length_eq_one_iff.1 hl1
      rw [hx] at hhead ⊢
      simpa using hhead
    · exact .inr ⟨fun e => by rw [e, List.length_nil] at hsz; omega, by rw [hhead]; simpa using h48⟩⟩⟩)
  have H1 : Hid (1 < s.size → ¬ ((s[0]'hpos).toNat : Int) = 48) := Lib.hid fun h e => h1 ⟨h, UInt8.toNat_inj.1 (by omega)⟩
  clear hb hat0 hhead h0 h1 hsz
  go_enter Tryd.func16, Tryd.ntmps16
  go_upto_region 1 with fail
  go_cut [16] (fun v W => v = .bool false ∧ w = W)
  case first =>
    by_cases h1 : 1 < s.size
    · have h1' : (1 : Int) < (s.size : Int) := by omega
      have h2' := H1.out h1
      go_wp2_with fail
      go_meet
      exact ⟨by rw [beq_eq_false_iff_ne.2 h2'], rfl⟩
    · have h1' : ¬ (1 : Int) < (s.size : Int) := by omega
      go_wp2_with fail
      go_meet
      exact ⟨rfl, rfl⟩
  case rest =>
    obtain ⟨rfl, rfl⟩ := hcut
    go_wp2_with fail
    go_loop [3] (fun iv => ∃ i : Nat, i ≤ s.size ∧ iv = .int .i64 i ∧ ∀ c ∈ (bytesOf s).take i, Tx.isDig c) (fun iv => s.size - (intOf iv).toNat)
    case atStart => exact ⟨0, Nat.zero_le _, rfl, by simp⟩
    case round =>
      obtain ⟨i, hi, rfl, hd⟩ := hrel
      have HD := Lib.hid hd
      clear hd
      by_cases hlt : i < s.size
      · have hat := byte_at s i hlt
        have HAT := Lib.hid hat
        clear hat
        by_cases h1 : (s[i]'hlt).toNat < 48
        · have h1' : ((s[i]'hlt).toNat : Int) < 48 := by omega
          have hb : b = false := by
            cases b with
            | false => rfl
            | true => exact absurd (HB.out.1 rfl _ (List.mem_of_getElem? HAT.out)).1 (by omega)
          clear HB
          subst hb
          go_wp2
          go_ret
          exact ⟨rfl, rfl⟩
        · have h1' : ¬ ((s[i]'hlt).toNat : Int) < 48 := by omega
          by_cases h2 : (s[i]'hlt).toNat > 57
          · have h2' : (57 : Int) < ((s[i]'hlt).toNat : Int) := by omega
            have hb : b = false := by
              cases b with
              | false => rfl
              | true => exact absurd (HB.out.1 rfl _ (List.mem_of_getElem? HAT.out)).2 (by omega)
            clear HB
            subst hb
            go_wp2
            go_ret
            exact ⟨rfl, rfl⟩
          · have h2' : ¬ (57 : Int) < ((s[i]'hlt).toNat : Int) := by omega
            have HX : Hid (Tx.isDig (s[i]'hlt)) := ⟨by omega, by omega⟩
            go_wp2
            refine ⟨⟨i + 1, by omega, rfl, fun c hc => ?_⟩, by simp [intOf]; omega⟩
            rw [take_succ_at HAT.out, List.mem_append] at hc
            rcases hc with hc | hc
            · exact HD.out c hc
            · rw [List.mem_singleton] at hc
              subst hc
              exact HX
      · have he : i = s.size := by omega
        have hb : b = true := HB.out.2 (by
          have := HD.out
          rw [he, Lib.size_eq, List.take_length] at this
          exact this)
        clear HB he HD
        subst hb
        go_wp2
        go_ret
        exact ⟨rfl, rfl⟩

theorem dlimbs_one : Dx.limbs 1 = [1] := by decide
theorem isD_one (w : World) : IsD (w.alloc (Obj.cells #[.int .i64 1] 3)) (.slice (some ⟨w.heap.size, 0, none⟩) 1 1) 1 1 := by
  have e : Dx.len 1 = 1 := by unfold Dx.len; rw [dlimbs_one]; rfl
  refine ⟨some ⟨w.heap.size, 0, none⟩, 1, by rw [e], by rw [e]; exact Nat.le_refl _, ?_, by rw [e]; exact Nat.le_refl _⟩
  rw [dlimbs_one]
  exact fun _ => ⟨w.heap.size, 0, rfl, by simp, fun j x hj => by
    match j, hj with
    | 0, hj => simp at hj; subst hj; simp [go_sem]⟩

set_option maxHeartbeats 1000000 in
/-- The bound grows by a step a factor. -/
theorem refPow_any (w : World) (va : Value) (n k t : Nat) (ha : IsD w va n k) (hk : k ≤ 1000) (ht : t ≤ 1000) :
    Calls Tryd.prog 24 #[va, .int .i64 (t : Int)] w (Ret w fun v' w' => IsD w' v' (n ^ t) ((k + 1) * t + 1)) := by
  have HA := Lib.hid (fun W (g : Grow w W) => ha.grow g)
  clear ha
  go_enter Tryd.func24, Tryd.ntmps24
  go_wp2_with fail
  go_loopw [5, 6] (fun pv iv wr => ∃ i : Nat, i ≤ t ∧ iv = .int .i64 (i : Int) ∧ IsD wr pv (n ^ i) ((k + 1) * i + 1) ∧ Grow w wr) (fun _ iv _ => t - (intOf iv).toNat)
  case atStart => exact ⟨0, Nat.zero_le _, rfl, isD_one w, (Grow.refl w).alloc _⟩
  case round =>
    obtain ⟨i, hi, rfl, hp, hg⟩ := hrel
    have hbd : (k + 1) * i ≤ 1001 * 1000 := Nat.mul_le_mul (by omega) (by omega)
    have HN : Hid (n ^ i * n = n ^ (i + 1) ∧ (k + 1) * i + 1 + k + 1 = (k + 1) * (i + 1) + 1) := Lib.hid ⟨(Nat.pow_succ _ _).symm, by rw [Nat.mul_succ]; omega⟩
    have HP := Lib.hid hp
    clear hp
    by_cases hlt : i < t
    · generalize (k + 1) * i = kb at *
      generalize n ^ i = x at *
      go_wp2_with fail
      refine (refMul_any _ _ _ _ _ _ _ (by omega) (by omega) HP.out (HA.out _ hg)).mono ?_
      rintro e w1 ⟨v1, rfl, h1, g1⟩
      rw [HN.out.1, HN.out.2] at h1
      have H1 := Lib.hid (And.intro h1 (hg.trans g1))
      clear h1 g1 HP HN
      go_wp2_with fail
      go_roundw
      case rel => exact ⟨i + 1, by omega, rfl, H1.out⟩
      case measure => simp [intOf]; omega
    · have he : i = t := by omega
      subst he
      clear HN hbd
      go_wp2_with fail
      go_ret
      exact Ret.mk HP.out hg

set_option maxHeartbeats 1000000 in
theorem same3_any (w : World) (v va : Value) (n k j : Nat) (hk : k ≤ 1048576) (hv : IsN w v n k) (ha : IsD w va n j) :
    Calls Tryd.prog 18 #[v, va] w (Ret w fun v' _ => v' = .bool true) := by
  have hlen := hv.2
  have HN := Lib.hid (fun W (g : Grow w W) => (hv.1.grow g : IsNat W v n))
  obtain ⟨⟨A, c, rfl, hc, hl⟩, _⟩ := hv
  clear hc hl
  go_enter Tryd.func18, Tryd.ntmps18
  go_wp2_with fail
  refine (limbs_any _ _ n (by omega) (HN.out _ ((Grow.refl w).alloc _))).mono ?_
  rintro e w1 ⟨v1, rfl, h1⟩
  have g1 := h1.choose_spec.2.2.2
  have s1 := h1.sl (Mx.limbs_lt _)
  clear h1
  go_wp2_with fail
  refine (refOf_any _ _ (Mx.limbs n) (by show Mx.len n ≤ _; omega) s1).mono ?_
  rw [Mx.val_limbs]
  rintro e w2 ⟨v2, rfl, h2, g2⟩
  have G : Grow w w2 := (((Grow.refl w).alloc _).trans g1).trans g2
  clear g1 g2 s1
  have hb := h2.ds
  have hlen2 : Dx.len n ≤ 8388608 := by
    obtain ⟨_, _, _, _, _, h3⟩ := h2
    have : (Mx.limbs n).length = Mx.len n := rfl
    omega
  go_wp2_with fail
  refine (equalInt_any _ _ _ _ _ (by show Dx.len n ≤ _; omega) hb (ha.grow G).ds).mono ?_
  rintro e w3 ⟨v3, rfl, rfl, g3⟩
  have GF := Lib.hid (G.trans g3)
  clear hb h2 g3 G
  simp only [BEq.rfl]
  go_wp2_with fail
  go_ret
  exact Ret.mk rfl GF.out
end Go.Proofs.YtckcjiojfpaikaaDoor
