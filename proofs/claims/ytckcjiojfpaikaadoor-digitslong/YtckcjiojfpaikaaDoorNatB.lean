/- Contracts of package nat: Limbs, Zero, limbAt, Cmp; of the library: cmp.Compare at int and uint64. -/
import Derived.Test.YtckcjiojfpaikaaDoorNatA
import Derived.Deep.QuietTactic
import Derived.BigQuiet
namespace Go.Proofs.YtckcjiojfpaikaaDoor
open Go.RowKit

theorem FreshSl.of_alloc {w w' : World} {v : Value} {l : List Nat} {o : Obj} (h : FreshSl (w.alloc o) w' v l) : FreshSl w w' v l := by
  obtain ⟨b, e, hb, hh, hg⟩ := h
  exact ⟨b, e, by simp at hb; omega, hh, ((Grow.refl w).alloc o).trans hg⟩

set_option maxHeartbeats 400000 in
theorem limbs_any (w : World) (v : Value) (n : Nat) (hm : Mx.len n ≤ 17592186044416) (h : IsNat w v n) :
    Calls Tryd.prog 41 #[v] w fun e w' => ∃ v', e = .returned v' ∧ FreshSl w w' v' (Mx.limbs n) := by
  obtain ⟨A, c, rfl, hc, hl⟩ := h
  have HF := Lib.hid (fun W (hW : Cells W A (Mx.limbs n)) => fresh_any W A (Mx.limbs n) c hm hW)
  go_enter Tryd.func41, Tryd.ntmps41
  go_wp2_with fail
  refine (HF.out _ (hl.grow ((Grow.refl w).alloc _))).mono ?_
  rintro e w1 ⟨v1, rfl, hf⟩
  go_wp2_with fail
  go_ret
  exact ⟨v1, rfl, hf.of_alloc⟩

set_option maxHeartbeats 400000 in
theorem zero_any (w : World) (v : Value) (n : Nat) (h : IsNat w v n) :
    Calls Tryd.prog 17 #[v] w (Ret w fun v' _ => v' = .bool (n == 0)) := by
  obtain ⟨A, c, rfl, hc, hl⟩ := h
  have e : (n == 0) = (((Mx.len n : Nat) : Int) == 0) := by
    rw [Bool.eq_iff_iff]
    simp only [beq_iff_eq]
    constructor
    · rintro rfl; rfl
    · intro h; exact Mx.eq_zero_of_len (by omega)
  rw [e]
  clear e
  go_enter Tryd.func17, Tryd.ntmps17
  go_wp2
  go_ret
  exact Ret.mk rfl ((Grow.refl w).alloc _)

set_option maxHeartbeats 400000 in
theorem limbAt_any (w : World) (A : Option Addr) (l : List Nat) (c i : Nat) (hl : Cells w A l) :
    Calls Tryd.prog 59 #[.slice A l.length c, .int .i64 (i : Int)] w fun e w' => e = .returned (.int .u64 ((l.getD i 0 : Nat) : Int)) ∧ w = w' := by
  by_cases h : i < l.length
  · have hn : l ≠ [] := by intro e; subst e; simp at h
    obtain ⟨b, o, rfl, hbl, hc⟩ := hl.at hn
    have hci := hc i h
    clear hc
    generalize l.getD i 0 = x at *
    go_enter Tryd.func59, Tryd.ntmps59
    go_wp2
    go_ret
    exact ⟨rfl, rfl⟩
  · have e : l.getD i 0 = 0 := by rw [List.getD_eq_getElem?_getD, List.getElem?_eq_none (by omega)]; rfl
    rw [e]
    clear e
    go_enter Tryd.func59, Tryd.ntmps59
    go_wp2
    go_ret
    exact ⟨rfl, rfl⟩

set_option maxHeartbeats 400000 in
theorem compareInt_any (w : World) (n m : Nat) :
    Calls Tryd.prog 38 #[.int .i64 (n : Int), .int .i64 (m : Int)] w fun e w' => e = .returned (.int .i64 (Mx.cmp n m)) ∧ w = w' := by
  rcases Nat.lt_trichotomy n m with h | h | h
  · rw [Mx.cmp_lt h]
    go_enter Tryd.func38, Tryd.ntmps38
    go_wp2
    go_ret
    exact ⟨rfl, rfl⟩
  · subst h
    rw [Mx.cmp_self]
    go_enter Tryd.func38, Tryd.ntmps38
    go_wp2
    go_ret
    exact ⟨rfl, rfl⟩
  · rw [Mx.cmp_gt h]
    have h' : ¬ n < m := by omega
    go_enter Tryd.func38, Tryd.ntmps38
    go_wp2
    go_ret
    exact ⟨rfl, rfl⟩

set_option maxHeartbeats 400000 in
theorem compareU64_any (w : World) (n m : Nat) :
    Calls Tryd.prog 39 #[.int .u64 (n : Int), .int .u64 (m : Int)] w fun e w' => e = .returned (.int .i64 (Mx.cmp n m)) ∧ w = w' := by
  rcases Nat.lt_trichotomy n m with h | h | h
  · rw [Mx.cmp_lt h]
    go_enter Tryd.func39, Tryd.ntmps39
    go_wp2
    go_ret
    exact ⟨rfl, rfl⟩
  · subst h
    rw [Mx.cmp_self]
    go_enter Tryd.func39, Tryd.ntmps39
    go_wp2
    go_ret
    exact ⟨rfl, rfl⟩
  · rw [Mx.cmp_gt h]
    have h' : ¬ n < m := by omega
    go_enter Tryd.func39, Tryd.ntmps39
    go_wp2
    go_ret
    exact ⟨rfl, rfl⟩

/-- Above place k the two lists are the same. -/
def SameFrom (l r : List Nat) (k : Nat) : Prop := ∀ j, k ≤ j → l.getD j 0 = r.getD j 0

theorem cmp_of_same {n m k : Nat} (hlen : Mx.len n = Mx.len m) (hk : k = 0) (h : SameFrom (Mx.limbs n) (Mx.limbs m) k) : Mx.cmp n m = 0 :=
  Mx.cmp_eq (Mx.limbs_inj (Mx.ext_getD _ _ hlen fun j _ => h j (by omega)))
theorem cmp_of_limb {n m k : Nat} (hlen : Mx.len n = Mx.len m) (hk : k < Mx.len n) (h : SameFrom (Mx.limbs n) (Mx.limbs m) (k + 1)) (hne : (Mx.limbs n).getD k 0 ≠ (Mx.limbs m).getD k 0) :
    Mx.cmp n m = Mx.cmp ((Mx.limbs n).getD k 0) ((Mx.limbs m).getD k 0) := by
  rcases Nat.lt_or_gt_of_ne hne with hlt | hgt
  · rw [Mx.cmp_lt hlt]
    have := Mx.val_take_lt (Mx.limbs n) (Mx.limbs m) k hk (by unfold Mx.len at hlen hk; omega) hlen (Mx.limbs_lt n) (fun j hj => h j hj) hlt
    rw [Mx.val_limbs, Mx.val_limbs] at this
    exact Mx.cmp_lt this
  · rw [Mx.cmp_gt hgt]
    have := Mx.val_take_lt (Mx.limbs m) (Mx.limbs n) k (by unfold Mx.len at hlen hk; omega) hk hlen.symm (Mx.limbs_lt m) (fun j hj => (h j hj).symm) hgt
    rw [Mx.val_limbs, Mx.val_limbs] at this
    exact Mx.cmp_gt this

set_option maxHeartbeats 1000000 in
theorem cmp_any (w : World) (va vb : Value) (n m : Nat) (hm : Mx.len n ≤ 17592186044416) (ha : IsNat w va n) (hb : IsNat w vb m) :
    Calls Tryd.prog 15 #[va, vb] w (Ret w fun v' _ => v' = .int .i64 (Mx.cmp n m)) := by
  obtain ⟨A, c, rfl, hc, hl⟩ := ha
  obtain ⟨D, d, rfl, hd, hr⟩ := hb
  by_cases hlen : Mx.len n = Mx.len m
  · have HC := Lib.hid (fun W => compareInt_any W (Mx.len n) (Mx.len m))
    have HL := Lib.hid hlen
    rw [Mx.cmp_eq hlen] at HC
    clear hlen
    have hm2 : Mx.len m ≤ 17592186044416 := by rw [← HL.out]; exact hm
    go_enter Tryd.func15, Tryd.ntmps15
    go_wp2_with (refine (HC.out _).mono ?_; rintro e w' ⟨rfl, rfl⟩)
    go_loopw [6] (fun i wr => ∃ k : Nat, k ≤ Mx.len n ∧ i = .int .i64 ((k : Int) - 1) ∧ SameFrom (Mx.limbs n) (Mx.limbs m) k ∧ Grow ((w.alloc (Obj.cells #[Value.slice A (Mx.len n) c] 24)).alloc (Obj.cells #[Value.slice D (Mx.len m) d] 24)) wr) (fun i _ => (intOf i + 1).toNat)
    case atStart => exact ⟨Mx.len n, Nat.le_refl _, rfl, fun j hj => by
      have h1 : (Mx.limbs n)[j]? = none := List.getElem?_eq_none hj
      have h2 : (Mx.limbs m)[j]? = none := List.getElem?_eq_none (by have := HL.out; unfold Mx.len at this hj; omega)
      rw [List.getD_eq_getElem?_getD, List.getD_eq_getElem?_getD, h1, h2], Grow.refl _⟩
    case round =>
      obtain ⟨k, hk, rfl, hs, hg⟩ := hrel
      have hgw : Grow w wr := (((Grow.refl w).alloc _).alloc _).trans hg
      obtain ⟨hc1, hc2⟩ := hg.new2
      have HG := Lib.hid hg
      clear hg
      rcases Nat.eq_zero_or_pos k with h0 | h0
      · subst h0
        go_wp2
        go_ret
        exact Ret.mk (by rw [cmp_of_same HL.out rfl hs]; rfl) hgw
      · obtain ⟨k, rfl⟩ : ∃ k', k = k' + 1 := ⟨k - 1, by omega⟩
        rw [show (((k + 1 : Nat) : Int) - 1) = (k : Int) by omega]
        have hk1 : (k : Int) < (Mx.len n : Int) := by omega
        have hk2 : (k : Int) < (Mx.len m : Int) := by have := HL.out; omega
        have hn1 : Mx.limbs n ≠ [] := Mx.limbs_ne (by omega)
        have hn2 : Mx.limbs m ≠ [] := Mx.limbs_ne (by omega)
        obtain ⟨b1, o1, rfl, hb1, hd1⟩ := (hl.grow hgw).at hn1
        obtain ⟨b2, o2, rfl, hb2, hd2⟩ := (hr.grow hgw).at hn2
        have hx := hd1 k (by have : k < Mx.len n := by omega
                             exact this)
        have hy := hd2 k (by have : k < Mx.len m := by omega
                             exact this)
        clear hd1 hd2
        generalize hex : (Mx.limbs n).getD k 0 = x at hx
        generalize hey : (Mx.limbs m).getD k 0 = y at hy
        have HX := Lib.hid hex
        have HY := Lib.hid hey
        clear hex hey
        by_cases hxy : x = y
        · subst hxy
          have HC := Lib.hid (fun W => compareU64_any W x x)
          rw [Mx.cmp_self] at HC
          go_wp2
          go_quiet ((go_at_call 39; exact quiet_left (HC.out _)))
          go_wp2
          go_roundw
          case rel => exact ⟨k, by omega, rfl, fun j hj => by
            rcases Nat.lt_or_ge k j with h3 | h3
            · exact hs j h3
            · obtain rfl : j = k := by omega
              rw [HX.out, HY.out], HG.out.drewN _⟩
          case measure => simp [intOf]
        · have hne : (Mx.cmp x y != 0) = true := by
            rcases Nat.lt_or_gt_of_ne hxy with h | h
            · rw [Mx.cmp_lt h]; rfl
            · rw [Mx.cmp_gt h]; rfl
          have hres := cmp_of_limb HL.out (by omega) hs (by rw [HX.out, HY.out]; exact hxy)
          rw [HX.out, HY.out] at hres
          generalize hz : Mx.cmp x y = z at *
          have HC := Lib.hid (fun W => compareU64_any W x y)
          rw [hz] at HC
          have HR := Lib.hid hres
          clear hz hres
          go_wp2
          go_quiet ((go_at_call 39; exact quiet_left (HC.out _)))
          go_wp2
          go_ret
          exact Ret.mk (by rw [HR.out]; rfl) (hgw.drewN _)
  · have e : Mx.cmp n m = Mx.cmp (Mx.len n) (Mx.len m) := by
      rcases Nat.lt_or_gt_of_ne hlen with h | h
      · rw [Mx.cmp_lt h, Mx.cmp_lt (Mx.lt_of_len h)]
      · rw [Mx.cmp_gt h, Mx.cmp_gt (Mx.lt_of_len h)]
    rw [e]
    clear e
    have hne : (Mx.cmp (Mx.len n) (Mx.len m) != 0) = true := by
      rcases Nat.lt_or_gt_of_ne hlen with h | h
      · rw [Mx.cmp_lt h]; rfl
      · rw [Mx.cmp_gt h]; rfl
    generalize hx : Mx.cmp (Mx.len n) (Mx.len m) = x at *
    have HC := Lib.hid (fun W => compareInt_any W (Mx.len n) (Mx.len m))
    rw [hx] at HC
    clear hx hlen
    go_enter Tryd.func15, Tryd.ntmps15
    go_wp2_with (refine (HC.out _).mono ?_; rintro e w' ⟨rfl, rfl⟩)
    go_ret
    exact Ret.mk rfl (((Grow.refl w).alloc _).alloc _)
end Go.Proofs.YtckcjiojfpaikaaDoor
