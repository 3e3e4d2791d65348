/- Package whole: From, Cmp. -/
import Derived.Test.YtlkiikchjeapfaaDoorWhC
namespace Go.Proofs.YtlkiikchjeapfaaDoor
open Go.RowKit
set_option maxRecDepth 20000

theorem u64_wrap (n : Int) : IntKind.u64.wrap n = n % 18446744073709551616 := by
  have e : IntKind.u64.bits = 64 := rfl
  have e2 : IntKind.u64.signed = false := rfl
  simp [IntKind.wrap, e, e2]
theorem i64_wrap_hi {n : Int} (h1 : 9223372036854775808 ≤ n) (h2 : n < 18446744073709551616) : IntKind.i64.wrap n = n - 18446744073709551616 := by
  have e : IntKind.i64.bits = 64 := rfl
  have e2 : IntKind.i64.signed = true := rfl
  simp [IntKind.wrap, e, e2]
  omega

set_option maxHeartbeats 1000000 in
theorem from_w (w : World) (n : Int) (h1 : -9223372036854775808 ≤ n) (h2 : n ≤ 9223372036854775807) : Calls Tryd.prog 15 #[.int .i64 n] w (Ret w fun v' w' => IsW w' v' n 1) := by
  by_cases hn : n < 0
  · obtain ⟨m, hm⟩ : ∃ m : Nat, n = -(m : Int) := ⟨n.natAbs, by omega⟩
    have hmB : m < Mx.B := by rw [Mx.B_eq]; omega
    have e1 : decide (n < 0) = true := decide_eq_true hn
    have hs : signed m true = n := by simp only [signed, if_true]; omega
    have e2 : IntKind.u64.wrap n = 18446744073709551616 + n := by rw [u64_wrap]; omega
    have e3 : IntKind.u64.wrap (-(18446744073709551616 + n)) = (m : Int) := by rw [u64_wrap]; omega
    have HN := Lib.hid (fun (W : World) (k : Nat) (hk : W.heap.size = k) => num_at hk hmB)
    have HO := Lib.hid (fun W v (h : IsN W v m 1) => of_w (b := true) h)
    rw [hs] at HO
    clear h1 h2 hm hmB hs hn
    go_enter Tryd.func15, Tryd.ntmps15
    go_wp2_with fail
    refine (HN.out _ _ (by rw [World.size_alloc])).mono ?_
    rintro e w1 ⟨v1, rfl, n1, g1⟩
    have N1 := Lib.hid n1
    have hwb : WB w1 w.heap.size := (WB.new w none 0 0 false 28).grow (((Grow.refl _).alloc _).trans g1)
    have G1 := Lib.hid ((((Grow.refl w).alloc _).alloc _).trans g1)
    have HB := Lib.hid hwb
    clear g1 n1 hwb
    go_wp2_with fail
    refine (HO.out _ _ N1.out).mono ?_
    rintro e w2 ⟨v2, rfl, h2, g2⟩
    obtain ⟨A1, l1, c1, x1, rfl, _⟩ := h2.open
    have hwb := HB.out.grow g2
    obtain ⟨k0, k1⟩ := hwb.cells A1 l1 c1 x1
    have HW := Lib.hid (h2.st hwb A1 l1 c1 x1)
    have HG := Lib.hid (grow_stW (G1.out.trans g2) (b := w.heap.size) (by omega) A1 l1 c1 x1)
    obtain ⟨⟨A0, l0, c0, x0, m0, m1⟩, f0, f1⟩ := hwb
    clear g2 h2
    go_wp2_with fail
    refine bodyPost_ret (v := .agg #[.slice A1 l1 c1, .bool x1]) (by simp only [stW] at k0 k1; simp [results, Tryd.results15, go_sem, k0, k1]) rfl (Ret.mk HW.out HG.out)
  · obtain ⟨m, rfl⟩ : ∃ m : Nat, n = (m : Int) := ⟨n.natAbs, by omega⟩
    have hmB : m < Mx.B := by rw [Mx.B_eq]; omega
    have e1 : decide ((m : Int) < 0) = false := decide_eq_false hn
    have hs : signed m false = m := by simp [signed]
    have e2 : IntKind.u64.wrap (m : Int) = m := by rw [u64_wrap]; omega
    have HN := Lib.hid (fun (W : World) (k : Nat) (hk : W.heap.size = k) => num_at hk hmB)
    have HO := Lib.hid (fun W v (h : IsN W v m 1) => of_w (b := false) h)
    rw [hs] at HO
    clear h1 h2 hmB hs hn
    go_enter Tryd.func15, Tryd.ntmps15
    go_wp2_with fail
    refine (HN.out _ _ (by rw [World.size_alloc])).mono ?_
    rintro e w1 ⟨v1, rfl, n1, g1⟩
    have N1 := Lib.hid n1
    have hwb : WB w1 w.heap.size := (WB.new w none 0 0 false 28).grow (((Grow.refl _).alloc _).trans g1)
    have G1 := Lib.hid ((((Grow.refl w).alloc _).alloc _).trans g1)
    have HB := Lib.hid hwb
    clear g1 n1 hwb
    go_wp2_with fail
    refine (HO.out _ _ N1.out).mono ?_
    rintro e w2 ⟨v2, rfl, h2, g2⟩
    obtain ⟨A1, l1, c1, x1, rfl, _⟩ := h2.open
    have hwb := HB.out.grow g2
    obtain ⟨k0, k1⟩ := hwb.cells A1 l1 c1 x1
    have HW := Lib.hid (h2.st hwb A1 l1 c1 x1)
    have HG := Lib.hid (grow_stW (G1.out.trans g2) (b := w.heap.size) (by omega) A1 l1 c1 x1)
    obtain ⟨⟨A0, l0, c0, x0, m0, m1⟩, f0, f1⟩ := hwb
    clear g2 h2
    go_wp2_with fail
    refine bodyPost_ret (v := .agg #[.slice A1 l1 c1, .bool x1]) (by simp only [stW] at k0 k1; simp [results, Tryd.results15, go_sem, k0, k1]) rfl (Ret.mk HW.out HG.out)

set_option maxHeartbeats 400000 in
theorem compareI_any (w : World) (n m : Int) :
    Calls Tryd.prog 41 #[.int .i64 n, .int .i64 m] w fun e w' => e = .returned (.int .i64 (n - m).sign) ∧ w = w' := by
  rcases Int.lt_trichotomy n m with h | h | h
  · rw [Int.sign_eq_neg_one_of_neg (by omega)]
    go_enter Tryd.func41, Tryd.ntmps41
    go_wp2
    go_ret
    exact ⟨rfl, rfl⟩
  · subst h
    rw [Int.sub_self, Int.sign_zero]
    go_enter Tryd.func41, Tryd.ntmps41
    go_wp2
    go_ret
    exact ⟨rfl, rfl⟩
  · rw [Int.sign_eq_one_of_pos (by omega)]
    have h' : ¬ n < m := by omega
    go_enter Tryd.func41, Tryd.ntmps41
    go_wp2
    go_ret
    exact ⟨rfl, rfl⟩
end Go.Proofs.YtlkiikchjeapfaaDoor
