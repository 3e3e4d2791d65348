/- Layer 2's contracts with a bound of limbs, for callers; as steps of a region whose order is open. -/
import Derived.Test.YtckcjiojfpaikaaDoorQuoJ
namespace Go.Proofs.YtckcjiojfpaikaaDoor
open Go.RowKit
set_option maxRecDepth 20000

theorem div_n {w : World} {va vb : Value} {n m k j : Nat} (ha : IsN w va n k) (hb : IsN w vb m j) (hk : k ≤ 1073741824) (hm : m ≠ 0) :
    Calls Tryd.prog 57 #[va, vb] w (Ret w fun v w' => ∃ q r, v = .tuple #[q, r, .int .i64 0] ∧ IsN w' q (n / m) k ∧ IsN w' r (n % m) j) :=
  (div_any w va vb n m (Nat.le_trans ha.2 hk) ha.1 hb.1 hm).mono fun _ _ r => r.mono fun _ _ ⟨q, s, e, h1, h2⟩ => ⟨q, s, e, ⟨h1, Nat.le_trans (Mx.len_mono (Nat.div_le_self n m)) ha.2⟩, ⟨h2, Nat.le_trans (Mx.len_mono (Nat.le_of_lt (Nat.mod_lt n (by omega)))) hb.2⟩⟩
theorem div_zero_n {w : World} {va vb : Value} {n k : Nat} (ha : IsN w va n k) (hb : IsNat w vb 0) :
    Calls Tryd.prog 57 #[va, vb] w (Ret w fun v w' => ∃ q r, v = .tuple #[q, r, .int .i64 8] ∧ IsN w' q 0 0 ∧ IsN w' r 0 0) :=
  (div_zero w va vb n ha.1 hb).mono fun _ _ r => r.mono fun _ _ ⟨q, s, e, h1, h2⟩ => ⟨q, s, e, ⟨h1, Nat.le_refl _⟩, ⟨h2, Nat.le_refl _⟩⟩
theorem len_shl (n s : Nat) : Mx.len (n * 2 ^ s) ≤ Mx.len n + s / 64 + 1 := by
  apply Mx.len_le_of_lt
  have h1 := Mx.lt_pow_len n
  have h2 : n * 2 ^ s < Mx.B ^ Mx.len n * 2 ^ s := Nat.mul_lt_mul_of_pos_right h1 (Mx.pow2_pos _)
  have h3 : Mx.B ^ Mx.len n * 2 ^ s ≤ Mx.B ^ Mx.len n * Mx.B ^ (s / 64 + 1) := Nat.mul_le_mul_left _ (by rw [Mx.B_pow]; exact Nat.pow_le_pow_right (by omega) (by omega))
  rw [← Nat.pow_add] at h3
  exact Nat.lt_of_lt_of_le h2 h3

namespace Rg
section
variable {ops : Array Oper} {Q : Exit → Act → World → Prop} {F : Facts} {a0 : Act} {w0 : World}
theorem eqlE {i d x : Nat} {m c : Int} {b : Bool} (dx : depI ops i x = true) (hx : ∀ w v, F x w v → v = .int .i64 m) (hb : (m == c) = b) (hF : ∀ w v, v = .bool b → F d w v) :
    Owes Tryd.prog ops Q F a0 w0 i (some d) (.binOp .eql 27 (.tmp x) (.const (.int .i64 c)) 27) :=
  fun o a w ho hd hg ha D => valOf (v := .bool b) (w' := w) (by
    have e : a.tmps.getD x undef = .int .i64 m := hx _ _ (D x dx)
    subst hb
    simp only [Array.getD_eq_getD_getElem?] at e
    simp [execOp, ho, go_sem, Act.eval, e]) hd (hF _ _ rfl) (Grow.refl w)
theorem lssI {i d x : Nat} {m c : Int} {b : Bool} (dx : depI ops i x = true) (hx : ∀ w v, F x w v → v = .int .i64 m) (hb : decide (m < c) = b) (hF : ∀ w v, v = .bool b → F d w v) :
    Owes Tryd.prog ops Q F a0 w0 i (some d) (.binOp .lss 3 (.tmp x) (.const (.int .i64 c)) 3) :=
  fun o a w ho hd hg ha D => valOf (v := .bool b) (w' := w) (by
    have e : a.tmps.getD x undef = .int .i64 m := hx _ _ (D x dx)
    subst hb
    simp only [Array.getD_eq_getD_getElem?] at e
    simp [execOp, ho, go_sem, Act.eval, e]) hd (hF _ _ rfl) (Grow.refl w)
end
end Rg
end Go.Proofs.YtckcjiojfpaikaaDoor
