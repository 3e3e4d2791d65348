/- Layer 2's contracts with a bound of limbs, for callers; as steps of a region whose order is open. -/
import Derived.Test.YtfeijnbmaehniaaQuoJ
namespace Go.Proofs.Ytfeijnbmaehniaa
open Go.RowKit

theorem div_n {w : World} {va vb : Value} {n m k j : Nat} (ha : IsN w va n k) (hb : IsN w vb m j) (hk : k ≤ 1073741824) (hm : m ≠ 0) :
    Calls Try.prog 8 #[va, vb] w (Ret w fun v w' => ∃ q r, v = .tuple #[q, r, .int .i64 0] ∧ IsN w' q (n / m) k ∧ IsN w' r (n % m) j) :=
  (div_any w va vb n m (Nat.le_trans ha.2 hk) ha.1 hb.1 hm).mono fun _ _ r => r.mono fun _ _ ⟨q, s, e, h1, h2⟩ => ⟨q, s, e, ⟨h1, Nat.le_trans (Mx.len_mono (Nat.div_le_self n m)) ha.2⟩, ⟨h2, Nat.le_trans (Mx.len_mono (Nat.le_of_lt (Nat.mod_lt n (by omega)))) hb.2⟩⟩
theorem div_zero_n {w : World} {va vb : Value} {n k : Nat} (ha : IsN w va n k) (hb : IsNat w vb 0) :
    Calls Try.prog 8 #[va, vb] w (Ret w fun v w' => ∃ q r, v = .tuple #[q, r, .int .i64 8] ∧ IsN w' q 0 0 ∧ IsN w' r 0 0) :=
  (div_zero w va vb n ha.1 hb).mono fun _ _ r => r.mono fun _ _ ⟨q, s, e, h1, h2⟩ => ⟨q, s, e, ⟨h1, Nat.le_refl _⟩, ⟨h2, Nat.le_refl _⟩⟩
theorem len_shl (n s : Nat) : Mx.len (n * 2 ^ s) ≤ Mx.len n + s / 64 + 1 := by
  apply Mx.len_le_of_lt
  have h1 := Mx.lt_pow_len n
  have h2 : n * 2 ^ s < Mx.B ^ Mx.len n * 2 ^ s := Nat.mul_lt_mul_of_pos_right h1 (Mx.pow2_pos _)
  have h3 : Mx.B ^ Mx.len n * 2 ^ s ≤ Mx.B ^ Mx.len n * Mx.B ^ (s / 64 + 1) := Nat.mul_le_mul_left _ (by rw [Mx.B_pow]; exact Nat.pow_le_pow_right (by omega) (by omega))
  rw [← Nat.pow_add] at h3
  exact Nat.lt_of_lt_of_le h2 h3
theorem shl_n {w : World} {va : Value} {n k s : Nat} (ha : IsN w va n k) (hk : k ≤ 1073741824) (hs : s ≤ 262144) :
    Calls Try.prog 19 #[va, .int .i64 (s : Int)] w (Ret w fun v w' => ∃ u, v = .tuple #[u, .int .i64 0] ∧ IsN w' u (n * 2 ^ s) (k + s / 64 + 1)) :=
  (shl_any w va n s (Nat.le_trans ha.2 hk) hs ha.1).mono fun _ _ r => r.mono fun _ _ ⟨u, e, h⟩ => ⟨u, e, h, by have := len_shl n s; have := ha.2; omega⟩
theorem shr_n {w : World} {va : Value} {n k s : Nat} (ha : IsN w va n k) (hk : k ≤ 1073741824) (hs : s ≤ 262144) :
    Calls Try.prog 20 #[va, .int .i64 (s : Int)] w (Ret w fun v w' => ∃ u, v = .tuple #[u, .int .i64 0] ∧ IsN w' u (n / 2 ^ s) k) :=
  (shr_any w va n s (Nat.le_trans ha.2 hk) hs ha.1).mono fun _ _ r => r.mono fun _ _ ⟨u, e, h⟩ => ⟨u, e, h, Nat.le_trans (Mx.len_mono (Nat.div_le_self _ _)) ha.2⟩
/-- Gcd of two numbers of a limb each. -/
theorem gcd_small {w : World} {va vb : Value} {n m : Nat} (ha : IsN w va n 1) (hb : IsN w vb m 1) :
    Calls Try.prog 24 #[va, vb] w (Ret w fun v w' => IsN w' v (Nat.gcd n m) 1) := by
  have hlt : ∀ x, Mx.len x ≤ 1 → x < Mx.B := fun x h => by
    have h1 := Mx.lt_pow_len x
    have h2 : Mx.B ^ Mx.len x ≤ Mx.B ^ 1 := Nat.pow_le_pow_right Mx.B_pos h
    rw [Nat.pow_one] at h2
    omega
  refine (gcd_of w va vb n m (Nat.le_trans ha.2 (by omega)) (Nat.le_trans hb.2 (by omega)) ha.1 hb.1 ?_).mono fun _ _ r => r.mono fun v w' h => ⟨h, ?_⟩
  · intro W va vb a b _ _ hba ham h64
    exfalso
    have h1 : b < Mx.B := by have := hlt n ha.2; have := hlt m hb.2; omega
    have h2 : Mx.bits b ≤ 64 := Mx.bits_le_of_lt h1
    omega
  · apply Mx.len_le_of_lt
    rw [Nat.pow_one]
    rcases Nat.eq_zero_or_pos n with h0 | h0
    · subst h0; rw [Nat.gcd_zero_left]; exact hlt m hb.2
    · exact Nat.lt_of_le_of_lt (Nat.gcd_le_left _ h0) (hlt n ha.2)

namespace Rg
section
variable {ops : Array Oper} {Q : Exit → Act → World → Prop} {F : Facts} {a0 : Act} {w0 : World}
theorem en_gcd : Enters Try.prog 24 := enters_of Try.func24 (by kernel_rfl) rfl
theorem callGcdS {i d x y n m : Nat} {ts : Array TypeId} (dx : depI ops i x = true) (dy : depI ops i y = true) (hx : ∀ w v, F x w v → IsN w v n 1) (hy : ∀ w v, F y w v → IsN w v m 1)
    (hF : ∀ w v, IsN w v (Nat.gcd n m) 1 → F d w v) : Owes Try.prog ops Q F a0 w0 i (some d) (.call { callee := .value (.func 24), args := #[.tmp x, .tmp y], argTypes := ts }) :=
  fun _ _ _ ho hd _ _ D => call2 ho en_gcd hd (gcd_small (hx _ _ (D x dx)) (hy _ _ (D y dy))) fun _ _ ⟨v, e, h, g⟩ => ⟨v, e, hF _ _ h, g⟩
theorem eqlE {i d x : Nat} {m c : Int} {b : Bool} (dx : depI ops i x = true) (hx : ∀ w v, F x w v → v = .int .i64 m) (hb : (m == c) = b) (hF : ∀ w v, v = .bool b → F d w v) :
    Owes Try.prog ops Q F a0 w0 i (some d) (.binOp .eql 25 (.tmp x) (.const (.int .i64 c)) 25) :=
  fun o a w ho hd hg ha D => valOf (v := .bool b) (w' := w) (by
    have e : a.tmps.getD x undef = .int .i64 m := hx _ _ (D x dx)
    subst hb
    simp only [Array.getD_eq_getD_getElem?] at e
    simp [execOp, ho, go_sem, Act.eval, e]) hd (hF _ _ rfl) (Grow.refl w)
theorem lssI {i d x : Nat} {m c : Int} {b : Bool} (dx : depI ops i x = true) (hx : ∀ w v, F x w v → v = .int .i64 m) (hb : decide (m < c) = b) (hF : ∀ w v, v = .bool b → F d w v) :
    Owes Try.prog ops Q F a0 w0 i (some d) (.binOp .lss 3 (.tmp x) (.const (.int .i64 c)) 3) :=
  fun o a w ho hd hg ha D => valOf (v := .bool b) (w' := w) (by
    have e : a.tmps.getD x undef = .int .i64 m := hx _ _ (D x dx)
    subst hb
    simp only [Array.getD_eq_getD_getElem?] at e
    simp [execOp, ho, go_sem, Act.eval, e]) hd (hF _ _ rfl) (Grow.refl w)
end
end Rg
end Go.Proofs.Ytfeijnbmaehniaa
