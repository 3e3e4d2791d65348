/- Package whole: Print, Int. -/
import Derived.Test.YtlkiikchjeapfaaDoorWhG
namespace Go.Proofs.YtlkiikchjeapfaaDoor
open Go.RowKit
set_option maxRecDepth 20000

/-- A whole number's text. -/
def ztext (z : Int) : List UInt8 := if z < 0 then 45 :: Tx.text z.natAbs else Tx.text z.natAbs
theorem str_minus (l : List UInt8) : (⟨#[45]⟩ : ByteArray) ++ str l = str (45 :: l) := by
  apply ByteArray.ext
  simp [str]
theorem digs_lenW {n k : Nat} (h : Mx.len n ≤ k) : Tx.digs n ≤ 64 * k + 1 := by
  refine Tx.digs_le_of_lt (by omega) ?_
  have h1 := Mx.bits_lt n
  have h2 := Mx.bits_len n
  have h3 : 2 ^ Mx.bits n ≤ 2 ^ (64 * k) := Nat.pow_le_pow_right (by decide) (Nat.le_trans h2 (Nat.mul_le_mul_left _ h))
  have h4 : 2 ^ (64 * k) ≤ 10 ^ (64 * k) := Nat.pow_le_pow_left (by decide) _
  have h5 : 10 ^ (64 * k) ≤ 10 ^ (64 * k + 1) := Nat.pow_le_pow_right (by decide) (by omega)
  omega

set_option maxHeartbeats 1000000 in
theorem print_w {w : World} {v : Value} {z : Int} {k : Nat} (h : IsW w v z k) (hk : k ≤ 536870912) : Calls Tryd.prog 36 #[v] w (Ret w fun v' _ => v' = .string (str (ztext z))) := by
  obtain ⟨A, l, c, b, rfl, hn, hb⟩ := h.open
  have HP := Lib.hid (fun W (g : Grow w W) => print_any W _ _ k (hn.grow g) hk)
  have hs : (str (Tx.text z.natAbs)).size ≤ 4294967296000 := by
    rw [str_size, Tx.text_length]
    have := digs_lenW hn.2
    omega
  have hm := str_minus (Tx.text z.natAbs)
  have hz : (b = true ∧ ztext z = 45 :: Tx.text z.natAbs) ∨ (b = false ∧ ztext z = Tx.text z.natAbs) := by
    rcases hb with ⟨hb, h0⟩ | ⟨hb, h0⟩
    · exact .inl ⟨hb, if_pos h0⟩
    · exact .inr ⟨hb, if_neg (by omega)⟩
  clear hn h hb
  rcases hz with ⟨rfl, e2⟩ | ⟨rfl, e2⟩
  · rw [e2, ← hm]
    clear e2 hm
    generalize str (Tx.text z.natAbs) = s at *
    go_enter Tryd.func36, Tryd.ntmps36
    go_wp2_with fail
    refine (HP.out _ ((Grow.refl w).alloc _)).mono ?_
    rintro e w1 ⟨v1, rfl, rfl, g1⟩
    have G1 := Lib.hid (((Grow.refl w).alloc _).trans g1)
    clear g1
    go_wp2_with fail
    go_ret
    exact Ret.mk rfl G1.out
  · rw [e2]
    clear e2 hm
    generalize str (Tx.text z.natAbs) = s at *
    go_enter Tryd.func36, Tryd.ntmps36
    go_wp2_with fail
    refine (HP.out _ ((Grow.refl w).alloc _)).mono ?_
    rintro e w1 ⟨v1, rfl, rfl, g1⟩
    have G1 := Lib.hid (((Grow.refl w).alloc _).trans g1)
    clear g1
    go_wp2_with fail
    go_ret
    exact Ret.mk rfl G1.out
end Go.Proofs.YtlkiikchjeapfaaDoor
