/- What the laws of layer 3 share: wakes. -/
import Derived.Test.YtckcjiojfpaikaaDoorWakes3R
namespace Go.Proofs.YtckcjiojfpaikaaDoor
open Go.RowKit
set_option maxRecDepth 20000

/-- 2^64 as a text. -/
def bigL : List UInt8 := [49, 56, 52, 52, 54, 55, 52, 52, 48, 55, 51, 55, 48, 57, 53, 53, 49, 54, 49, 54]
theorem ok_big : Tx.okText bigL := ⟨by decide, .inr ⟨by decide, by decide⟩⟩
theorem bad_01 : ¬ Tx.okText [48, 49] := by
  rintro ⟨_, h | ⟨_, h⟩⟩
  · cases h
  · exact h rfl
theorem rd_big : Tx.rd bigL = 18446744073709551616 := by decide
/-- The answers that wakes asks for. -/
theorem wakes_pow (w : World) (v : Value) (h : IsN w v 2 1) (N : Nat) (hN : N = 18446744073709551616) : Calls Tryd.prog 20 #[v, .int .i64 64] w (Ret w fun v w' => IsNE w' v N 4097 0) := by
  have hb : Mx.bits 2 = 1 + 1 := Mx.bits_unique (by decide) (by decide)
  have he := powE_ok (n := 2) (k := 64) (by decide) (by rw [hb]; decide)
  have := pow_any w v 2 1 ((64 : Nat) : Int) h (by omega)
  rw [he.1, he.2] at this
  rw [hN]
  exact this
theorem wakes_ten (w : World) (M : Nat) (hM : M = 1000) : Calls Tryd.prog 21 #[.int .i64 3] w (Ret w fun v w' => IsNE w' v M 4097 0) := by
  rw [hM]
  exact ten_any w 3

theorem wakes_parse (w : World) (N : Nat) (hN : N = 18446744073709551616) : Calls Tryd.prog 10 #[.string ⟨#[49, 56, 52, 52, 54, 55, 52, 52, 48, 55, 51, 55, 48, 57, 53, 53, 49, 54, 49, 54]⟩] w (Ret w fun v w' => IsNE w' v N 20 0) :=
  (parse_ok w (str bigL) (by decide) ok_big).mono fun e w' ⟨v, e1, ⟨u, e2, h⟩, g⟩ => ⟨v, e1, ⟨u, e2, by rw [hN, ← rd_big]; exact h⟩, g⟩
theorem wakes_bad (w : World) : Calls Tryd.prog 10 #[.string ⟨#[48, 49]⟩] w (Ret w fun v _ => v = .tuple #[.agg #[.slice none 0 0], .int .i64 5]) := parse_bad w (str [48, 49]) (by decide) bad_01

set_option maxHeartbeats 1000000 in
theorem wakes3_any (w : World) : Calls Tryd.prog 11 #[] w (Ret w fun v' _ => v' = .bool true) := by
  obtain ⟨N, hN⟩ : ∃ N, N = 18446744073709551616 := ⟨_, rfl⟩
  obtain ⟨M, hM⟩ : ∃ M, M = 1000 := ⟨_, rfl⟩
  have HP := Lib.hid (fun W v h => wakes_pow W v h N hN)
  have HT := Lib.hid (fun W => wakes_ten W M hM)
  have HR := Lib.hid (fun W => wakes_parse W N hN)
  have HX : Hid (Tx.text N = bigL ∧ Tx.digs N = 20 ∧ M = 1000) := Lib.hid (by
    have e : N = Tx.rd bigL := by rw [hN, rd_big]
    refine ⟨by rw [e]; exact Tx.text_rd ok_big, ?_, hM⟩
    rw [e, Tx.digs_rd ok_big]
    rfl)
  clear hN hM
  go_enter Tryd.func11, Tryd.ntmps11
  go_wp2_with fail
  refine (one_n _ 2 (by omega)).mono ?_
  rintro e w1 ⟨v1, rfl, h1, g1⟩
  go_wp2_with fail
  refine (HP.out _ _ h1).mono ?_
  rintro e w2 ⟨v2, rfl, ⟨u2, rfl, h2⟩, g2⟩
  obtain ⟨A2, l2, c2, rfl⟩ := h2.cell
  have gw2 : Grow w w2 := (((Grow.refl w).alloc _).trans g1).trans g2
  have H2 := Lib.hid h2
  have G2 := Lib.hid gw2
  clear h1 h2 g1 g2 gw2 HP
  go_wp2_with fail
  refine (HR.out _).mono ?_
  rintro e w3 ⟨v3, rfl, ⟨u3, rfl, h3⟩, g3⟩
  obtain ⟨A3, l3, c3, rfl⟩ := h3.cell
  have V2 := Lib.hid (VarN.new H2.out g3)
  have G3 := Lib.hid ((G2.out.alloc _).trans g3)
  have H3 := Lib.hid h3
  clear h3 g3 H2 G2 HR
  go_wp2_with fail
  refine (wakes_bad _).mono ?_
  rintro e w4 ⟨v4, rfl, rfl, g4⟩
  have V3 := Lib.hid (VarN.new H3.out g4)
  have V2 := Lib.hid (V2.out.grow (((Grow.refl _).alloc _).trans g4))
  have G4 := Lib.hid ((G3.out.alloc _).trans g4)
  clear g4 H3 G3
  go_wp2_with fail
  refine (HT.out _).mono ?_
  rintro e w5 ⟨v5, rfl, ⟨u5, rfl, h5⟩, g5⟩
  obtain ⟨A5, l5, c5, rfl⟩ := h5.cell
  have V2 := Lib.hid (V2.out.grow ((((Grow.refl _).alloc _).trans g5).alloc (Obj.cells #[Value.slice A5 l5 c5] 24)))
  have V3 := Lib.hid (V3.out.grow ((((Grow.refl _).alloc _).trans g5).alloc (Obj.cells #[Value.slice A5 l5 c5] 24)))
  have V5 := Lib.hid (VarN.new h5 (Grow.refl _))
  have G5 := Lib.hid (((G4.out.alloc _).trans g5).alloc (Obj.cells #[Value.slice A5 l5 c5] 24))
  clear h5 g5 HT G4
  go_wp2_with fail
  rename_i hK
  obtain ⟨B2, m2, d2, k2, n2⟩ := V2.out
  obtain ⟨B3, m3, d3, k3, n3⟩ := V3.out
  obtain ⟨B5, m5, d5, k5, n5⟩ := V5.out
  exact Rg.region_eq (by kernel_rfl) (Rg.wakes3_region N M rfl rfl k2 n2 rfl k3 n3 rfl k5 n5 rfl rfl rfl rfl HX.out.1 HX.out.2.1 HX.out.2.2 fun a' w' hg ha h0 => hK a' w' (Rg.ret_slot (t := 0) Tryd.results11 ha.1 h0 (Ret.mk rfl (G5.out.trans hg))))

theorem Rg.en_wakes3 : Enters Tryd.prog 11 := enters_of Tryd.func11 (by kernel_rfl) rfl
theorem Rg.callWakes3 {ops : Array Oper} {Q : Exit → Act → World → Prop} {F : Rg.Facts} {a0 : Act} {w0 : World} {i d : Nat} {ts : Array TypeId} (hF : ∀ w v, v = .bool true → F d w v) : Rg.Owes Tryd.prog ops Q F a0 w0 i (some d) (.call { callee := .value (.func 11), args := #[], argTypes := ts }) :=
  fun _ _ w ho hd _ _ _ => Rg.call0 ho Rg.en_wakes3 hd (wakes3_any w) fun _ _ ⟨v, e, h, g⟩ => ⟨v, e, hF _ _ h, g⟩
theorem VarN.mk' {w : World} {k n b : Nat} {A : Option Addr} {l c : Nat} (h : w.cell? ⟨k, 0, none⟩ = some (.slice A l c)) (hn : IsN w (.agg #[.slice A l c]) n b) : VarN w k n b := ⟨A, l, c, h, hn⟩
theorem digs_len {n k : Nat} (h : Mx.len n ≤ k) : Tx.digs n ≤ 64 * k + 1 := by
  refine Tx.digs_le_of_lt (by omega) ?_
  have h1 := Mx.bits_lt n
  have h2 := Mx.bits_len n
  have h3 : 2 ^ Mx.bits n ≤ 2 ^ (64 * k) := Nat.pow_le_pow_right (by decide) (Nat.le_trans h2 (Nat.mul_le_mul_left _ h))
  have h4 : 2 ^ (64 * k) ≤ 10 ^ (64 * k) := Nat.pow_le_pow_left (by decide) _
  have h5 : 10 ^ (64 * k) ≤ 10 ^ (64 * k + 1) := Nat.pow_le_pow_right (by decide) (by omega)
  omega
end Go.Proofs.YtckcjiojfpaikaaDoor
