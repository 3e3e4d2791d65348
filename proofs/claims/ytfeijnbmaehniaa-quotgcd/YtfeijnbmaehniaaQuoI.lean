/- Contracts of package quot: Shl, Shr, gcdOfLimbs. -/
import Derived.Test.YtfeijnbmaehniaaQuoH
namespace Go.Proofs.Ytfeijnbmaehniaa
open Go.RowKit

/-- The two blocks that a shift makes first. -/
theorem shift_cells {w W : World} {A : Option Addr} {n c : Nat} (h : Grow ((w.alloc (Obj.cells #[Value.slice A n c] 24)).alloc (Obj.cells #[Value.slice none 0 0] 24)) W) :
    W.cell? ⟨w.heap.size, 0, none⟩ = some (.slice A n c) ∧ W.cell? ⟨w.heap.size + 1, 0, none⟩ = some (.slice none 0 0) ∧ W.frozen? ⟨w.heap.size + 1, 0, none⟩ = false := by
  have hs : ((w.alloc (Obj.cells #[Value.slice A n c] 24)).alloc (Obj.cells #[Value.slice none 0 0] 24)).heap.size = w.heap.size + 1 + 1 := by simp
  exact ⟨(h.cell (p := ⟨w.heap.size, 0, none⟩) (by show w.heap.size < _; omega)).trans (by simp [go_sem]), (h.cell (p := ⟨w.heap.size + 1, 0, none⟩) (by show w.heap.size + 1 < _; omega)).trans (by simp [go_sem]),
    (Below.frozen h (p := ⟨w.heap.size + 1, 0, none⟩) (by show w.heap.size + 1 < _; omega)).trans (by simp [go_sem])⟩

/-- A shift's answer. -/
def ShRet (x : Nat) (v : Value) (w' : World) : Prop := ∃ u, v = .tuple #[u, .int .i64 0] ∧ IsNat w' u x

set_option maxHeartbeats 1000000 in
theorem shl_any (w : World) (va : Value) (n k : Nat) (hn : Mx.len n ≤ 1073741824) (hk : k ≤ 262144) (ha : IsNat w va n) :
    Calls Try.prog 19 #[va, .int .i64 (k : Int)] w (Ret w (ShRet (n * 2 ^ k))) := by
  have HLA := Lib.hid (fun W (g : Grow w W) => limbs_any W va n (by omega) (ha.grow g))
  obtain ⟨A, c, rfl, hc, hl⟩ := ha
  have e1 : decide ((k : Int) < 0) = false := decide_eq_false (by omega)
  have e2 : decide ((262144 : Int) < (k : Int)) = false := decide_eq_false (by omega)
  clear hc hl
  go_enter Try.func19, Try.ntmps19
  go_wp2_with fail
  refine (HLA.out _ (((Grow.refl w).alloc _).alloc _)).mono ?_
  rintro e w1 ⟨v1, rfl, h1⟩
  obtain ⟨b1, rfl, hb1, hk1, g1⟩ := h1.open
  go_wp2_with fail
  refine (up_any w1 (some ⟨b1, 0, none⟩) (Mx.limbs n) (Mx.limbs n).length k (by show Mx.len n ≤ _; omega) (Mx.limbs_lt n) (by omega) (Cells.of_block hk1)).mono ?_
  rintro e w2 ⟨v2, l2, rfl, h2, h2b, h2v, h2l⟩
  have h2s := h2.sl h2b
  have g2 := h2.choose_spec.2.2.2
  go_wp2_with fail
  refine (of_any _ _ l2 (by rw [h2l]; show Mx.len n + _ + 1 ≤ _; omega) h2s).mono ?_
  rintro e w3 ⟨v3, rfl, h3, g3⟩
  rw [h2v, Mx.val_limbs] at h3
  have gg := (g1.trans g2).trans g3
  obtain ⟨c0, c1, f1⟩ := shift_cells gg
  have HG := Lib.hid gg
  have H3 := Lib.hid h3
  obtain ⟨A3, c3, rfl, hc3, hl3⟩ := h3
  clear hl3 gg g1 g2 g3 h1 h2 h2s hk1
  go_wp2_with fail
  refine bodyPost_ret (v := .tuple #[.agg #[.slice A3 (Mx.len (n * 2 ^ k)) c3], .int .i64 0]) (by simp [results, Try.results19, go_sem, c1]) rfl (Ret.mk ⟨_, rfl, H3.out.store c1 _⟩ ?_)
  exact ((((Grow.refl w).alloc _).alloc _).trans HG.out).setCell (by show w.heap.size ≤ w.heap.size + 1; omega) _

set_option maxHeartbeats 1000000 in
theorem shr_any (w : World) (va : Value) (n k : Nat) (hn : Mx.len n ≤ 1073741824) (hk : k ≤ 262144) (ha : IsNat w va n) :
    Calls Try.prog 20 #[va, .int .i64 (k : Int)] w (Ret w (ShRet (n / 2 ^ k))) := by
  have HLA := Lib.hid (fun W (g : Grow w W) => limbs_any W va n (by omega) (ha.grow g))
  obtain ⟨A, c, rfl, hc, hl⟩ := ha
  have e1 : decide ((k : Int) < 0) = false := decide_eq_false (by omega)
  have e2 : decide ((262144 : Int) < (k : Int)) = false := decide_eq_false (by omega)
  clear hc hl
  go_enter Try.func20, Try.ntmps20
  go_wp2_with fail
  refine (HLA.out _ (((Grow.refl w).alloc _).alloc _)).mono ?_
  rintro e w1 ⟨v1, rfl, h1⟩
  obtain ⟨b1, rfl, hb1, hk1, g1⟩ := h1.open
  go_wp2_with fail
  refine (down_any w1 (some ⟨b1, 0, none⟩) (Mx.limbs n) (Mx.limbs n).length k (by show Mx.len n ≤ _; omega) (Mx.limbs_lt n) (by omega) (Cells.of_block hk1)).mono ?_
  rintro e w2 ⟨v2, l2, rfl, h2, h2b, h2v, h2l⟩
  have h2s := h2.sl h2b
  have g2 := h2.choose_spec.2.2.2
  go_wp2_with fail
  refine (of_any _ _ l2 (by rw [h2l]; show Mx.len n - _ ≤ _; omega) h2s).mono ?_
  rintro e w3 ⟨v3, rfl, h3, g3⟩
  rw [h2v, Mx.val_limbs] at h3
  have gg := (g1.trans g2).trans g3
  obtain ⟨c0, c1, f1⟩ := shift_cells gg
  have HG := Lib.hid gg
  have H3 := Lib.hid h3
  obtain ⟨A3, c3, rfl, hc3, hl3⟩ := h3
  clear hl3 gg g1 g2 g3 h1 h2 h2s hk1
  go_wp2_with fail
  refine bodyPost_ret (v := .tuple #[.agg #[.slice A3 (Mx.len (n / 2 ^ k)) c3], .int .i64 0]) (by simp [results, Try.results20, go_sem, c1]) rfl (Ret.mk ⟨_, rfl, H3.out.store c1 _⟩ ?_)
  exact ((((Grow.refl w).alloc _).alloc _).trans HG.out).setCell (by show w.heap.size ≤ w.heap.size + 1; omega) _

/-- Out of bounds. -/
def ShBad (v : Value) (w' : World) : Prop := ∃ u, v = .tuple #[u, .int .i64 2] ∧ IsNat w' u 0
theorem bad_split {k : Int} (h : k < 0 ∨ 262144 < k) : (decide (k < 0) = true) ∨ (decide (k < 0) = false ∧ decide (262144 < k) = true) := by
  by_cases h0 : k < 0
  · exact .inl (decide_eq_true h0)
  · exact .inr ⟨decide_eq_false h0, decide_eq_true (by omega)⟩
set_option maxHeartbeats 1000000 in
theorem shl_bad (w : World) (va : Value) (n : Nat) (k : Int) (hk : k < 0 ∨ 262144 < k) (ha : IsNat w va n) :
    Calls Try.prog 19 #[va, .int .i64 k] w (Ret w ShBad) := by
  obtain ⟨A, c, rfl, hc, hl⟩ := ha
  have hb := bad_split hk
  clear hc hl hk
  obtain ⟨c0, c1, f1⟩ := shift_cells (w := w) (A := A) (n := Mx.len n) (c := c) (Grow.refl _)
  rcases hb with e1 | ⟨e1, e2⟩
  · go_enter Try.func19, Try.ntmps19
    go_wp2_with fail
    refine bodyPost_ret (v := .tuple #[.agg #[.slice none 0 0], .int .i64 2]) (by simp [results, Try.results19, go_sem, c1]) rfl (Ret.mk ⟨_, rfl, IsNat.none _⟩ ?_)
    exact ((Grow.refl w).alloc _).alloc _
  · go_enter Try.func19, Try.ntmps19
    go_wp2_with fail
    refine bodyPost_ret (v := .tuple #[.agg #[.slice none 0 0], .int .i64 2]) (by simp [results, Try.results19, go_sem, c1]) rfl (Ret.mk ⟨_, rfl, IsNat.none _⟩ ?_)
    exact ((Grow.refl w).alloc _).alloc _
set_option maxHeartbeats 1000000 in
theorem shr_bad (w : World) (va : Value) (n : Nat) (k : Int) (hk : k < 0 ∨ 262144 < k) (ha : IsNat w va n) :
    Calls Try.prog 20 #[va, .int .i64 k] w (Ret w ShBad) := by
  obtain ⟨A, c, rfl, hc, hl⟩ := ha
  have hb := bad_split hk
  clear hc hl hk
  obtain ⟨c0, c1, f1⟩ := shift_cells (w := w) (A := A) (n := Mx.len n) (c := c) (Grow.refl _)
  rcases hb with e1 | ⟨e1, e2⟩
  · go_enter Try.func20, Try.ntmps20
    go_wp2_with fail
    refine bodyPost_ret (v := .tuple #[.agg #[.slice none 0 0], .int .i64 2]) (by simp [results, Try.results20, go_sem, c1]) rfl (Ret.mk ⟨_, rfl, IsNat.none _⟩ ?_)
    exact ((Grow.refl w).alloc _).alloc _
  · go_enter Try.func20, Try.ntmps20
    go_wp2_with fail
    refine bodyPost_ret (v := .tuple #[.agg #[.slice none 0 0], .int .i64 2]) (by simp [results, Try.results20, go_sem, c1]) rfl (Ret.mk ⟨_, rfl, IsNat.none _⟩ ?_)
    exact ((Grow.refl w).alloc _).alloc _

set_option maxHeartbeats 400000 in
theorem gcdOfLimbs_any (w : World) (x y : Nat) (hx : x < Mx.B) (hy : y < Mx.B) :
    Calls Try.prog 48 #[.int .u64 (x : Int), .int .u64 (y : Int)] w fun e w' => e = .returned (.int .u64 ((Nat.gcd x y : Nat) : Int)) ∧ ∃ m, w' = w.drewN m := by
  have HB := Lib.hid (And.intro hx hy)
  clear hx hy
  go_enter Try.func48, Try.ntmps48
  go_wp2
  go_loopw [0, 1] (fun xv yv wr => ∃ a b m : Nat, xv = .int .u64 (a : Int) ∧ yv = .int .u64 (b : Int) ∧ a < Mx.B ∧ b < Mx.B ∧ Nat.gcd a b = Nat.gcd x y ∧ wr = w.drewN m) (fun _ yv _ => (intOf yv).toNat)
  case atStart => exact ⟨x, y, 0, rfl, rfl, HB.out.1, HB.out.2, rfl, rfl⟩
  case round =>
    obtain ⟨a, b, m, rfl, rfl, ha, hb, hg, rfl⟩ := hrel
    by_cases h0 : b = 0
    · subst h0
      rw [Nat.gcd_zero_right] at hg
      have HG := Lib.hid hg
      clear hg ha hb
      go_wp2
      go_ret
      exact ⟨by rw [← HG.out]; rfl, m, rfl⟩
    · have hb0 : ((b : Int) != 0) = true := by simp; omega
      have hb1 : ¬ (b : Int) = 0 := by omega
      have hm : (a : Int) % (b : Int) = ((a % b : Nat) : Int) := (Int.natCast_emod a b).symm
      have HL := Lib.hid (And.intro (Nat.mod_lt a (by omega : 0 < b)) (And.intro ha (And.intro hb hg)))
      have HM := Lib.hid hm
      clear hm ha hb hg
      go_wp2
      go_quiet (fail)
      rw [HM.out]
      go_wp2
      go_roundw
      case rel => 
        obtain ⟨h1, h2, h3, h4⟩ := HL.out
        exact ⟨b, a % b, _, rfl, rfl, h3, by omega, by rw [← h4, Nat.gcd_comm a b, Nat.gcd_rec b a, Nat.gcd_comm], World.drewN_drewN _ _ _⟩
      case measure => simp [intOf]; exact HL.out.1
end Go.Proofs.Ytfeijnbmaehniaa
