/- Fractions: what a Frac is, of the program's and of the reference's; their parts; the plain mathematics of their sums and products. -/
import Derived.Test.YtpjmfbiihhbjhaaGreatDoorWhZ
namespace Go.Proofs.YtpjmfbiihhbjhaaGreatDoor
open Go.RowKit

/-- The two numbers of a value of type frac.Frac: z above, n below, of k limbs each at most. -/
def IsF (w : World) (v : Value) (z : Int) (n k : Nat) : Prop := ∃ A l c A' l' c', v = .agg #[.slice A l c, .bool (decide (z < 0)), .slice A' l' c'] ∧ IsN w (.agg #[.slice A l c]) z.natAbs k ∧ IsN w (.agg #[.slice A' l' c']) n k
theorem IsF.weak {w : World} {v : Value} {z : Int} {n k j : Nat} (h : IsF w v z n k) (hk : k ≤ j) : IsF w v z n j := by
  obtain ⟨A, l, c, A', l', c', e, h1, h2⟩ := h
  exact ⟨A, l, c, A', l', c', e, h1.weak hk, h2.weak hk⟩
/-- The zero Frac has 0 below. -/
def okDen (q : Rat) (n : Nat) : Prop := n = q.den ∨ (n = 0 ∧ q = 0)
/-- A value of type frac.Frac: the fraction q. -/
def IsQ (w : World) (v : Value) (q : Rat) (k : Nat) : Prop := 1 ≤ k ∧ ∃ n, IsF w v q.num n k ∧ okDen q n
theorem IsQ.weak {w : World} {v : Value} {q : Rat} {k j : Nat} (h : IsQ w v q k) (hk : k ≤ j) : IsQ w v q j := ⟨Nat.le_trans h.1 hk, by
  obtain ⟨_, n, h1, h2⟩ := h
  exact ⟨n, h1.weak hk, h2⟩⟩
theorem IsQ.eq {w : World} {v : Value} {q r : Rat} {k : Nat} (h : IsQ w v q k) (e : q = r) : IsQ w v r k := e ▸ h
theorem IsF.q {w : World} {v : Value} {z : Int} {n k : Nat} {q : Rat} (h : IsF w v z n k) (hk : 1 ≤ k) (hz : z = q.num) (hn : n = q.den) : IsQ w v q k := by
  subst hz hn
  exact ⟨hk, _, h, .inl rfl⟩
/-- A value of the reference's type Frac: the fraction q. -/
def IsR (w : World) (v : Value) (q : Rat) (k : Nat) : Prop := ∃ A l c A' l' c', v = .agg #[.slice A l c, .bool (decide (q.num < 0)), .slice A' l' c'] ∧ IsD w (.slice A l c) q.num.natAbs k ∧ IsD w (.slice A' l' c') q.den k
theorem IsR.weak {w : World} {v : Value} {q : Rat} {k j : Nat} (h : IsR w v q k) (hk : k ≤ j) : IsR w v q j := by
  obtain ⟨A, l, c, A', l', c', e, h1, h2⟩ := h
  exact ⟨A, l, c, A', l', c', e, h1.weak' hk, h2.weak' hk⟩
theorem IsR.eq {w : World} {v : Value} {q r : Rat} {k : Nat} (h : IsR w v q k) (e : q = r) : IsR w v r k := e ▸ h

namespace Z
open Go.Proofs.YtpjmfbiihhbjhaaGreatDoor.Rg
abbrev isF (z : Int) (n k : Nat) : Pr := fun w v => IsF w v z n k
abbrev isQ (q : Rat) (k : Nat) : Pr := fun w v => IsQ w v q k
abbrev isR (q : Rat) (k : Nat) : Pr := fun w v => IsR w v q k
theorem stb_F (z : Int) (n k : Nat) : Stb soft (isF z n k) := fun _ _ _ ⟨A, l, c, A', l', c', e, h1, h2⟩ g => ⟨A, l, c, A', l', c', e, stb_N _ _ _ _ _ h1 g, stb_N _ _ _ _ _ h2 g⟩
theorem stb_Q (q : Rat) (k : Nat) : Stb soft (isQ q k) := fun _ _ _ ⟨hk, n, h1, h2⟩ g => ⟨hk, n, stb_F _ _ _ _ _ _ h1 g, h2⟩
theorem stb_R (q : Rat) (k : Nat) : Stb soft (isR q k) := fun _ _ _ ⟨A, l, c, A', l', c', e, h1, h2⟩ g => ⟨A, l, c, A', l', c', e, stb_D _ _ _ _ _ h1 g, stb_D _ _ _ _ _ h2 g⟩
theorem aggF : aggB Tryz.prog 30 = true := by kernel_rfl
theorem sizeF : (Tryz.prog.info? 30).map (·.size) = some 3 := by kernel_rfl
theorem shF {z : Int} {n k : Nat} : ∀ w v, isF z n k w v → ∃ cs, v = .agg cs ∧ Fits soft Tryz.prog 30 cs := fun _ _ ⟨_, _, _, _, _, _, e, _⟩ => ⟨_, e, aggF, sizeF, by simp [Value.oneCell'], by simp [soft, softV, isBv]⟩
theorem shQ {q : Rat} {k : Nat} : ∀ w v, isQ q k w v → ∃ cs, v = .agg cs ∧ Fits soft Tryz.prog 30 cs := fun w v ⟨_, _, h, _⟩ => shF w v h
theorem fldFW {z : Int} {n k : Nat} : ∀ w cs, isF z n k w (.agg cs) → isW z k w (.agg (cs.extract 0 (0 + 2))) := fun w cs ⟨A, l, c, A', l', c', e, h1, _⟩ => by
  injection e with e
  subst e
  exact ⟨A, l, c, rfl, h1⟩
theorem fldFN {z : Int} {n k : Nat} : ∀ w cs, isF z n k w (.agg cs) → isN n k w (.agg (cs.extract 2 (2 + 1))) := fun w cs ⟨A, l, c, A', l', c', e, _, h2⟩ => by
  injection e with e
  subst e
  exact h2
theorem fldQW {q : Rat} {k : Nat} : ∀ w cs, isQ q k w (.agg cs) → isW q.num k w (.agg (cs.extract 0 (0 + 2))) := fun w cs ⟨_, _, h, _⟩ => fldFW w cs h
abbrev kF (z : Int) (n k : Nat) : Kd Tryz.prog := .at (isF z n k) (stb_F z n k) 30 shF
abbrev kQ (q : Rat) (k : Nat) : Kd Tryz.prog := .at (isQ q k) (stb_Q q k) 30 shQ
theorem IsF.mk {w : World} {u v : Value} {z : Int} {n k j m : Nat} (hu : IsW w u z k) (hv : IsN w v n j) (hk : k ≤ m) (hj : j ≤ m) : ∃ A l c A' l' c', u = .agg #[.slice A l c, .bool (decide (z < 0))] ∧ v = .agg #[.slice A' l' c'] ∧ IsF w (.agg #[.slice A l c, .bool (decide (z < 0)), .slice A' l' c']) z n m := by
  obtain ⟨A, l, c, rfl, h1⟩ := hu
  obtain ⟨A', l', c', e⟩ := hv.cell
  subst e
  exact ⟨A, l, c, A', l', c', rfl, rfl, A, l, c, A', l', c', rfl, h1.weak hk, hv.weak hj⟩
section
variable {ops : Array Oper} {Q : Exit → Act → World → Prop} {F : Facts} {G : List Vr} {D : List (Nat × Pr)} {V : VS} {kf0 : Nat → Nat} {i d : Nat}
theorem buildF {x y n k j m : Nat} {z : Int} (hx : Arg soft Tryz.prog ops F G D V kf0 i (.tmp x) (isW z k)) (hy : Arg soft Tryz.prog ops F G D V kf0 i (.tmp y) (isN n j)) (hk : k ≤ m) (hj : j ≤ m) (hF : ∀ w v, isF z n m w v → F d w v) : Owes soft Tryz.prog ops Q F G D V kf0 i (some d) (.build 30 #[(0, .tmp x), (1, .tmp y)]) :=
  val (fun o a w ho c => by
    obtain ⟨A, l, c, A', l', c', e1, e2, h⟩ := IsF.mk (hx a w c) (hy a w c) hk hj
    refine ⟨_, ?_, hF _ _ h⟩
    simp only [Act.eval, Array.getD_eq_getD_getElem?] at e1 e2
    simp [execOp, ho, go_sem, Act.eval, e1, e2]) rfl
theorem buildF0 (hF : ∀ w v, isF 0 0 1 w v → F d w v) : Owes soft Tryz.prog ops Q F G D V kf0 i (some d) (.build 30 #[]) :=
  val (fun o a w ho c => by
    have h0 := (IsN.zero w).weak (Nat.zero_le 1)
    refine ⟨.agg #[.slice none 0 0, .bool false, .slice none 0 0], ?_, hF _ _ ⟨none, 0, 0, none, 0, 0, rfl, h0, h0⟩⟩
    simp [execOp, ho, go_sem]) rfl
end
end Z

/-! ### Plain mathematics -/
theorem rat_num_of {n : Int} {d : Nat} (hd : d ≠ 0) (q : Rat) (h : q = mkRat n d) : q.num = n / (n.natAbs.gcd d : Nat) ∧ q.den = d / n.natAbs.gcd d := by
  subst h
  rw [Rat.num_mkRat, Rat.den_mkRat, if_neg hd, if_neg hd, Nat.gcd_comm]
  exact ⟨rfl, rfl⟩
/-- A whole number divided by a divisor of it, by its size and sign. -/
theorem signed_div {z : Int} {g : Nat} (h : g ∣ z.natAbs) : signed (z.natAbs / g) (decide (Int.sign z < 0)) = z / (g : Int) := by
  have hs : Int.sign z < 0 ↔ z < 0 := by rw [Int.sign_neg_iff]
  obtain ⟨c, hc⟩ := h
  rcases Nat.eq_zero_or_pos g with rfl | hg
  · have : z = 0 := by omega
    subst this
    simp [signed]
  · rw [hc, Nat.mul_div_cancel_left _ hg]
    by_cases hz : z < 0
    · rw [decide_eq_true (hs.2 hz)]
      have : z = (g : Int) * (-(c : Int)) := by
        have : (z.natAbs : Int) = (g : Int) * c := by rw [hc]; simp
        rw [Int.mul_neg]
        omega
      rw [this, Int.mul_ediv_cancel_left _ (by omega)]
      simp [signed]
    · rw [decide_eq_false (fun h => hz (hs.1 h))]
      have : z = (g : Int) * (c : Int) := by
        have : (z.natAbs : Int) = (g : Int) * c := by rw [hc]; simp
        omega
      rw [this, Int.mul_ediv_cancel_left _ (by omega)]
      simp [signed]
/-- What cancel answers. -/
theorem cancel_rat {z : Int} {n : Nat} (hn : n ≠ 0) : z / (z.natAbs.gcd n : Nat) = (mkRat z n).num ∧ n / z.natAbs.gcd n = (mkRat z n).den := by
  obtain ⟨h1, h2⟩ := rat_num_of hn (mkRat z n) rfl
  exact ⟨h1.symm, h2.symm⟩
/-- What Add answers. -/
theorem add_rat (a b : Rat) {g g1 : Nat} {t : Int} (hg : g = a.den.gcd b.den) (ht : t = a.num * (b.den / g : Nat) + b.num * (a.den / g : Nat)) (hg1 : g1 = t.natAbs.gcd g) : t / (g1 : Int) = (a + b).num ∧ (a.den / g) * (b.den / g) * (g / g1) = (a + b).den := by
  have hgp : 0 < g := hg ▸ Nat.gcd_pos_of_pos_left _ a.den_pos
  have ha : g ∣ a.den := hg ▸ Nat.gcd_dvd_left _ _
  have hb : g ∣ b.den := hg ▸ Nat.gcd_dvd_right _ _
  have hx := Rat.add.aux a b hg rfl rfl
  simp only at hx
  rw [← ht, ← hg1] at hx
  have hden : (a.den / g) * b.den ≠ 0 := Nat.ne_of_gt (Nat.mul_pos (Nat.div_pos (Nat.le_of_dvd a.den_pos ha) hgp) b.den_pos)
  have e : a + b = mkRat t ((a.den / g) * b.den) := by
    rw [Rat.add_def', ht]
    have h1 : a.num * b.den + b.num * a.den = (a.num * (b.den / g : Nat) + b.num * (a.den / g : Nat)) * (g : Nat) := by
      have hb' : (b.den : Int) = (b.den / g : Nat) * (g : Int) := by rw [← Int.natCast_mul, Nat.div_mul_cancel hb]
      have ha' : (a.den : Int) = (a.den / g : Nat) * (g : Int) := by rw [← Int.natCast_mul, Nat.div_mul_cancel ha]
      rw [Int.add_mul, Int.mul_assoc, Int.mul_assoc, ← hb', ← ha']
    have h2 : a.den * b.den = (a.den / g) * b.den * g := by
      rw [Nat.mul_right_comm, Nat.div_mul_cancel ha]
    rw [h1, h2, Rat.mkRat_mul_right (by omega)]
  obtain ⟨h1, h2⟩ := rat_num_of hden _ e
  rw [← hx] at h1 h2
  refine ⟨h1.symm, ?_⟩
  rw [h2]
  have hd1 : g1 ∣ g := hg1 ▸ Nat.gcd_dvd_right _ _
  obtain ⟨c, hc⟩ := hd1
  have hg1p : 0 < g1 := Nat.pos_of_ne_zero fun e => by rw [e] at hc; omega
  have hbe : b.den = b.den / g * g := (Nat.div_mul_cancel hb).symm
  rw [show g / g1 = c by rw [hc, Nat.mul_div_cancel_left _ hg1p]]
  have : a.den / g * b.den = g1 * (a.den / g * (b.den / g) * c) := by
    rw [show a.den / g * b.den = a.den / g * (b.den / g * g) by rw [← hbe], show b.den / g * g = b.den / g * (g1 * c) by rw [← hc]]
    rw [Nat.mul_comm g1 (a.den / g * (b.den / g) * c), Nat.mul_assoc (a.den / g * (b.den / g)) c g1, Nat.mul_comm c g1, Nat.mul_assoc (a.den / g)]
  rw [this, Nat.mul_div_cancel_left _ hg1p]
/-- What Mul answers. -/
theorem mul_rat (a b : Rat) : (a.num / (a.num.natAbs.gcd b.den : Nat)) * (b.num / (b.num.natAbs.gcd a.den : Nat)) = (a * b).num ∧ (a.den / b.num.natAbs.gcd a.den) * (b.den / a.num.natAbs.gcd b.den) = (a * b).den := by
  have h : a * b = Rat.mul a b := rfl
  rw [h]
  unfold Rat.mul
  constructor <;> simp [Int.divExact_eq_ediv, Nat.divExact_eq_div]
theorem den_add_dvd (a b : Rat) : (a + b).den ≤ a.den * b.den := by
  rw [Rat.add_def', Rat.den_mkRat]
  split
  · next h => exact absurd h (Nat.ne_of_gt (Nat.mul_pos a.den_pos b.den_pos))
  · exact Nat.div_le_self _ _
end Go.Proofs.YtpjmfbiihhbjhaaGreatDoor
namespace Go.Proofs.YtpjmfbiihhbjhaaGreatDoor
open Go.RowKit
/-! ### How long the numbers are; the order; the floor; texts -/
theorem IsQ.num_len {w : World} {v : Value} {q : Rat} {k : Nat} (h : IsQ w v q k) : Mx.len q.num.natAbs ≤ k := by
  obtain ⟨_, n, ⟨_, _, _, _, _, _, _, h1, _⟩, _⟩ := h
  exact h1.2
theorem IsQ.den_len {w : World} {v : Value} {q : Rat} {k : Nat} (h : IsQ w v q k) : Mx.len q.den ≤ k := by
  obtain ⟨hk, n, ⟨_, _, _, _, _, _, _, _, h2⟩, h3⟩ := h
  rcases h3 with rfl | ⟨_, rfl⟩
  · exact h2.2
  · have : Mx.len 1 = 1 := by decide
    have e : (0 : Rat).den = 1 := rfl
    rw [e, this]; exact hk
theorem IsF.re {w : World} {v : Value} {z : Int} {n m k : Nat} (h : IsF w v z n m) (h1 : Mx.len z.natAbs ≤ k) (h2 : Mx.len n ≤ k) : IsF w v z n k := by
  obtain ⟨A, l, c, A', l', c', e, g1, g2⟩ := h
  exact ⟨A, l, c, A', l', c', e, ⟨g1.1, h1⟩, ⟨g2.1, h2⟩⟩
theorem num_add_len {a b : Rat} {k j : Nat} (h1 : Mx.len a.num.natAbs ≤ k) (h2 : Mx.len a.den ≤ k) (h3 : Mx.len b.num.natAbs ≤ j) (h4 : Mx.len b.den ≤ j) : Mx.len (a + b).num.natAbs ≤ k + j + 1 := by
  have e : (a + b).num.natAbs ≤ a.num.natAbs * b.den + b.num.natAbs * a.den := by
    rw [Rat.add_def', Rat.num_mkRat, if_neg (Nat.ne_of_gt (Nat.mul_pos a.den_pos b.den_pos))]
    refine Nat.le_trans (m := (a.num * b.den + b.num * a.den).natAbs) ?_ ?_
    · generalize a.num * b.den + b.num * a.den = t
      rw [Int.natAbs_ediv_of_dvd (by rw [← Int.dvd_natAbs, Int.ofNat_dvd]; exact Nat.gcd_dvd_right _ _)]
      exact Nat.div_le_self _ _
    · refine Nat.le_trans (Int.natAbs_add_le _ _) ?_
      rw [Int.natAbs_mul, Int.natAbs_mul]
      simp
  refine Nat.le_trans (Mx.len_mono e) (Nat.le_trans (Mx.len_add _ _) ?_)
  have l1 := Mx.len_mul a.num.natAbs b.den
  have l2 := Mx.len_mul b.num.natAbs a.den
  omega
theorem den_add_len {a b : Rat} {k j : Nat} (h2 : Mx.len a.den ≤ k) (h4 : Mx.len b.den ≤ j) : Mx.len (a + b).den ≤ k + j + 1 := by
  refine Nat.le_trans (Mx.len_mono (den_add_dvd a b)) (Nat.le_trans (Mx.len_mul _ _) ?_)
  omega
theorem IsF.sum {w : World} {v : Value} {z : Int} {n m k j : Nat} {a b : Rat} (h : IsF w v z n m) (e : z = (a + b).num ∧ n = (a + b).den) (h1 : Mx.len a.num.natAbs ≤ k) (h2 : Mx.len a.den ≤ k) (h3 : Mx.len b.num.natAbs ≤ j) (h4 : Mx.len b.den ≤ j) : IsQ w v (a + b) (k + j + 1) := by
  obtain ⟨rfl, rfl⟩ := e
  exact ⟨by omega, _, h.re (num_add_len h1 h2 h3 h4) (den_add_len h2 h4), .inl rfl⟩
/-- The order as Cmp tells it. -/
def cmpQ (x y : Rat) : Int := Int.sign (x.num * (y.den : Nat) - y.num * (x.den : Nat))
theorem cmpQ_lt {x y : Rat} : cmpQ x y = -1 ↔ x < y := by
  unfold cmpQ
  rw [Int.sign_eq_neg_one_iff_neg, Rat.lt_iff]
  omega
theorem cmpQ_gt {x y : Rat} : cmpQ x y = 1 ↔ y < x := by
  unfold cmpQ
  rw [Int.sign_eq_one_iff_pos, Rat.lt_iff]
  omega
theorem cmpQ_eq {x y : Rat} : cmpQ x y = 0 ↔ x = y := by
  unfold cmpQ
  rw [Int.sign_eq_zero_iff_zero, Rat.eq_iff_mul_eq_mul]
  omega
theorem cmpQ_cases (x y : Rat) : (cmpQ x y = -1 ∧ x < y) ∨ (cmpQ x y = 0 ∧ x = y) ∨ (cmpQ x y = 1 ∧ y < x) := by
  rcases Rat.le_total (a := x) (b := y) with h | h
  · rcases Rat.le_iff_lt_or_eq.1 h with h | h
    · exact .inl ⟨cmpQ_lt.2 h, h⟩
    · exact .inr (.inl ⟨cmpQ_eq.2 h, h⟩)
  · rcases Rat.le_iff_lt_or_eq.1 h with h | h
    · exact .inr (.inr ⟨cmpQ_gt.2 h, h⟩)
    · exact .inr (.inl ⟨cmpQ_eq.2 h.symm, h.symm⟩)
theorem sgn_cmpQ (x : Rat) : x.num.sign = cmpQ x 0 := by
  unfold cmpQ
  simp
/-- A fraction's text. -/
def qtext (q : Rat) : List UInt8 := if q.den = 1 then ztext q.num else ztext q.num ++ [47] ++ Tx.text q.den
theorem floor_zdiv (q : Rat) : zdiv q.num (signed q.den false) = q.floor := by
  have h : (0 : Int) < (q.den : Int) := by have := q.den_pos; omega
  unfold zdiv
  simp only [signed, Bool.false_eq_true, if_false, if_pos h]
  rw [Rat.floor_def]
theorem inv_num {y : Rat} (hy : y ≠ 0) : signed y.den (decide (Int.sign y.num < 0)) = (y⁻¹).num := by
  rw [Rat.num_inv]
  by_cases h : y.num < 0
  · rw [decide_eq_true (by rw [Int.sign_eq_neg_one_of_neg h]; decide), Int.sign_eq_neg_one_of_neg h]
    simp [signed]
  · have h0 : y.num ≠ 0 := fun e => hy (Rat.num_eq_zero.1 e)
    have hp : 0 < y.num := by omega
    rw [decide_eq_false (by rw [Int.sign_eq_one_of_pos hp]; decide), Int.sign_eq_one_of_pos hp]
    simp [signed]
theorem inv_den {y : Rat} (hy : y ≠ 0) : y.num.natAbs = (y⁻¹).den := by
  rw [Rat.den_inv, if_neg fun e => hy (Rat.num_eq_zero.1 e)]
theorem IsF.q0 {w : World} {v : Value} (h : IsF w v 0 0 1) : IsQ w v 0 1 := ⟨Nat.le_refl _, 0, h, .inr ⟨rfl, rfl⟩⟩
theorem of_rat_pos {z n : Int} (hn : 0 < n) : z / (Nat.gcd z.natAbs n.natAbs : Nat) = (z / (n : Rat)).num ∧ n.natAbs / Nat.gcd z.natAbs n.natAbs = (z / (n : Rat)).den := by
  have e : (z / (n : Rat)) = mkRat z n.natAbs := by
    rw [Rat.mkRat_eq_div]
    congr 1
    rw [← Rat.intCast_natCast]
    congr 1
    omega
  rw [e]
  exact cancel_rat (by omega)
theorem of_rat_neg {z n : Int} (hn : n < 0) : -z / (Nat.gcd (-z).natAbs n.natAbs : Nat) = (z / (n : Rat)).num ∧ n.natAbs / Nat.gcd (-z).natAbs n.natAbs = (z / (n : Rat)).den := by
  have e : (z / (n : Rat)) = mkRat (-z) n.natAbs := by
    obtain ⟨m, rfl⟩ : ∃ m : Nat, n = -(m : Int) := ⟨n.natAbs, by omega⟩
    rw [← Rat.divInt_eq_div, Rat.divInt_neg', Rat.divInt_ofNat]
    simp
  rw [e]
  exact cancel_rat (by omega)
theorem IsF.of {w : World} {v : Value} {z : Int} {n m k : Nat} {q : Rat} (h : IsF w v z n m) (hk : m + 1 ≤ k) (e : z = q.num ∧ n = q.den) : IsQ w v q k := (h.weak (by omega)).q (by omega) e.1 e.2
theorem cmp_zero {n m : Nat} (h : n ≠ m) : decide ((Mx.cmp n m : Int) = 0) = false := by
  rcases Nat.lt_or_gt_of_ne h with h | h
  · rw [Mx.cmp_lt h]; rfl
  · rw [Mx.cmp_gt h]; rfl
theorem sign_zero {q : Rat} : decide ((Int.sign q.num : Int) = 0) = decide (q = 0) := by
  simp [Int.sign_eq_zero_iff_zero, Rat.num_eq_zero]
theorem ztext_len {z : Int} {k : Nat} (h : Mx.len z.natAbs ≤ k) : (ztext z).length ≤ 64 * k + 2 := by
  have h1 := digs_lenW h
  unfold ztext
  split <;> simp [Tx.text_length] <;> omega
theorem text_len {n k : Nat} (h : Mx.len n ≤ k) : (Tx.text n).length ≤ 64 * k + 1 := by
  have h1 := digs_lenW h
  simp [Tx.text_length]; omega
end Go.Proofs.YtpjmfbiihhbjhaaGreatDoor
