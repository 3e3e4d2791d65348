/- One text out of: GcdMath, QuoK, QuoL, QuoM, QuoO, QuoP, QuoQ. -/
import Derived.Test.YtmklkjjnkejakaaDoorBQuo
/- Plain mathematics: steps of Euclid foreseen from two numbers' first bits. -/
namespace Go.Proofs.YtmklkjjnkejakaaDoor.Mx

/-- How far two numbers are apart. -/
def far (p q : Nat) : Nat := if p < q then q - p else p - q

/-- From x0 and y0 steps of Euclid have led to x and y, and their coefficients are these; each step was sure. -/
structure Fore (x0 y0 x y a1 b1 a2 b2 : Nat) : Prop where
  ex : x0 = b2 * x + b1 * y
  ey : y0 = a2 * x + a1 * y
  det : a1 * b2 = a2 * b1 + 1 ∨ a2 * b1 = a1 * b2 + 1
  le2 : a2 ≤ b2
  le12 : a1 + a2 ≤ b1 + b2
  pos : 1 ≤ b2
  xy : y ≤ x
  sure : (a1 = 1 ∧ b1 = 0 ∧ a2 = 0 ∧ b2 = 1) ∨ (1 ≤ a2 ∧ b2 ≤ y ∧ b1 + b2 + y ≤ x)

theorem Fore.start {x0 y0 : Nat} (h : y0 ≤ x0) : Fore x0 y0 x0 y0 1 0 0 1 := ⟨by omega, by omega, .inl (by omega), by omega, by omega, by omega, h, .inl ⟨rfl, rfl, rfl, rfl⟩⟩

theorem Fore.fits {x0 y0 x y a1 b1 a2 b2 : Nat} (h : Fore x0 y0 x y a1 b1 a2 b2) : (b1 + x / y * b2) * y ≤ x0 ∧ (a1 + x / y * a2) * y ≤ y0 := by
  have e := Nat.div_add_mod x y
  have h1 := h.ex
  have h2 := h.ey
  generalize x / y = t at *
  generalize x % y = r at *
  have e1 : x0 = (b1 + t * b2) * y + b2 * r := by rw [h1, ← e]; grind
  have e2 : y0 = (a1 + t * a2) * y + a2 * r := by rw [h2, ← e]; grind
  exact ⟨by omega, by omega⟩

theorem Fore.le_next {x0 y0 x y a1 b1 a2 b2 : Nat} (h : Fore x0 y0 x y a1 b1 a2 b2) (hy : y ≠ 0) : b2 ≤ b1 + x / y * b2 ∧ a2 ≤ a1 + x / y * a2 := by
  have ht : 1 ≤ x / y := (Nat.one_le_div_iff (by omega)).2 h.xy
  have h1 : 1 * b2 ≤ x / y * b2 := Nat.mul_le_mul_right _ ht
  have h2 : 1 * a2 ≤ x / y * a2 := Nat.mul_le_mul_right _ ht
  omega

theorem Fore.next {x0 y0 x y a1 b1 a2 b2 : Nat} (h : Fore x0 y0 x y a1 b1 a2 b2) (hy : y ≠ 0) (h1 : b1 + x / y * b2 ≤ x % y) (h2 : b2 + (b1 + x / y * b2) ≤ y - x % y) :
    Fore x0 y0 y (x % y) a2 b2 (a1 + x / y * a2) (b1 + x / y * b2) := by
  have e := Nat.div_add_mod x y
  have ht : 1 ≤ x / y := (Nat.one_le_div_iff (by omega)).2 h.xy
  have hl := h.le_next hy
  have hlt : x % y < y := Nat.mod_lt x (by omega)
  obtain ⟨k1, k2, k3, k4, k5, k6, k7, k8⟩ := h
  generalize x / y = t at *
  generalize x % y = r at *
  obtain ⟨s, rfl⟩ : ∃ s, t = s + 1 := ⟨t - 1, by omega⟩
  have hs : s * a2 ≤ s * b2 := Nat.mul_le_mul_left s k4
  have e3 : (s + 1) * a2 = s * a2 + a2 := by grind
  have e4 : (s + 1) * b2 = s * b2 + b2 := by grind
  refine ⟨by rw [k1, ← e]; grind, by rw [k2, ← e]; grind, ?_, by omega, by omega, by omega, by omega, .inr ⟨?_, by omega, by omega⟩⟩
  · rcases k3 with k | k
    · right; grind
    · left; grind
  · rcases k8 with ⟨r1, _, _, _⟩ | ⟨r1, _, _⟩ <;> omega

theorem Fore.sum {x0 y0 x y a1 b1 a2 b2 : Nat} (h : Fore x0 y0 x y a1 b1 a2 b2) (hy : y ≠ 0) (h1 : b1 + x / y * b2 ≤ x % y) : b2 + (b1 + x / y * b2) ≤ x0 := by
  have hl := (h.le_next hy).1
  have hf := (h.fits).1
  have hp := h.pos
  have hlt : x % y < y := Nat.mod_lt x (by omega)
  have h2 : (b1 + x / y * b2) * 2 ≤ (b1 + x / y * b2) * y := Nat.mul_le_mul_left _ (by omega)
  omega

theorem far_of {p q d : Nat} (h : p = q + d) : far p q = d := by unfold far; rw [if_neg (by omega)]; omega
theorem far_of' {p q d : Nat} (h : q = p + d) : far p q = d := by
  unfold far
  split <;> omega

theorem gcd_lin {a b A B a1 b1 a2 b2 : Nat} (ea : a = b2 * A + b1 * B) (eb : b = a2 * A + a1 * B) (hA : Nat.gcd a b ∣ A) (hB : Nat.gcd a b ∣ B) : Nat.gcd A B = Nat.gcd a b := by
  apply Nat.dvd_antisymm
  · apply Nat.dvd_gcd
    · rw [ea]; exact Nat.dvd_add (Nat.dvd_trans (Nat.gcd_dvd_left A B) (Nat.dvd_mul_left A b2)) (Nat.dvd_trans (Nat.gcd_dvd_right A B) (Nat.dvd_mul_left B b1))
    · rw [eb]; exact Nat.dvd_add (Nat.dvd_trans (Nat.gcd_dvd_left A B) (Nat.dvd_mul_left A a2)) (Nat.dvd_trans (Nat.gcd_dvd_right A B) (Nat.dvd_mul_left B a1))
  · exact Nat.dvd_gcd hA hB

/-- So the steps hold of all longer numbers that begin with x0 and y0. -/
theorem Fore.less {x0 y0 x y a1 b1 a2 b2 a b T ea eb : Nat} (h : Fore x0 y0 x y a1 b1 a2 b2) (h2 : a2 ≠ 0) (ha : a = x0 * T + ea) (hea : ea < T) (hb : b = y0 * T + eb) (heb : eb < T) :
    far (a2 * a) (b2 * b) ≤ far (a1 * a) (b1 * b) ∧ far (a1 * a) (b1 * b) ≤ a ∧ far (a2 * a) (b2 * b) < b ∧ Nat.gcd (far (a1 * a) (b1 * b)) (far (a2 * a) (b2 * b)) = Nat.gcd a b := by
  obtain ⟨k1, k2, k3, k4, k5, k6, k7, k8⟩ := h
  obtain ⟨m1, m2, m3⟩ : 1 ≤ a2 ∧ b2 ≤ y ∧ b1 + b2 + y ≤ x := by
    rcases k8 with ⟨_, _, h, _⟩ | h
    · exact absurd h h2
    · exact h
  have p1 : b1 * eb ≤ b1 * T := Nat.mul_le_mul_left _ (by omega)
  have p2 : b2 * eb < b2 * T := Nat.mul_lt_mul_of_pos_left heb (by omega)
  have q2 : a2 * ea ≤ b2 * T := Nat.mul_le_mul k4 (by omega)
  have q12 : (a1 + a2) * ea < (a1 + a2) * T := Nat.mul_lt_mul_of_pos_left hea (by omega)
  have q12' : (a1 + a2) * T ≤ (b1 + b2) * T := Nat.mul_le_mul_right _ k5
  have yT : b2 * T ≤ y * T := Nat.mul_le_mul_right _ m2
  have xT : (b1 + b2 + y) * T ≤ x * T := Nat.mul_le_mul_right _ m3
  rw [Nat.add_mul, Nat.add_mul] at xT
  rw [Nat.add_mul] at q12
  rw [Nat.add_mul (b1) b2] at q12'
  have key : ∀ A B, B < A → (a1 * a = b1 * b + A ∧ b2 * b = a2 * a + B ∧ a1 * b2 = a2 * b1 + 1) ∨ (b1 * b = a1 * a + A ∧ a2 * a = b2 * b + B ∧ a2 * b1 = a1 * b2 + 1) →
      B ≤ A ∧ A ≤ a ∧ B < b ∧ Nat.gcd A B = Nat.gcd a b ∧ far (a1 * a) (b1 * b) = A ∧ far (a2 * a) (b2 * b) = B := by
    intro A B hBA hc
    have ga : Nat.gcd a b ∣ a := Nat.gcd_dvd_left a b
    have gb : Nat.gcd a b ∣ b := Nat.gcd_dvd_right a b
    have da : ∀ c, Nat.gcd a b ∣ c * a := fun c => Nat.dvd_trans ga (Nat.dvd_mul_left a c)
    have db : ∀ c, Nat.gcd a b ∣ c * b := fun c => Nat.dvd_trans gb (Nat.dvd_mul_left b c)
    have e1 : a = b2 * A + b1 * B := by rcases hc with ⟨c1, c2, c3⟩ | ⟨c1, c2, c3⟩ <;> (clear k1 k2 k3 p1 p2 q2 q12 q12' yT xT ha hb; grind)
    have e2 : b = a2 * A + a1 * B := by rcases hc with ⟨c1, c2, c3⟩ | ⟨c1, c2, c3⟩ <;> (clear k1 k2 k3 p1 p2 q2 q12 q12' yT xT ha hb; grind)
    have l1 : 1 * A ≤ b2 * A := Nat.mul_le_mul_right _ k6
    have l2 : 1 * A ≤ a2 * A := Nat.mul_le_mul_right _ m1
    have hA : Nat.gcd a b ∣ A := by
      rcases hc with ⟨c1, _, _⟩ | ⟨c1, _, _⟩
      · exact (Nat.dvd_add_right (db b1)).1 (c1 ▸ da a1)
      · exact (Nat.dvd_add_right (da a1)).1 (c1 ▸ db b1)
    have hB : Nat.gcd a b ∣ B := by
      rcases hc with ⟨_, c1, _⟩ | ⟨_, c1, _⟩
      · exact (Nat.dvd_add_right (da a2)).1 (c1 ▸ db b2)
      · exact (Nat.dvd_add_right (db b2)).1 (c1 ▸ da a2)
    refine ⟨by omega, by omega, by omega, gcd_lin e1 e2 hA hB, ?_, ?_⟩
    · rcases hc with ⟨c1, _, _⟩ | ⟨c1, _, _⟩
      · exact far_of c1
      · exact far_of' c1
    · rcases hc with ⟨_, c1, _⟩ | ⟨_, c1, _⟩
      · exact far_of' c1
      · exact far_of c1
  rcases k3 with k | k
  · have f1 : a1 * x0 = b1 * y0 + x := by rw [k1, k2]; clear p1 p2 q2 q12 q12' yT xT key; grind
    have f2 : b2 * y0 = a2 * x0 + y := by rw [k1, k2]; clear p1 p2 q2 q12 q12' yT xT key; grind
    have EA : a1 * a + b1 * eb = b1 * b + x * T + a1 * ea := by rw [ha, hb]; clear p1 p2 q2 q12 q12' yT xT key k1 k2 k; grind
    have EB : b2 * b + a2 * ea = a2 * a + y * T + b2 * eb := by rw [ha, hb]; clear p1 p2 q2 q12 q12' yT xT key k1 k2 k; grind
    obtain ⟨r1, r2, r3, r4, r5, r6⟩ := key (x * T + a1 * ea - b1 * eb) (y * T + b2 * eb - a2 * ea) (by omega) (.inl ⟨by omega, by omega, k⟩)
    rw [r5, r6]
    exact ⟨r1, r2, r3, r4⟩
  · have f1 : b1 * y0 = a1 * x0 + x := by rw [k1, k2]; clear p1 p2 q2 q12 q12' yT xT key; grind
    have f2 : a2 * x0 = b2 * y0 + y := by rw [k1, k2]; clear p1 p2 q2 q12 q12' yT xT key; grind
    have EA : b1 * b + a1 * ea = a1 * a + x * T + b1 * eb := by rw [ha, hb]; clear p1 p2 q2 q12 q12' yT xT key k1 k2 k; grind
    have EB : a2 * a + b2 * eb = b2 * b + y * T + a2 * ea := by rw [ha, hb]; clear p1 p2 q2 q12 q12' yT xT key k1 k2 k; grind
    obtain ⟨r1, r2, r3, r4, r5, r6⟩ := key (x * T + b1 * eb - a1 * ea) (y * T + a2 * ea - b2 * eb) (by omega) (.inr ⟨by omega, by omega, k⟩)
    rw [r5, r6]
    exact ⟨r1, r2, r3, r4⟩
end Go.Proofs.YtmklkjjnkejakaaDoor.Mx

/- Contracts of package quot: none, foresee. -/
namespace Go.Proofs.YtmklkjjnkejakaaDoor
open Go.RowKit

theorem wrap_nat (n : Nat) (h : n < Mx.B) : IntKind.u64.wrap (n : Int) = (n : Int) := IntWalk.u64_in _ (by rw [Mx.B_eq] at h; omega)
/-- Steps as a value. -/
def stepsV (a1 b1 a2 b2 : Nat) : Value := .agg #[.int .u64 (a1 : Int), .int .u64 (b1 : Int), .int .u64 (a2 : Int), .int .u64 (b2 : Int)]

/-- A variable of steps at block k. -/
structure Stp (w : World) (k a1 b1 a2 b2 : Nat) : Prop where
  c0 : w.cell? ⟨k, 0, none⟩ = some (.int .u64 (a1 : Int))
  c1 : w.cell? ⟨k, 1, none⟩ = some (.int .u64 (b1 : Int))
  c2 : w.cell? ⟨k, 2, none⟩ = some (.int .u64 (a2 : Int))
  c3 : w.cell? ⟨k, 3, none⟩ = some (.int .u64 (b2 : Int))
  fz : ∀ i, w.frozen? ⟨k, i, none⟩ = false
theorem Stp.lt {w : World} {k a1 b1 a2 b2 : Nat} (h : Stp w k a1 b1 a2 b2) : k < w.heap.size := lt_of_cell h.c0
theorem Stp.grow {w w' : World} {k a1 b1 a2 b2 : Nat} (h : Stp w k a1 b1 a2 b2) (g : Grow w w') : Stp w' k a1 b1 a2 b2 :=
  ⟨g.cells1 h.c0, g.cells1 h.c1, g.cells1 h.c2, g.cells1 h.c3, fun i => (Below.frozen g (p := ⟨k, i, none⟩) h.lt).trans (h.fz i)⟩
theorem Stp.new (w : World) (a1 b1 a2 b2 : Nat) (t : TypeId) : Stp (w.alloc (.cells #[.int .u64 (a1 : Int), .int .u64 (b1 : Int), .int .u64 (a2 : Int), .int .u64 (b2 : Int)] t)) w.heap.size a1 b1 a2 b2 :=
  ⟨by simp [go_sem], by simp [go_sem], by simp [go_sem], by simp [go_sem], fun i => by simp [go_sem]⟩

theorem Stp.set {w : World} {k a1 b1 a2 b2 : Nat} (h : Stp w k a1 b1 a2 b2) (a b c d : Nat) :
    Stp ((((w.setCell ⟨k, 0, none⟩ (.int .u64 (a : Int))).setCell ⟨k, 1, none⟩ (.int .u64 (b : Int))).setCell ⟨k, 2, none⟩ (.int .u64 (c : Int))).setCell ⟨k, 3, none⟩ (.int .u64 (d : Int))) k a b c d := by
  obtain ⟨h0, h1, h2, h3, h4⟩ := h
  have e1 : (w.setCell ⟨k, 0, none⟩ (.int .u64 (a : Int))).cell? ⟨k, 1, none⟩ = some (.int .u64 (b1 : Int)) := by rw [World.cell?_setCell_other _ _ _ _ (by intro e; injection e with _ e; cases e)]; exact h1
  have e2 : ((w.setCell ⟨k, 0, none⟩ (.int .u64 (a : Int))).setCell ⟨k, 1, none⟩ (.int .u64 (b : Int))).cell? ⟨k, 2, none⟩ = some (.int .u64 (a2 : Int)) := by
    rw [World.cell?_setCell_other _ _ _ _ (by intro e; injection e with _ e; cases e), World.cell?_setCell_other _ _ _ _ (by intro e; injection e with _ e; cases e)]; exact h2
  have e3 : (((w.setCell ⟨k, 0, none⟩ (.int .u64 (a : Int))).setCell ⟨k, 1, none⟩ (.int .u64 (b : Int))).setCell ⟨k, 2, none⟩ (.int .u64 (c : Int))).cell? ⟨k, 3, none⟩ = some (.int .u64 (b2 : Int)) := by
    rw [World.cell?_setCell_other _ _ _ _ (by intro e; injection e with _ e; cases e), World.cell?_setCell_other _ _ _ _ (by intro e; injection e with _ e; cases e), World.cell?_setCell_other _ _ _ _ (by intro e; injection e with _ e; cases e)]; exact h3
  refine ⟨?_, ?_, ?_, by simp [go_sem, e3], fun i => by simpa using h4 i⟩
  · rw [World.cell?_setCell_other _ _ _ _ (by intro e; injection e with _ e; cases e), World.cell?_setCell_other _ _ _ _ (by intro e; injection e with _ e; cases e), World.cell?_setCell_other _ _ _ _ (by intro e; injection e with _ e; cases e)]
    simp [go_sem, h0]
  · rw [World.cell?_setCell_other _ _ _ _ (by intro e; injection e with _ e; cases e), World.cell?_setCell_other _ _ _ _ (by intro e; injection e with _ e; cases e)]
    simp [go_sem, e1]
  · rw [World.cell?_setCell_other _ _ _ _ (by intro e; injection e with _ e; cases e)]
    simp [go_sem, e2]
theorem Stp.set_other {w : World} {k j a1 b1 a2 b2 : Nat} (h : Stp w k a1 b1 a2 b2) (hj : j ≠ k) (a b c d : Nat) :
    Stp ((((w.setCell ⟨j, 0, none⟩ (.int .u64 (a : Int))).setCell ⟨j, 1, none⟩ (.int .u64 (b : Int))).setCell ⟨j, 2, none⟩ (.int .u64 (c : Int))).setCell ⟨j, 3, none⟩ (.int .u64 (d : Int))) k a1 b1 a2 b2 := by
  have key : ∀ i n, ∀ (W : World) u, (W.setCell ⟨j, i, none⟩ u).cell? ⟨k, n, none⟩ = W.cell? ⟨k, n, none⟩ := fun i n W u => World.cell?_setCell_other _ _ _ _ (by intro e; injection e with e; exact hj e)
  exact ⟨by rw [key, key, key, key]; exact h.c0, by rw [key, key, key, key]; exact h.c1, by rw [key, key, key, key]; exact h.c2, by rw [key, key, key, key]; exact h.c3, fun i => by simpa using h.fz i⟩


end Go.Proofs.YtmklkjjnkejakaaDoor

/- Contracts of package quot: apart. -/
namespace Go.Proofs.YtmklkjjnkejakaaDoor
open Go.RowKit

namespace Rg
section
variable {ops : Array Oper} {Q : Exit → Act → World → Prop} {F : Facts} {a0 : Act} {w0 : World}
end
end Rg

def apartF (a b s t k : Nat) : Rg.Facts := fun d w v =>
  match d with
  | 13 => v = .int .u64 (s : Int)
  | 14 => Sl w v [s]
  | 15 => IsN w v s 1
  | 16 => IsN w v a k
  | 17 => IsN w v (s * a) (1 + k)
  | 18 => v = .int .u64 (t : Int)
  | 19 => Sl w v [t]
  | 20 => IsN w v t 1
  | 21 => IsN w v b k
  | 22 => IsN w v (t * b) (1 + k)
  | _ => True

theorem Sl.store {w : World} {v : Value} {l : List Nat} (h : Sl w v l) {p : Addr} {A' : Option Addr} {k c : Nat} (hp : w.cell? p = some (.slice A' k c)) (u : Value) : Sl (w.setCell p u) v l := by
  obtain ⟨A, d, e, h1, h2, h3⟩ := h
  exact ⟨A, d, e, h1, h2, h3.store hp u⟩

end Go.Proofs.YtmklkjjnkejakaaDoor

/- Contracts of package quot: apart, whole. -/
namespace Go.Proofs.YtmklkjjnkejakaaDoor
open Go.RowKit

/-- What the cut behind apart's first region keeps. -/
def ApC (w : World) (p q k : Nat) (v9 v10 : Value) (W : World) : Prop := ∃ i j, v9 = .pointer (some ⟨i, 0, none⟩) ∧ v10 = .pointer (some ⟨j, 0, none⟩) ∧ i ≠ j ∧ w.heap.size ≤ i ∧ w.heap.size ≤ j ∧ W.frozen? ⟨i, 0, none⟩ = false ∧ W.frozen? ⟨j, 0, none⟩ = false ∧ VarN W i p k ∧ VarN W j q k ∧ Grow w W

end Go.Proofs.YtmklkjjnkejakaaDoor

/- Contracts of package quot: lessen, its regions. -/
namespace Go.Proofs.YtmklkjjnkejakaaDoor
open Go.RowKit

theorem Mx.top_bits {a b : Nat} (hba : b ≤ a) (h : 64 < Mx.bits b) : a / 2 ^ (Mx.bits a - 64) < Mx.B ∧ b / 2 ^ (Mx.bits a - 64) < Mx.B ∧ b / 2 ^ (Mx.bits a - 64) ≤ a / 2 ^ (Mx.bits a - 64) := by
  have hm := Mx.bits_mono hba
  have h1 := Mx.bits_lt a
  have e : 2 ^ Mx.bits a = 2 ^ (Mx.bits a - 64) * Mx.B := by
    have e2 : Mx.bits a = (Mx.bits a - 64) + 64 := by omega
    rw [show Mx.B = 2 ^ 64 from rfl, ← Nat.pow_add, ← e2]
  have h2 : a / 2 ^ (Mx.bits a - 64) < Mx.B := by
    rw [Nat.div_lt_iff_lt_mul (Mx.pow2_pos _), Nat.mul_comm, ← e]
    exact h1
  have h3 : b / 2 ^ (Mx.bits a - 64) ≤ a / 2 ^ (Mx.bits a - 64) := Nat.div_le_div_right hba
  exact ⟨h2, Nat.lt_of_le_of_lt h3 h2, h3⟩



/-- Steps that were foreseen. -/
def Foreseen (x0 y0 : Nat) (v : Value) : Prop := ∃ x y a1 b1 a2 b2, v = stepsV a1 b1 a2 b2 ∧ Mx.Fore x0 y0 x y a1 b1 a2 b2 ∧ a1 < Mx.B ∧ b1 < Mx.B ∧ a2 < Mx.B ∧ b2 < Mx.B
/-- A new variable of steps. -/
def NewStp (s0 : Nat) (w : World) (v : Value) : Prop := ∃ k, v = .pointer (some ⟨k, 0, none⟩) ∧ s0 ≤ k ∧ Stp w k 0 0 0 0
theorem NewStp.grow {s0 : Nat} {w w' : World} {v : Value} (h : NewStp s0 w v) (g : Grow w w') : NewStp s0 w' v := by
  obtain ⟨k, e, h1, h2⟩ := h
  exact ⟨k, e, h1, h2.grow g⟩


end Go.Proofs.YtmklkjjnkejakaaDoor

/- Contracts of package quot: lessen, its regions 3 and 6. -/
namespace Go.Proofs.YtmklkjjnkejakaaDoor
open Go.RowKit

def less3F (a1 b1 a2 b2 : Nat) (c : Bool) : Rg.Facts2 := fun d _ _ v =>
  match d with
  | 23 => v = stepsV a1 b1 a2 b2
  | 24 => v = stepsV 1 0 0 1
  | 25 => v = .bool c
  | _ => True


/-! Region 6 -/
theorem Rg.GB.old {R : List Nat} {w w0 w' : World} (g : Grow w w0) (h : Rg.GB R w0 w') (hR : ∀ b, b < w.heap.size → R.contains b = false) : Grow w w' :=
  ⟨h.os.trans g.os, h.tape.trans g.tape, h.output.trans g.output, Nat.le_trans g.size h.size, fun b hb => (h.block b (Nat.lt_of_lt_of_le hb g.size) (hR b hb)).trans (g.block b hb)⟩

namespace Rg
section
variable {ops : Array Oper} {Q : Exit → Act → World → Prop} {F : Facts} {a0 : Act} {w0 : World} {V : VS} {R : List Nat}
theorem step4G {i : Nat} {dst : Option Nat} {op : Op} (h : info ops i = some (dst, op, none)) (hal : V.al = []) (hs : ∀ w, GB R w0 w → Owes Tryd.prog ops Q F a0 w i dst op) : Step4 ops Q (fun d _ w v => F d w v) V R a0 w0 i := by
  intro o ho a w hg ha hd
  obtain ⟨h1, h2, h3⟩ := info_parts h ho
  refine run_wanted ho (by simp [Region.wanted, h3]) (hs w hg o a w h2 h1 (Grow.refl w) ha fun d hdi => ?_)
  exact hd d (by rw [← depI_eq ho]; exact hdi) (by rw [hal]; rfl)
end
end Rg

def less6F (a b K k a1 b1 a2 b2 p q : Nat) : Rg.Facts := fun d w v =>
  match d with
  | 35 => IsN w v a K
  | 36 => v = .pointer (some ⟨k, 0, none⟩)
  | 37 => v = .int .u64 (a1 : Int)
  | 38 => IsN w v b K
  | 39 => v = .pointer (some ⟨k, 1, none⟩)
  | 40 => v = .int .u64 (b1 : Int)
  | 41 => IsN w v p (1 + K)
  | 42 => IsN w v a K
  | 43 => v = .pointer (some ⟨k, 2, none⟩)
  | 44 => v = .int .u64 (a2 : Int)
  | 45 => IsN w v b K
  | 46 => v = .pointer (some ⟨k, 3, none⟩)
  | 47 => v = .int .u64 (b2 : Int)
  | 48 => IsN w v q (1 + K)
  | _ => True

def less5F (K p q : Nat) : Rg.Facts := fun d w v =>
  match d with
  | 33 => IsN w v p K
  | 34 => IsN w v q K
  | _ => True

end Go.Proofs.YtmklkjjnkejakaaDoor

/- Contracts of package quot: lessen; Gcd of all numbers. -/
namespace Go.Proofs.YtmklkjjnkejakaaDoor
open Go.RowKit

/-- What the cut behind lessen's region 2 keeps. -/
def LsC (w : World) (x0 y0 : Nat) (v7 : Value) (W : World) : Prop := ∃ k x y a1 b1 a2 b2, v7 = .pointer (some ⟨k, 0, none⟩) ∧ w.heap.size ≤ k ∧ Stp W k a1 b1 a2 b2 ∧ Mx.Fore x0 y0 x y a1 b1 a2 b2 ∧ a1 < Mx.B ∧ b1 < Mx.B ∧ a2 < Mx.B ∧ b2 < Mx.B ∧ Grow w W
def LsD (w : World) (c : Bool) (v25 : Value) (W : World) : Prop := v25 = .bool c ∧ Grow w W

/-- A block with no number in it. -/
def NoInt (w : World) (b : Nat) : Prop := b < w.heap.size ∧ ∀ i (x : Int), w.cell? ⟨b, i, none⟩ ≠ some (.int .u64 x)
theorem NoInt.grow {w w' : World} {b : Nat} (h : NoInt w b) (g : Grow w w') : NoInt w' b := ⟨Nat.lt_of_lt_of_le h.1 g.size, fun i x => by rw [g.cell (p := ⟨b, i, none⟩) h.1]; exact h.2 i x⟩
theorem NoInt.new (w : World) (t : TypeId) : NoInt (w.alloc (Obj.cells #[Value.slice none 0 0] t)) w.heap.size := by
  refine ⟨by simp, fun i x => ?_⟩
  rw [cell_of_row _ w.heap.size i _ _ _ (heap_alloc_new w _)]
  cases i <;> simp
theorem Cells.gb {R : List Nat} {w0 W : World} {A : Option Addr} {l : List Nat} (h : Cells w0 A l) (hW : Rg.GB R w0 W) (hR : ∀ b, R.contains b = true → NoInt w0 b) : Cells W A l := fun hn => by
  obtain ⟨b, o, e, hb, hc⟩ := h hn
  have hbR : R.contains b = false := by
    cases hr : R.contains b with
    | false => rfl
    | true =>
      exfalso
      cases l with
      | nil => exact hn rfl
      | cons x r => exact (hR b hr).2 (o + 0) _ (hc 0 x rfl)
  exact ⟨b, o, e, Nat.lt_of_lt_of_le hb hW.size, fun j x hx => hW.cell hbR (hc j x hx)⟩
theorem IsN.gb {R : List Nat} {w0 W : World} {v : Value} {n k : Nat} (h : IsN w0 v n k) (hW : Rg.GB R w0 W) (hR : ∀ b, R.contains b = true → NoInt w0 b) : IsN W v n k := by
  obtain ⟨⟨A, c, e, h1, h2⟩, h3⟩ := h
  exact ⟨⟨A, c, e, h1, h2.gb hW hR⟩, h3⟩

/-- What is known of lessen's variables. -/
structure LsS (w : World) (A2 : Option Addr) (l2 c2 : Nat) (A3 : Option Addr) (l3 c3 : Nat) (W : World) : Prop where
  k2 : W.cell? ⟨w.heap.size, 0, none⟩ = some (.slice A2 l2 c2)
  k3 : W.cell? ⟨w.heap.size + 1, 0, none⟩ = some (.slice A3 l3 c3)
  k4 : W.cell? ⟨w.heap.size + 1 + 1, 0, none⟩ = some (.slice none 0 0)
  f4 : W.frozen? ⟨w.heap.size + 1 + 1, 0, none⟩ = false
  k5 : W.cell? ⟨w.heap.size + 1 + 1 + 1, 0, none⟩ = some (.slice none 0 0)
  f5 : W.frozen? ⟨w.heap.size + 1 + 1 + 1, 0, none⟩ = false
  o4 : NoInt W (w.heap.size + 1 + 1)
  o5 : NoInt W (w.heap.size + 1 + 1 + 1)
  g : Grow w W
theorem LsS.grow {w W W' : World} {A2 A3 : Option Addr} {l2 c2 l3 c3 : Nat} (h : LsS w A2 l2 c2 A3 l3 c3 W) (g : Grow W W') : LsS w A2 l2 c2 A3 l3 c3 W' :=
  ⟨g.cells1 h.k2, g.cells1 h.k3, g.cells1 h.k4, (Below.frozen g (lt_of_cell' h.k4)).trans h.f4, g.cells1 h.k5, (Below.frozen g (lt_of_cell' h.k5)).trans h.f5, h.o4.grow g, h.o5.grow g, h.g.trans g⟩


end Go.Proofs.YtmklkjjnkejakaaDoor
