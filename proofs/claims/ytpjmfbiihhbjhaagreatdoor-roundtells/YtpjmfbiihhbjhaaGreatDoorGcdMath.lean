/- Plain mathematics: steps of Euclid foreseen from two numbers' first bits. -/
import Derived.Test.YtpjmfbiihhbjhaaGreatDoorBQuo
namespace Go.Proofs.YtpjmfbiihhbjhaaGreatDoor.Mx

/-- How far two numbers are apart. -/
def far (p q : Nat) : Nat := if p < q then q - p else p - q

/-- From x0 and y0 steps of Euclid have led to x and y, and their coefficients are these; each step was sure. -/
structure Fore (x0 y0 x y a1 b1 a2 b2 : Nat) : Prop where
  ex : x0 = b2 * x + b1 * y
  ey : y0 = a2 * x + a1 * y
  det : a1 * b2 = a2 * b1 + 1 ∨ a2 * b1 = a1 * b2 + 1
  le2 : a2 ≤ b2
  le12 : a1 + a2 ≤ b1 + b2
  pos : 1 ≤ b2
  xy : y ≤ x
  sure : (a1 = 1 ∧ b1 = 0 ∧ a2 = 0 ∧ b2 = 1) ∨ (1 ≤ a2 ∧ b2 ≤ y ∧ b1 + b2 + y ≤ x)

theorem Fore.start {x0 y0 : Nat} (h : y0 ≤ x0) : Fore x0 y0 x0 y0 1 0 0 1 := ⟨by omega, by omega, .inl (by omega), by omega, by omega, by omega, h, .inl ⟨rfl, rfl, rfl, rfl⟩⟩

theorem Fore.fits {x0 y0 x y a1 b1 a2 b2 : Nat} (h : Fore x0 y0 x y a1 b1 a2 b2) : (b1 + x / y * b2) * y ≤ x0 ∧ (a1 + x / y * a2) * y ≤ y0 := by
  have e := Nat.div_add_mod x y
  have h1 := h.ex
  have h2 := h.ey
  generalize x / y = t at *
  generalize x % y = r at *
  have e1 : x0 = (b1 + t * b2) * y + b2 * r := by rw [h1, ← e]; grind
  have e2 : y0 = (a1 + t * a2) * y + a2 * r := by rw [h2, ← e]; grind
  exact ⟨by omega, by omega⟩

theorem Fore.le_next {x0 y0 x y a1 b1 a2 b2 : Nat} (h : Fore x0 y0 x y a1 b1 a2 b2) (hy : y ≠ 0) : b2 ≤ b1 + x / y * b2 ∧ a2 ≤ a1 + x / y * a2 := by
  have ht : 1 ≤ x / y := (Nat.one_le_div_iff (by omega)).2 h.xy
  have h1 : 1 * b2 ≤ x / y * b2 := Nat.mul_le_mul_right _ ht
  have h2 : 1 * a2 ≤ x / y * a2 := Nat.mul_le_mul_right _ ht
  omega

theorem Fore.next {x0 y0 x y a1 b1 a2 b2 : Nat} (h : Fore x0 y0 x y a1 b1 a2 b2) (hy : y ≠ 0) (h1 : b1 + x / y * b2 ≤ x % y) (h2 : b2 + (b1 + x / y * b2) ≤ y - x % y) :
    Fore x0 y0 y (x % y) a2 b2 (a1 + x / y * a2) (b1 + x / y * b2) := by
  have e := Nat.div_add_mod x y
  have ht : 1 ≤ x / y := (Nat.one_le_div_iff (by omega)).2 h.xy
  have hl := h.le_next hy
  have hlt : x % y < y := Nat.mod_lt x (by omega)
  obtain ⟨k1, k2, k3, k4, k5, k6, k7, k8⟩ := h
  generalize x / y = t at *
  generalize x % y = r at *
  obtain ⟨s, rfl⟩ : ∃ s, t = s + 1 := ⟨t - 1, by omega⟩
  have hs : s * a2 ≤ s * b2 := Nat.mul_le_mul_left s k4
  have e3 : (s + 1) * a2 = s * a2 + a2 := by grind
  have e4 : (s + 1) * b2 = s * b2 + b2 := by grind
  refine ⟨by rw [k1, ← e]; grind, by rw [k2, ← e]; grind, ?_, by omega, by omega, by omega, by omega, .inr ⟨?_, by omega, by omega⟩⟩
  · rcases k3 with k | k
    · right; grind
    · left; grind
  · rcases k8 with ⟨r1, _, _, _⟩ | ⟨r1, _, _⟩ <;> omega

theorem Fore.sum {x0 y0 x y a1 b1 a2 b2 : Nat} (h : Fore x0 y0 x y a1 b1 a2 b2) (hy : y ≠ 0) (h1 : b1 + x / y * b2 ≤ x % y) : b2 + (b1 + x / y * b2) ≤ x0 := by
  have hl := (h.le_next hy).1
  have hf := (h.fits).1
  have hp := h.pos
  have hlt : x % y < y := Nat.mod_lt x (by omega)
  have h2 : (b1 + x / y * b2) * 2 ≤ (b1 + x / y * b2) * y := Nat.mul_le_mul_left _ (by omega)
  omega

theorem far_of {p q d : Nat} (h : p = q + d) : far p q = d := by unfold far; rw [if_neg (by omega)]; omega
theorem far_of' {p q d : Nat} (h : q = p + d) : far p q = d := by
  unfold far
  split <;> omega

theorem gcd_lin {a b A B a1 b1 a2 b2 : Nat} (ea : a = b2 * A + b1 * B) (eb : b = a2 * A + a1 * B) (hA : Nat.gcd a b ∣ A) (hB : Nat.gcd a b ∣ B) : Nat.gcd A B = Nat.gcd a b := by
  apply Nat.dvd_antisymm
  · apply Nat.dvd_gcd
    · rw [ea]; exact Nat.dvd_add (Nat.dvd_trans (Nat.gcd_dvd_left A B) (Nat.dvd_mul_left A b2)) (Nat.dvd_trans (Nat.gcd_dvd_right A B) (Nat.dvd_mul_left B b1))
    · rw [eb]; exact Nat.dvd_add (Nat.dvd_trans (Nat.gcd_dvd_left A B) (Nat.dvd_mul_left A a2)) (Nat.dvd_trans (Nat.gcd_dvd_right A B) (Nat.dvd_mul_left B a1))
  · exact Nat.dvd_gcd hA hB

/-- So the steps hold of all longer numbers that begin with x0 and y0. -/
theorem Fore.less {x0 y0 x y a1 b1 a2 b2 a b T ea eb : Nat} (h : Fore x0 y0 x y a1 b1 a2 b2) (h2 : a2 ≠ 0) (ha : a = x0 * T + ea) (hea : ea < T) (hb : b = y0 * T + eb) (heb : eb < T) :
    far (a2 * a) (b2 * b) ≤ far (a1 * a) (b1 * b) ∧ far (a1 * a) (b1 * b) ≤ a ∧ far (a2 * a) (b2 * b) < b ∧ Nat.gcd (far (a1 * a) (b1 * b)) (far (a2 * a) (b2 * b)) = Nat.gcd a b := by
  obtain ⟨k1, k2, k3, k4, k5, k6, k7, k8⟩ := h
  obtain ⟨m1, m2, m3⟩ : 1 ≤ a2 ∧ b2 ≤ y ∧ b1 + b2 + y ≤ x := by
    rcases k8 with ⟨_, _, h, _⟩ | h
    · exact absurd h h2
    · exact h
  have p1 : b1 * eb ≤ b1 * T := Nat.mul_le_mul_left _ (by omega)
  have p2 : b2 * eb < b2 * T := Nat.mul_lt_mul_of_pos_left heb (by omega)
  have q2 : a2 * ea ≤ b2 * T := Nat.mul_le_mul k4 (by omega)
  have q12 : (a1 + a2) * ea < (a1 + a2) * T := Nat.mul_lt_mul_of_pos_left hea (by omega)
  have q12' : (a1 + a2) * T ≤ (b1 + b2) * T := Nat.mul_le_mul_right _ k5
  have yT : b2 * T ≤ y * T := Nat.mul_le_mul_right _ m2
  have xT : (b1 + b2 + y) * T ≤ x * T := Nat.mul_le_mul_right _ m3
  rw [Nat.add_mul, Nat.add_mul] at xT
  rw [Nat.add_mul] at q12
  rw [Nat.add_mul (b1) b2] at q12'
  have key : ∀ A B, B < A → (a1 * a = b1 * b + A ∧ b2 * b = a2 * a + B ∧ a1 * b2 = a2 * b1 + 1) ∨ (b1 * b = a1 * a + A ∧ a2 * a = b2 * b + B ∧ a2 * b1 = a1 * b2 + 1) →
      B ≤ A ∧ A ≤ a ∧ B < b ∧ Nat.gcd A B = Nat.gcd a b ∧ far (a1 * a) (b1 * b) = A ∧ far (a2 * a) (b2 * b) = B := by
    intro A B hBA hc
    have ga : Nat.gcd a b ∣ a := Nat.gcd_dvd_left a b
    have gb : Nat.gcd a b ∣ b := Nat.gcd_dvd_right a b
    have da : ∀ c, Nat.gcd a b ∣ c * a := fun c => Nat.dvd_trans ga (Nat.dvd_mul_left a c)
    have db : ∀ c, Nat.gcd a b ∣ c * b := fun c => Nat.dvd_trans gb (Nat.dvd_mul_left b c)
    have e1 : a = b2 * A + b1 * B := by rcases hc with ⟨c1, c2, c3⟩ | ⟨c1, c2, c3⟩ <;> (clear k1 k2 k3 p1 p2 q2 q12 q12' yT xT ha hb; grind)
    have e2 : b = a2 * A + a1 * B := by rcases hc with ⟨c1, c2, c3⟩ | ⟨c1, c2, c3⟩ <;> (clear k1 k2 k3 p1 p2 q2 q12 q12' yT xT ha hb; grind)
    have l1 : 1 * A ≤ b2 * A := Nat.mul_le_mul_right _ k6
    have l2 : 1 * A ≤ a2 * A := Nat.mul_le_mul_right _ m1
    have hA : Nat.gcd a b ∣ A := by
      rcases hc with ⟨c1, _, _⟩ | ⟨c1, _, _⟩
      · exact (Nat.dvd_add_right (db b1)).1 (c1 ▸ da a1)
      · exact (Nat.dvd_add_right (da a1)).1 (c1 ▸ db b1)
    have hB : Nat.gcd a b ∣ B := by
      rcases hc with ⟨_, c1, _⟩ | ⟨_, c1, _⟩
      · exact (Nat.dvd_add_right (da a2)).1 (c1 ▸ db b2)
      · exact (Nat.dvd_add_right (db b2)).1 (c1 ▸ da a2)
    refine ⟨by omega, by omega, by omega, gcd_lin e1 e2 hA hB, ?_, ?_⟩
    · rcases hc with ⟨c1, _, _⟩ | ⟨c1, _, _⟩
      · exact far_of c1
      · exact far_of' c1
    · rcases hc with ⟨_, c1, _⟩ | ⟨_, c1, _⟩
      · exact far_of' c1
      · exact far_of c1
  rcases k3 with k | k
  · have f1 : a1 * x0 = b1 * y0 + x := by rw [k1, k2]; clear p1 p2 q2 q12 q12' yT xT key; grind
    have f2 : b2 * y0 = a2 * x0 + y := by rw [k1, k2]; clear p1 p2 q2 q12 q12' yT xT key; grind
    have EA : a1 * a + b1 * eb = b1 * b + x * T + a1 * ea := by rw [ha, hb]; clear p1 p2 q2 q12 q12' yT xT key k1 k2 k; grind
    have EB : b2 * b + a2 * ea = a2 * a + y * T + b2 * eb := by rw [ha, hb]; clear p1 p2 q2 q12 q12' yT xT key k1 k2 k; grind
    obtain ⟨r1, r2, r3, r4, r5, r6⟩ := key (x * T + a1 * ea - b1 * eb) (y * T + b2 * eb - a2 * ea) (by omega) (.inl ⟨by omega, by omega, k⟩)
    rw [r5, r6]
    exact ⟨r1, r2, r3, r4⟩
  · have f1 : b1 * y0 = a1 * x0 + x := by rw [k1, k2]; clear p1 p2 q2 q12 q12' yT xT key; grind
    have f2 : a2 * x0 = b2 * y0 + y := by rw [k1, k2]; clear p1 p2 q2 q12 q12' yT xT key; grind
    have EA : b1 * b + a1 * ea = a1 * a + x * T + b1 * eb := by rw [ha, hb]; clear p1 p2 q2 q12 q12' yT xT key k1 k2 k; grind
    have EB : a2 * a + b2 * eb = b2 * b + y * T + a2 * ea := by rw [ha, hb]; clear p1 p2 q2 q12 q12' yT xT key k1 k2 k; grind
    obtain ⟨r1, r2, r3, r4, r5, r6⟩ := key (x * T + b1 * eb - a1 * ea) (y * T + a2 * ea - b2 * eb) (by omega) (.inr ⟨by omega, by omega, k⟩)
    rw [r5, r6]
    exact ⟨r1, r2, r3, r4⟩
end Go.Proofs.YtpjmfbiihhbjhaaGreatDoor.Mx
