/- The reference's fractions, slices and their lengths, for the calculus of whole functions. -/
import Derived.Test.YtpjmfbiihhbjhaaGreatDoorFrE
import Derived.Test.YtpjmfbiihhbjhaaGreatDoorRefH
import Derived.Test.YtpjmfbiihhbjhaaGreatDoorRwZ
namespace Go.Proofs.YtpjmfbiihhbjhaaGreatDoor
open Go.RowKit

/-- The two numbers of a value of the reference's type Frac. -/
def IsG (w : World) (v : Value) (z : Int) (n k : Nat) : Prop := ∃ A l c A' l' c', v = .agg #[.slice A l c, .bool (decide (z < 0)), .slice A' l' c'] ∧ IsD w (.slice A l c) z.natAbs k ∧ IsD w (.slice A' l' c') n k
theorem IsG.r {w : World} {v : Value} {z : Int} {n m k : Nat} {q : Rat} (h : IsG w v z n m) (e : z = q.num ∧ n = q.den) (hk : m ≤ k) : IsR w v q k := by
  obtain ⟨rfl, rfl⟩ := e
  exact IsR.weak (k := m) h hk
/-- A value of the laws' type Num. -/
def IsM (w : World) (v : Value) (a b : List Nat) (m : Bool) : Prop := ∃ A l c A' l' c', v = .agg #[.slice A l c, .slice A' l' c', .bool m] ∧ Sl w (.slice A l c) a ∧ Sl w (.slice A' l' c') b
theorem signed_div' {z : Int} {g : Nat} (h : g ∣ z.natAbs) : signed (z.natAbs / g) (decide (z < 0)) = z / (g : Int) := by
  have e : decide (z < 0) = decide (Int.sign z < 0) := decide_eq_decide.2 (by rw [Int.sign_neg_iff])
  rw [e]
  exact signed_div h
theorem of_rat_pos_eq {z n : Int} (hn : 0 < n) : ((z : Int) : Rat) / ((n : Int) : Rat) = mkRat z n.natAbs := by
  rw [Rat.mkRat_eq_div]
  congr 1
  rw [← Rat.intCast_natCast]
  congr 1
  omega
theorem of_rat_neg_eq {z n : Int} (hn : n < 0) : ((z : Int) : Rat) / ((n : Int) : Rat) = mkRat (-z) n.natAbs := by
  obtain ⟨m, rfl⟩ : ∃ m : Nat, n = -(m : Int) := ⟨n.natAbs, by omega⟩
  rw [← Rat.divInt_eq_div, Rat.divInt_neg', Rat.divInt_ofNat]
  simp
theorem IsR.num_dlen {w : World} {v : Value} {q : Rat} {k : Nat} (h : IsR w v q k) : Dx.len q.num.natAbs ≤ k := by
  obtain ⟨_, _, _, _, _, _, _, ⟨_, _, _, _, _, h1⟩, _⟩ := h
  exact h1
theorem IsR.den_dlen {w : World} {v : Value} {q : Rat} {k : Nat} (h : IsR w v q k) : Dx.len q.den ≤ k := by
  obtain ⟨_, _, _, _, _, _, _, _, ⟨_, _, _, _, _, h1⟩⟩ := h
  exact h1
theorem ztext_dlen {z : Int} {k : Nat} (h : Dx.len z.natAbs ≤ k) : (ztext z).length ≤ 4 * k + 2 := by
  have h1 := text_dlen h
  unfold ztext
  split
  · simp; omega
  · omega
theorem quo_rat (x y : Rat) : ((x.num * (y.den : Nat) : Int) : Rat) / ((y.num * (x.den : Nat) : Int) : Rat) = x / y := by
  rw [← Rat.divInt_eq_div]
  have h : x / y = x * y⁻¹ := rfl
  rw [h, Rat.inv_def]
  conv => rhs; rw [← Rat.num_divInt_den x]
  rw [Rat.divInt_mul_divInt, Int.mul_comm y.num]
namespace Z
open Go.Proofs.YtpjmfbiihhbjhaaGreatDoor.Rg
abbrev isG (z : Int) (n k : Nat) : Pr := fun w v => IsG w v z n k
abbrev isM (a b : List Nat) (m : Bool) : Pr := fun w v => IsM w v a b m
theorem stb_G (z : Int) (n k : Nat) : Stb soft (isG z n k) := fun _ _ _ ⟨A, l, c, A', l', c', e, h1, h2⟩ g => ⟨A, l, c, A', l', c', e, stb_D _ _ _ _ _ h1 g, stb_D _ _ _ _ _ h2 g⟩
theorem stb_M (a b : List Nat) (m : Bool) : Stb soft (isM a b m) := fun _ _ _ ⟨A, l, c, A', l', c', e, h1, h2⟩ g => ⟨A, l, c, A', l', c', e, stb_S _ _ _ _ h1 g, stb_S _ _ _ _ h2 g⟩
theorem aggG : aggB Tryz.prog 35 = true := by kernel_rfl
theorem sizeG : (Tryz.prog.info? 35).map (·.size) = some 3 := by kernel_rfl
theorem shG {z : Int} {n k : Nat} : ∀ w v, isG z n k w v → ∃ cs, v = .agg cs ∧ Fits soft Tryz.prog 35 cs := fun _ _ ⟨_, _, _, _, _, _, e, _⟩ => ⟨_, e, aggG, sizeG, by simp [Value.oneCell'], by simp [soft, softV, isBv]⟩
theorem shR {q : Rat} {k : Nat} : ∀ w v, isR q k w v → ∃ cs, v = .agg cs ∧ Fits soft Tryz.prog 35 cs := fun w v h => shG w v h
theorem aggM : aggB Tryz.prog 24 = true := by kernel_rfl
theorem sizeM : (Tryz.prog.info? 24).map (·.size) = some 3 := by kernel_rfl
theorem shM {a b : List Nat} {m : Bool} : ∀ w v, isM a b m w v → ∃ cs, v = .agg cs ∧ Fits soft Tryz.prog 24 cs := fun _ _ ⟨_, _, _, _, _, _, e, _⟩ => ⟨_, e, aggM, sizeM, by simp [Value.oneCell'], by simp [soft, softV, isBv]⟩
abbrev kG (z : Int) (n k : Nat) : Kd Tryz.prog := .at (isG z n k) (stb_G z n k) 35 shG
abbrev kR (q : Rat) (k : Nat) : Kd Tryz.prog := .at (isR q k) (stb_R q k) 35 shR
abbrev kM (a b : List Nat) (m : Bool) : Kd Tryz.prog := .at (isM a b m) (stb_M a b m) 24 shM
theorem fldGV {z : Int} {n k : Nat} : ∀ w cs, isG z n k w (.agg cs) → isV z k w (.agg (cs.extract 0 (0 + 2))) := fun w cs ⟨A, l, c, A', l', c', e, h1, _⟩ => by
  injection e with e
  subst e
  exact ⟨A, l, c, rfl, h1⟩
theorem fldGD {z : Int} {n k : Nat} : ∀ w cs, isG z n k w (.agg cs) → isD n k w (cs.getD 2 undef) := fun w cs ⟨A, l, c, A', l', c', e, _, h2⟩ => by
  injection e with e
  subst e
  exact h2
theorem fldRV {q : Rat} {k : Nat} : ∀ w cs, isR q k w (.agg cs) → isV q.num k w (.agg (cs.extract 0 (0 + 2))) := fun w cs h => fldGV w cs h
theorem fldRD {q : Rat} {k : Nat} : ∀ w cs, isR q k w (.agg cs) → isD q.den k w (cs.getD 2 undef) := fun w cs h => fldGD w cs h
theorem fldMA {a b : List Nat} {m : Bool} : ∀ w cs, isM a b m w (.agg cs) → isS a w (cs.getD 0 undef) := fun w cs ⟨A, l, c, A', l', c', e, h1, _⟩ => by
  injection e with e
  subst e
  exact h1
theorem fldMB {a b : List Nat} {m : Bool} : ∀ w cs, isM a b m w (.agg cs) → isS b w (cs.getD 1 undef) := fun w cs ⟨A, l, c, A', l', c', e, _, h2⟩ => by
  injection e with e
  subst e
  exact h2
theorem fldMM {a b : List Nat} {m : Bool} : ∀ w cs, isM a b m w (.agg cs) → isE (.bool m) w (cs.getD 2 undef) := fun w cs ⟨A, l, c, A', l', c', e, _, _⟩ => by
  injection e with e
  subst e
  rfl
section
variable {ops : Array Oper} {Q : Exit → Act → World → Prop} {F : Facts} {G : List Vr} {D : List (Nat × Pr)} {V : VS} {kf0 : Nat → Nat} {i d : Nat} {x y : Operand}
theorem buildG {x y n k j m : Nat} {z : Int} (hx : Arg soft Tryz.prog ops F G D V kf0 i (.tmp x) (isV z k)) (hy : Arg soft Tryz.prog ops F G D V kf0 i (.tmp y) (isD n j)) (hk : k ≤ m) (hj : j ≤ m) (hF : ∀ w v, isG z n m w v → F d w v) : Owes soft Tryz.prog ops Q F G D V kf0 i (some d) (.build 35 #[(0, .tmp x), (1, .tmp y)]) :=
  val (fun o a w ho c => by
    obtain ⟨A, l, c', e1, h1⟩ := hx a w c
    have h2 := hy a w c
    obtain ⟨A', c2, e2⟩ := IsD.slice h2
    rw [e2] at h2
    refine ⟨.agg #[.slice A l c', .bool (decide (z < 0)), .slice A' (Dx.len n) c2], ?_, hF _ _ ⟨A, l, c', A', _, c2, rfl, h1.weak' hk, h2.weak' hj⟩⟩
    simp only [Act.eval, Array.getD_eq_getD_getElem?] at e1 e2
    simp [execOp, ho, go_sem, Act.eval, e1, e2]) rfl
end
end Z
end Go.Proofs.YtpjmfbiihhbjhaaGreatDoor
