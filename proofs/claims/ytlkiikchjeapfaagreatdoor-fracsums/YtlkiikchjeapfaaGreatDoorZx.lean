/- Kinds of values of layers 1 to 5 for the calculus of whole functions: what they are, that they stay, their shapes; plain operations. -/
import Derived.Test.YtlkiikchjeapfaaGreatDoorZw
import Derived.Test.YtlkiikchjeapfaaGreatDoorWhL
import Derived.Test.YtlkiikchjeapfaaGreatDoorRwC
namespace Go.Proofs.YtlkiikchjeapfaaGreatDoor.Z
open Go.RowKit Go.Proofs.YtlkiikchjeapfaaGreatDoor.Rg

abbrev isE (c : Value) : Pr := fun _ v => v = c
abbrev isX : Pr := fun _ _ => True
abbrev isN (n k : Nat) : Pr := fun w v => IsN w v n k
abbrev isW (z : Int) (k : Nat) : Pr := fun w v => IsW w v z k
abbrev isD (n k : Nat) : Pr := fun w v => IsD w v n k
abbrev isV (z : Int) (k : Nat) : Pr := fun w v => IsV w v z k
abbrev isS (l : List Nat) : Pr := fun w v => Sl w v l
/-- A text. -/
abbrev isT (l : List UInt8) : Pr := fun _ v => v = .string (str l)
/-- An address whose cell holds the int x. -/
def isA (x : Int) : Pr := fun w v => ∃ b o, v = .pointer (some ⟨b, o, none⟩) ∧ w.cell? ⟨b, o, none⟩ = some (.int .i64 x)

/-! ### They stay -/
theorem cell_evo {w w' : World} {b o : Nat} {k : IntKind} {x : Int} (h : w.cell? ⟨b, o, none⟩ = some (.int k x)) (g : Evo soft w w') : w'.cell? ⟨b, o, none⟩ = some (.int k x) := by
  rcases g.block b (lt_of_cell h) with h1 | ⟨cs, cs', t, h1, _, h3, _⟩
  · rw [← h]
    simp only [World.cell?, h1]
  · exfalso
    have hc : cs[o]? = some (.int k x) := by
      simpa [World.cell?, h1] using h
    obtain ⟨ho, e⟩ := Array.getElem?_eq_some_iff.1 hc
    have := Array.all_eq_true.1 h3 o ho
    rw [e] at this
    cases this
theorem Cells.evo {w w' : World} {A : Option Addr} {l : List Nat} (h : Cells w A l) (g : Evo soft w w') : Cells w' A l := fun hn => by
  obtain ⟨b, o, e, hb, hc⟩ := h hn
  exact ⟨b, o, e, Nat.lt_of_lt_of_le hb g.size, fun j x hx => cell_evo (hc j x hx) g⟩
theorem CellsD.evo {w w' : World} {A : Option Addr} {l : List Nat} (h : CellsD w A l) (g : Evo soft w w') : CellsD w' A l := fun hn => by
  obtain ⟨b, o, e, hb, hc⟩ := h hn
  exact ⟨b, o, e, Nat.lt_of_lt_of_le hb g.size, fun j x hx => cell_evo (hc j x hx) g⟩
theorem stb_N (n k : Nat) : Stb soft (isN n k) := fun _ _ _ ⟨⟨A, c, e, h1, h2⟩, h3⟩ g => ⟨⟨A, c, e, h1, Cells.evo h2 g⟩, h3⟩
theorem stb_W (z : Int) (k : Nat) : Stb soft (isW z k) := fun _ _ _ ⟨A, l, c, e, h⟩ g => ⟨A, l, c, e, stb_N _ _ _ _ _ h g⟩
theorem stb_D (n k : Nat) : Stb soft (isD n k) := fun _ _ _ ⟨A, c, e, h1, h2, h3⟩ g => ⟨A, c, e, h1, CellsD.evo h2 g, h3⟩
theorem stb_V (z : Int) (k : Nat) : Stb soft (isV z k) := fun _ _ _ ⟨A, l, c, e, h⟩ g => ⟨A, l, c, e, stb_D _ _ _ _ _ h g⟩
theorem stb_S (l : List Nat) : Stb soft (isS l) := fun _ _ _ ⟨A, c, e, h1, h2, h3⟩ g => ⟨A, c, e, h1, h2, Cells.evo h3 g⟩
theorem stb_A (x : Int) : Stb soft (isA x) := fun _ _ _ ⟨b, o, e, h⟩ g => ⟨b, o, e, cell_evo h g⟩

/-! ### Shapes -/
theorem aggN : aggB Tryz.prog 26 = true := by kernel_rfl
theorem sizeN : (Tryz.prog.info? 26).map (·.size) = some 1 := by kernel_rfl
theorem shN {n k : Nat} : ∀ w v, isN n k w v → ∃ cs, v = .agg cs ∧ Fits soft Tryz.prog 26 cs := fun _ _ h => by
  obtain ⟨A, l, c, e⟩ := IsN.cell h
  exact ⟨_, e, aggN, sizeN, by simp [Value.oneCell'], by simp [soft]⟩
theorem aggW : aggB Tryz.prog 28 = true := by kernel_rfl
theorem sizeW : (Tryz.prog.info? 28).map (·.size) = some 2 := by kernel_rfl
theorem shW {z : Int} {k : Nat} : ∀ w v, isW z k w v → ∃ cs, v = .agg cs ∧ Fits soft Tryz.prog 28 cs := fun _ _ ⟨_, _, _, e, _⟩ => ⟨_, e, aggW, sizeW, by simp [Value.oneCell'], by simp [soft]⟩
theorem aggV : aggB Tryz.prog 33 = true := by kernel_rfl
theorem sizeV : (Tryz.prog.info? 33).map (·.size) = some 2 := by kernel_rfl
theorem shV {z : Int} {k : Nat} : ∀ w v, isV z k w v → ∃ cs, v = .agg cs ∧ Fits soft Tryz.prog 33 cs := fun _ _ ⟨_, _, _, e, _⟩ => ⟨_, e, aggV, sizeV, by simp [Value.oneCell'], by simp [soft]⟩
theorem fldVD {z : Int} {k : Nat} : ∀ w cs, isV z k w (.agg cs) → isD z.natAbs k w (cs.getD 0 undef) := fun _ _ ⟨_, _, _, e, h⟩ => by
  injection e with e
  subst e
  exact h
theorem fldVB {z : Int} {k : Nat} : ∀ w cs, isV z k w (.agg cs) → isE (.bool (decide (z < 0))) w (cs.getD 1 undef) := fun _ _ ⟨_, _, _, e, _⟩ => by
  injection e with e
  subst e
  rfl

/-! ### Plain operations -/
section
variable {P : Program} {s : Value → Bool} {ops : Array Oper} {Q : Exit → Act → World → Prop} {F : Facts} {G : List Vr} {D : List (Nat × Pr)} {V : VS} {kf0 : Nat → Nat} {i d : Nat} {x y : Operand} {t t2 : TypeId}
theorem bin {b : BinOp} {u v r : Value} (hx : Arg s P ops F G D V kf0 i x (isE u)) (hy : Arg s P ops F G D V kf0 i y (isE v)) (hg : ∀ w, (eqGuard b t x y u v).run P w = .ok () w) (hr : ∀ w, (binOp b t u v).run P w = .ok r w) (hF : ∀ w z, z = r → F d w z) :
    Owes s P ops Q F G D V kf0 i (some d) (.binOp b t x y t2) :=
  val (fun o a w ho c => ⟨r, by
    have e1 : a.eval x = u := hx a w c
    have e2 : a.eval y = v := hy a w c
    unfold execOp
    simp only [ho, e1, e2, Sem.run_bind, hg, hr, Result.andThen_ok, Sem.run_pure], hF _ _ rfl⟩) rfl
theorem guardI {b : BinOp} {k k' : IntKind} {m n : Int} (w : World) : (eqGuard b t x y (.int k m) (.int k' n)).run P w = .ok () w := by cases b <;> rfl
theorem guardS {b : BinOp} {m n : ByteArray} (w : World) : (eqGuard b t x y (.string m) (.string n)).run P w = .ok () w := by cases b <;> rfl
theorem guardB {b : BinOp} {m n : Bool} (w : World) : (eqGuard b t x y (.bool m) (.bool n)).run P w = .ok () w := by cases b <;> rfl
variable {k : IntKind} {m n : Int} (hx : Arg s P ops F G D V kf0 i x (isE (.int k m))) (hy : Arg s P ops F G D V kf0 i y (isE (.int k n)))
include hx hy
theorem lss (hF : ∀ w z, z = .bool (decide (m < n)) → F d w z) : Owes s P ops Q F G D V kf0 i (some d) (.binOp .lss t x y t2) := bin hx hy guardI (fun w => by simp [binOp, go_sem]) hF
theorem leq (hF : ∀ w z, z = .bool (decide (m ≤ n)) → F d w z) : Owes s P ops Q F G D V kf0 i (some d) (.binOp .leq t x y t2) := bin hx hy guardI (fun w => by simp [binOp, go_sem]) hF
theorem gtr (hF : ∀ w z, z = .bool (decide (n < m)) → F d w z) : Owes s P ops Q F G D V kf0 i (some d) (.binOp .gtr t x y t2) := bin hx hy guardI (fun w => by simp [binOp, go_sem]) hF
theorem geq (hF : ∀ w z, z = .bool (decide (n ≤ m)) → F d w z) : Owes s P ops Q F G D V kf0 i (some d) (.binOp .geq t x y t2) := bin hx hy guardI (fun w => by simp [binOp, go_sem]) hF
theorem eql (hF : ∀ w z, z = .bool (decide (m = n)) → F d w z) : Owes s P ops Q F G D V kf0 i (some d) (.binOp .eql t x y t2) := bin hx hy guardI (fun w => by simp [binOp, go_sem]; rfl) hF
theorem neq (hF : ∀ w z, z = .bool (!decide (m = n)) → F d w z) : Owes s P ops Q F G D V kf0 i (some d) (.binOp .neq t x y t2) := bin hx hy guardI (fun w => by simp [binOp, go_sem]; rfl) hF
end
section
variable {P : Program} {s : Value → Bool} {ops : Array Oper} {Q : Exit → Act → World → Prop} {F : Facts} {G : List Vr} {D : List (Nat × Pr)} {V : VS} {kf0 : Nat → Nat} {i d : Nat} {x y : Operand} {t t2 : TypeId}
theorem str_cat (l r : List UInt8) : str l ++ str r = str (l ++ r) := by
  apply ByteArray.ext
  simp [str]
theorem eqlS {l r : List UInt8} (hx : Arg s P ops F G D V kf0 i x (isT l)) (hy : Arg s P ops F G D V kf0 i y (isT r)) (hF : ∀ w z, z = .bool (l == r) → F d w z) : Owes s P ops Q F G D V kf0 i (some d) (.binOp .eql t x y t2) :=
  bin hx hy guardS (fun w => by
    have h := str_beq l r
    generalize str l = s at *
    generalize str r = t at *
    simp [binOp, Op.stringOp, go_sem, h]) hF
theorem addS {l r : List UInt8} (hx : Arg s P ops F G D V kf0 i x (isT l)) (hy : Arg s P ops F G D V kf0 i y (isT r)) (hl : l.length + r.length ≤ 9223372036854775807) (hF : ∀ w z, z = .string (str (l ++ r)) → F d w z) : Owes s P ops Q F G D V kf0 i (some d) (.binOp .add t x y t2) :=
  bin hx hy guardS (fun w => by
    have h := str_cat l r
    have e1 : (str l).size = l.length := by simp [ByteArray.size]
    have e2 : (str r).size = r.length := by simp [ByteArray.size]
    rw [← e1, ← e2] at hl
    clear e1 e2
    generalize str (l ++ r) = u at *
    generalize str l = s at *
    generalize str r = t at *
    subst h
    simp [binOp, Op.stringOp, go_sem]
    omega) hF
theorem negI {m r : Int} (hx : Arg s P ops F G D V kf0 i x (isE (.int .i64 m))) (hr : IntKind.i64.wrap (-m) = r) (hF : ∀ w z, z = .int .i64 r → F d w z) : Owes s P ops Q F G D V kf0 i (some d) (.unOp .neg t x) :=
  val (fun o a w ho c => ⟨.int .i64 r, by
    have e1 : a.eval x = .int .i64 m := hx a w c
    unfold execOp
    simp only [ho, e1]
    simp [go_sem, hr], hF _ _ rfl⟩) rfl
end
end Go.Proofs.YtlkiikchjeapfaaGreatDoor.Z
