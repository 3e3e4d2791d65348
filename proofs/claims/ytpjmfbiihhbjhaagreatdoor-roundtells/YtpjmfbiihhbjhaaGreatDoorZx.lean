/- Kinds of values of layers 1 to 5 for the calculus of whole functions: what they are, that they stay, their shapes; plain operations. -/
import Derived.Test.YtpjmfbiihhbjhaaGreatDoorBZ
import Derived.Test.YtpjmfbiihhbjhaaGreatDoorWhM
import Derived.Test.YtpjmfbiihhbjhaaGreatDoorRefG
import Derived.Test.YtpjmfbiihhbjhaaGreatDoorRefP
namespace Go.Proofs.YtpjmfbiihhbjhaaGreatDoor.Z
open Go.RowKit Go.Proofs.YtpjmfbiihhbjhaaGreatDoor.Rg

abbrev isE (c : Value) : Pr := fun _ v => v = c
abbrev isX : Pr := fun _ _ => True
abbrev isN (n k : Nat) : Pr := fun w v => IsN w v n k
abbrev isW (z : Int) (k : Nat) : Pr := fun w v => IsW w v z k
abbrev isD (n k : Nat) : Pr := fun w v => IsD w v n k
abbrev isV (z : Int) (k : Nat) : Pr := fun w v => IsV w v z k
abbrev isS (l : List Nat) : Pr := fun w v => Sl w v l
/-- A text. -/
abbrev isT (l : List UInt8) : Pr := fun _ v => v = .string (str l)
/-- An address whose cell holds the int x. -/
def isA (x : Int) : Pr := fun w v => ∃ b o, v = .pointer (some ⟨b, o, none⟩) ∧ w.cell? ⟨b, o, none⟩ = some (.int .i64 x)

/-! ### They stay -/
theorem cell_evo {w w' : World} {b o : Nat} {k : IntKind} {x : Int} (h : w.cell? ⟨b, o, none⟩ = some (.int k x)) (g : Evo soft w w') : w'.cell? ⟨b, o, none⟩ = some (.int k x) := by
  rcases g.block b (lt_of_cell h) with h1 | ⟨cs, cs', t, h1, _, h3, _⟩
  · rw [← h]
    simp only [World.cell?, h1]
  · exfalso
    have hc : cs[o]? = some (.int k x) := by
      simpa [World.cell?, h1] using h
    obtain ⟨ho, e⟩ := Array.getElem?_eq_some_iff.1 hc
    have := Array.all_eq_true.1 (soft_all h3) o ho
    rw [e] at this
    cases this
theorem Cells.evo {w w' : World} {A : Option Addr} {l : List Nat} (h : Cells w A l) (g : Evo soft w w') : Cells w' A l := fun hn => by
  obtain ⟨b, o, e, hb, hc⟩ := h hn
  exact ⟨b, o, e, Nat.lt_of_lt_of_le hb g.size, fun j x hx => cell_evo (hc j x hx) g⟩
theorem CellsD.evo {w w' : World} {A : Option Addr} {l : List Nat} (h : CellsD w A l) (g : Evo soft w w') : CellsD w' A l := fun hn => by
  obtain ⟨b, o, e, hb, hc⟩ := h hn
  exact ⟨b, o, e, Nat.lt_of_lt_of_le hb g.size, fun j x hx => cell_evo (hc j x hx) g⟩
theorem stb_N (n k : Nat) : Stb soft (isN n k) := fun _ _ _ ⟨⟨A, c, e, h1, h2⟩, h3⟩ g => ⟨⟨A, c, e, h1, Cells.evo h2 g⟩, h3⟩
theorem stb_W (z : Int) (k : Nat) : Stb soft (isW z k) := fun _ _ _ ⟨A, l, c, e, h⟩ g => ⟨A, l, c, e, stb_N _ _ _ _ _ h g⟩
theorem stb_D (n k : Nat) : Stb soft (isD n k) := fun _ _ _ ⟨A, c, e, h1, h2, h3⟩ g => ⟨A, c, e, h1, CellsD.evo h2 g, h3⟩
theorem stb_V (z : Int) (k : Nat) : Stb soft (isV z k) := fun _ _ _ ⟨A, l, c, e, h⟩ g => ⟨A, l, c, e, stb_D _ _ _ _ _ h g⟩
theorem stb_S (l : List Nat) : Stb soft (isS l) := fun _ _ _ ⟨A, c, e, h1, h2, h3⟩ g => ⟨A, c, e, h1, h2, Cells.evo h3 g⟩
theorem stb_A (x : Int) : Stb soft (isA x) := fun _ _ _ ⟨b, o, e, h⟩ g => ⟨b, o, e, cell_evo h g⟩

/-! ### Shapes -/
theorem aggN : aggB Tryz.prog 26 = true := by kernel_rfl
theorem sizeN : (Tryz.prog.info? 26).map (·.size) = some 1 := by kernel_rfl
theorem shN {n k : Nat} : ∀ w v, isN n k w v → ∃ cs, v = .agg cs ∧ Fits soft Tryz.prog 26 cs := fun _ _ h => by
  obtain ⟨A, l, c, e⟩ := IsN.cell h
  exact ⟨_, e, aggN, sizeN, by simp [Value.oneCell'], by simp [soft, softV, isBv]⟩
theorem aggW : aggB Tryz.prog 28 = true := by kernel_rfl
theorem sizeW : (Tryz.prog.info? 28).map (·.size) = some 2 := by kernel_rfl
theorem shW {z : Int} {k : Nat} : ∀ w v, isW z k w v → ∃ cs, v = .agg cs ∧ Fits soft Tryz.prog 28 cs := fun _ _ ⟨_, _, _, e, _⟩ => ⟨_, e, aggW, sizeW, by simp [Value.oneCell'], by simp [soft, softV, isBv]⟩
theorem aggV : aggB Tryz.prog 33 = true := by kernel_rfl
theorem sizeV : (Tryz.prog.info? 33).map (·.size) = some 2 := by kernel_rfl
theorem shV {z : Int} {k : Nat} : ∀ w v, isV z k w v → ∃ cs, v = .agg cs ∧ Fits soft Tryz.prog 33 cs := fun _ _ ⟨_, _, _, e, _⟩ => ⟨_, e, aggV, sizeV, by simp [Value.oneCell'], by simp [soft, softV, isBv]⟩
theorem fldVD {z : Int} {k : Nat} : ∀ w cs, isV z k w (.agg cs) → isD z.natAbs k w (cs.getD 0 undef) := fun _ _ ⟨_, _, _, e, h⟩ => by
  injection e with e
  subst e
  exact h
theorem fldVB {z : Int} {k : Nat} : ∀ w cs, isV z k w (.agg cs) → isE (.bool (decide (z < 0))) w (cs.getD 1 undef) := fun _ _ ⟨_, _, _, e, _⟩ => by
  injection e with e
  subst e
  rfl

/-! ### Plain operations -/
section
variable {P : Program} {s : Array Value → Bool} {ops : Array Oper} {Q : Exit → Act → World → Prop} {F : Facts} {G : List Vr} {D : List (Nat × Pr)} {V : VS} {kf0 : Nat → Nat} {i d : Nat} {x y : Operand} {t t2 : TypeId}
theorem bin {b : BinOp} {u v r : Value} (hx : Arg s P ops F G D V kf0 i x (isE u)) (hy : Arg s P ops F G D V kf0 i y (isE v)) (hg : ∀ w, (eqGuard b t x y u v).run P w = .ok () w) (hr : ∀ w, (binOp b t u v).run P w = .ok r w) (hF : ∀ w z, z = r → F d w z) :
    Owes s P ops Q F G D V kf0 i (some d) (.binOp b t x y t2) :=
  val (fun o a w ho c => ⟨r, by
    have e1 : a.eval x = u := hx a w c
    have e2 : a.eval y = v := hy a w c
    unfold execOp
    simp only [ho, e1, e2, Sem.run_bind, hg, hr, Result.andThen_ok, Sem.run_pure], hF _ _ rfl⟩) rfl
theorem guardI {b : BinOp} {k k' : IntKind} {m n : Int} (w : World) : (eqGuard b t x y (.int k m) (.int k' n)).run P w = .ok () w := by cases b <;> rfl
theorem guardS {b : BinOp} {m n : ByteArray} (w : World) : (eqGuard b t x y (.string m) (.string n)).run P w = .ok () w := by cases b <;> rfl
theorem guardB {b : BinOp} {m n : Bool} (w : World) : (eqGuard b t x y (.bool m) (.bool n)).run P w = .ok () w := by cases b <;> rfl
variable {k : IntKind} {m n : Int}
theorem lss (hx : Arg s P ops F G D V kf0 i x (isE (.int k m))) (hy : Arg s P ops F G D V kf0 i y (isE (.int k n))) (hF : ∀ w z, z = .bool (decide (m < n)) → F d w z) : Owes s P ops Q F G D V kf0 i (some d) (.binOp .lss t x y t2) := bin hx hy guardI (fun w => by simp [binOp, go_sem]) hF
theorem leq (hx : Arg s P ops F G D V kf0 i x (isE (.int k m))) (hy : Arg s P ops F G D V kf0 i y (isE (.int k n))) (hF : ∀ w z, z = .bool (decide (m ≤ n)) → F d w z) : Owes s P ops Q F G D V kf0 i (some d) (.binOp .leq t x y t2) := bin hx hy guardI (fun w => by simp [binOp, go_sem]) hF
theorem gtr (hx : Arg s P ops F G D V kf0 i x (isE (.int k m))) (hy : Arg s P ops F G D V kf0 i y (isE (.int k n))) (hF : ∀ w z, z = .bool (decide (n < m)) → F d w z) : Owes s P ops Q F G D V kf0 i (some d) (.binOp .gtr t x y t2) := bin hx hy guardI (fun w => by simp [binOp, go_sem]) hF
theorem geq (hx : Arg s P ops F G D V kf0 i x (isE (.int k m))) (hy : Arg s P ops F G D V kf0 i y (isE (.int k n))) (hF : ∀ w z, z = .bool (decide (n ≤ m)) → F d w z) : Owes s P ops Q F G D V kf0 i (some d) (.binOp .geq t x y t2) := bin hx hy guardI (fun w => by simp [binOp, go_sem]) hF
theorem eql (hx : Arg s P ops F G D V kf0 i x (isE (.int k m))) (hy : Arg s P ops F G D V kf0 i y (isE (.int k n))) (hF : ∀ w z, z = .bool (decide (m = n)) → F d w z) : Owes s P ops Q F G D V kf0 i (some d) (.binOp .eql t x y t2) := bin hx hy guardI (fun w => by simp [binOp, go_sem]; rfl) hF
theorem neq (hx : Arg s P ops F G D V kf0 i x (isE (.int k m))) (hy : Arg s P ops F G D V kf0 i y (isE (.int k n))) (hF : ∀ w z, z = .bool (!decide (m = n)) → F d w z) : Owes s P ops Q F G D V kf0 i (some d) (.binOp .neq t x y t2) := bin hx hy guardI (fun w => by simp [binOp, go_sem]; rfl) hF
end
section
variable {P : Program} {s : Array Value → Bool} {ops : Array Oper} {Q : Exit → Act → World → Prop} {F : Facts} {G : List Vr} {D : List (Nat × Pr)} {V : VS} {kf0 : Nat → Nat} {i d : Nat} {x y : Operand} {t t2 : TypeId}
theorem str_cat (l r : List UInt8) : str l ++ str r = str (l ++ r) := by
  apply ByteArray.ext
  simp [str]
theorem eqlS {l r : List UInt8} (hx : Arg s P ops F G D V kf0 i x (isT l)) (hy : Arg s P ops F G D V kf0 i y (isT r)) (hF : ∀ w z, z = .bool (l == r) → F d w z) : Owes s P ops Q F G D V kf0 i (some d) (.binOp .eql t x y t2) :=
  bin hx hy guardS (fun w => by
    have h := str_beq l r
    generalize str l = s at *
    generalize str r = t at *
    simp [binOp, Op.stringOp, go_sem, h]) hF
theorem neqS {l r : List UInt8} (hx : Arg s P ops F G D V kf0 i x (isT l)) (hy : Arg s P ops F G D V kf0 i y (isT r)) (hF : ∀ w z, z = .bool (!(l == r)) → F d w z) : Owes s P ops Q F G D V kf0 i (some d) (.binOp .neq t x y t2) :=
  bin hx hy guardS (fun w => by
    have h := str_beq l r
    generalize str l = s at *
    generalize str r = t at *
    simp [binOp, Op.stringOp, h]) hF
theorem addS {l r : List UInt8} (hx : Arg s P ops F G D V kf0 i x (isT l)) (hy : Arg s P ops F G D V kf0 i y (isT r)) (hl : l.length + r.length ≤ 9223372036854775807) (hF : ∀ w z, z = .string (str (l ++ r)) → F d w z) : Owes s P ops Q F G D V kf0 i (some d) (.binOp .add t x y t2) :=
  bin hx hy guardS (fun w => by
    have h := str_cat l r
    have e1 : (str l).size = l.length := by simp [ByteArray.size]
    have e2 : (str r).size = r.length := by simp [ByteArray.size]
    rw [← e1, ← e2] at hl
    clear e1 e2
    generalize str (l ++ r) = u at *
    generalize str l = s at *
    generalize str r = t at *
    subst h
    simp [binOp, Op.stringOp, go_sem]
    omega) hF
theorem negI {m r : Int} (hx : Arg s P ops F G D V kf0 i x (isE (.int .i64 m))) (hr : IntKind.i64.wrap (-m) = r) (hF : ∀ w z, z = .int .i64 r → F d w z) : Owes s P ops Q F G D V kf0 i (some d) (.unOp .neg t x) :=
  val (fun o a w ho c => ⟨.int .i64 r, by
    have e1 : a.eval x = .int .i64 m := hx a w c
    unfold execOp
    simp only [ho, e1]
    simp [go_sem, hr], hF _ _ rfl⟩) rfl
end

/-! ### Kinds, and plain operations in short words -/
abbrev kN (n k : Nat) : Kd Tryz.prog := .at (isN n k) (stb_N n k) 26 shN
abbrev kW (z : Int) (k : Nat) : Kd Tryz.prog := .at (isW z k) (stb_W z k) 28 shW
abbrev kD (n k : Nat) : Kd Tryz.prog := .of (isD n k) (stb_D n k)
abbrev kV (z : Int) (k : Nat) : Kd Tryz.prog := .at (isV z k) (stb_V z k) 33 shV
abbrev kS (l : List Nat) : Kd Tryz.prog := .of (isS l) (stb_S l)
abbrev kT (l : List UInt8) : Kd Tryz.prog := .of (isT l) (stb_eq _)
abbrev kA (x : Int) : Kd Tryz.prog := .of (isA x) (stb_A x)
section
variable {P : Program} {ops : Array Oper} {Q : Exit → Act → World → Prop} {fs : FL P} {G : List (Vk P)} {D : FL P} {V : VS} {kf0 : Nat → Nat} {i : Nat} {x y : Operand}
/-- A binary operation, without its types. -/
def bnOf (ops : Array Oper) (i : Nat) : Option (Nat × BinOp × Operand × Operand) := match ops[i]? with
  | some o => match o.dst, o.op with
    | some d, .binOp b _ x y _ => some (d, b, x, y)
    | _, _ => none
  | none => none
theorem bn_of {d : Nat} {b : BinOp} (h : bnOf ops i = some (d, b, x, y)) (s : ∀ t t2, Owes soft P ops Q (fv fs) (gv G) (dv D) V kf0 i (some d) (.binOp b t x y t2)) : B2 P ops Q fs G D V kf0 i := fun o ho a w c => by
  unfold bnOf at h
  rw [ho] at h
  simp only at h
  split at h
  · next d' b' t x' y' t2 hd hop =>
    injection h with h
    injection h with h1 h
    injection h with h2 h
    injection h with h3 h4
    subst h1 h2 h3 h4
    exact s t t2 o a w hop hd c
  · cases h
variable {k : IntKind} {m n : Int} {b : Bool}
theorem bLt (d : Nat) (ax : A2 P ops fs G D V kf0 i x (isE (.int k m))) (ay : A2 P ops fs G D V kf0 i y (isE (.int k n))) (e : decide (m < n) = b) (hF : ∀ w v, v = .bool b → (lk fs d).p w v := by exact fun _ _ h => h) (h : bnOf ops i = some (d, .lss, x, y) := by kernel_rfl) : B2 P ops Q fs G D V kf0 i := bn_of h fun _ _ => lss ax ay fun w z hz => hF w z (hz.trans (by rw [e]))
theorem bLe (d : Nat) (ax : A2 P ops fs G D V kf0 i x (isE (.int k m))) (ay : A2 P ops fs G D V kf0 i y (isE (.int k n))) (e : decide (m ≤ n) = b) (hF : ∀ w v, v = .bool b → (lk fs d).p w v := by exact fun _ _ h => h) (h : bnOf ops i = some (d, .leq, x, y) := by kernel_rfl) : B2 P ops Q fs G D V kf0 i := bn_of h fun _ _ => leq ax ay fun w z hz => hF w z (hz.trans (by rw [e]))
theorem bGt (d : Nat) (ax : A2 P ops fs G D V kf0 i x (isE (.int k m))) (ay : A2 P ops fs G D V kf0 i y (isE (.int k n))) (e : decide (n < m) = b) (hF : ∀ w v, v = .bool b → (lk fs d).p w v := by exact fun _ _ h => h) (h : bnOf ops i = some (d, .gtr, x, y) := by kernel_rfl) : B2 P ops Q fs G D V kf0 i := bn_of h fun _ _ => gtr ax ay fun w z hz => hF w z (hz.trans (by rw [e]))
theorem bGe (d : Nat) (ax : A2 P ops fs G D V kf0 i x (isE (.int k m))) (ay : A2 P ops fs G D V kf0 i y (isE (.int k n))) (e : decide (n ≤ m) = b) (hF : ∀ w v, v = .bool b → (lk fs d).p w v := by exact fun _ _ h => h) (h : bnOf ops i = some (d, .geq, x, y) := by kernel_rfl) : B2 P ops Q fs G D V kf0 i := bn_of h fun _ _ => geq ax ay fun w z hz => hF w z (hz.trans (by rw [e]))
theorem bEq (d : Nat) (ax : A2 P ops fs G D V kf0 i x (isE (.int k m))) (ay : A2 P ops fs G D V kf0 i y (isE (.int k n))) (e : decide (m = n) = b) (hF : ∀ w v, v = .bool b → (lk fs d).p w v := by exact fun _ _ h => h) (h : bnOf ops i = some (d, .eql, x, y) := by kernel_rfl) : B2 P ops Q fs G D V kf0 i := bn_of h fun _ _ => eql ax ay fun w z hz => hF w z (hz.trans (by rw [e]))
theorem bNe (d : Nat) (ax : A2 P ops fs G D V kf0 i x (isE (.int k m))) (ay : A2 P ops fs G D V kf0 i y (isE (.int k n))) (e : (!decide (m = n)) = b) (hF : ∀ w v, v = .bool b → (lk fs d).p w v := by exact fun _ _ h => h) (h : bnOf ops i = some (d, .neq, x, y) := by kernel_rfl) : B2 P ops Q fs G D V kf0 i := bn_of h fun _ _ => neq ax ay fun w z hz => hF w z (hz.trans (by rw [e]))
variable {l r : List UInt8}
theorem bSe (d : Nat) (ax : A2 P ops fs G D V kf0 i x (isT l)) (ay : A2 P ops fs G D V kf0 i y (isT r)) (e : (l == r) = b) (hF : ∀ w v, v = .bool b → (lk fs d).p w v := by exact fun _ _ h => h) (h : bnOf ops i = some (d, .eql, x, y) := by kernel_rfl) : B2 P ops Q fs G D V kf0 i := bn_of h fun _ _ => eqlS ax ay fun w z hz => hF w z (hz.trans (by rw [e]))
theorem bSn (d : Nat) (ax : A2 P ops fs G D V kf0 i x (isT l)) (ay : A2 P ops fs G D V kf0 i y (isT r)) (e : (!(l == r)) = b) (hF : ∀ w v, v = .bool b → (lk fs d).p w v := by exact fun _ _ h => h) (h : bnOf ops i = some (d, .neq, x, y) := by kernel_rfl) : B2 P ops Q fs G D V kf0 i := bn_of h fun _ _ => neqS ax ay fun w z hz => hF w z (hz.trans (by rw [e]))
theorem bSa (d : Nat) (ax : A2 P ops fs G D V kf0 i x (isT l)) (ay : A2 P ops fs G D V kf0 i y (isT r)) (hl : l.length + r.length ≤ 9223372036854775807) (hF : ∀ w v, v = .string (str (l ++ r)) → (lk fs d).p w v := by exact fun _ _ h => h) (h : bnOf ops i = some (d, .add, x, y) := by kernel_rfl) : B2 P ops Q fs G D V kf0 i := bn_of h fun _ _ => addS ax ay hl hF
theorem i64_in {x : Int} (h1 : -9223372036854775808 ≤ x) (h2 : x ≤ 9223372036854775807) : IntKind.i64.wrap x = x := by
  have e : IntKind.i64.bits = 64 := rfl
  have e2 : IntKind.i64.signed = true := rfl
  simp [IntKind.wrap, e, e2]
  omega
theorem bAd (d : Nat) (ax : A2 P ops fs G D V kf0 i x (isE (.int k m))) (ay : A2 P ops fs G D V kf0 i y (isE (.int k n))) {r : Int} (e : k.wrap (m + n) = r) (hF : ∀ w v, v = .int k r → (lk fs d).p w v := by exact fun _ _ h => h) (h : bnOf ops i = some (d, .add, x, y) := by kernel_rfl) : B2 P ops Q fs G D V kf0 i := bn_of h fun _ _ => bin ax ay guardI (fun w => by simp [binOp, go_sem, e]) hF
theorem bSu (d : Nat) (ax : A2 P ops fs G D V kf0 i x (isE (.int k m))) (ay : A2 P ops fs G D V kf0 i y (isE (.int k n))) {r : Int} (e : k.wrap (m - n) = r) (hF : ∀ w v, v = .int k r → (lk fs d).p w v := by exact fun _ _ h => h) (h : bnOf ops i = some (d, .sub, x, y) := by kernel_rfl) : B2 P ops Q fs G D V kf0 i := bn_of h fun _ _ => bin ax ay guardI (fun w => by simp [binOp, go_sem, e]) hF
theorem bMu (d : Nat) (ax : A2 P ops fs G D V kf0 i x (isE (.int k m))) (ay : A2 P ops fs G D V kf0 i y (isE (.int k n))) {r : Int} (e : k.wrap (m * n) = r) (hF : ∀ w v, v = .int k r → (lk fs d).p w v := by exact fun _ _ h => h) (h : bnOf ops i = some (d, .mul, x, y) := by kernel_rfl) : B2 P ops Q fs G D V kf0 i := bn_of h fun _ _ => bin ax ay guardI (fun w => by simp [binOp, go_sem, e]) hF
end
/-! ### Contracts whose answers are tuples -/
theorem div_t {w : World} {va vb : Value} {n m k j : Nat} (ha : IsN w va n k) (hb : IsN w vb m j) (hk : k ≤ 1073741824) (hm : m ≠ 0) : Calls Tryz.prog 34 #[va, vb] w (Ret w fun v w' => (Kd.T [kN (n / m) k, kN (n % m) j, .E (.int .i64 0)]).p w' v) :=
  (div_n ha hb hk hm).mono fun _ _ r => r.mono fun _ _ ⟨_, _, e, h1, h2⟩ => by rw [e]; exact tup3 (k := kN _ _) (l := kN _ _) (m := .E _) h1 h2 rfl
end Go.Proofs.YtpjmfbiihhbjhaaGreatDoor.Z
