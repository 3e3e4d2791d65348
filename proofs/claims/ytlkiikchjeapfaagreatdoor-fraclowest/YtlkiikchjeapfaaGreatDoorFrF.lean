/- The reference's fractions, slices and their lengths, for the calculus of whole functions. -/
import Derived.Test.YtlkiikchjeapfaaGreatDoorFrE
import Derived.Test.YtlkiikchjeapfaaGreatDoorRefH
import Derived.Test.YtlkiikchjeapfaaGreatDoorRefP
import Derived.Test.YtlkiikchjeapfaaGreatDoorRefG
namespace Go.Proofs.YtlkiikchjeapfaaGreatDoor
open Go.RowKit

/-- The two numbers of a value of the reference's type Frac. -/
def IsG (w : World) (v : Value) (z : Int) (n k : Nat) : Prop := ∃ A l c A' l' c', v = .agg #[.slice A l c, .bool (decide (z < 0)), .slice A' l' c'] ∧ IsD w (.slice A l c) z.natAbs k ∧ IsD w (.slice A' l' c') n k
theorem IsG.r {w : World} {v : Value} {z : Int} {n m k : Nat} {q : Rat} (h : IsG w v z n m) (e : z = q.num ∧ n = q.den) (hk : m ≤ k) : IsR w v q k := by
  obtain ⟨rfl, rfl⟩ := e
  exact IsR.weak (k := m) h hk
/-- A value of the laws' type Num. -/
def IsM (w : World) (v : Value) (a b : List Nat) (m : Bool) : Prop := ∃ A l c A' l' c', v = .agg #[.slice A l c, .slice A' l' c', .bool m] ∧ Sl w (.slice A l c) a ∧ Sl w (.slice A' l' c') b
theorem signed_div' {z : Int} {g : Nat} (h : g ∣ z.natAbs) : signed (z.natAbs / g) (decide (z < 0)) = z / (g : Int) := by
  have e : decide (z < 0) = decide (Int.sign z < 0) := decide_eq_decide.2 (by rw [Int.sign_neg_iff])
  rw [e]
  exact signed_div h
theorem dlen_one : Dx.len 1 = 1 := by decide
theorem dlimbs_of_len {n : Nat} (h : Dx.len n = 1) : Dx.limbs n = [n] := by
  have h1 : (Dx.limbs n).length = 1 := h
  match hl : Dx.limbs n, h1 with
  | [x], _ =>
    have := Dx.val_limbs n
    rw [hl, Dx.val_one] at this
    rw [this]
theorem of_rat_pos_eq {z n : Int} (hn : 0 < n) : ((z : Int) : Rat) / ((n : Int) : Rat) = mkRat z n.natAbs := by
  rw [Rat.mkRat_eq_div]
  congr 1
  rw [← Rat.intCast_natCast]
  congr 1
  omega
theorem of_rat_neg_eq {z n : Int} (hn : n < 0) : ((z : Int) : Rat) / ((n : Int) : Rat) = mkRat (-z) n.natAbs := by
  obtain ⟨m, rfl⟩ : ∃ m : Nat, n = -(m : Int) := ⟨n.natAbs, by omega⟩
  rw [← Rat.divInt_eq_div, Rat.divInt_neg', Rat.divInt_ofNat]
  simp
theorem IsR.num_dlen {w : World} {v : Value} {q : Rat} {k : Nat} (h : IsR w v q k) : Dx.len q.num.natAbs ≤ k := by
  obtain ⟨_, _, _, _, _, _, _, ⟨_, _, _, _, _, h1⟩, _⟩ := h
  exact h1
theorem IsR.den_dlen {w : World} {v : Value} {q : Rat} {k : Nat} (h : IsR w v q k) : Dx.len q.den ≤ k := by
  obtain ⟨_, _, _, _, _, _, _, _, ⟨_, _, _, _, _, h1⟩⟩ := h
  exact h1
theorem text_dlen {n k : Nat} (h : Dx.len n ≤ k) : (Tx.text n).length ≤ 4 * k + 1 := by
  rw [Tx.text_length]
  by_cases hn : n = 0
  · subst hn
    have : Tx.digs 0 = 1 := Tx.digs_small (by decide)
    omega
  · have h1 := Tx.digs_le n hn
    have h2 := dnum_lt n
    have h3 := Nat.lt_of_le_of_lt h1 h2
    have h4 := (Nat.pow_lt_pow_iff_right (by decide : 1 < 10)).1 h3
    omega
theorem ztext_dlen {z : Int} {k : Nat} (h : Dx.len z.natAbs ≤ k) : (ztext z).length ≤ 4 * k + 2 := by
  have h1 := text_dlen h
  unfold ztext
  split
  · simp; omega
  · omega
theorem quo_rat (x y : Rat) : ((x.num * (y.den : Nat) : Int) : Rat) / ((y.num * (x.den : Nat) : Int) : Rat) = x / y := by
  rw [← Rat.divInt_eq_div]
  have h : x / y = x * y⁻¹ := rfl
  rw [h, Rat.inv_def]
  conv => rhs; rw [← Rat.num_divInt_den x]
  rw [Rat.divInt_mul_divInt, Int.mul_comm y.num]
theorem refOf32 {w : World} {v : Value} {l : List Nat} (h : Sl w v l) (hl : l.length ≤ 4) : Calls Tryz.prog 39 #[v] w (Ret w fun v' w' => IsD w' v' (Mx.val l) 32) :=
  (refOf_any w v l (by omega) h).mono fun _ _ r => r.mono fun _ _ q => q.weak' (by omega)
namespace Z
open Go.Proofs.YtlkiikchjeapfaaGreatDoor.Rg
abbrev isG (z : Int) (n k : Nat) : Pr := fun w v => IsG w v z n k
abbrev isM (a b : List Nat) (m : Bool) : Pr := fun w v => IsM w v a b m
theorem stb_G (z : Int) (n k : Nat) : Stb soft (isG z n k) := fun _ _ _ ⟨A, l, c, A', l', c', e, h1, h2⟩ g => ⟨A, l, c, A', l', c', e, stb_D _ _ _ _ _ h1 g, stb_D _ _ _ _ _ h2 g⟩
theorem stb_M (a b : List Nat) (m : Bool) : Stb soft (isM a b m) := fun _ _ _ ⟨A, l, c, A', l', c', e, h1, h2⟩ g => ⟨A, l, c, A', l', c', e, stb_S _ _ _ _ h1 g, stb_S _ _ _ _ h2 g⟩
theorem aggG : aggB Tryz.prog 35 = true := by kernel_rfl
theorem sizeG : (Tryz.prog.info? 35).map (·.size) = some 3 := by kernel_rfl
theorem shG {z : Int} {n k : Nat} : ∀ w v, isG z n k w v → ∃ cs, v = .agg cs ∧ Fits soft Tryz.prog 35 cs := fun _ _ ⟨_, _, _, _, _, _, e, _⟩ => ⟨_, e, aggG, sizeG, by simp [Value.oneCell'], by simp [soft]⟩
theorem shR {q : Rat} {k : Nat} : ∀ w v, isR q k w v → ∃ cs, v = .agg cs ∧ Fits soft Tryz.prog 35 cs := fun w v h => shG w v h
theorem aggM : aggB Tryz.prog 24 = true := by kernel_rfl
theorem sizeM : (Tryz.prog.info? 24).map (·.size) = some 3 := by kernel_rfl
theorem shM {a b : List Nat} {m : Bool} : ∀ w v, isM a b m w v → ∃ cs, v = .agg cs ∧ Fits soft Tryz.prog 24 cs := fun _ _ ⟨_, _, _, _, _, _, e, _⟩ => ⟨_, e, aggM, sizeM, by simp [Value.oneCell'], by simp [soft]⟩
abbrev kG (z : Int) (n k : Nat) : Kd Tryz.prog := .at (isG z n k) (stb_G z n k) 35 shG
abbrev kR (q : Rat) (k : Nat) : Kd Tryz.prog := .at (isR q k) (stb_R q k) 35 shR
abbrev kM (a b : List Nat) (m : Bool) : Kd Tryz.prog := .at (isM a b m) (stb_M a b m) 24 shM
theorem refDivMod_t {w : World} {va vb : Value} {n m k j : Nat} (ha : IsD w va n k) (hb : IsD w vb m j) (hk : k ≤ 1048576) (hj : j ≤ 1048576) (hm : 0 < m) : Calls Tryz.prog 77 #[va, vb] w (Ret w fun v w' => (Kd.T [kD (n / m) k, kD (n % m) j]).p w' v) :=
  (refDivMod_any w va vb n m k j hk hj ha hb hm).mono fun _ _ r => r.mono fun _ _ ⟨_, _, e, h1, h2⟩ => by rw [e]; exact tup2 (k := kD _ _) (l := kD _ _) h1 h2
theorem floorV_t {w : World} {va vb : Value} {x y : Int} {k j : Nat} (hx : IsV w va x k) (hy : IsV w vb y j) (hk : k ≤ 1000) (hj : j ≤ 1000) (hy0 : y ≠ 0) : Calls Tryz.prog 59 #[va, vb] w (Ret w fun v w' => (Kd.T [kV (zdiv x y) 2000, kV (zmod x y) 10000]).p w' v) :=
  (floorV_any hx hy hk hj hy0).mono fun _ _ r => r.mono fun _ _ ⟨_, _, e, h1, h2⟩ => by rw [e]; exact tup2 (k := kV _ _) (l := kV _ _) h1 h2
theorem fldGV {z : Int} {n k : Nat} : ∀ w cs, isG z n k w (.agg cs) → isV z k w (.agg (cs.extract 0 (0 + 2))) := fun w cs ⟨A, l, c, A', l', c', e, h1, _⟩ => by
  injection e with e
  subst e
  exact ⟨A, l, c, rfl, h1⟩
theorem fldGD {z : Int} {n k : Nat} : ∀ w cs, isG z n k w (.agg cs) → isD n k w (cs.getD 2 undef) := fun w cs ⟨A, l, c, A', l', c', e, _, h2⟩ => by
  injection e with e
  subst e
  exact h2
theorem fldRV {q : Rat} {k : Nat} : ∀ w cs, isR q k w (.agg cs) → isV q.num k w (.agg (cs.extract 0 (0 + 2))) := fun w cs h => fldGV w cs h
theorem fldRD {q : Rat} {k : Nat} : ∀ w cs, isR q k w (.agg cs) → isD q.den k w (cs.getD 2 undef) := fun w cs h => fldGD w cs h
theorem fldMA {a b : List Nat} {m : Bool} : ∀ w cs, isM a b m w (.agg cs) → isS a w (cs.getD 0 undef) := fun w cs ⟨A, l, c, A', l', c', e, h1, _⟩ => by
  injection e with e
  subst e
  exact h1
theorem fldMB {a b : List Nat} {m : Bool} : ∀ w cs, isM a b m w (.agg cs) → isS b w (cs.getD 1 undef) := fun w cs ⟨A, l, c, A', l', c', e, _, h2⟩ => by
  injection e with e
  subst e
  exact h2
theorem fldMM {a b : List Nat} {m : Bool} : ∀ w cs, isM a b m w (.agg cs) → isE (.bool m) w (cs.getD 2 undef) := fun w cs ⟨A, l, c, A', l', c', e, _, _⟩ => by
  injection e with e
  subst e
  rfl
section
variable {ops : Array Oper} {Q : Exit → Act → World → Prop} {F : Facts} {G : List Vr} {D : List (Nat × Pr)} {V : VS} {kf0 : Nat → Nat} {i d : Nat} {x y : Operand}
theorem buildG {x y n k j m : Nat} {z : Int} (hx : Arg soft Tryz.prog ops F G D V kf0 i (.tmp x) (isV z k)) (hy : Arg soft Tryz.prog ops F G D V kf0 i (.tmp y) (isD n j)) (hk : k ≤ m) (hj : j ≤ m) (hF : ∀ w v, isG z n m w v → F d w v) : Owes soft Tryz.prog ops Q F G D V kf0 i (some d) (.build 35 #[(0, .tmp x), (1, .tmp y)]) :=
  val (fun o a w ho c => by
    obtain ⟨A, l, c', e1, h1⟩ := hx a w c
    have h2 := hy a w c
    obtain ⟨A', c2, e2⟩ := IsD.slice h2
    rw [e2] at h2
    refine ⟨.agg #[.slice A l c', .bool (decide (z < 0)), .slice A' (Dx.len n) c2], ?_, hF _ _ ⟨A, l, c', A', _, c2, rfl, h1.weak' hk, h2.weak' hj⟩⟩
    simp only [Act.eval, Array.getD_eq_getD_getElem?] at e1 e2
    simp [execOp, ho, go_sem, Act.eval, e1, e2]) rfl
theorem buildDone {x : Nat} (h0 : x ≠ 0) (hc : x < 10000) (hF : ∀ w v, isD x 1 w v → F d w v) : Owes soft Tryz.prog ops Q F G D V kf0 i (some d) (.buildSlice 31 1 #[(0, .const (.int .i64 (x : Int)))]) :=
  fun o a w ho hd _ => Rg.valOf (v := .slice (some ⟨w.heap.size, 0, none⟩) 1 1) (w' := w.alloc (.cells #[.int .i64 (x : Int)] 3)) (by simp [execOp, ho, go_sem, Act.eval]) hd
    (hF _ _ (isD_one w x h0 hc)) ((Grow.refl w).alloc _)
theorem lenD {n k : Nat} {ts : Array TypeId} (hx : Arg soft Tryz.prog ops F G D V kf0 i x (isD n k)) (ht : ts = #[31]) (hF : ∀ w v, v = .int .i64 ((Dx.len n : Nat) : Int) → F d w v) : Owes soft Tryz.prog ops Q F G D V kf0 i (some d) (.call { callee := .builtin .len, args := #[x], argTypes := ts }) :=
  val (fun o a w ho c => by
    obtain ⟨A, c2, e2⟩ := IsD.slice (hx a w c)
    subst ht
    refine ⟨.int .i64 ((Dx.len n : Nat) : Int), ?_, hF _ _ rfl⟩
    unfold execOp
    simp only [ho, resolve, List.map_toArray, List.map_cons, List.map_nil, e2]
    simp [go_sem, invoke, builtin, Builtin.len_, goInt]) rfl
theorem lenS {l : List Nat} {ts : Array TypeId} (hx : Arg soft Tryz.prog ops F G D V kf0 i x (isS l)) (ht : ts = #[22]) (hF : ∀ w v, v = .int .i64 ((l.length : Nat) : Int) → F d w v) : Owes soft Tryz.prog ops Q F G D V kf0 i (some d) (.call { callee := .builtin .len, args := #[x], argTypes := ts }) :=
  val (fun o a w ho c => by
    obtain ⟨A, c2, e2, _⟩ := hx a w c
    subst ht
    refine ⟨.int .i64 ((l.length : Nat) : Int), ?_, hF _ _ rfl⟩
    unfold execOp
    simp only [ho, resolve, List.map_toArray, List.map_cons, List.map_nil, e2]
    simp [go_sem, invoke, builtin, Builtin.len_, goInt]) rfl
theorem minI {m n r : Int} {ts : Array TypeId} (hx : Arg soft Tryz.prog ops F G D V kf0 i x (isE (.int .i64 m))) (hy : Arg soft Tryz.prog ops F G D V kf0 i y (isE (.int .i64 n))) (hr : min m n = r) (hF : ∀ w v, v = .int .i64 r → F d w v) : Owes soft Tryz.prog ops Q F G D V kf0 i (some d) (.call { callee := .builtin .min, args := #[x, y], argTypes := ts }) :=
  val (fun o a w ho c => by
    have e1 : a.eval x = .int .i64 m := hx a w c
    have e2 : a.eval y = .int .i64 n := hy a w c
    refine ⟨.int .i64 r, ?_, hF _ _ rfl⟩
    have hr' : (if n < m then n else m) = r := by rw [← hr]; split <;> omega
    unfold execOp
    simp only [ho, resolve, List.map_toArray, List.map_cons, List.map_nil, e1, e2]
    simp [go_sem, invoke, builtin, Builtin.min_, Builtin.min2, hr']) rfl
theorem upS {l : List Nat} {n : Nat} (hx : Arg soft Tryz.prog ops F G D V kf0 i x (isS l)) (hy : Arg soft Tryz.prog ops F G D V kf0 i y (isE (.int .i64 (n : Int)))) (hn : n ≤ l.length) (hF : ∀ w v, isS (l.take n) w v → F d w v) : Owes soft Tryz.prog ops Q F G D V kf0 i (some d) (.slice 22 x none (some y) none) :=
  val (fun o a w ho c => by
    obtain ⟨A, c2, e1, h1, h2, h3⟩ := hx a w c
    have e2 : a.eval y = .int .i64 (n : Int) := hy a w c
    refine ⟨.slice A n c2, ?_, hF _ _ ⟨A, c2, by rw [List.length_take]; congr 1; omega, by rw [List.length_take]; omega, fun u hu => h2 u (List.mem_of_mem_take hu), h3.take n⟩⟩
    unfold execOp
    simp only [ho, Option.map_some, Option.map_none, e1, e2]
    have h4 : (n : Int) ≤ (c2 : Int) := by omega
    simp [go_sem, Instr.sliceAt]
    omega) rfl
theorem idxD {n k : Nat} (hx : Arg soft Tryz.prog ops F G D V kf0 i x (isD n k)) (hn : Dx.len n = 1) (hF : ∀ w v, isA (n : Int) w v → F d w v) : Owes soft Tryz.prog ops Q F G D V kf0 i (some d) (.indexAddr 31 x (.const (.int .i64 0))) :=
  val (fun o a w ho c => by
    obtain ⟨A, c2, e1, h1, h2, h3⟩ := hx a w c
    rw [hn] at e1
    have hl := dlimbs_of_len hn
    rw [hl] at h2
    obtain ⟨b, off, rfl, hb, hc⟩ := h2 (by simp)
    refine ⟨.pointer (some ⟨b, off, none⟩), ?_, hF _ _ ⟨b, off, rfl, by simpa using hc 0 n rfl⟩⟩
    unfold execOp
    simp only [ho, e1]
    simp [go_sem, Instr.indexAt, Act.eval]) rfl
theorem loadA {z : Int} (hx : Arg soft Tryz.prog ops F G D V kf0 i x (isA z)) (hF : ∀ w v, v = .int .i64 z → F d w v) : Owes soft Tryz.prog ops Q F G D V kf0 i (some d) (.load 3 x) :=
  val (fun o a w ho c => by
    obtain ⟨b, off, e1, h1⟩ := hx a w c
    refine ⟨.int .i64 z, ?_, hF _ _ rfl⟩
    unfold execOp
    simp only [ho, e1]
    simp [go_sem, Instr.loadAt, h1]) rfl
end
end Z
end Go.Proofs.YtlkiikchjeapfaaGreatDoor
