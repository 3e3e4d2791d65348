/- Slices, lengths, bools, structs of layers 4 and further as operations of the calculus; plain mathematics of whole numbers. -/
import Derived.Test.YtpjmfbiihhbjhaaGreatDoorZx
import Derived.Test.YtpjmfbiihhbjhaaGreatDoorRefH
namespace Go.Proofs.YtpjmfbiihhbjhaaGreatDoor
open Go.RowKit
theorem of_one {w : World} {v : Value} {x : Nat} (h : Sl w v [x]) : Calls Tryz.prog 28 #[v] w (Ret w fun v' w' => IsN w' v' x 1) := by
  have := of_n 1 h (by simp) (by omega)
  rwa [Mx.val_one] at this
theorem IsD.weak' {w : World} {v : Value} {n k j : Nat} (h : IsD w v n k) (hk : k ≤ j) : IsD w v n j := by
  obtain ⟨A, c, e, h1, h2, h3⟩ := h
  exact ⟨A, c, e, h1, h2, Nat.le_trans h3 hk⟩
theorem dlen_one : Dx.len 1 = 1 := by decide
theorem dlimbs_of_len {n : Nat} (h : Dx.len n = 1) : Dx.limbs n = [n] := by
  have h1 : (Dx.limbs n).length = 1 := h
  match hl : Dx.limbs n, h1 with
  | [x], _ =>
    have := Dx.val_limbs n
    rw [hl, Dx.val_one] at this
    rw [this]
theorem refOf32 {w : World} {v : Value} {l : List Nat} (h : Sl w v l) (hl : l.length ≤ 4) : Calls Tryz.prog 27 #[v] w (Ret w fun v' w' => IsD w' v' (Mx.val l) 32) :=
  (refOf_any w v l (by omega) h).mono fun _ _ r => r.mono fun _ _ q => q.weak' (by omega)
theorem IsV.eq {w : World} {v : Value} {z y : Int} {k : Nat} (h : IsV w v z k) (e : z = y) : IsV w v y k := e ▸ h
theorem dlen_nz {n : Nat} (h : n ≠ 0) : 0 < Dx.len n := by
  rcases Nat.eq_zero_or_pos (Dx.len n) with h0 | h0
  · have h1 : (Dx.limbs n).length = 0 := h0
    have := Dx.val_limbs n
    rw [List.length_eq_zero_iff.1 h1] at this
    exact absurd this.symm h
  · exact h0
theorem dec_or (x : Int) : (decide (x < 0) = true ∧ x < 0) ∨ (decide (x < 0) = false ∧ 0 ≤ x) := by
  by_cases h : x < 0
  · exact .inl ⟨decide_eq_true h, h⟩
  · exact .inr ⟨decide_eq_false h, by omega⟩
theorem neg_dec (z : Int) : signed z.natAbs (!decide (z < 0)) = -z := neg_signed (dec_or z)
theorem from_s1 {n : Int} (h : n < 0) : signed n.natAbs true = n := by simp only [signed, if_true]; omega
theorem from_s2 {n : Int} (h : ¬ n < 0) : signed n.natAbs false = n := by simp [signed]; omega
theorem cmpW1 {x y : Int} (h : (x.sign - y.sign).sign ≠ 0) : (x.sign - y.sign).sign = (x - y).sign := by
  rcases cmp_cases (dec_or x) (dec_or y) with ⟨_, e⟩ | ⟨e, _⟩
  · exact e.symm
  · exact absurd (by simpa using e) h
theorem cmpW2 {x y : Int} (h : ¬ (x.sign - y.sign).sign ≠ 0) (hx : x < 0) : Mx.cmp y.natAbs x.natAbs = (x - y).sign := by
  rcases cmp_cases (dec_or x) (dec_or y) with ⟨e, _⟩ | ⟨_, ⟨_, e⟩ | ⟨e, _⟩⟩
  · exact absurd (by simpa using e) h
  · exact e
  · exact absurd (of_decide_eq_false e) (by omega)
theorem cmpW3 {x y : Int} (h : ¬ (x.sign - y.sign).sign ≠ 0) (hx : ¬ x < 0) : Mx.cmp x.natAbs y.natAbs = (x - y).sign := by
  rcases cmp_cases (dec_or x) (dec_or y) with ⟨e, _⟩ | ⟨_, ⟨e, _⟩ | ⟨_, e⟩⟩
  · exact absurd (by simpa using e) h
  · exact absurd (of_decide_eq_true e) hx
  · exact e
theorem add_e1 {x y : Int} (he : decide (x < 0) = decide (y < 0)) : signed (x.natAbs + y.natAbs) (decide (x < 0)) = x + y := add_same (dec_or x) (dec_or y) he
theorem add_e2 {x y : Int} (he : decide (x < 0) ≠ decide (y < 0)) (h : y.natAbs ≤ x.natAbs) : signed (x.natAbs - y.natAbs) (decide (x < 0)) = x + y := add_big (dec_or x) (dec_or y) he h
theorem add_e3 {x y : Int} (he : decide (x < 0) ≠ decide (y < 0)) (h : x.natAbs < y.natAbs) : signed (y.natAbs - x.natAbs) (decide (y < 0)) = x + y := add_small (dec_or x) (dec_or y) he h
theorem mul_e (x y : Int) : signed (x.natAbs * y.natAbs) (!(decide (x < 0) == decide (y < 0))) = x * y := mul_signed (dec_or x) (dec_or y)
theorem text_lenW {w : World} {v : Value} {z : Int} {k : Nat} (h : IsW w v z k) : (Tx.text z.natAbs).length ≤ 64 * k + 1 := by
  obtain ⟨_, _, _, _, h1⟩ := h
  rw [Tx.text_length]
  exact digs_lenW h1.2
theorem text_dlen {n k : Nat} (h : Dx.len n ≤ k) : (Tx.text n).length ≤ 4 * k + 1 := by
  rw [Tx.text_length]
  by_cases hn : n = 0
  · subst hn
    have : Tx.digs 0 = 1 := Tx.digs_small (by decide)
    omega
  · have h1 := Tx.digs_le n hn
    have h2 := dnum_lt n
    have h3 := Nat.lt_of_le_of_lt h1 h2
    have h4 := (Nat.pow_lt_pow_iff_right (by decide : 1 < 10)).1 h3
    omega
theorem text_lenV {w : World} {v : Value} {z : Int} {k : Nat} (h : IsV w v z k) : (Tx.text z.natAbs).length ≤ 4 * k + 1 := by
  obtain ⟨_, _, _, _, ⟨_, _, _, _, _, h1⟩⟩ := h
  exact text_dlen h1
theorem cmp_ge {n m : Nat} (h : m ≤ n) : decide ((0 : Int) ≤ Mx.cmp n m) = true := by
  rcases Nat.lt_or_eq_of_le h with h | h
  · rw [Mx.cmp_gt h]; rfl
  · rw [Mx.cmp_eq h.symm]; rfl
theorem cmp_nge {n m : Nat} (h : n < m) : decide ((0 : Int) ≤ Mx.cmp n m) = false := by rw [Mx.cmp_lt h]; rfl
theorem floor_m1 {x y q r : Int} (h : (IntKind.i64.wrap (r.sign * y.sign) = r.sign * y.sign) ∧ ((decide (r.sign * y.sign < 0) = true ∧ q - 1 = zdiv x y ∧ r + y = zmod x y) ∨ (decide (r.sign * y.sign < 0) = false ∧ q = zdiv x y ∧ r = zmod x y))) (hs : r.sign * y.sign < 0) : q - 1 = zdiv x y ∧ r + y = zmod x y := by
  rcases h.2 with h | h
  · exact h.2
  · exact absurd hs (of_decide_eq_false h.1)
theorem floor_m2 {x y q r : Int} (h : (IntKind.i64.wrap (r.sign * y.sign) = r.sign * y.sign) ∧ ((decide (r.sign * y.sign < 0) = true ∧ q - 1 = zdiv x y ∧ r + y = zmod x y) ∨ (decide (r.sign * y.sign < 0) = false ∧ q = zdiv x y ∧ r = zmod x y))) (hs : ¬ r.sign * y.sign < 0) : q = zdiv x y ∧ r = zmod x y := by
  rcases h.2 with h | h
  · exact absurd (of_decide_eq_true h.1) hs
  · exact h.2
theorem floorV_e1 {x y : Int} {r : Nat} {q : Int} {c : Bool} (h : (c = false ∧ r ≠ 0 ∧ q - 1 = zdiv x y) ∨ ((c = true ∨ r = 0) ∧ q = zdiv x y)) (hc : c = false) (hr : r ≠ 0) : q - 1 = zdiv x y := by
  rcases h with h | ⟨h | h, _⟩
  · exact h.2.2
  · rw [hc] at h; cases h
  · exact absurd h hr
theorem floorV_e2 {x y : Int} {r : Nat} {q : Int} {c : Bool} (h : (c = false ∧ r ≠ 0 ∧ q - 1 = zdiv x y) ∨ ((c = true ∨ r = 0) ∧ q = zdiv x y)) (hc : c = true ∨ r = 0) : q = zdiv x y := by
  rcases h with ⟨h1, h2, _⟩ | h
  · rcases hc with hc | hc
    · rw [hc] at h1; cases h1
    · exact absurd hc h2
  · exact h.2
namespace Z
open Go.Proofs.YtpjmfbiihhbjhaaGreatDoor.Rg
theorem fldWN {z : Int} {k : Nat} : ∀ w cs, isW z k w (.agg cs) → isN z.natAbs k w (.agg (cs.extract 0 (0 + 1))) := fun _ _ ⟨_, _, _, e, h⟩ => by
  injection e with e
  subst e
  exact h
theorem fldWB {z : Int} {k : Nat} : ∀ w cs, isW z k w (.agg cs) → isE (.bool (decide (z < 0))) w (cs.getD 1 undef) := fun _ _ ⟨_, _, _, e, _⟩ => by
  injection e with e
  subst e
  rfl
theorem compare_k (w : World) (n m : Int) : Calls Tryz.prog 59 #[.int .i64 n, .int .i64 m] w (Ret w fun v' _ => v' = .int .i64 (n - m).sign) :=
  (compareI_any w n m).mono fun _ _ ⟨e, h⟩ => ⟨_, e, rfl, h ▸ Grow.refl w⟩
theorem sub_t {w : World} {va vb : Value} {n m k j : Nat} (ha : IsN w va n k) (hb : IsN w vb m j) (hk : k ≤ 4294967296) (hle : m ≤ n) : Calls Tryz.prog 87 #[va, vb] w (Ret w fun v w' => (Kd.T [kN (n - m) k, .E (.bool true)]).p w' v) :=
  (sub_n ha hb hk hle).mono fun _ _ r => r.mono fun _ _ ⟨_, e, h1⟩ => by rw [e]; exact tup2 (k := kN _ _) (l := .E _) h1 rfl
theorem subl_t {w : World} {va vb : Value} {n m k j : Nat} (ha : IsN w va n k) (hb : IsN w vb m j) (hk : k ≤ 4294967296) (hlt : n < m) : Calls Tryz.prog 87 #[va, vb] w (Ret w fun v w' => (Kd.T [kN 0 0, .E (.bool false)]).p w' v) :=
  (sub_lt_n ha hb hk hlt).mono fun _ _ r => r.mono fun _ _ ⟨_, e, h1⟩ => by rw [e]; exact tup2 (k := kN _ _) (l := .E _) h1 rfl
theorem div0_t {w : World} {va vb : Value} {n m k j : Nat} (ha : IsN w va n k) (hb : IsN w vb m j) (hm : m = 0) : Calls Tryz.prog 34 #[va, vb] w (Ret w fun v w' => (Kd.T [kN 0 0, kN 0 0, .E (.int .i64 8)]).p w' v) := by
  subst hm
  exact (div_zero_n ha hb.1).mono fun _ _ r => r.mono fun _ _ ⟨_, _, e, h1, h2⟩ => by rw [e]; exact tup3 (k := kN _ _) (l := kN _ _) (m := .E _) h1 h2 rfl
theorem refDivMod_t {w : World} {va vb : Value} {n m k j : Nat} (ha : IsD w va n k) (hb : IsD w vb m j) (hk : k ≤ 1048576) (hj : j ≤ 1048576) (hm : 0 < m) : Calls Tryz.prog 43 #[va, vb] w (Ret w fun v w' => (Kd.T [kD (n / m) k, kD (n % m) j]).p w' v) :=
  (refDivMod_any w va vb n m k j hk hj ha hb hm).mono fun _ _ r => r.mono fun _ _ ⟨_, _, e, h1, h2⟩ => by rw [e]; exact tup2 (k := kD _ _) (l := kD _ _) h1 h2
theorem small_neg {n : Int} {w : World} (h : n < 0) (h1 : -9223372036854775807 ≤ n) : Calls Tryz.prog 60 #[.int .i64 ((n.natAbs : Nat) : Int)] w (Ret w fun v' w' => IsD w' v' n.natAbs 5) := refSmall_any w n.natAbs (by omega)
theorem small_pos {n : Int} {w : World} (h : ¬ n < 0) (h1 : n ≤ 9223372036854775807) : Calls Tryz.prog 60 #[.int .i64 n] w (Ret w fun v' w' => IsD w' v' n.natAbs 5) := by
  have := refSmall_any w n.natAbs (by omega)
  rwa [show ((n.natAbs : Nat) : Int) = n by omega] at this
section
variable {ops : Array Oper} {Q : Exit → Act → World → Prop} {F : Facts} {G : List Vr} {D : List (Nat × Pr)} {V : VS} {kf0 : Nat → Nat} {i d : Nat} {x y : Operand}
theorem buildW0 (hF : ∀ w v, isW 0 0 w v → F d w v) : Owes soft Tryz.prog ops Q F G D V kf0 i (some d) (.build 28 #[]) :=
  val (fun o a w ho c => by
    refine ⟨.agg #[.slice none 0 0, .bool false], ?_, hF _ _ ⟨none, 0, 0, rfl, IsN.zero w⟩⟩
    simp [execOp, ho, go_sem]) rfl
theorem buildW2 {x y n k : Nat} {b : Bool} (hx : Arg soft Tryz.prog ops F G D V kf0 i (.tmp x) (isN n k)) (hy : Arg soft Tryz.prog ops F G D V kf0 i (.tmp y) (isE (.bool b))) (hb : b = true → n ≠ 0) (hF : ∀ w v, isW (signed n b) k w v → F d w v) : Owes soft Tryz.prog ops Q F G D V kf0 i (some d) (.build 28 #[(0, .tmp x), (1, .tmp y)]) :=
  val (fun o a w ho c => by
    have h1 := hx a w c
    have e2 : a.eval (.tmp y) = .bool b := hy a w c
    obtain ⟨A, l, c', e1⟩ := IsN.cell h1
    rw [e1] at h1
    refine ⟨.agg #[.slice A l c', .bool b], ?_, hF _ _ (IsW.mk h1 hb)⟩
    simp only [Act.eval, Array.getD_eq_getD_getElem?] at e1 e2
    simp [execOp, ho, go_sem, Act.eval, e1, e2]) rfl
theorem buildV2 {x y n k : Nat} {b : Bool} (hx : Arg soft Tryz.prog ops F G D V kf0 i (.tmp x) (isD n k)) (hy : Arg soft Tryz.prog ops F G D V kf0 i (.tmp y) (isE (.bool b))) (hb : b = true → n ≠ 0) (hF : ∀ w v, isV (signed n b) k w v → F d w v) : Owes soft Tryz.prog ops Q F G D V kf0 i (some d) (.build 33 #[(0, .tmp x), (1, .tmp y)]) :=
  val (fun o a w ho c => by
    have h1 := hx a w c
    have e2 : a.eval (.tmp y) = .bool b := hy a w c
    obtain ⟨A, c', e1⟩ := IsD.slice h1
    rw [e1] at h1
    refine ⟨.agg #[.slice A (Dx.len n) c', .bool b], ?_, hF _ _ (IsV.mk h1 hb)⟩
    simp only [Act.eval, Array.getD_eq_getD_getElem?] at e1 e2
    simp [execOp, ho, go_sem, Act.eval, e1, e2]) rfl
theorem buildOneZ {x : Nat} (hc : x < Mx.B) (hF : ∀ w v, isS [x] w v → F d w v) : Owes soft Tryz.prog ops Q F G D V kf0 i (some d) (.buildSlice 22 1 #[(0, .const (.int .u64 (x : Int)))]) :=
  ofRg fun _ _ => buildOne hc hF
theorem buildOneT {z x : Nat} (hx : Arg soft Tryz.prog ops F G D V kf0 i (.tmp z) (isE (.int .u64 (x : Int)))) (hc : x < Mx.B) (hF : ∀ w v, isS [x] w v → F d w v) : Owes soft Tryz.prog ops Q F G D V kf0 i (some d) (.buildSlice 22 1 #[(0, .tmp z)]) :=
  fun o a w ho hd cx => Rg.valOf (v := .slice (some ⟨w.heap.size, 0, none⟩) 1 1) (w' := w.alloc (.cells (vals [x]).toArray 63)) (by
    have e : a.eval (.tmp z) = .int .u64 (x : Int) := hx a w cx
    simp only [Act.eval, Array.getD_eq_getD_getElem?] at e
    simp [execOp, ho, go_sem, vals, Act.eval, e]) hd
    (hF _ _ (sl_built w [x] (by intro y hy; simp at hy; rw [hy]; exact hc))) ((Grow.refl w).alloc _)
theorem eqlBz {m n b : Bool} (hx : Arg soft Tryz.prog ops F G D V kf0 i x (isE (.bool m))) (hy : Arg soft Tryz.prog ops F G D V kf0 i y (isE (.bool n))) (e : (m == n) = b) (hF : ∀ w v, v = .bool b → F d w v) : Owes soft Tryz.prog ops Q F G D V kf0 i (some d) (.binOp .eql 4 x y 4) :=
  bin hx hy guardB (fun w => by subst e; simp [go_sem]) hF
theorem neqBz {m n b : Bool} (hx : Arg soft Tryz.prog ops F G D V kf0 i x (isE (.bool m))) (hy : Arg soft Tryz.prog ops F G D V kf0 i y (isE (.bool n))) (e : (!(m == n)) = b) (hF : ∀ w v, v = .bool b → F d w v) : Owes soft Tryz.prog ops Q F G D V kf0 i (some d) (.binOp .neq 4 x y 4) :=
  bin hx hy guardB (fun w => by subst e; simp [go_sem]) hF
theorem cvU {m r : Int} (hx : Arg soft Tryz.prog ops F G D V kf0 i x (isE (.int .i64 m))) (hr : IntKind.u64.wrap m = r) (hF : ∀ w v, v = .int .u64 r → F d w v) : Owes soft Tryz.prog ops Q F G D V kf0 i (some d) (.convert 3 63 x) :=
  val (fun o a w ho c => by
    have e1 : a.eval x = .int .i64 m := hx a w c
    refine ⟨.int .u64 r, ?_, hF _ _ rfl⟩
    unfold execOp
    simp only [ho, e1]
    simp [go_sem, convert, Conv.intToInt, hr]) rfl
theorem buildDone {x : Nat} (h0 : x ≠ 0) (hc : x < 10000) (hF : ∀ w v, isD x 1 w v → F d w v) : Owes soft Tryz.prog ops Q F G D V kf0 i (some d) (.buildSlice 31 1 #[(0, .const (.int .i64 (x : Int)))]) :=
  fun o a w ho hd _ => Rg.valOf (v := .slice (some ⟨w.heap.size, 0, none⟩) 1 1) (w' := w.alloc (.cells #[.int .i64 (x : Int)] 3)) (by simp [execOp, ho, go_sem, Act.eval]) hd
    (hF _ _ (isD_one w x h0 hc)) ((Grow.refl w).alloc _)
theorem lenD {n k : Nat} {ts : Array TypeId} (hx : Arg soft Tryz.prog ops F G D V kf0 i x (isD n k)) (ht : ts = #[31]) (hF : ∀ w v, v = .int .i64 ((Dx.len n : Nat) : Int) → F d w v) : Owes soft Tryz.prog ops Q F G D V kf0 i (some d) (.call { callee := .builtin .len, args := #[x], argTypes := ts }) :=
  val (fun o a w ho c => by
    obtain ⟨A, c2, e2⟩ := IsD.slice (hx a w c)
    subst ht
    refine ⟨.int .i64 ((Dx.len n : Nat) : Int), ?_, hF _ _ rfl⟩
    unfold execOp
    simp only [ho, resolve, List.map_toArray, List.map_cons, List.map_nil, e2]
    simp [go_sem, invoke, builtin, Builtin.len_, goInt]) rfl
theorem lenS {l : List Nat} {ts : Array TypeId} (hx : Arg soft Tryz.prog ops F G D V kf0 i x (isS l)) (ht : ts = #[22]) (hF : ∀ w v, v = .int .i64 ((l.length : Nat) : Int) → F d w v) : Owes soft Tryz.prog ops Q F G D V kf0 i (some d) (.call { callee := .builtin .len, args := #[x], argTypes := ts }) :=
  val (fun o a w ho c => by
    obtain ⟨A, c2, e2, _⟩ := hx a w c
    subst ht
    refine ⟨.int .i64 ((l.length : Nat) : Int), ?_, hF _ _ rfl⟩
    unfold execOp
    simp only [ho, resolve, List.map_toArray, List.map_cons, List.map_nil, e2]
    simp [go_sem, invoke, builtin, Builtin.len_, goInt]) rfl
theorem minI {m n r : Int} {ts : Array TypeId} (hx : Arg soft Tryz.prog ops F G D V kf0 i x (isE (.int .i64 m))) (hy : Arg soft Tryz.prog ops F G D V kf0 i y (isE (.int .i64 n))) (hr : min m n = r) (hF : ∀ w v, v = .int .i64 r → F d w v) : Owes soft Tryz.prog ops Q F G D V kf0 i (some d) (.call { callee := .builtin .min, args := #[x, y], argTypes := ts }) :=
  val (fun o a w ho c => by
    have e1 : a.eval x = .int .i64 m := hx a w c
    have e2 : a.eval y = .int .i64 n := hy a w c
    refine ⟨.int .i64 r, ?_, hF _ _ rfl⟩
    have hr' : (if n < m then n else m) = r := by rw [← hr]; split <;> omega
    unfold execOp
    simp only [ho, resolve, List.map_toArray, List.map_cons, List.map_nil, e1, e2]
    simp [go_sem, invoke, builtin, Builtin.min_, Builtin.min2, hr']) rfl
theorem upS {l : List Nat} {n : Nat} (hx : Arg soft Tryz.prog ops F G D V kf0 i x (isS l)) (hy : Arg soft Tryz.prog ops F G D V kf0 i y (isE (.int .i64 (n : Int)))) (hn : n ≤ l.length) (hF : ∀ w v, isS (l.take n) w v → F d w v) : Owes soft Tryz.prog ops Q F G D V kf0 i (some d) (.slice 22 x none (some y) none) :=
  val (fun o a w ho c => by
    obtain ⟨A, c2, e1, h1, h2, h3⟩ := hx a w c
    have e2 : a.eval y = .int .i64 (n : Int) := hy a w c
    refine ⟨.slice A n c2, ?_, hF _ _ ⟨A, c2, by rw [List.length_take]; congr 1; omega, by rw [List.length_take]; omega, fun u hu => h2 u (List.mem_of_mem_take hu), h3.take n⟩⟩
    unfold execOp
    simp only [ho, Option.map_some, Option.map_none, e1, e2]
    have h4 : (n : Int) ≤ (c2 : Int) := by omega
    simp [go_sem, Instr.sliceAt]
    omega) rfl
theorem idxD {n k : Nat} (hx : Arg soft Tryz.prog ops F G D V kf0 i x (isD n k)) (hn : Dx.len n = 1) (hF : ∀ w v, isA (n : Int) w v → F d w v) : Owes soft Tryz.prog ops Q F G D V kf0 i (some d) (.indexAddr 31 x (.const (.int .i64 0))) :=
  val (fun o a w ho c => by
    obtain ⟨A, c2, e1, h1, h2, h3⟩ := hx a w c
    rw [hn] at e1
    have hl := dlimbs_of_len hn
    rw [hl] at h2
    obtain ⟨b, off, rfl, hb, hc⟩ := h2 (by simp)
    refine ⟨.pointer (some ⟨b, off, none⟩), ?_, hF _ _ ⟨b, off, rfl, by simpa using hc 0 n rfl⟩⟩
    unfold execOp
    simp only [ho, e1]
    simp [go_sem, Instr.indexAt, Act.eval]) rfl
theorem loadA {z : Int} (hx : Arg soft Tryz.prog ops F G D V kf0 i x (isA z)) (hF : ∀ w v, v = .int .i64 z → F d w v) : Owes soft Tryz.prog ops Q F G D V kf0 i (some d) (.load 3 x) :=
  val (fun o a w ho c => by
    obtain ⟨b, off, e1, h1⟩ := hx a w c
    refine ⟨.int .i64 z, ?_, hF _ _ rfl⟩
    unfold execOp
    simp only [ho, e1]
    simp [go_sem, Instr.loadAt, h1]) rfl
end
section
variable {P : Program} {ops : Array Oper} {Q : Exit → Act → World → Prop} {fs : FL P} {G : List (Vk P)} {D : FL P} {V : VS} {kf0 : Nat → Nat} {i : Nat} {x y : Operand}
def unOf (ops : Array Oper) (i : Nat) : Option (Nat × UnOp × Operand) := match ops[i]? with
  | some o => match o.dst, o.op with
    | some d, .unOp b _ x => some (d, b, x)
    | _, _ => none
  | none => none
theorem un_of {d : Nat} {b : UnOp} (h : unOf ops i = some (d, b, x)) (s : ∀ t, Owes soft P ops Q (fv fs) (gv G) (dv D) V kf0 i (some d) (.unOp b t x)) : B2 P ops Q fs G D V kf0 i := fun o ho a w c => by
  unfold unOf at h
  rw [ho] at h
  simp only at h
  split at h
  · next d' b' t x' hd hop =>
    injection h with h
    injection h with h1 h
    injection h with h2 h3
    subst h1 h2 h3
    exact s t o a w hop hd c
  · cases h
theorem uN {b : Bool} (d : Nat) (ax : A2 P ops fs G D V kf0 i x (isE (.bool b))) (hF : ∀ w v, v = .bool (!b) → (lk fs d).p w v := by exact fun _ _ h => h) (h : unOf ops i = some (d, .not, x) := by kernel_rfl) : B2 P ops Q fs G D V kf0 i := un_of h fun _ => val (fun o a w ho c => ⟨.bool (!b), by
    have e1 : a.eval x = .bool b := ax a w c
    unfold execOp
    simp only [ho, e1]
    simp [go_sem], hF _ _ rfl⟩) rfl
theorem uM {k : IntKind} {m r : Int} (d : Nat) (ax : A2 P ops fs G D V kf0 i x (isE (.int k m))) (hr : k.wrap (-m) = r) (hF : ∀ w v, v = .int k r → (lk fs d).p w v := by exact fun _ _ h => h) (h : unOf ops i = some (d, .neg, x) := by kernel_rfl) : B2 P ops Q fs G D V kf0 i := un_of h fun _ => val (fun o a w ho c => ⟨.int k r, by
    have e1 : a.eval x = .int k m := ax a w c
    unfold execOp
    simp only [ho, e1]
    simp [go_sem, hr], hF _ _ rfl⟩) rfl
end
end Z
end Go.Proofs.YtpjmfbiihhbjhaaGreatDoor
