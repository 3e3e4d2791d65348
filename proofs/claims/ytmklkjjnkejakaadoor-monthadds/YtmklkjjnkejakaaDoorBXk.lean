/- One text out of: Xk, Xv. -/
import Derived.Test.YtmklkjjnkejakaaDoorBX
import Derived.Test.YtmklkjjnkejakaaDoorBK
import Derived.Lib.LaidTab
import Derived.Lib.ItoaNum
/- Whole functions by reckoning: the kinds of this program, its structs' fields, what its operations leave. -/
namespace Go.Proofs.YtmklkjjnkejakaaDoor.X
open Go.RowKit Go.Proofs.YtmklkjjnkejakaaDoor.Z

/-- The package's first variable, an int, holds an int. -/
def isB0 : Pr := fun w _ => IntB w 0 ∧ ∃ m, w.cell? ⟨0, 0, none⟩ = some (.int .i64 m)
theorem stb_B0 : Stb soft isB0 := fun _ _ _ ⟨hb, m, h⟩ g => ⟨intB_keep hb g, m, cell_int hb h g⟩
variable {cx : Cx} in
abbrev kB0 : Kd Tryd.prog cx := .of isB0 stb_B0
def mdL : List Int := [31, 28, 31, 30, 31, 30, 31, 31, 30, 31, 30, 31]
theorem tabIs_evo {w w' : World} {name : String} {k : IntKind} {z : Int} {zs : List Int} (hk : softV (.int k z) = false) (h : Lib.TabIs Tryd.prog w name k (z :: zs)) (g : Evo soft w w') : Lib.TabIs Tryd.prog w' name k (z :: zs) := by
  unfold Lib.TabIs World.var? at h ⊢
  obtain ⟨b, hb, h⟩ := Option.bind_eq_some_iff.1 h
  rw [hb]
  simp only [Option.bind_some]
  split at h
  · next cs t fr hh =>
    injection h with h
    subst h
    rcases g.block b (Array.getElem?_eq_some_iff.1 hh).1 with h1 | ⟨ob, _, h1, _, h3, _⟩
    · rw [h1, hh]
    · exfalso
      rw [hh] at h1
      injection h1 with h1
      subst h1
      unfold softO at h3
      split at h3
      · next e =>
        injection e with e1 e2
        subst e1
        have := Array.all_eq_true.1 (soft_all h3) 0 (by simp)
        simp [hk] at this
      · next e => cases e
      · cases h3
  · cases h
def isP10 (_ : World) : Prop := True
theorem p10_evo {w w' : World} (h : isP10 w) (_ : Evo soft w w') : isP10 w' := h
/-- The months' days lie in their table, the powers of ten in theirs. -/
def isTb : Pr := fun w _ => isP10 w ∧ ∃ cs fr, w.heap[0]? = some (.cells cs 58 fr) ∧ ∀ (j : Nat) (x : Int), mdL[j]? = some x → cs[j]? = some (.int .i64 x)
/-- A place in such a table. -/
def isTA (x : Int) : Pr := fun w v => ∃ b j cs fr, v = .pointer (some ⟨b, j, none⟩) ∧ w.heap[b]? = some (.cells cs 58 fr) ∧ cs[j]? = some (.int .i64 x)
theorem tab_evo {w w' : World} {b : Nat} {cs : Array Value} {fr : Nat × Nat} (h : w.heap[b]? = some (.cells cs 58 fr)) (g : Evo soft w w') : w'.heap[b]? = some (.cells cs 58 fr) := by
  rcases g.block b (Array.getElem?_eq_some_iff.1 h).1 with h1 | ⟨ob, _, h1, _, h3, _⟩
  · rw [h1]; exact h
  · rw [h] at h1
    injection h1 with h1
    subst h1
    unfold softO at h3
    split at h3
    · next e =>
      injection e with e1 e2
      subst e2
      exact (soft_ty (by unfold intTy tabTy; rw [Nat.beq_refl, Bool.or_true]) h3).elim
    · next e => cases e
    · cases h3
theorem stb_Tb : Stb soft isTb := fun _ _ _ ⟨h1, cs, fr, h, hc⟩ g => ⟨p10_evo h1 g, cs, fr, tab_evo h g, hc⟩
theorem stb_TA (x : Int) : Stb soft (isTA x) := fun _ _ _ ⟨b, j, cs, fr, e, h, hc⟩ g => ⟨b, j, cs, fr, e, tab_evo h g, hc⟩
variable {cx : Cx} in
abbrev kTb : Kd Tryd.prog cx := .of isTb stb_Tb
variable {cx : Cx} in
abbrev kTA (x : Int) : Kd Tryd.prog cx := .of (isTA x) (stb_TA x)
/-- The kinds. -/
inductive K
  | N (n k : Nat)
  | W (z : Int) (k : Nat)
  | D (n k : Nat)
  | V (z : Int) (k : Nat)
  | S (l : List Nat)
  | A (x : Int)
  | F (z : Int) (n k : Nat)
  | Q (q : Rat) (k : Nat)
  | G (z : Int) (n k : Nat)
  | R (q : Rat) (k : Nat)
  | M (a b : List Nat) (m : Bool)
  | U (x : Nat)
  | I (l : List Int)
  | Ns (l : List Nat) (k : Nat)
  | AN (n k : Nat)
  | C (z s : Int) (k : Nat)
  | E7 (z s : Int) (k : Nat)
  | P (l : List Nat) (b : Bool) (s : Int)
  | I2 (m n : Int)
  | B0
  | Tb
  | TA (x : Int)
def dk (cx : Cx) : K → Kd Tryd.prog cx
  | .N _ _ => .X
  | .W _ _ => .X
  | .D n k => kD n k
  | .V _ _ => .X
  | .S l => kS l
  | .A x => kA x
  | .F _ _ _ => .X
  | .Q _ _ => .X
  | .G _ _ _ => .X
  | .R _ _ => .X
  | .M _ _ _ => .X
  | .U x => kU x
  | .I l => kI l
  | .Ns l k => kNs l k
  | .AN n k => kAN n k
  | .C _ _ _ => .X
  | .E7 _ _ _ => .X
  | .P _ _ _ => .X
  | .I2 m n => kI2 m n
  | .B0 => kB0
  | .Tb => kTb
  | .TA x => kTA x
def c2 (t off T1 o1 T2 o2 : Nat) (x y : Ks K) : Option (Ks K) := cond (Nat.beq t T1 && Nat.beq off o1) (some x) (cond (Nat.beq t T2 && Nat.beq off o2) (some y) none)
set_option linter.unusedVariables false in
def fl (o : K) (t : TypeId) (off : Nat) : Option (Ks K) := match o with
  | .I2 m n => c2 t off 3 0 3 1 (.E (.int .i64 m)) (.E (.int .i64 n))
  | _ => none
theorem dk_cx (o : K) (cx cx' : Cx) : (dk cx o).p = (dk cx' o).p ∧ (dk cx o).ty = (dk cx' o).ty := by
  cases o <;> exact ⟨rfl, rfl⟩
def FOk (o : K) (t : TypeId) (off : Nat) (k : Ks K) : Prop := ∀ cx kf lv, (aggB Tryd.prog t = true → ∀ sz, (Tryd.prog.info? t).map (·.size) = some sz → ∀ w cs, (dk cx o).p w (.agg cs) → (dS (dk cx) kf lv k).p w (.agg (cs.extract off (off + sz)))) ∧ (plainB Tryd.prog t = true → ∀ w cs, (dk cx o).p w (.agg cs) → (dS (dk cx) kf lv k).p w (cs.getD off undef))
theorem fAgg {o : K} {t T : TypeId} {off off' sz : Nat} {k : Ks K} (h : (Nat.beq t T && Nat.beq off off') = true) (hp : plainB Tryd.prog T = false) (hs : (Tryd.prog.info? T).map (·.size) = some sz) (hx : ∀ {cx kf lv} w cs, (dk cx o).p w (.agg cs) → (dS (dk cx) kf lv k).p w (.agg (cs.extract off' (off' + sz)))) : FOk o t off k := by
  simp only [Bool.and_eq_true] at h
  obtain rfl := Nat.eq_of_beq_eq_true h.1
  obtain rfl := Nat.eq_of_beq_eq_true h.2
  intro cx kf lv
  refine ⟨fun _ s hs' => ?_, fun h => absurd (hp.symm.trans h) (by decide)⟩
  rw [hs] at hs'
  injection hs' with e
  subst e
  exact hx
theorem fPl {o : K} {t T : TypeId} {off off' : Nat} {k : Ks K} (h : (Nat.beq t T && Nat.beq off off') = true) (hp : aggB Tryd.prog T = false) (hx : ∀ {cx kf lv} w cs, (dk cx o).p w (.agg cs) → (dS (dk cx) kf lv k).p w (cs.getD off' undef)) : FOk o t off k := by
  simp only [Bool.and_eq_true] at h
  obtain rfl := Nat.eq_of_beq_eq_true h.1
  obtain rfl := Nat.eq_of_beq_eq_true h.2
  exact fun cx kf lv => ⟨fun h => absurd (hp.symm.trans h) (by decide), fun _ => hx⟩
/-- A case of two: which of them it is. -/
theorem two {t off T1 o1 T2 o2 : Nat} {x y r : Ks K} (h : c2 t off T1 o1 T2 o2 x y = some r) : ((Nat.beq t T1 && Nat.beq off o1) = true ∧ x = r) ∨ ((Nat.beq t T2 && Nat.beq off o2) = true ∧ y = r) := by
  unfold c2 at h
  cases ha : (Nat.beq t T1 && Nat.beq off o1) with
  | true => rw [ha] at h; injection h with h; exact .inl ⟨rfl, h⟩
  | false =>
    rw [ha] at h
    cases hb : (Nat.beq t T2 && Nat.beq off o2) with
    | true => rw [hb] at h; injection h with h; exact .inr ⟨rfl, h⟩
    | false => rw [hb] at h; cases h
theorem fl_ok : ∀ o t off k, fl o t off = some k → FOk o t off k := by
  intro o t off k h
  cases o with
  | I2 m n =>
    rcases two h with ⟨e, rfl⟩ | ⟨e, rfl⟩
    · exact fPl e (by kernel_rfl) fldI2a
    · exact fPl e (by kernel_rfl) fldI2b
  | _ => cases h

/-! ### Operations -/
theorem arr_of {α : Type} {x : Array α} {l : List α} (h : x.toList = l) : x = l.toArray := by
  cases x
  simp at h
  rw [h]
def hBld : Hd K := fun _ _ ev op => match op with
  | .binOp b t x y t2 => cond (Nat.beq t 4 && Nat.beq t2 4) (match ev x, ev y with
    | some (.s (.E (.bool m))), some (.s (.E (.bool n))) => match b with
      | .eql => some (.s (.E (.bool (m == n))), [])
      | .neq => some (.s (.E (.bool (!(m == n)))), [])
      | _ => none
    | _, _ => none) none
  | _ => none
theorem hBld_ok : HOk dk hBld := by
  intro cx lv ops Q Fc G D V kf0 i d ft va ev hfr hev op F ps h hp hF
  unfold hBld at h
  split at h
  · next b t x y t2 =>
    obtain ⟨e, h⟩ := c_t h
    simp only [Bool.and_eq_true] at e
    obtain rfl := Nat.eq_of_beq_eq_true e.1
    obtain rfl := Nat.eq_of_beq_eq_true e.2
    split at h
    · next m n e1 e2 =>
      split at h
      · injection h with h
        injection h with h1 h2
        subst h1 h2
        exact eqlBz (hev _ _ e1) (hev _ _ e2) rfl hF
      · injection h with h
        injection h with h1 h2
        subst h1 h2
        exact neqBz (hev _ _ e1) (hev _ _ e2) rfl hF
      · cases h
    · cases h
  · cases h
set_option linter.unusedVariables false in
/-- Structs that are made: fractions, the reference's. -/
def hBl2 : Hd K := fun _ _ ev op => match op with
  | .build t ps => match ps.toList with
    | [(0, .tmp x), (1, .tmp y)] => match ev (.tmp x), ev (.tmp y) with
      | some .u, _ => none
      | _, _ => none
    | _ => none
  | _ => none
theorem hBl2_ok : HOk dk hBl2 := by
  intro cx lv ops Q Fc G D V kf0 i d ft va ev hfr hev op F ps h hp hF
  unfold hBl2 at h
  split at h
  · next t qs =>
    split at h
    · next x y el =>
      rw [arr_of el]
      split at h
      · cases h
      · cases h
    · cases h
  · cases h
set_option linter.unusedVariables false in
/-- Slices that are made or cut. -/
def hSl : Hd K := fun _ _ ev op => match op with
  | _ => none
theorem hSl_ok : HOk dk hSl := by
  intro cx lv ops Q Fc G D V kf0 i d ft va ev hfr hev op F ps h hp hF
  unfold hSl at h
  split at h
  · cases h
/-- Lengths, the less and the greater of two. -/
def hLen : Hd K := fun _ _ ev op => match op with
  | .call ⟨.builtin .len, xs, ts⟩ => match xs.toList, ts.toList with
    | [x], [t] => match ev x with
      | some (.s (.O (.D n _))) => cond (Nat.beq t 27) (some (.s (.E (.int .i64 ((Dx.len n : Nat) : Int))), [])) none
      | some (.s (.O (.I l))) => cond (Nat.beq t 27) (some (.s (.E (.int .i64 ((l.length : Nat) : Int))), [])) none
      | _ => none
    | _, _ => none
  | .call ⟨.builtin .min, xs, _⟩ => match xs.toList with
    | [x, y] => match ev x, ev y with
      | some (.s (.E (.int .i64 m))), some (.s (.E (.int .i64 n))) => some (.s (.E (.int .i64 (min m n))), [])
      | _, _ => none
    | _ => none
  | .call ⟨.builtin .max, xs, _⟩ => match xs.toList with
    | [x, y] => match ev x, ev y with
      | some (.s (.E (.int .i64 m))), some (.s (.E (.int .i64 n))) => some (.s (.E (.int .i64 (max m n))), [])
      | _, _ => none
    | _ => none
  | _ => none
theorem hLen_ok : HOk dk hLen := by
  intro cx lv ops Q Fc G D V kf0 i d ft va ev hfr hev op F ps h hp hF
  unfold hLen at h
  split at h
  · next xs ts =>
    split at h
    · next x t ex et =>
      rw [arr_of ex, arr_of et]
      split at h
      · next e1 =>
        obtain ⟨e, h⟩ := c_t h
        obtain rfl := Nat.eq_of_beq_eq_true e
        injection h with h
        injection h with h1 h2
        subst h1 h2
        exact lenD (hev _ _ e1) rfl hF
      · next l e1 =>
        obtain ⟨e, h⟩ := c_t h
        obtain rfl := Nat.eq_of_beq_eq_true e
        injection h with h
        injection h with h1 h2
        subst h1 h2
        refine lenC (e := 3) (by kernel_rfl) (hev _ _ e1) rfl ?_
        rw [show (ints l).length = l.length by simp [ints]]
        exact hF
      · cases h
    · cases h
  · next xs ts =>
    split at h
    · next x y ex =>
      rw [arr_of ex]
      split at h
      · next m n e1 e2 =>
        injection h with h
        injection h with h1 h2
        subst h1 h2
        exact minI (hev _ _ e1) (hev _ _ e2) rfl hF
      · cases h
    · cases h
  · next xs ts =>
    split at h
    · next x y ex =>
      rw [arr_of ex]
      split at h
      · next m n e1 e2 =>
        injection h with h
        injection h with h1 h2
        subst h1 h2
        exact maxI (hev _ _ e1) (hev _ _ e2) rfl hF
      · cases h
    · cases h
  · cases h
theorem get_at {α : Type} {l : List α} {n : Nat} {x : α} (h : n < l.length) : l[n]? = some (l.getD n x) := by
  rw [List.getD_eq_getElem?_getD, List.getElem?_eq_getElem h]
  rfl
/-- Places in slices, and what lies there. -/
def hIx : Hd K := fun _ _ ev op => match op with
  | .indexAddr t x y => match ev x with
      | some (.s (.O (.D n _))) => match y with
        | .const (.int .i64 (.ofNat 0)) => cond (Nat.beq t 27) (some (.s (.O (.A ((n : Nat) : Int))), [Dx.len n = 1])) none
        | _ => none
      | some (.s (.O (.I l))) => match ev y with
        | some (.s (.E (.int .i64 (.ofNat n)))) => cond (Nat.beq t 27) (some (.s (.O (.A (l.getD n 0))), [n < l.length])) none
        | _ => none
      | _ => none
  | .load t x => match ev x with
    | some (.s (.O (.A z))) => cond (Nat.beq t 3) (some (.s (.E (.int .i64 z)), [])) none
    | _ => none
  | .binOp .and _ x y _ => match ev x, ev y with
    | some (.s (.E (.int .u64 (.ofNat m)))), some (.s (.E (.int .u64 (.ofNat 1)))) => some (.s (.E (.int .u64 ((m % 2 : Nat) : Int))), [m < 18446744073709551616])
    | _, _ => none
  | _ => none
theorem hIx_ok : HOk dk hIx := by
  intro cx lv ops Q Fc G D V kf0 i d ft va ev hfr hev op F ps h hp hF
  unfold hIx at h
  split at h
  · next t x y =>
    · split at h
      · next n _ e1 =>
        split at h
        · obtain ⟨e, h⟩ := c_t h
          obtain rfl := Nat.eq_of_beq_eq_true e
          injection h with h
          injection h with h1 h2
          subst h1 h2
          exact idxD (hev _ _ e1) hp.1 hF
        · cases h
      · next l e1 =>
        split at h
        · next n e2 =>
          obtain ⟨e, h⟩ := c_t h
          obtain rfl := Nat.eq_of_beq_eq_true e
          injection h with h
          injection h with h1 h2
          subst h1 h2
          exact idxI (hev _ _ e1) (hev _ _ e2) (get_at hp.1) hF
        · cases h
      · cases h
  · next t x =>
    split at h
    · next z e1 =>
      obtain ⟨e, h⟩ := c_t h
      obtain rfl := Nat.eq_of_beq_eq_true e
      injection h with h
      injection h with h1 h2
      subst h1 h2
      exact loadA (hev _ _ e1) hF
    · cases h
  · next t x y t2 =>
    split at h
    · next m e1 e2 =>
      injection h with h
      injection h with h1 h2
      subst h1 h2
      have a1 : Arg soft Tryd.prog ops Fc G D V kf0 i x (isE (.int .u64 (m : Int))) := hev _ _ e1
      have a2 : Arg soft Tryd.prog ops Fc G D V kf0 i y (isE (.int .u64 1)) := hev _ _ e2
      exact bin a1 a2 guardI (fun w => by
        have h := and_one m hp.1
        simp [binOp, go_sem, h]) hF
    · cases h
  · cases h
/-- Decimals that are made; texts read and cut; numbers turned. -/
noncomputable def hDc : Hd K := fun _ _ ev op => match op with
  | .index t x y => cond (Nat.beq t 9) (match ev x, ev y with
    | some (.s (.E (.string ⟨⟨l⟩⟩))), some (.s (.E (.int .i64 (.ofNat n)))) => some (.s (.E (.int .u8 (((l.getD n 0).toNat : Nat) : Int))), [n < l.length])
    | _, _ => none) none
  | .slice t x none (some y) none => cond (Nat.beq t 9) (match ev x, ev y with
    | some (.s (.E (.string ⟨⟨l⟩⟩))), some (.s (.E (.int .i64 (.ofNat n)))) => some (.s (.E (.string (str (l.take n)))), [n ≤ l.length])
    | _, _ => none) none
  | .slice t x (some y) none none => cond (Nat.beq t 9) (match ev x, ev y with
    | some (.s (.E (.string ⟨⟨l⟩⟩))), some (.s (.E (.int .i64 (.ofNat n)))) => some (.s (.E (.string (str (l.drop n)))), [n ≤ l.length])
    | _, _ => none) none
  | .slice t x (some u) (some y) none => cond (Nat.beq t 9) (match ev x, ev u, ev y with
    | some (.s (.E (.string ⟨⟨l⟩⟩))), some (.s (.E (.int .i64 (.ofNat m)))), some (.s (.E (.int .i64 (.ofNat n)))) => some (.s (.E (.string (str ((l.take n).drop m)))), [m ≤ n, n ≤ l.length])
    | _, _, _ => none) none
  | .convert s t x => match ev x with
    | some (.s (.E (.int _ m))) => match Tryd.prog.underlying s, Tryd.prog.underlying t with
      | some _, some (.int k') => some (.s (.E (.int k' (k'.wrap m))), [])
      | _, _ => none
    | _ => none
  | .call ⟨.builtin .len, xs, ts⟩ => match xs.toList, ts.toList with
    | [x], [t] => match ev x with
      | some (.s (.E (.string ⟨⟨l⟩⟩))) => cond (Nat.beq t 9) (some (.s (.E (.int .i64 ((l.length : Nat) : Int))), [])) none
      | _ => none
    | _, _ => none
  | _ => none
theorem hDc_ok : HOk dk hDc := by
  intro cx lv ops Q Fc G D V kf0 i d ft va ev hfr hev op F ps h hp hF
  unfold hDc at h
  split at h
  · next t x y =>
    obtain ⟨e, h⟩ := c_t h
    obtain rfl := Nat.eq_of_beq_eq_true e
    split at h
    · next l n e1 e2 =>
      injection h with h
      injection h with h1 h2
      subst h1 h2
      exact idxTx (hev _ _ e1) (hev _ _ e2) hp.1 hF
    · cases h
  · next t x y =>
    obtain ⟨e, h⟩ := c_t h
    obtain rfl := Nat.eq_of_beq_eq_true e
    split at h
    · next l n e1 e2 =>
      injection h with h
      injection h with h1 h2
      subst h1 h2
      exact upTx (hev _ _ e1) (hev _ _ e2) hp.1 hF
    · cases h
  · next t x y =>
    obtain ⟨e, h⟩ := c_t h
    obtain rfl := Nat.eq_of_beq_eq_true e
    split at h
    · next l n e1 e2 =>
      injection h with h
      injection h with h1 h2
      subst h1 h2
      exact dnTx (hev _ _ e1) (hev _ _ e2) hp.1 hF
    · cases h
  · next t x u y =>
    obtain ⟨e, h⟩ := c_t h
    obtain rfl := Nat.eq_of_beq_eq_true e
    split at h
    · next l m n e1 e2 e3 =>
      injection h with h
      injection h with h1 h2
      subst h1 h2
      exact mdTx (hev _ _ e1) (hev _ _ e2) (hev _ _ e3) hp.1 hp.2.1 hF
    · cases h
  · next s t x =>
    split at h
    · next k m e1 =>
      split at h
      · next ds k' e2 e3 =>
        injection h with h
        injection h with h1 h2
        subst h1 h2
        exact cvK e2 e3 (hev _ _ e1) hF
      · cases h
    · cases h
  · next xs ts =>
    split at h
    · next x t ex et =>
      rw [arr_of ex, arr_of et]
      split at h
      · next l e1 =>
        obtain ⟨e, h⟩ := c_t h
        obtain rfl := Nat.eq_of_beq_eq_true e
        injection h with h
        injection h with h1 h2
        subst h1 h2
        exact lenTx (t := 9) (by kernel_rfl) (hev _ _ e1) rfl hF
      · cases h
    · cases h
  · cases h
def hDr : Hd K := fun _ _ _ _ => none
theorem hDr_ok : HOk dk hDr := by
  intro cx lv ops Q Fc G D V kf0 i d ft va ev hfr hev op F ps h hp hF
  cases h
/-- The months' table. -/
def hTb : Hd K := fun _ _ ev op => match op with
  | .indexAddr t (.global g) y => cond (Nat.beq t 58 && Nat.beq g 0) (match ev (.tmp wSlot), ev y with
    | some (.s (.O .Tb)), some (.s (.E (.int .i64 (.ofNat n)))) => some (.s (.O (.TA (mdL.getD n 0))), [n < 12])
    | _, _ => none) none
  | .load t x => cond (Nat.beq t 3) (match ev x with
    | some (.s (.O (.TA z))) => some (.s (.E (.int .i64 z)), [])
    | _ => none) none
  | _ => none
theorem hTb_ok : HOk dk hTb := by
  intro cx lv ops Q Fc G D V kf0 i d ft va ev hfr hev op F ps h hp hF
  unfold hTb at h
  split at h
  · next t g y =>
    obtain ⟨e, h⟩ := c_t h
    simp only [Bool.and_eq_true] at e
    obtain rfl := Nat.eq_of_beq_eq_true e.1
    obtain rfl := Nat.eq_of_beq_eq_true e.2
    split at h
    · next n e1 e2 =>
      injection h with h
      injection h with h1 h2
      subst h1 h2
      refine val (fun o a w ho c => ?_) rfl
      obtain ⟨_, cs, fr, h3, h4⟩ : isTb w (a.eval (.tmp wSlot)) := hev _ _ e1 a w c
      have e3 : a.eval y = .int .i64 (n : Int) := hev _ _ e2 a w c
      have hn : n < 12 := hp.1
      refine ⟨.pointer (some ⟨0, n, none⟩), ?_, hF _ _ ⟨_, n, cs, fr, rfl, h3, h4 n _ (get_at hn)⟩⟩
      unfold execOp
      simp only [ho, e3]
      simp [go_sem, Instr.indexAt, Act.eval, Instr.sureAddr]
      omega
    · cases h
  · next t x =>
    obtain ⟨e, h⟩ := c_t h
    obtain rfl := Nat.eq_of_beq_eq_true e
    split at h
    · next z e1 =>
      injection h with h
      injection h with h1 h2
      subst h1 h2
      refine val (fun o a w ho c => ?_) rfl
      obtain ⟨b, j, cs, fr, e3, h3, h4⟩ : isTA z w (a.eval x) := hev _ _ e1 a w c
      refine ⟨.int .i64 z, ?_, hF _ _ rfl⟩
      have hc : w.cell? ⟨b, j, none⟩ = some (.int .i64 z) := by
        simp only [World.cell?, h3, Option.isSome_none, Bool.false_eq_true, if_false]
        exact h4
      unfold execOp
      simp only [ho, e3]
      simp [go_sem, Instr.loadAt, hc]
    · cases h
  · cases h
theorem hd_ok (cts : List (Ct dk)) : HOk dk (hOr (hOr (hOr (hOr hCore hBin) (hOr (hCall cts) hIx)) (hOr (hOr hLen hBld) (hOr hSl hBl2))) (hOr (hOr (hOr hDc hTb) hDr) (hLs Tryd.prog))) := hOr_ok (hOr_ok (hOr_ok (hOr_ok hCore_ok hBin_ok) (hOr_ok (hCall_ok (fun o cx cx' => (dk_cx o cx cx').1) cts) hIx_ok)) (hOr_ok (hOr_ok hLen_ok hBld_ok) (hOr_ok hSl_ok hBl2_ok))) (hOr_ok (hOr_ok (hOr_ok hDc_ok hTb_ok) hDr_ok) hLs_ok)
/-- What there is to reckon with, by these contracts. -/
noncomputable def En (cts : List (Ct dk)) : Env Tryd.prog := ⟨K, dk, dk_cx, _, hd_ok cts, fl, fl_ok⟩
end Go.Proofs.YtmklkjjnkejakaaDoor.X

/- Whole functions by reckoning: contracts, by what they see of their arguments. -/
namespace Go.Proofs.YtmklkjjnkejakaaDoor.X
open Go.RowKit Go.Proofs.YtmklkjjnkejakaaDoor.Z

/-- The one tells the other. -/
def tK (k k' : Ks K) : Prop := ∀ cx kf lv w v, (dS (dk cx) kf lv k).p w v → (dS (dk cx) kf lv k').p w v
noncomputable abbrev k0 (w : World) (k : Ks K) : Kd Tryd.prog (cxA w) := dS (dk (cxA w)) (fun _ => 0) (fun _ => undef) k
noncomputable abbrev f0 (w : World) (F : Fk K) : Kd Tryd.prog (cxA w) := dF (dk (cxA w)) (fun _ => 0) (fun _ => undef) F
abbrev tI (m n : Int) : Prop := IntKind.i64 = IntKind.i64 ∧ m = n
abbrev tU (m n : Int) : Prop := IntKind.u64 = IntKind.u64 ∧ m = n
abbrev tB (m n : Int) : Prop := IntKind.u8 = IntKind.u8 ∧ m = n
abbrev tH (m n : Int) : Prop := IntKind.u16 = IntKind.u16 ∧ m = n
abbrev tR (m n : Int) : Prop := IntKind.i32 = IntKind.i32 ∧ m = n
abbrev tLs (T sz : Nat) (o : Bool) (l l' : List (List Value)) : Prop := (T = T ∧ sz = sz ∧ o = o) ∧ l = l'
theorem nil_L {T sz : Nat} {l : List (List Value)} (h : l = []) : tK (.E (.slice none 0 0)) (.L T sz l true) := by
  subst h
  intro cx kf lv w v hv
  have e : v = .slice none 0 0 := hv
  subst e
  exact nil_Ow
/-- What a contract sees of an argument. -/
structure Vw (α : Type) where
  get : Ks K → Option α
  pr : α → Pr
  ok : ∀ k a, get k = some a → ∀ w v, (k0 w k).p w v → pr a w v
def vD : Vw (Nat × Nat) := ⟨fun | .O (.D n k) => some (n, k) | _ => none, fun a => isD a.1 a.2, fun k a h w v hv => by split at h <;> cases h; exact hv⟩
def vS : Vw (List Nat) := ⟨fun | .O (.S l) => some l | _ => none, fun a => Z.isS a, fun k a h w v hv => by split at h <;> cases h; exact hv⟩
def vS1 : Vw Nat := ⟨fun | .O (.S [x]) => some x | _ => none, fun a => Z.isS [a], fun k a h w v hv => by split at h <;> cases h; exact hv⟩
def vV : Vw (Int × Nat) := ⟨fun | .O (.V n k) => some (n, k) | _ => none, fun a w v => (k0 w (.O (.V a.1 a.2))).p w v, fun k a h w v hv => by split at h <;> cases h; exact hv⟩
def vQ : Vw (Rat × Nat) := ⟨fun | .O (.Q n k) => some (n, k) | _ => none, fun a w v => (k0 w (.O (.Q a.1 a.2))).p w v, fun k a h w v hv => by split at h <;> cases h; exact hv⟩
def vR : Vw (Rat × Nat) := ⟨fun | .O (.R n k) => some (n, k) | _ => none, fun a w v => (k0 w (.O (.R a.1 a.2))).p w v, fun k a h w v hv => by split at h <;> cases h; exact hv⟩
def vM : Vw (List Nat × List Nat × Bool) := ⟨fun | .O (.M a b m) => some (a, b, m) | _ => none, fun a w v => (k0 w (.O (.M a.1 a.2.1 a.2.2))).p w v, fun k a h w v hv => by split at h <;> cases h; exact hv⟩
def vC : Vw (Int × Int × Nat) := ⟨fun | .O (.C a b m) => some (a, b, m) | _ => none, fun a w v => (k0 w (.O (.C a.1 a.2.1 a.2.2))).p w v, fun k a h w v hv => by split at h <;> cases h; exact hv⟩
def vE7 : Vw (Int × Int × Nat) := ⟨fun | .O (.E7 a b m) => some (a, b, m) | _ => none, fun a w v => (k0 w (.O (.E7 a.1 a.2.1 a.2.2))).p w v, fun k a h w v hv => by split at h <;> cases h; exact hv⟩
def vP : Vw (List Nat × Bool × Int) := ⟨fun | .O (.P a b m) => some (a, b, m) | _ => none, fun a w v => (k0 w (.O (.P a.1 a.2.1 a.2.2))).p w v, fun k a h w v hv => by split at h <;> cases h; exact hv⟩
def vIn : Vw Nat := ⟨fun | .E (.int .i64 (.ofNat n)) => some n | _ => none, fun a => isE (.int .i64 ((a : Nat) : Int)), fun k a h w v hv => by split at h <;> cases h; exact hv⟩
def vI : Vw Int := ⟨fun | .E (.int .i64 m) => some m | _ => none, fun a => isE (.int .i64 a), fun k a h w v hv => by split at h <;> cases h; exact hv⟩
def vB : Vw Bool := ⟨fun | .E (.bool m) => some m | _ => none, fun a => isE (.bool a), fun k a h w v hv => by split at h <;> cases h; exact hv⟩
def vT : Vw (List UInt8) := ⟨fun | .E (.string ⟨⟨l⟩⟩) => some l | _ => none, fun a => isT a, fun k a h w v hv => by split at h <;> cases h; exact hv⟩
/-- The months' table, as the fact of the memory. -/
def isTbk : Ks K → Bool
  | .O .Tb => true
  | _ => false
theorem isTbk_ok (k : Ks K) (h : isTbk k = true) : k = .O .Tb := by
  unfold isTbk at h
  split at h
  · rfl
  · cases h
/-- A place that holds an int; a function that has caught one. -/
def vA1 : Vw Int := ⟨fun | .A [.int .i64 m] => some m | _ => none, fun a w v => (k0 w (.A [.int .i64 a])).p w v, fun k a h w v hv => by split at h <;> cases h; exact hv⟩
def vCl : Vw (Nat × Int) := ⟨fun | .C f [[.int .i64 m]] => some (f, m) | _ => none, fun a w v => (k0 w (.C a.1 [[.int .i64 a.2]])).p w v, fun k a h w v hv => by split at h <;> cases h; exact hv⟩
/-- A list of elements of so many cells. -/
def vL (sz : Nat) : Vw (List (List Value)) := ⟨fun | .L _ sz' l false => cond (Nat.beq sz' sz) (some l) none | .E (.slice none 0 0) => some [] | _ => none, fun l w v => isRd (cxA w) true sz l w v, fun k a h w v hv => by
  split at h
  · next T sz' l =>
    have e := Nat.eq_of_beq_eq_true (c_t h).1
    have h' := (c_t h).2
    clear h
    injection h' with h'
    subst e h'
    exact hv
  · injection h with h
    subst h
    have e : v = .slice none 0 0 := hv
    subst e
    exact ⟨(fun r h => by cases h), none, 0, rfl, Nat.le_refl _, by decide, fun hn => absurd rfl hn⟩
  · cases h⟩
/-- A known function; a rune. -/
def vFn : Vw Nat := ⟨fun | .E (.func (.func f) ⟨[]⟩ ⟨[]⟩) => some f | _ => none, fun f => isE (.func (.func f) #[] #[]), fun k a h w v hv => by split at h <;> cases h; exact hv⟩
def vRu : Vw Int := ⟨fun | .E (.int .i32 m) => some m | _ => none, fun a => isE (.int .i32 a), fun k a h w v hv => by split at h <;> cases h; exact hv⟩
def vT1 : Vw UInt8 := ⟨fun | .E (.string ⟨⟨[c]⟩⟩) => some c | _ => none, fun a => isT [a], fun k a h w v hv => by split at h <;> cases h; exact hv⟩
def vU8 : Vw Int := ⟨fun | .E (.int .u8 m) => some m | _ => none, fun a => isE (.int .u8 a), fun k a h w v hv => by split at h <;> cases h; exact hv⟩
section
variable {α β γ δ : Type}
abbrev Cl (f : FuncId) (vs : List Value) (w : World) (F : Fk K) : Prop := Calls Tryd.prog f vs.toArray w (Ret w fun v w' => (f0 w F).p w' v)
def ct1 (f va : Nat) (en : Enters Tryd.prog f) (a : Vw α) (res : α → Fk K) (pre : α → List Prop) (ok : ∀ x, AL (pre x) → ∀ w v, a.pr x w v → Cl f [v] w (res x)) : Ct dk := ⟨f, va, en, fun ks _ => match ks with
  | [k] => match a.get k with
    | some x => some (res x, pre x)
    | none => none
  | _ => none, by
  intro ks kw F ps h hp w vs u ha _
  split at h
  · next k =>
    split at h
    · next x e =>
      injection h with h
      injection h with h1 h2
      subst h1 h2
      match vs, ha with
      | [v], ⟨h1, _⟩ => exact ok x hp w v (a.ok k x e w _ h1)
    · cases h
  · cases h⟩
def ct2 (f va : Nat) (en : Enters Tryd.prog f) (a : Vw α) (b : Vw β) (res : α → β → Fk K) (pre : α → β → List Prop) (ok : ∀ x y, AL (pre x y) → ∀ w v u, a.pr x w v → b.pr y w u → Cl f [v, u] w (res x y)) : Ct dk := ⟨f, va, en, fun ks _ => match ks with
  | [k, l] => match a.get k, b.get l with
    | some x, some y => some (res x y, pre x y)
    | _, _ => none
  | _ => none, by
  intro ks kw F ps h hp w vs u ha _
  split at h
  · next k l =>
    split at h
    · next x y e1 e2 =>
      injection h with h
      injection h with h1 h2
      subst h1 h2
      match vs, ha with
      | [v, u], ⟨h1, h2, _⟩ => exact ok x y hp w v u (a.ok k x e1 w _ h1) (b.ok l y e2 w _ h2)
    · cases h
  · cases h⟩
def ct3 (f va : Nat) (en : Enters Tryd.prog f) (a : Vw α) (b : Vw β) (c : Vw γ) (res : α → β → γ → Fk K) (pre : α → β → γ → List Prop) (ok : ∀ x y z, AL (pre x y z) → ∀ w v u t, a.pr x w v → b.pr y w u → c.pr z w t → Cl f [v, u, t] w (res x y z)) : Ct dk := ⟨f, va, en, fun ks _ => match ks with
  | [k, l, m] => match a.get k, b.get l, c.get m with
    | some x, some y, some z => some (res x y z, pre x y z)
    | _, _, _ => none
  | _ => none, by
  intro ks kw F ps h hp w vs u ha _
  split at h
  · next k l m =>
    split at h
    · next x y z e1 e2 e3 =>
      injection h with h
      injection h with h1 h2
      subst h1 h2
      match vs, ha with
      | [v, u, t], ⟨h1, h2, h3, _⟩ => exact ok x y z hp w v u t (a.ok k x e1 w _ h1) (b.ok l y e2 w _ h2) (c.ok m z e3 w _ h3)
    · cases h
  · cases h⟩
def ct4 (f va : Nat) (en : Enters Tryd.prog f) (a : Vw α) (b : Vw β) (c : Vw γ) (d : Vw δ) (res : α → β → γ → δ → Fk K) (pre : α → β → γ → δ → List Prop) (ok : ∀ x y z u, AL (pre x y z u) → ∀ w v1 v2 v3 v4, a.pr x w v1 → b.pr y w v2 → c.pr z w v3 → d.pr u w v4 → Cl f [v1, v2, v3, v4] w (res x y z u)) : Ct dk := ⟨f, va, en, fun ks _ => match ks with
  | [k, l, m, o] => match a.get k, b.get l, c.get m, d.get o with
    | some x, some y, some z, some u => some (res x y z u, pre x y z u)
    | _, _, _, _ => none
  | _ => none, by
  intro ks kw F ps h hp w vs u ha _
  split at h
  · next k l m o =>
    split at h
    · next x y z u e1 e2 e3 e4 =>
      injection h with h
      injection h with h1 h2
      subst h1 h2
      match vs, ha with
      | [v1, v2, v3, v4], ⟨h1, h2, h3, h4, _⟩ => exact ok x y z u hp w v1 v2 v3 v4 (a.ok k x e1 w _ h1) (b.ok l y e2 w _ h2) (c.ok m z e3 w _ h3) (d.ok o u e4 w _ h4)
    · cases h
  · cases h⟩
def ct1w (f va : Nat) (en : Enters Tryd.prog f) (a : Vw α) (kw : Ks K) (gw : Ks K → Bool) (hgw : ∀ k, gw k = true → k = kw) (res : α → Fk K) (pre : α → List Prop) (ok : ∀ x, AL (pre x) → ∀ w v u, a.pr x w v → (k0 w kw).p w u → Cl f [v] w (res x)) : Ct dk := ⟨f, va, en, fun ks kw' => match ks with
  | [k] => match a.get k with
    | some x => cond (gw kw') (some (res x, pre x)) none
    | none => none
  | _ => none, by
  intro ks kw' F ps h hp w vs u ha hu
  split at h
  · next k =>
    split at h
    · next x e =>
      obtain ⟨hn, h⟩ := c_t h
      injection h with h
      injection h with h1 h2
      subst h1 h2
      rw [hgw _ hn] at hu
      match vs, ha with
      | [v], ⟨h1, _⟩ => exact ok x hp w v u (a.ok k x e w _ h1) hu
    · cases h
  · cases h⟩
def ct2w (f va : Nat) (en : Enters Tryd.prog f) (a : Vw α) (b : Vw β) (kw : Ks K) (gw : Ks K → Bool) (hgw : ∀ k, gw k = true → k = kw) (res : α → β → Fk K) (pre : α → β → List Prop) (ok : ∀ x y, AL (pre x y) → ∀ w v t u, a.pr x w v → b.pr y w t → (k0 w kw).p w u → Cl f [v, t] w (res x y)) : Ct dk := ⟨f, va, en, fun ks kw' => match ks with
  | [k, l] => match a.get k, b.get l with
    | some x, some y => cond (gw kw') (some (res x y, pre x y)) none
    | _, _ => none
  | _ => none, by
  intro ks kw' F ps h hp w vs u ha hu
  split at h
  · next k l =>
    split at h
    · next x y e1 e2 =>
      obtain ⟨hn, h⟩ := c_t h
      injection h with h
      injection h with h1 h2
      subst h1 h2
      rw [hgw _ hn] at hu
      match vs, ha with
      | [v, t], ⟨h1, h2, _⟩ => exact ok x y hp w v t u (a.ok k x e1 w _ h1) (b.ok l y e2 w _ h2) hu
    · cases h
  · cases h⟩
noncomputable def ct3w (f va : Nat) (en : Enters Tryd.prog f) (a : Vw α) (b : Vw β) (c : Vw γ) (kw : Ks K) (gw : Ks K → Bool) (hgw : ∀ k, gw k = true → k = kw) (res : α → β → γ → Fk K) (pre : α → β → γ → List Prop) (ok : ∀ x y z, AL (pre x y z) → ∀ w v u t q, a.pr x w v → b.pr y w u → c.pr z w t → (k0 w kw).p w q → Cl f [v, u, t] w (res x y z)) : Ct dk := ⟨f, va, en, fun ks kw' => match ks with
  | [k, l, m] => match a.get k, b.get l, c.get m with
    | some x, some y, some z => cond (gw kw') (some (res x y z, pre x y z)) none
    | _, _, _ => none
  | _ => none, by
  intro ks kw' F ps h hp w vs u ha hu
  split at h
  · next k l m =>
    split at h
    · next x y z e1 e2 e3 =>
      obtain ⟨hn, h⟩ := c_t h
      injection h with h
      injection h with h1 h2
      subst h1 h2
      rw [hgw _ hn] at hu
      match vs, ha with
      | [v, u', t], ⟨h1, h2, h3, _⟩ => exact ok x y z hp w v u' t u (a.ok k x e1 w _ h1) (b.ok l y e2 w _ h2) (c.ok m z e3 w _ h3) hu
    · cases h
  · cases h⟩
def ct0w (f va : Nat) (en : Enters Tryd.prog f) (kw : Ks K) (gw : Ks K → Bool) (hgw : ∀ k, gw k = true → k = kw) (res : Fk K) (ok : ∀ w u, (k0 w kw).p w u → Cl f [] w res) : Ct dk := ⟨f, va, en, fun ks kw' => match ks with
  | [] => cond (gw kw') (some (res, [])) none
  | _ => none, by
  intro ks kw' F ps h hp w vs u ha hu
  split at h
  · obtain ⟨hn, h⟩ := c_t h
    injection h with h
    injection h with h1 h2
    subst h1 h2
    rw [hgw _ hn] at hu
    match vs, ha with
    | [], _ => exact ok w u hu
  · cases h⟩
/-- What is owed of a function's code at a place. -/
noncomputable abbrev dX (cs : List (Ct dk)) (fn : Func) (Res : Fk K) (p : List Nat) (H : List (Nat → Hint K)) (J : List (Sx K → Prop)) (S : Sx K) : Prop := dsc (En cs) fn.ntmps p H (rest fn) J (fun _ => False) (rets (En cs) fn Res) (fun _ _ => False) S
noncomputable abbrev dL (cs : List (Ct dk)) (fn : Func) (Res : Fk K) (p : List Nat) (H : List (Nat → Hint K)) (J : List (Sx K → Prop)) (S : Sx K) (h : Hint K) : Prop := dscL (En cs) fn.ntmps p H (rest fn) J (fun _ => False) (rets (En cs) fn Res) (fun _ _ => False) S h
noncomputable abbrev rX (cs : List (Ct dk)) (fn : Func) (h : Nat → Hint K) (r : Nat) (S : Sx K) : Sx K := rs (En cs) fn h r S
/-- A function, by its number. -/
theorem fx (cs : List (Ct dk)) {f : FuncId} {fn : Func} {args : Array Value} {w : World} (hf : Tryd.prog.funcs[f]? = some fn) (hs : Nat → Hint K) (D0 : DL K) (Res : Fk K) (hD : AllL (fun x : Nat × Ks K => (k0 w x.2).p w (args.getD x.1 undef)) D0) (p : Prop) (h : p)
    (e : vc (En cs) fn.ntmps (rest fn) hs (ent Tryd.prog fn D0) (fun _ => False) (rets (En cs) fn Res) (fun _ _ => False) = p := by kernel_rfl) (hB : entB Tryd.prog (En cs) fn args.size D0 = true := by kernel_rfl) (hn : npF Res = true := by kernel_rfl) : Calls Tryd.prog f args w (Ret w fun v w' => (f0 w Res).p w' v) :=
  fnX (E := En cs) hf (by kernel_rfl) hs D0 Res hn hD (e.mpr h) hB
end
end Go.Proofs.YtmklkjjnkejakaaDoor.X
