/- One text out of: Xa, Xb, Xc, Xd, Xe. -/
import Derived.Test.YtalcafbeepimgaaGreatDoorBZ
import Derived.Test.YtalcafbeepimgaaGreatDoorBK
/- Whole functions by reckoning: what is known of slots and variables is data that Lean reckons with; what a region leaves behind, and what is owed for it, is a function's value. No program is named here. -/
namespace Go.Proofs.YtalcafbeepimgaaGreatDoor.X
open Go.RowKit Go.Proofs.YtalcafbeepimgaaGreatDoor.Z
open Go.Proofs.YtalcafbeepimgaaGreatDoor.Rg (depI Facts)

/-- What is known of a value: nothing, which it is, of which kind. -/
inductive Ks (κ : Type)
  | X
  | E (v : Value)
  | O (o : κ)
/-- .. of a slot in a region: also a tuple, a place in a variable, that it was not run. -/
inductive Fk (κ : Type)
  | s (k : Ks κ)
  | t (ks : List (Ks κ))
  | p (q off : Nat)
  | u
def AL : List Prop → Prop
  | [] => True
  | p :: r => p ∧ AL r
theorem AL_app : ∀ {a b : List Prop}, AL (a ++ b) → AL a ∧ AL b := by
  intro a
  induction a with
  | nil => intro b h; exact ⟨trivial, h⟩
  | cons p r ih => intro b h; exact ⟨⟨h.1, (ih h.2).1⟩, (ih h.2).2⟩
abbrev DL (κ : Type) := List (Nat × Ks κ)
abbrev FX (κ : Type) := List (Nat × Fk κ)
structure Vx (κ : Type) where
  slot : Nat
  ty : TypeId
  k : Ks κ
def lS {κ : Type} : DL κ → Nat → Ks κ
  | [], _ => .X
  | x :: r, d => cond (Nat.beq x.1 d) x.2 (lS r d)
def lF {κ : Type} : FX κ → Nat → Fk κ
  | [], _ => .s .X
  | x :: r, d => cond (Nat.beq x.1 d) x.2 (lF r d)
def lG {κ : Type} : List (Vx κ) → Nat → Vx κ
  | [], _ => ⟨0, 0, .X⟩
  | x :: r, d => cond (Nat.beq x.slot d) x (lG r d)
def hasX {κ : Type} (G : List (Vx κ)) (p : Nat) : Bool := G.any fun x => Nat.beq x.slot p
def keyF {κ : Type} (fs : FX κ) (d : Nat) : Bool := fs.any fun x => Nat.beq x.1 d

section
variable {P : Program} {κ : Type} (dk : κ → Kd P)
def dS : Ks κ → Kd P
  | .X => .X
  | .E v => .E v
  | .O o => dk o
def dF (kf : Nat → Nat) : Fk κ → Kd P
  | .s k => dS dk k
  | .t ks => .T (ks.map (dS dk))
  | .p q off => .E (.pointer (some ⟨kf q, off, none⟩))
  | .u => .E undef
def dD (D : DL κ) : FL P := D.map fun x => (x.1, dS dk x.2)
def dG (G : List (Vx κ)) : List (Vk P) := G.map fun x => ⟨x.slot, x.ty, dS dk x.k⟩
def dFs (kf : Nat → Nat) (fs : FX κ) : FL P := fs.map fun x => (x.1, dF dk kf x.2)
variable {dk}
theorem lk_dD : ∀ {D : DL κ} {d : Nat}, lk (dD dk D) d = dS dk (lS D d) := by
  intro D d
  induction D with
  | nil => rfl
  | cons x r ih =>
    show cond (Nat.beq x.1 d) (dS dk x.2) (lk (dD dk r) d) = dS dk (cond (Nat.beq x.1 d) x.2 (lS r d))
    cases Nat.beq x.1 d with
    | true => rfl
    | false => exact ih
theorem lk_dFs {kf : Nat → Nat} : ∀ {fs : FX κ} {d : Nat}, lk (dFs dk kf fs) d = dF dk kf (lF fs d) := by
  intro fs d
  induction fs with
  | nil => rfl
  | cons x r ih =>
    show cond (Nat.beq x.1 d) (dF dk kf x.2) (lk (dFs dk kf r) d) = dF dk kf (cond (Nat.beq x.1 d) x.2 (lF r d))
    cases Nat.beq x.1 d with
    | true => rfl
    | false => exact ih
theorem lkG_dG : ∀ {G : List (Vx κ)} {d : Nat}, lkG (dG dk G) d = ⟨(lG G d).slot, (lG G d).ty, dS dk (lG G d).k⟩ := by
  intro G d
  induction G with
  | nil => rfl
  | cons x r ih =>
    show cond (Nat.beq x.slot d) (⟨x.slot, x.ty, dS dk x.k⟩ : Vk P) (lkG (dG dk r) d) = _
    cases hb : Nat.beq x.slot d with
    | true => simp only [lG, hb, _root_.cond_true]
    | false => simp only [lG, hb, _root_.cond_false]; exact ih
theorem has_dD {D : DL κ} {d : Nat} (h : D.any (fun y => Nat.beq y.1 d) = true) : (dD dk D).any (fun y => Nat.beq y.1 d) = true := by
  unfold dD
  rw [List.any_map]
  exact h
theorem has_dG {G : List (Vx κ)} {p : Nat} (h : hasX G p = true) : hasG (dG dk G) p = true := by
  unfold dG hasG
  rw [List.any_map]
  exact h
theorem mem_dG {G : List (Vx κ)} {p : Nat} (h : hasX G p = true) : (⟨p, (lG G p).ty, (dS dk (lG G p).k).p⟩ : Vr) ∈ gv (dG dk G) := by
  have := hasG_mem (has_dG (dk := dk) h)
  rwa [lkG_dG] at this

/-! ### Operands -/
/-- What is told later holds of what was told. -/
def Ext (acc fin : FX κ) : Prop := ∀ d, keyF acc d = true → lF fin d = lF acc d
theorem lF_none : ∀ {acc : FX κ} {d : Nat}, keyF acc d = false → lF acc d = .s .X := by
  intro acc
  induction acc with
  | nil => intro d _; rfl
  | cons x r ih =>
    intro d h
    unfold keyF at h
    simp only [List.any_cons, Bool.or_eq_false_iff] at h
    unfold lF
    rw [h.1]
    exact ih h.2
def opF (ops : Array Oper) (i : Nat) (acc : FX κ) (D : DL κ) : Operand → Option (Fk κ)
  | .tmp x => cond (depI ops i x) (some (lF acc x)) (cond (D.any (fun y => Nat.beq y.1 x) && readS ops i x) (some (.s (lS D x))) none)
  | .const v => some (.s (.E v))
  | _ => none
section
variable {ops : Array Oper} {Q : Exit → Act → World → Prop} {acc fin : FX κ} {G : List (Vx κ)} {D : DL κ} {V : VS} {kf0 : Nat → Nat} {i : Nat}
theorem opF_ok (he : Ext acc fin) {x : Operand} {F : Fk κ} (h : opF ops i acc D x = some F) : Arg soft P ops (fv (dFs dk kf0 fin)) (gv (dG dk G)) (dv (dD dk D)) V kf0 i x (dF dk kf0 F).p := by
  cases x with
  | tmp x =>
    simp only [opF] at h
    cases hd : depI ops i x with
    | true =>
      rw [hd] at h
      injection h with h
      subst h
      intro a w c
      cases hk : keyF acc x with
      | true =>
        have := c.dep x hd
        show (dF dk kf0 (lF acc x)).p w _
        rw [← he x hk, ← lk_dFs]
        exact this
      | false =>
        rw [lF_none hk]
        trivial
    | false =>
      rw [hd] at h
      simp only [_root_.cond_false] at h
      cases hr : (D.any (fun y => Nat.beq y.1 x) && readS ops i x) with
      | false => rw [hr] at h; cases h
      | true =>
        rw [hr] at h
        injection h with h
        subst h
        simp only [Bool.and_eq_true] at hr
        intro a w c
        show (dS dk (lS D x)).p w _
        rw [← lk_dD]
        exact c.old (x, (lk (dD dk D) x).p) (List.mem_map.2 ⟨_, lkD_mem (has_dD hr.1), rfl⟩) hr.2
  | const v =>
    injection h with h
    subst h
    exact fun _ _ _ => rfl
  | _ => cases h
theorem opF_place {x q off : Nat} (h : opF ops i acc D (.tmp x) = some (.p q off)) : depI ops i x = true ∧ lF acc x = .p q off := by
  simp only [opF] at h
  cases hd : depI ops i x with
  | true => rw [hd] at h; injection h with h; exact ⟨rfl, h⟩
  | false =>
    rw [hd] at h
    simp only [_root_.cond_false] at h
    cases hr : (D.any (fun y => Nat.beq y.1 x) && readS ops i x) with
    | false => rw [hr] at h; cases h
    | true => rw [hr] at h; injection h with h; cases h
end

/-! ### Handlers: what an operation leaves, and what is owed for it -/
abbrev Hd (κ : Type) := Nat → (Operand → Option (Fk κ)) → Op → Option (Fk κ × List Prop)
variable (dk) in
def HOk (h : Hd κ) : Prop := ∀ {ops : Array Oper} {Q : Exit → Act → World → Prop} {Fc : Facts} {G : List Vr} {D : List (Nat × Pr)} {V : VS} {kf0 : Nat → Nat} {i d : Nat} (va : Nat) (ev : Operand → Option (Fk κ)), (∀ x F, ev x = some F → Arg soft P ops Fc G D V kf0 i x (dF dk kf0 F).p) →
  ∀ op F ps, h va ev op = some (F, ps) → AL ps → (∀ w v, (dF dk kf0 F).p w v → Fc d w v) → Owes soft P ops Q Fc G D V kf0 i (some d) op
def hOr (a b : Hd κ) : Hd κ := fun va ev op => match a va ev op with
  | some r => some r
  | none => b va ev op
theorem hOr_ok {a b : Hd κ} (ha : HOk dk a) (hb : HOk dk b) : HOk dk (hOr a b) := by
  intro ops Q Fc G D V kf0 i d va ev hev op F ps h hp hF
  unfold hOr at h
  cases e : a va ev op with
  | some r => rw [e] at h; exact ha va ev hev op F ps (e.trans h) hp hF
  | none => rw [e] at h; exact hb va ev hev op F ps h hp hF
/-- Moves, picks, parts of tuples. -/
def hCore : Hd κ := fun _ ev op => match op with
  | .move x => (ev x).map fun F => (F, [])
  | .assign x => (ev x).map fun F => (F, [])
  | .pick c x y => match ev c with
    | some (.s (.E (.bool true))) => (ev x).map fun F => (F, [])
    | some (.s (.E (.bool false))) => (ev y).map fun F => (F, [])
    | _ => none
  | .extract x j => match ev x with
    | some (.t ks) => (ks[j]?).map fun k => (.s k, [])
    | _ => none
  | _ => none
theorem hCore_ok : HOk dk (hCore : Hd κ) := by
  intro ops Q Fc G D V kf0 i d va ev hev op F ps h hp hF
  unfold hCore at h
  split at h
  · next x =>
    obtain ⟨F', e, h⟩ := Option.map_eq_some_iff.1 h
    injection h with h1 h2
    subst h1
    exact Z.move (hev _ _ e) hF
  · next x =>
    obtain ⟨F', e, h⟩ := Option.map_eq_some_iff.1 h
    injection h with h1 h2
    subst h1
    exact Z.assign (hev _ _ e) hF
  · next c x y =>
    split at h
    · next ec =>
      obtain ⟨F', e, h⟩ := Option.map_eq_some_iff.1 h
      injection h with h1 h2
      subst h1
      exact pickT (hev _ _ ec) (hev _ _ e) hF
    · next ec =>
      obtain ⟨F', e, h⟩ := Option.map_eq_some_iff.1 h
      injection h with h1 h2
      subst h1
      exact pickF (hev _ _ ec) (hev _ _ e) hF
    · cases h
  · next x j =>
    split at h
    · next ks ec =>
      obtain ⟨k, e, h⟩ := Option.map_eq_some_iff.1 h
      injection h with h1 h2
      subst h1
      refine val (fun o a w ho cx => ?_) rfl
      have hv : (dF dk kf0 (.t ks)).p w (a.eval x) := hev _ _ ec a w cx
      obtain ⟨vs, ev', ha⟩ := hv
      obtain ⟨hl, hg⟩ := allK_get ha
      have hj : (ks.map (dS dk))[j]? = some (dS dk k) := by rw [List.getElem?_map, e]; rfl
      have hlt : j < vs.length := by rw [← hl]; exact (List.getElem?_eq_some_iff.1 hj).1
      refine ⟨vs.getD j undef, ?_, hF _ _ (hg j _ hj)⟩
      unfold execOp
      simp only [ho, ev']
      simp [Instr.extract, hlt]
    · cases h
  · cases h
end
end Go.Proofs.YtalcafbeepimgaaGreatDoor.X

/- Whole functions by reckoning: a region. No program is named here. -/
namespace Go.Proofs.YtalcafbeepimgaaGreatDoor.X
open Go.RowKit Go.Proofs.YtalcafbeepimgaaGreatDoor.Z
open Go.Proofs.YtalcafbeepimgaaGreatDoor.Rg (depI Facts dsts info run_wanted)

/-- What there is to reckon with: the kinds, the handlers, the structs' fields. -/
structure Env (P : Program) where
  κ : Type
  dk : κ → Kd P
  hd : Hd κ
  hok : HOk dk hd
  fl : κ → TypeId → Nat → Option (Ks κ)
  fok : ∀ o t off k, fl o t off = some k → (aggB P t = true → ∀ sz, (P.info? t).map (·.size) = some sz → ∀ w cs, (dk o).p w (.agg cs) → (dS dk k).p w (.agg (cs.extract off (off + sz)))) ∧ (plainB P t = true → ∀ w cs, (dk o).p w (.agg cs) → (dS dk k).p w (cs.getD off undef))
/-- Where a field lies, and of how many cells it is. -/
def offOf (P : Program) (t : TypeId) (f : Nat) : Option (Nat × Nat) := match P.underlying t with
  | some (.struct fs) => match fs[f]? with
    | some fd => (P.info? fd.type).map fun j => (fd.offset, j.size)
    | none => none
  | _ => none
/-- An array of cells has an n-th one. -/
def arrB (P : Program) (t : TypeId) (n : Nat) : Bool := match P.underlying t with
  | some (.array len e) => decide (n < len) && (match P.info? e with
    | some j => Nat.beq j.size 1
    | none => false)
  | _ => false
theorem elemV {P : Program} {s : Array Value → TypeId → Bool} {ops : Array Oper} {Q : Exit → Act → World → Prop} {F : Facts} {G : List Vr} {D : List (Nat × Pr)} {V : VS} {kf0 : Nat → Nat} {i d p n : Nat} {t : TypeId} {q : Pr} (hx : (⟨p, t, q⟩ : Vr) ∈ G) (hf : arrB P t n = true) (hF : ∀ w v, v = .pointer (some ⟨kf0 p, n, none⟩) → F d w v) : Owes s P ops Q F G D V kf0 i (some d) (.indexAddr t (.tmp p) (.const (.int .i64 (.ofNat n)))) :=
  val (fun o a w ho c => by
    refine ⟨.pointer (some ⟨kf0 p, n, none⟩), ?_, hF _ _ rfl⟩
    unfold arrB at hf
    split at hf
    · next len e hu =>
      simp only [Bool.and_eq_true, decide_eq_true_eq] at hf
      obtain ⟨h1, h2⟩ := hf
      split at h2
      · next j hj =>
        have e2 := Nat.eq_of_beq_eq_true h2
        have hp : a.eval (.tmp p) = .pointer (some ⟨kf0 p, 0, none⟩) := c.ptr _ hx
        unfold execOp
        simp only [Act.eval, Array.getD_eq_getD_getElem?] at hp
        simp [go_sem, ho, hp, Act.eval, Instr.indexAt, Instr.sureAddr, underlying, sizeOf, typeInfo, hu, hj, e2, h1, Addr.add]
        exact fun h => h.symm
      · cases h2
    · cases hf) rfl
/-- What is told of an operation ahead: which variant of a contract, and as what its answer is told. -/
abbrev Hint (κ : Type) := List (Nat × Nat × Option (Fk κ))
def vaOf {κ : Type} : Hint κ → Nat → Nat
  | [], _ => 0
  | x :: r, i => cond (Nat.beq x.1 i) x.2.1 (vaOf r i)
def teOf {κ : Type} : Hint κ → Nat → Option (Fk κ)
  | [], _ => none
  | x :: r, i => cond (Nat.beq x.1 i) x.2.2 (teOf r i)
section
variable {P : Program} (E : Env P)
/-- The one tells the other. -/
def im (F F' : Fk E.κ) : Prop := ∀ kf w v, (dF E.dk kf F).p w v → (dF E.dk kf F').p w v
/-- .. of bools and ints: that they are the same. -/
def tS (k k' : Ks E.κ) : Prop := match k, k' with
  | .E (.bool c), .E (.bool b) => c = b
  | .E (.int k m), .E (.int k' m') => k = k' ∧ m = m'
  | k, k' => ∀ w v, (dS E.dk k).p w v → (dS E.dk k').p w v
theorem tS_im {k k' : Ks E.κ} (h : tS E k k') : ∀ w v, (dS E.dk k).p w v → (dS E.dk k').p w v := by
  unfold tS at h
  split at h
  · subst h; exact fun _ _ h => h
  · obtain ⟨rfl, rfl⟩ := h; exact fun _ _ h => h
  · exact h
def tL : List (Ks E.κ) → List (Ks E.κ) → Prop
  | [], [] => True
  | k :: r, k' :: r' => tS E k k' ∧ tL r r'
  | _, _ => False
theorem tL_im : ∀ {ks ks' : List (Ks E.κ)}, tL E ks ks' → ∀ w vs, allK w (ks.map (dS E.dk)) vs → allK w (ks'.map (dS E.dk)) vs := by
  intro ks
  induction ks with
  | nil =>
    intro ks' h w vs hv
    cases ks' with
    | nil => exact hv
    | cons k' r' => cases h
  | cons k r ih =>
    intro ks' h w vs hv
    cases ks' with
    | nil => cases h
    | cons k' r' =>
      cases vs with
      | nil => cases hv
      | cons v vs => exact ⟨tS_im E h.1 w v hv.1, ih h.2 w vs hv.2⟩
def te (F F' : Fk E.κ) : Prop := match F, F' with
  | .s k, .s k' => tS E k k'
  | .t ks, .t ks' => tL E ks ks'
  | F, F' => im E F F'
theorem te_im {F F' : Fk E.κ} (h : te E F F') : im E F F' := by
  unfold te at h
  split at h
  · exact fun _ => tS_im E h
  · exact fun _ w v ⟨vs, e, hv⟩ => ⟨vs, e, tL_im E h w vs hv⟩
  · exact h
def evOp (ops : Array Oper) (V : VS) (D : DL E.κ) (G : List (Vx E.κ)) (va i : Nat) (acc : FX E.κ) (op : Op) : Option (Fk E.κ × List Prop) := match op with
  | .load t (.tmp p) => cond (hasX G p) (cond (Nat.beq (lG G p).ty t && readB ops V i p) (some (.s (lG G p).k, [])) none) (match opF ops i acc D (.tmp p) with
    | some (.p q off) => match (lG G q).k with
      | .O o => match E.fl o t off with
        | some k => cond (hasX G q && readB ops V i q && ((aggB P t && ((P.info? t).map (·.size)).any (fun sz => ((P.info? (lG G q).ty).map (·.size)).any fun m => decide (off + sz ≤ m))) || (plainB P t && ((P.info? (lG G q).ty).map (·.size)).any fun m => decide (off < m)))) (some (.s k, [])) none
        | none => none
      | _ => none
    | _ => E.hd va (opF ops i acc D) op)
  | .fieldAddr t (.tmp p) f => match offOf P t f with
    | some (off, sz) => cond (fieldB P t f off sz) (cond (hasX G p) (cond (Nat.beq (lG G p).ty t) (some (.p p off, [])) none) (match opF ops i acc D (.tmp p) with
      | some (.p q o0) => some (.p q (o0 + off), [])
      | _ => none)) none
    | none => none
  | .indexAddr t (.tmp p) (.const (.int .i64 (.ofNat n))) => cond (hasX G p) (cond (Nat.beq (lG G p).ty t && arrB P t n) (some (.p p n, [])) none) (E.hd va (opF ops i acc D) (.indexAddr t (.tmp p) (.const (.int .i64 (.ofNat n)))))
  | op => E.hd va (opF ops i acc D) op
/-- .. and told anew. -/
def evTe (ops : Array Oper) (V : VS) (D : DL E.κ) (G : List (Vx E.κ)) (h : Hint E.κ) (i : Nat) (acc : FX E.κ) (op : Op) : Option (Fk E.κ × List Prop) := match evOp E ops V D G (vaOf h i) i acc op with
  | some (F, ps) => match teOf h i with
    | some F' => some (F', ps ++ [te E F F'])
    | none => some (F, ps)
  | none => none
/-- An operation, guarded or not. -/
def evG (ops : Array Oper) (V : VS) (D : DL E.κ) (G : List (Vx E.κ)) (h : Hint E.κ) (i : Nat) (acc : FX E.κ) (o : Oper) : Option (Fk E.κ × List Prop) := match o.guard with
  | none => evTe E ops V D G h i acc o.op
  | some (j, b) => match (ops[j]?).bind (·.dst) with
    | some dj => cond (depI ops i dj && keyF acc dj) (match lF acc dj with
      | .s (.E (.bool c)) => cond (c == b) (evTe E ops V D G h i acc o.op) (some (.u, []))
      | .u => some (.u, [])
      | _ => none) none
    | none => none
def go (ops : Array Oper) (V : VS) (D : DL E.κ) (G : List (Vx E.κ)) (h : Hint E.κ) : List Oper → Nat → FX E.κ → Option (FX E.κ × List Prop)
  | [], _, acc => some (acc, [])
  | o :: r, i, acc => cond (isAl V i || isSt V i) (go ops V D G h r (i + 1) acc) (match o.dst with
    | none => none
    | some d => cond (keyF acc d) none (match evG E ops V D G h i acc o with
      | none => none
      | some (F, ps) => match go ops V D G h r (i + 1) ((d, F) :: acc) with
        | none => none
        | some (fs, qs) => some (fs, ps ++ qs)))
variable {E}
section
variable {ops : Array Oper} {Q : Exit → Act → World → Prop} {V : VS} {D : DL E.κ} {G : List (Vx E.κ)} {h : Hint E.κ} {kf0 : Nat → Nat} {i : Nat} {acc fin : FX E.κ}
theorem evOp_ok {va d : Nat} {op : Op} {F : Fk E.κ} {ps : List Prop} (he : Ext acc fin) (h : evOp E ops V D G va i acc op = some (F, ps)) (hp : AL ps) {Fc : Facts} (hFc : Fc = fv (dFs E.dk kf0 fin)) (hF : ∀ w v, (dF E.dk kf0 F).p w v → Fc d w v) :
    Owes soft P ops Q Fc (gv (dG E.dk G)) (dv (dD E.dk D)) V kf0 i (some d) op := by
  have gen : E.hd va (opF ops i acc D) op = some (F, ps) → Owes soft P ops Q Fc (gv (dG E.dk G)) (dv (dD E.dk D)) V kf0 i (some d) op := fun e =>
    E.hok va _ (fun x F' hx => by rw [hFc]; exact opF_ok he hx) op F ps e hp hF
  unfold evOp at h
  split at h
  · next t p =>
    cases hg : hasX G p with
    | true =>
      rw [hg] at h
      simp only [_root_.cond_true] at h
      cases hc : (Nat.beq (lG G p).ty t && readB ops V i p) with
      | false => rw [hc] at h; cases h
      | true =>
        rw [hc] at h
        injection h with h
        injection h with h1 h2
        subst h1
        simp only [Bool.and_eq_true] at hc
        have e : (lG G p).ty = t := Nat.eq_of_beq_eq_true hc.1
        subst e
        exact loadV (mem_dG hg) hc.2 hF
    | false =>
      rw [hg] at h
      simp only [_root_.cond_false] at h
      split at h
      · next q off ho =>
        split at h
        · next o hk =>
          split at h
          · next k hfl =>
            obtain ⟨dx, hl⟩ := opF_place ho
            have hx : ∀ w v, Fc p w v → v = .pointer (some ⟨kf0 q, off, none⟩) := fun w v hv => by
              cases hkey : keyF acc p with
              | false => rw [lF_none hkey] at hl; cases hl
              | true =>
                rw [hFc] at hv
                have e : lk (dFs E.dk kf0 fin) p = dF E.dk kf0 (.p q off) := by rw [lk_dFs, he p hkey, hl]
                have : (lk (dFs E.dk kf0 fin) p).p w v := hv
                rw [e] at this
                exact this
            obtain ⟨f1, f2⟩ := E.fok o t off k hfl
            cases hc : (hasX G q && readB ops V i q && ((aggB P t && ((P.info? t).map (·.size)).any (fun sz => ((P.info? (lG G q).ty).map (·.size)).any fun m => decide (off + sz ≤ m))) || (plainB P t && ((P.info? (lG G q).ty).map (·.size)).any fun m => decide (off < m)))) with
            | false => rw [hc] at h; cases h
            | true =>
              rw [hc] at h
              injection h with h
              injection h with h1 h2
              subst h1
              simp only [Bool.and_eq_true, Bool.or_eq_true] at hc
              obtain ⟨⟨hq, hr⟩, hc⟩ := hc
              have hm : (⟨q, (lG G q).ty, (E.dk o).p⟩ : Vr) ∈ gv (dG E.dk G) := by
                have := mem_dG (dk := E.dk) hq
                rwa [hk] at this
              rcases hc with ⟨ha, hs⟩ | ⟨ha, hs⟩
              · cases hi : (P.info? t).map (·.size) with
                | none => rw [hi] at hs; cases hs
                | some sz =>
                  rw [hi] at hs
                  exact loadF dx hx hm hr ha hi hs (f1 ha sz hi) hF
              · exact loadP dx hx hm hr ha hs (f2 ha) hF
          · cases h
        · cases h
      · exact gen h
  · next t p f =>
    split at h
    · next off sz _ =>
      cases hf : fieldB P t f off sz with
      | false => rw [hf] at h; cases h
      | true =>
        rw [hf] at h
        simp only [_root_.cond_true] at h
        cases hg : hasX G p with
        | true =>
          rw [hg] at h
          simp only [_root_.cond_true] at h
          cases hc : Nat.beq (lG G p).ty t with
          | false => rw [hc] at h; cases h
          | true =>
            rw [hc] at h
            injection h with h
            injection h with h1 h2
            subst h1
            have e : (lG G p).ty = t := Nat.eq_of_beq_eq_true hc
            subst e
            exact fieldV (mem_dG hg) hf hF
        | false =>
          rw [hg] at h
          simp only [_root_.cond_false] at h
          split at h
          · next q o0 ho =>
            injection h with h
            injection h with h1 h2
            subst h1
            have hx : Arg soft P ops Fc (gv (dG E.dk G)) (dv (dD E.dk D)) V kf0 i (.tmp p) (fun _ v => v = .pointer (some ⟨kf0 q, o0, none⟩)) := by
              have := opF_ok (dk := E.dk) (G := G) (V := V) (kf0 := kf0) he ho
              rw [hFc]
              exact this
            exact fieldA hx hf hF
          · cases h
    · cases h
  · next t p n =>
    cases hg : hasX G p with
    | true =>
      rw [hg] at h
      simp only [_root_.cond_true] at h
      cases hc : (Nat.beq (lG G p).ty t && arrB P t n) with
      | false => rw [hc] at h; cases h
      | true =>
        rw [hc] at h
        injection h with h
        injection h with h1 h2
        subst h1
        simp only [Bool.and_eq_true] at hc
        have e : (lG G p).ty = t := Nat.eq_of_beq_eq_true hc.1
        subst e
        exact elemV (mem_dG hg) hc.2 hF
    | false =>
      rw [hg] at h
      exact gen h
  · exact gen h
theorem evTe_ok {d : Nat} {op : Op} {F : Fk E.κ} {ps : List Prop} (he : Ext acc fin) (h' : evTe E ops V D G h i acc op = some (F, ps)) (hp : AL ps) (hF : lF fin d = F) :
    Owes soft P ops Q (fv (dFs E.dk kf0 fin)) (gv (dG E.dk G)) (dv (dD E.dk D)) V kf0 i (some d) op := by
  have hFd : ∀ w v, (dF E.dk kf0 F).p w v → (fv (dFs E.dk kf0 fin)) d w v := fun w v hv => by
    show (lk (dFs E.dk kf0 fin) d).p w v
    rw [lk_dFs, hF]
    exact hv
  unfold evTe at h'
  split at h'
  · next F1 p1 e1 =>
    split at h'
    · next F2 e2 =>
      injection h' with h'
      injection h' with h1 h2
      subst h1 h2
      obtain ⟨a1, a2⟩ := AL_app hp
      exact evOp_ok he e1 a1 rfl fun w v hv => hFd w v (te_im E a2.1 kf0 w v hv)
    · injection h' with h'
      injection h' with h1 h2
      subst h1 h2
      exact evOp_ok he e1 hp rfl hFd
  · cases h'
theorem info_of {o : Oper} (ho : ops[i]? = some o) : info ops i = some (o.dst, o.op, o.guard) := by
  unfold info
  rw [ho]
  rfl
theorem evG_ok {o : Oper} {d : Nat} {F : Fk E.κ} {ps : List Prop} (ho : ops[i]? = some o) (hd : o.dst = some d) (he : Ext acc fin) (h' : evG E ops V D G h i acc o = some (F, ps)) (hp : AL ps) (hF : lF fin d = F) :
    StepAt soft P ops Q (fv (dFs E.dk kf0 fin)) (gv (dG E.dk G)) (dv (dD E.dk D)) V kf0 i := by
  have hi := info_of ho
  rw [hd] at hi
  have hun : F = .u → ∀ d', some d = some d' → ∀ w, (fv (dFs E.dk kf0 fin)) d' w undef := fun e d' ed w => by
    injection ed with ed
    subst ed
    show (lk (dFs E.dk kf0 fin) d).p w undef
    rw [lk_dFs, hF, e]
    rfl
  unfold evG at h'
  split at h'
  · next hg =>
    rw [hg] at hi
    exact Z.stepN hi (evTe_ok he h' hp hF)
  · next j b hg =>
    rw [hg] at hi
    split at h'
    · next dj hj =>
      cases hc : (depI ops i dj && keyF acc dj) with
      | false => rw [hc] at h'; cases h'
      | true =>
        rw [hc] at h'
        simp only [_root_.cond_true] at h'
        simp only [Bool.and_eq_true] at hc
        have hfd : ∀ w v, (fv (dFs E.dk kf0 fin)) dj w v → (dF E.dk kf0 (lF acc dj)).p w v := fun w v hv => by
          have : (lk (dFs E.dk kf0 fin) dj).p w v := hv
          rwa [lk_dFs, he dj hc.2] at this
        split at h'
        · next c hl =>
          rw [hl] at hfd
          cases hcb : (c == b) with
          | true =>
            rw [hcb] at h'
            have e : c = b := by simpa using hcb
            subst e
            exact Z.stepG hi hj hc.1 (fun w v hv => hfd w v hv) (evTe_ok he h' hp hF)
          | false =>
            rw [hcb] at h'
            injection h' with h'
            injection h' with h1 h2
            exact Z.stepS hi hj hc.1 (fun w v hv => hfd w v hv) hcb (hun h1.symm)
        · next hl =>
          rw [hl] at hfd
          injection h' with h'
          injection h' with h1 h2
          exact Z.stepU hi hj hc.1 (fun w v hv => hfd w v hv) (hun h1.symm)
        · cases h'
    · cases h'
theorem Ext.tail {d : Nat} {F : Fk E.κ} (hk : keyF acc d = false) (he : Ext ((d, F) :: acc) fin) : Ext acc fin ∧ lF fin d = F := by
  refine ⟨fun x hx => ?_, ?_⟩
  · have hne : Nat.beq d x = false := by
      cases hb : Nat.beq d x with
      | false => rfl
      | true => rw [Nat.eq_of_beq_eq_true hb] at hk; rw [hk] at hx; cases hx
    have h1 := he x (by unfold keyF at hx ⊢; rw [List.any_cons, hx, Bool.or_true])
    rw [h1]
    show cond (Nat.beq d x) F (lF acc x) = lF acc x
    rw [hne]
    rfl
  · have h1 := he d (by unfold keyF; rw [List.any_cons]; simp)
    rw [h1]
    show cond (Nat.beq d d) F (lF acc d) = F
    rw [Nat.beq_refl]
    rfl
theorem go_ok : ∀ (l : List Oper) (i : Nat) (acc fin : FX E.κ) (ps : List Prop), go E ops V D G h l i acc = some (fin, ps) → ops.toList.drop i = l → AL ps → Ext acc fin ∧ ∀ j, i ≤ j → j < ops.size → StepAt soft P ops Q (fv (dFs E.dk kf0 fin)) (gv (dG E.dk G)) (dv (dD E.dk D)) V kf0 j := by
  intro l
  induction l with
  | nil =>
    intro i acc fin ps hg hl _
    injection hg with hg
    injection hg with h1 h2
    subst h1
    refine ⟨fun _ _ => rfl, fun j hij hj => ?_⟩
    have : ops.toList.length ≤ i := List.drop_eq_nil_iff.1 hl
    simp at this
    omega
  | cons o r ih =>
    intro i acc fin ps hg hl hp
    have hlt : i < ops.toList.length := by
      rcases Nat.lt_or_ge i ops.toList.length with h1 | h1
      · exact h1
      · rw [List.drop_eq_nil_of_le h1] at hl; cases hl
    have hget : ops[i]? = some o := by
      rw [← Array.getElem?_toList, List.getElem?_eq_getElem hlt]
      have := List.drop_eq_getElem_cons hlt
      rw [this] at hl
      injection hl with h1 _
      rw [h1]
    have hl' : ops.toList.drop (i + 1) = r := by
      have := List.drop_eq_getElem_cons hlt
      rw [this] at hl
      injection hl
    unfold go at hg
    cases hv : (isAl V i || isSt V i) with
    | true =>
      rw [hv] at hg
      obtain ⟨e1, e2⟩ := ih (i + 1) acc fin ps hg hl' hp
      refine ⟨e1, fun j hij hj => ?_⟩
      rcases Nat.lt_or_eq_of_le hij with h1 | h1
      · exact e2 j h1 hj
      · subst h1
        simp only [Bool.or_eq_true] at hv
        rcases hv with hv | hv
        · exact isAlloc hv
        · exact isStore hv
    | false =>
      rw [hv] at hg
      simp only [_root_.cond_false] at hg
      split at hg
      · cases hg
      · next d hd =>
        cases hk : keyF acc d with
        | true => rw [hk] at hg; cases hg
        | false =>
          rw [hk] at hg
          simp only [_root_.cond_false] at hg
          split at hg
          · cases hg
          · next F p1 e1 =>
            split at hg
            · cases hg
            · next fs qs e2 =>
              injection hg with hg
              injection hg with h1 h2
              subst h1 h2
              obtain ⟨a1, a2⟩ := AL_app hp
              obtain ⟨x1, x2⟩ := ih (i + 1) _ _ _ e2 hl' a2
              obtain ⟨t1, t2⟩ := Ext.tail hk x1
              refine ⟨t1, fun j hij hj => ?_⟩
              rcases Nat.lt_or_eq_of_le hij with h1 | h1
              · exact x2 j h1 hj
              · subst h1
                exact evG_ok hget hd t1 e1 a1 t2
end
end
end Go.Proofs.YtalcafbeepimgaaGreatDoor.X

/- Whole functions by reckoning: a region's end, code, functions. No program is named here. -/
namespace Go.Proofs.YtalcafbeepimgaaGreatDoor.X
open Go.RowKit Go.Proofs.YtalcafbeepimgaaGreatDoor.Z
open Go.Proofs.YtalcafbeepimgaaGreatDoor.Rg (depI Facts dsts info)

/-- A state: what is known of slots and of variables. -/
structure Sx (κ : Type) where
  D : DL κ
  G : List (Vx κ)
def alOf (ops : Array Oper) : List (Nat × Nat × TypeId) := ops.toList.zipIdx.filterMap fun x => match x.1.dst, x.1.op with
  | some p, .alloc t => some (x.2, p, t)
  | _, _ => none
def stOf (ops : Array Oper) : List (Nat × Nat × Nat × TypeId) := ops.toList.zipIdx.filterMap fun x => match x.1.op with
  | .store t (.tmp p) (.tmp y) => some (x.2, p, y, t)
  | _ => none
def isSF {κ : Type} : Fk κ → Bool
  | .s _ => true
  | _ => false
def unS {κ : Type} : Fk κ → Ks κ
  | .s k => k
  | _ => .X
def nV {κ : Type} (V : VS) (fs : FX κ) (x : Vx κ) : Vx κ := match srcOf V x.slot with
  | some y => ⟨x.slot, x.ty, unS (lF fs y.1)⟩
  | none => x
def nG {κ : Type} (G : List (Vx κ)) (V : VS) (fs : FX κ) : List (Vx κ) := G.map (nV V fs) ++ V.al.map fun z => nV V fs ⟨z.2.1, z.2.2, .X⟩
def keepOf {κ : Type} (fs : FX κ) : List Nat := (fs.map (·.1)).filter fun d => isSF (lF fs d)
def nD {κ : Type} (D : DL κ) (ds : List Nat) (fs : FX κ) : DL κ := D.filter (fun x => !ds.contains x.1) ++ (keepOf fs).map fun d => (d, unS (lF fs d))
section
variable {P : Program} (E : Env P)
def vsOf (ops : Array Oper) : VS := ⟨alOf ops, stOf ops⟩
def runReg (n : Nat) (ops : Array Oper) (h : Hint E.κ) (S : Sx E.κ) : Option (Sx E.κ × List Prop) := match go E ops (vsOf ops) S.D S.G h ops.toList 0 [] with
  | some (fs, ps) => cond (regB P n ops (S.G.map fun x => (x.slot, x.ty)) (vsOf ops) (dFs E.dk (fun _ => 0) fs) (keepOf fs) && (stOf ops).all (fun x => isSF (lF fs x.2.2.1))) (some (⟨nD S.D (dsts ops) fs, nG S.G (vsOf ops) fs⟩, ps)) none
  | none => none
variable {E}
theorem dF_ty {kf kf' : Nat → Nat} (F : Fk E.κ) : (dF E.dk kf F).ty = (dF E.dk kf' F).ty := by cases F <;> rfl
theorem all_key {kf : Nat → Nat} {fs : FX E.κ} (p : Nat → Bool) : (dFs E.dk kf fs).all (fun x => p x.1) = fs.all (fun x => p x.1) := by
  unfold dFs
  rw [List.all_map]
  rfl
theorem regB_kf {n : Nat} {ops : Array Oper} {G : List (Nat × TypeId)} {V : VS} {fs : FX E.κ} {keep : List Nat} {kf kf' : Nat → Nat} : regB P n ops G V (dFs E.dk kf fs) keep = regB P n ops G V (dFs E.dk kf' fs) keep := by
  unfold regB
  have e1 : ∀ z : Nat × Nat × TypeId, (dFs E.dk kf fs).all (fun x => !Nat.beq x.1 z.2.1) = (dFs E.dk kf' fs).all (fun x => !Nat.beq x.1 z.2.1) := fun z => by
    rw [all_key (fun y => !Nat.beq y z.2.1), all_key (fun y => !Nat.beq y z.2.1)]
  have e2 : ∀ x : Nat × Nat × Nat × TypeId, (lk (dFs E.dk kf fs) x.2.2.1).ty x.2.2.2 = (lk (dFs E.dk kf' fs) x.2.2.1).ty x.2.2.2 := fun x => by
    rw [lk_dFs, lk_dFs, dF_ty]
  simp only [e1, e2]
theorem slk_dG {G : List (Vx E.κ)} : slk (dG E.dk G) = G.map fun x => (x.slot, x.ty) := by
  unfold slk dG
  rw [List.map_map]
  rfl
theorem dF_unS {kf : Nat → Nat} {F : Fk E.κ} (h : isSF F = true) : dF E.dk kf F = dS E.dk (unS F) := by
  cases F with
  | s k => rfl
  | _ => cases h
theorem newG_dG {kf : Nat → Nat} {G : List (Vx E.κ)} {V : VS} {fs : FX E.κ} (h : V.st.all (fun x => isSF (lF fs x.2.2.1)) = true) : newG (dG E.dk G) V (dFs E.dk kf fs) = dG E.dk (nG G V fs) := by
  have hv : ∀ x : Vx E.κ, newV V (dFs E.dk kf fs) ⟨x.slot, x.ty, dS E.dk x.k⟩ = ⟨(nV V fs x).slot, (nV V fs x).ty, dS E.dk (nV V fs x).k⟩ := fun x => by
    unfold newV nV
    cases hs : srcOf V x.slot with
    | none => rfl
    | some y =>
      obtain ⟨j, hj⟩ := srcOf_some hs
      have := List.all_eq_true.1 h _ hj
      simp only
      rw [lk_dFs, dF_unS this]
  unfold newG nG dG
  rw [List.map_append, List.map_map, List.map_map, List.map_map]
  congr 1
  · exact List.map_congr_left fun x _ => hv x
  · exact List.map_congr_left fun z _ => hv ⟨z.2.1, z.2.2, .X⟩
theorem newD_dD {kf : Nat → Nat} {D : DL E.κ} {ds : List Nat} {fs : FX E.κ} : newD (dD E.dk D) ds (dFs E.dk kf fs) (keepOf fs) = dD E.dk (nD D ds fs) := by
  unfold newD nD dD
  rw [List.map_append, List.map_map, List.filter_map]
  congr 1
  refine List.map_congr_left fun d hd => ?_
  have := (List.mem_filter.1 hd).2
  show (d, lk (dFs E.dk kf fs) d) = (d, dS E.dk (unS (lF fs d)))
  rw [lk_dFs, dF_unS this]
/-- A state of a run. -/
abbrev SX (n : Nat) (S : Sx E.κ) (wE : World) (kf : Nat → Nat) (a : Act) (w : World) : Prop := S2 P n (dG E.dk S.G) (dD E.dk S.D) wE kf a w
theorem runReg_ok {n id : Nat} {ops : Array Oper} {b : Bool} {h : Hint E.κ} {S S' : Sx E.κ} {ps : List Prop} {Q : Exit → Act → World → Prop} {wE : World} {kf : Nat → Nat} {a : Act} {w : World} (hm : P.follows .mixedOrders = true) (hr : runReg E n ops h S = some (S', ps)) (hp : AL ps) (hS : SX n S wE kf a w)
    (fin : ∀ kf a w, SX n S' wE kf a w → Q .normal a w) : (Code.region id ops b).wp P Q a w := by
  unfold runReg at hr
  split at hr
  · next fs qs e =>
    cases hc : (regB P n ops (S.G.map fun x => (x.slot, x.ty)) (vsOf ops) (dFs E.dk (fun _ => 0) fs) (keepOf fs) && (stOf ops).all (fun x => isSF (lF fs x.2.2.1))) with
    | false => rw [hc] at hr; cases hr
    | true =>
      rw [hc] at hr
      injection hr with hr
      injection hr with h1 h2
      subst h1 h2
      simp only [Bool.and_eq_true] at hc
      have hst := (go_ok (Q := Q) (kf0 := kf) _ 0 [] fs qs e rfl hp).2
      refine reg hm hS (V := vsOf ops) (fs := dFs E.dk kf fs) (keep := keepOf fs) (by rw [slk_dG, regB_kf (kf' := fun _ => 0)]; exact hc.1) (fun i hi => hst i (Nat.zero_le _) hi) fun kf' a' w' h' => ?_
      rw [newG_dG hc.2, newD_dD] at h'
      exact fin kf' a' w' h'
  · cases hr

/-! ### Code -/
/-- Ahead of what follows, what is owed. -/
def AN : List Prop → Prop → Prop
  | [], q => q
  | p :: r, q => p ∧ AN r q
theorem AN_ok : ∀ {ps : List Prop} {q : Prop}, AN ps q → AL ps ∧ q := by
  intro ps
  induction ps with
  | nil => intro q h; exact ⟨trivial, h⟩
  | cons p r ih => intro q h; exact ⟨⟨h.1, (ih h.2).1⟩, (ih h.2).2⟩
def cnd (c : Bool) (p q : Prop) : Prop := match c with
  | true => p
  | false => q
theorem cnd_i {c : Bool} {p q : Prop} (h1 : c = true → p) (h2 : c = false → q) : cnd c p q := by
  cases c with
  | true => exact h1 rfl
  | false => exact h2 rfl
/-- So much of a state. -/
def proj {κ : Type} (S S' : Sx κ) : Sx κ := ⟨S'.D.map fun x => (x.1, lS S.D x.1), S'.G.map fun x => ⟨x.slot, x.ty, (lG S.G x.slot).k⟩⟩
def presB {κ : Type} (S S' : Sx κ) : Bool := S'.D.all (fun x => S.D.any fun y => Nat.beq y.1 x.1) && S'.G.all fun x => hasX S.G x.slot && Nat.beq (lG S.G x.slot).ty x.ty
def Sb {κ : Type} (S S' : Sx κ) : Prop := proj S S' = S' ∧ presB S S' = true
theorem Sb.state {n : Nat} {S S' : Sx E.κ} {wE : World} {kf : Nat → Nat} {a : Act} {w : World} (h : Sb S S') (hS : SX n S wE kf a w) : SX n S' wE kf a w := by
  obtain ⟨h1, h2⟩ := h
  unfold presB at h2
  simp only [Bool.and_eq_true] at h2
  rw [← h1]
  refine hS.mono (all_of fun x hx => ?_) (all_of fun x hx => ?_)
  · obtain ⟨y, hy, rfl⟩ := List.mem_map.1 hx
    obtain ⟨z, hz, rfl⟩ := List.mem_map.1 hy
    obtain ⟨u, hu, rfl⟩ := List.mem_map.1 hz
    have h := List.all_eq_true.1 h2.2 u hu
    simp only [Bool.and_eq_true] at h
    exact ⟨_, mem_dG h.1, rfl, Nat.eq_of_beq_eq_true h.2, fun _ _ h => h⟩
  · obtain ⟨y, hy, rfl⟩ := List.mem_map.1 hx
    obtain ⟨z, hz, rfl⟩ := List.mem_map.1 hy
    obtain ⟨u, hu, rfl⟩ := List.mem_map.1 hz
    have h := List.all_eq_true.1 h2.1 u hu
    refine ⟨_, List.mem_map.2 ⟨_, lkD_mem (has_dD (dk := E.dk) h), rfl⟩, rfl, fun _ _ h => ?_⟩
    rw [lk_dD] at h
    exact h
/-- To the next round. -/
def JL {κ γ : Type} (C : γ → Prop) (μ : γ → Nat) (I : γ → Sx κ) (g : γ) (S' : Sx κ) : Prop := ∃ g', C g' ∧ μ g' < μ g ∧ Sb S' (I g')
/-- A region whose hints are told when it is met. -/
def late {κ : Type} : Hint κ → Bool
  | [(_, v, _)] => Nat.beq v 999999
  | _ => false
variable (E) in
def lateR (n : Nat) (ops : Array Oper) (h : Hint E.κ) (S : Sx E.κ) (N : Sx E.κ → Prop) : Prop := match runReg E n ops h S with
  | some (S', ps) => AN ps (N S')
  | none => False
variable (E) in
def vc (n : Nat) : Code → (Nat → Hint E.κ) → Sx E.κ → (Sx E.κ → Prop) → (Sx E.κ → Prop) → (Nat → Sx E.κ → Prop) → Prop
  | .skip, _, S, N, _, _ => N S
  | .region id ops _, hs, S, N, _, _ => cond (late (hs id)) (∃ h, lateR E n ops h S N) (lateR E n ops (hs id) S N)
  | .seq a b, hs, S, N, R, X => vc n a hs S (fun S' => vc n b hs S' N R X) R X
  | .cond (.tmp c) a b, hs, S, N, R, X => cond (S.D.any fun y => Nat.beq y.1 c) (match lS S.D c with
    | .E (.bool c) => cnd c (vc n a hs S N R X) (vc n b hs S N R X)
    | _ => False) False
  | .block i c, hs, S, N, R, X => vc n c hs S N R fun j S' => cond (Nat.beq j i) (N S') (X j S')
  | .loop c, _, S, _, R, X => ∃ (γ : Type) (C : γ → Prop) (μ : γ → Nat) (I : γ → Sx E.κ) (g : γ), C g ∧ Sb S (I g) ∧ ∀ g, C g → ∃ hs, vc n c hs (I g) (JL C μ I g) R X
  | .exit i, _, S, _, _, X => X i S
  | .ret, _, S, _, R, _ => R S
  | _, _, _, _, _, _ => False
theorem vc_ok {n : Nat} {wE : World} (hm : P.follows .mixedOrders = true) : ∀ (c : Code) (hs : Nat → Hint E.κ) (S : Sx E.κ) (N R : Sx E.κ → Prop) (X : Nat → Sx E.κ → Prop) (Q : Exit → Act → World → Prop) (kf : Nat → Nat) (a : Act) (w : World), vc E n c hs S N R X →
    (∀ S kf a w, N S → SX n S wE kf a w → Q .normal a w) → (∀ S kf a w, R S → SX n S wE kf a w → Q .ret a w) → (∀ i S kf a w, X i S → SX n S wE kf a w → Q (.exit i) a w) → SX n S wE kf a w → c.wp P Q a w := by
  intro c
  induction c with
  | skip => intro hs S N R X Q kf a w h hN _ _ hS; exact wp_skip (hN S kf a w h hS)
  | region id ops b =>
    intro hs S N R X Q kf a w h hN _ _ hS
    have key : ∀ hh : Hint E.κ, lateR E n ops hh S N → (Code.region id ops b).wp P Q a w := fun hh h => by
      unfold lateR at h
      split at h
      · next S' ps e =>
        obtain ⟨h1, h2⟩ := AN_ok h
        exact runReg_ok hm e h1 hS fun kf' a' w' h' => hN S' kf' a' w' h2 h'
      · cases h
    simp only [vc] at h
    cases hl : late (hs id) with
    | true =>
      rw [hl] at h
      obtain ⟨hh, h⟩ := h
      exact key hh h
    | false =>
      rw [hl] at h
      exact key _ h
  | seq x y ihx ihy =>
    intro hs S N R X Q kf a w h hN hR hX hS
    refine wp_seq (ihx hs S _ R X _ kf a w h (fun S' kf' a' w' h' hS' => ?_) (fun S' kf' a' w' h' hS' => hR S' kf' a' w' h' hS') (fun i S' kf' a' w' h' hS' => hX i S' kf' a' w' h' hS') hS)
    exact ihy hs S' N R X Q kf' a' w' h' hN hR hX hS'
  | cond o x y ihx ihy =>
    intro hs S N R X Q kf a w h hN hR hX hS
    cases o with
    | tmp c =>
      simp only [vc] at h
      cases hb : (S.D.any fun y => Nat.beq y.1 c) with
      | false => rw [hb] at h; cases h
      | true =>
        rw [hb] at h
        simp only [_root_.cond_true] at h
        split at h
        · next v e =>
          have hmem : (c, (dS E.dk (lS S.D c)).p) ∈ dv (dD E.dk S.D) := by
            rw [← lk_dD]
            exact List.mem_map.2 ⟨_, lkD_mem (has_dD hb), rfl⟩
          rw [e] at hmem
          cases v with
          | true => exact Z.cond_true hS hmem (fun _ _ h => h) (ihx hs S N R X Q kf a w h hN hR hX hS)
          | false => exact Z.cond_false hS hmem (fun _ _ h => h) (ihy hs S N R X Q kf a w h hN hR hX hS)
        · cases h
    | _ => simp only [vc] at h
  | block i x ih =>
    intro hs S N R X Q kf a w h hN hR hX hS
    refine wp_block (ih hs S N R _ _ kf a w h (fun S' kf' a' w' h' hS' => hN S' kf' a' w' h' hS') (fun S' kf' a' w' h' hS' => hR S' kf' a' w' h' hS') (fun j S' kf' a' w' h' hS' => ?_) hS)
    show if j = i then Q .normal a' w' else Q (.exit j) a' w'
    cases hb : Nat.beq j i with
    | true =>
      rw [hb] at h'
      rw [if_pos (Nat.eq_of_beq_eq_true hb)]
      exact hN S' kf' a' w' h' hS'
    | false =>
      rw [hb] at h'
      rw [if_neg (fun e => by rw [e, Nat.beq_refl] at hb; cases hb)]
      exact hX j S' kf' a' w' h' hS'
  | loop x ih =>
    intro hs S N R X Q kf a w h hN hR hX hS
    obtain ⟨γ, C, μ, I, g, h0, h1, hr⟩ := h
    refine wp_loop_ghost (fun m a w => ∃ g kf, C g ∧ μ g = m ∧ SX n (I g) wE kf a w) (μ g) ⟨g, kf, h0, rfl, h1.state hS⟩ ?_
    rintro m a w ⟨g, kf, hC, rfl, hS⟩
    obtain ⟨hs', hr⟩ := hr g hC
    refine ih hs' (I g) _ R X _ kf a w hr (fun S' kf' a' w' h' hS' => ?_) (fun S' kf' a' w' h' hS' => hR S' kf' a' w' h' hS') (fun i S' kf' a' w' h' hS' => hX i S' kf' a' w' h' hS') hS
    obtain ⟨g', hC', hlt, hs'⟩ := h'
    exact ⟨μ g', hlt, g', kf', hC', rfl, hs'.state hS'⟩
  | exit i => intro hs S N R X Q kf a w h _ _ hX hS; exact wp_exit (hX i S kf a w h hS)
  | ret => intro hs S N R X Q kf a w h _ hR _ hS; exact wp_ret (hR S kf a w h hS)
  | _ => intros; rename_i h _ _ _ _; simp only [vc] at h
end
end Go.Proofs.YtalcafbeepimgaaGreatDoor.X

/- Whole functions by reckoning: a function's entry and its answers. No program is named here. -/
namespace Go.Proofs.YtalcafbeepimgaaGreatDoor.X
open Go.RowKit Go.Proofs.YtalcafbeepimgaaGreatDoor.Z
open Go.Proofs.YtalcafbeepimgaaGreatDoor.Rg (info)

section
variable {P : Program} {E : Env P}
/-! ### Answers -/
def resK {κ : Type} (S : Sx κ) : ResultVar → Option (Ks κ)
  | .tmp u => cond (S.D.any fun y => Nat.beq y.1 u) (some (lS S.D u)) none
  | .cell p t => cond (hasX S.G p && Nat.beq (lG S.G p).ty t) (some (lG S.G p).k) none
def resF {κ : Type} (fn : Func) (S : Sx κ) : Option (Fk κ) := match fn.results.toList with
  | [x] => (resK S x).map .s
  | [x, y] => match resK S x, resK S y with
    | some a, some b => some (.t [a, b])
    | _, _ => none
  | [x, y, z] => match resK S x, resK S y, resK S z with
    | some a, some b, some c => some (.t [a, b, c])
    | _, _, _ => none
  | _ => none
def resRun (tmps : Array Value) (r : ResultVar) : Sem Value := match r with
  | .tmp t => pure (tmps.getD t undef)
  | .cell b t => do loadVar t (← asAddr (tmps.getD b undef))
theorem results_eq (fn : Func) (tmps : Array Value) : results fn tmps = (do
    let vs ← fn.results.mapM (resRun tmps)
    pure (if h : vs.size = 1 then vs[0] else .tuple vs)) := rfl
theorem resK_ok {n : Nat} {S : Sx E.κ} {wE : World} {kf : Nat → Nat} {a : Act} {w : World} (hS : SX n S wE kf a w) {r : ResultVar} {k : Ks E.κ} (h : resK S r = some k) :
    ∃ v, (resRun a.tmps r).run P w = .ok v w ∧ (dS E.dk k).p w v := by
  cases r with
  | tmp u =>
    simp only [resK] at h
    cases hb : (S.D.any fun y => Nat.beq y.1 u) with
    | false => rw [hb] at h; cases h
    | true =>
      rw [hb] at h
      injection h with h
      subst h
      refine ⟨a.tmps.getD u undef, by simp [resRun], ?_⟩
      rw [← lk_dD]
      exact hS.facts _ (List.mem_map.2 ⟨_, lkD_mem (has_dD hb), rfl⟩)
  | cell p t =>
    simp only [resK] at h
    cases hb : (hasX S.G p && Nat.beq (lG S.G p).ty t) with
    | false => rw [hb] at h; cases h
    | true =>
      rw [hb] at h
      injection h with h
      subst h
      simp only [Bool.and_eq_true] at hb
      have e : (lG S.G p).ty = t := Nat.eq_of_beq_eq_true hb.2
      subst e
      obtain ⟨ad, v, h1, h2, hq⟩ := res_cell hS (mem_dG hb.1)
      exact ⟨v, by simp only [resRun, Sem.run_bind, h1, Result.andThen_ok, h2], hq⟩
theorem resF_ok {fn : Func} {n : Nat} {S : Sx E.κ} {wE : World} {kf : Nat → Nat} {a : Act} {w : World} (hS : SX n S wE kf a w) {F : Fk E.κ} (h : resF fn S = some F) (kf' : Nat → Nat) : ∃ v, (results fn a.tmps).run P w = .ok v w ∧ (dF E.dk kf' F).p w v := by
  unfold resF at h
  obtain ⟨l, hl⟩ : ∃ l, fn.results = Array.mk l := ⟨fn.results.toList, rfl⟩
  rw [hl] at h
  simp only at h
  rw [results_eq, hl]
  split at h
  · next x =>
    obtain ⟨k, e, h⟩ := Option.map_eq_some_iff.1 h
    subst h
    obtain ⟨v, h1, h2⟩ := resK_ok hS e
    exact ⟨v, by simp [h1], h2⟩
  · next x y =>
    split at h
    · next p q e1 e2 =>
      injection h with h
      subst h
      obtain ⟨v1, a1, b1⟩ := resK_ok hS e1
      obtain ⟨v2, a2, b2⟩ := resK_ok hS e2
      exact ⟨.tuple #[v1, v2], by simp [a1, a2], [v1, v2], rfl, b1, b2, trivial⟩
    · cases h
  · next x y z =>
    split at h
    · next p q r e1 e2 e3 =>
      injection h with h
      subst h
      obtain ⟨v1, a1, b1⟩ := resK_ok hS e1
      obtain ⟨v2, a2, b2⟩ := resK_ok hS e2
      obtain ⟨v3, a3, b3⟩ := resK_ok hS e3
      exact ⟨.tuple #[v1, v2, v3], by simp [a1, a2, a3], [v1, v2, v3], rfl, b1, b2, b3, trivial⟩
    · cases h
  · cases h
variable (E) in
def rets (fn : Func) (Res : Fk E.κ) (S : Sx E.κ) : Prop := match resF fn S with
  | some F => te E F Res
  | none => False

/-! ### The entry -/
def acOf (o : Oper) : Option Ac := match o.dst, o.op, o.guard with
  | some p, .box t (.tmp y), none => some (.box p t y)
  | some p, .alloc t, none => some (.al p t)
  | some p, .assign (.const v), none => some (.cn p v)
  | _, _, _ => none
theorem acOf_ok {o : Oper} {x : Ac} (h : acOf o = some x) : (o.dst, o.op, o.guard) = x.op := by
  unfold acOf at h
  split at h
  · next e1 e2 e3 => injection h with h; subst h; rw [e1, e2, e3]; rfl
  · next e1 e2 e3 => injection h with h; subst h; rw [e1, e2, e3]; rfl
  · next e1 e2 e3 => injection h with h; subst h; rw [e1, e2, e3]; rfl
  · cases h
def acsOf : List Oper → Option (List Ac)
  | [] => some []
  | o :: r => match acOf o, acsOf r with
    | some x, some l => some (x :: l)
    | _, _ => none
theorem acsOf_ok {ops : Array Oper} : ∀ (r : List Oper) (l : List Ac) (m : Nat), acsOf r = some l → ops.toList.drop m = r → l.length = r.length ∧ acI ops l m := by
  intro r
  induction r with
  | nil => intro l m h _; injection h with h; subst h; exact ⟨rfl, trivial⟩
  | cons o r ih =>
    intro l m h hl
    have hlt : m < ops.toList.length := by
      rcases Nat.lt_or_ge m ops.toList.length with h1 | h1
      · exact h1
      · rw [List.drop_eq_nil_of_le h1] at hl; cases hl
    have hd := List.drop_eq_getElem_cons hlt
    rw [hd] at hl
    injection hl with h1 h2
    simp only [acsOf] at h
    split at h
    · next x l' e1 e2 =>
      injection h with h
      subst h
      obtain ⟨i1, i2⟩ := ih l' (m + 1) e2 h2
      refine ⟨by simp [i1], ?_, i2⟩
      have hget : ops[m]? = some o := by rw [← Array.getElem?_toList, List.getElem?_eq_getElem hlt, h1]
      rw [info_of hget]
      exact congrArg some (acOf_ok e1)
    · cases h
def acS {κ : Type} : List Ac → Sx κ → Sx κ
  | [], S => S
  | .box p t y :: r, S => acS r ⟨S.D, ⟨p, t, lS S.D y⟩ :: S.G⟩
  | .al p t :: r, S => acS r ⟨S.D, ⟨p, t, .X⟩ :: S.G⟩
  | .cn p v :: r, S => acS r ⟨(p, .E v) :: S.D, S.G⟩
theorem acS_ok : ∀ (l : List Ac) (S : Sx E.κ), acG l (dG E.dk S.G) (dD E.dk S.D) = dG E.dk (acS l S).G ∧ acD l (dD E.dk S.D) = dD E.dk (acS l S).D := by
  intro l
  induction l with
  | nil => intro S; exact ⟨rfl, rfl⟩
  | cons x r ih =>
    intro S
    cases x with
    | box p t y =>
      have := ih ⟨S.D, ⟨p, t, lS S.D y⟩ :: S.G⟩
      refine ⟨?_, this.2⟩
      show acG r (⟨p, t, lk (dD E.dk S.D) y⟩ :: dG E.dk S.G) (dD E.dk S.D) = _
      rw [lk_dD]
      exact this.1
    | al p t => exact ih ⟨S.D, ⟨p, t, .X⟩ :: S.G⟩
    | cn p v => exact ih ⟨(p, .E v) :: S.D, S.G⟩
def ops0 (fn : Func) : Array Oper := match fn.body with
  | some (.seq (.region _ ops false) _) => ops
  | _ => #[]
def rest (fn : Func) : Code := match fn.body with
  | some (.seq (.region _ _ false) c) => c
  | _ => .skip
def entB (P : Program) (E : Env P) (fn : Func) (na : Nat) (D0 : DL E.κ) : Bool := match fn.body with
  | some (.seq (.region _ ops false) _) => match acsOf ops.toList with
    | some l => acB P fn.ntmps ops l 0 [] (dD E.dk D0) && decide (na ≤ fn.ntmps) && D0.all fun x => decide (x.1 < na) || decide (fn.ntmps ≤ x.1)
    | none => false
  | _ => false
/-- The state behind the entry. -/
def ent {κ : Type} (fn : Func) (D0 : DL κ) : Sx κ := acS ((acsOf (ops0 fn).toList).getD []) ⟨D0, []⟩
/-- What is owed of the code at a place (0: the first of a pair, a branch's yes, a block's inside; 1: the second, the no; 2: a loop's round, which is handed J), by the hints of each loop on the way. -/
def dsc (E : Env P) (n : Nat) : List Nat → List (Nat → Hint E.κ) → Code → List (Sx E.κ → Prop) → (Sx E.κ → Prop) → (Sx E.κ → Prop) → (Nat → Sx E.κ → Prop) → Sx E.κ → Prop
  | [], h :: _, c, _, N, R, X, S => vc E n c h S N R X
  | 0 :: p, h :: H, .seq a b, J, N, R, X, S => dsc E n p (h :: H) a J (fun S' => vc E n b h S' N R X) R X S
  | 1 :: p, H, .seq _ b, J, N, R, X, S => dsc E n p H b J N R X S
  | 0 :: p, H, .cond _ a _, J, N, R, X, S => dsc E n p H a J N R X S
  | 1 :: p, H, .cond _ _ b, J, N, R, X, S => dsc E n p H b J N R X S
  | 0 :: p, H, .block i c, J, N, R, X, S => dsc E n p H c J N R (fun j S' => cond (Nat.beq j i) (N S') (X j S')) S
  | 2 :: p, _ :: H, .loop c, j :: J, _, R, X, S => dsc E n p H c J j R X S
  | _, _, _, _, _, _, _, _ => False
/-- .. of a region at a place, by hints told there. -/
def dscL (E : Env P) (n : Nat) : List Nat → List (Nat → Hint E.κ) → Code → List (Sx E.κ → Prop) → (Sx E.κ → Prop) → (Sx E.κ → Prop) → (Nat → Sx E.κ → Prop) → Sx E.κ → Hint E.κ → Prop
  | [], _, .region _ ops _, _, N, _, _, S, h' => lateR E n ops h' S N
  | 0 :: p, h :: H, .seq a b, J, N, R, X, S, h' => dscL E n p (h :: H) a J (fun S' => vc E n b h S' N R X) R X S h'
  | 1 :: p, H, .seq _ b, J, N, R, X, S, h' => dscL E n p H b J N R X S h'
  | 0 :: p, H, .cond _ a _, J, N, R, X, S, h' => dscL E n p H a J N R X S h'
  | 1 :: p, H, .cond _ _ b, J, N, R, X, S, h' => dscL E n p H b J N R X S h'
  | 0 :: p, H, .block i c, J, N, R, X, S, h' => dscL E n p H c J N R (fun j S' => cond (Nat.beq j i) (N S') (X j S')) S h'
  | 2 :: p, _ :: H, .loop c, j :: J, _, R, X, S, h' => dscL E n p H c J j R X S h'
  | _, _, _, _, _, _, _, _, _ => False
/-- Hints told there. -/
theorem ltR {V : Prop} {κ : Type} (B : Hint κ → Prop) (h : Hint κ) (p : Prop) (hp : p) (e1 : V = ∃ h, B h := by kernel_rfl) (e2 : B h = p := by kernel_rfl) : V := e1.mpr ⟨h, e2.mpr hp⟩
/-- A loop, by what is handed from round to round. -/
theorem lpI {V : Prop} {κ : Type} (B : (Nat → Hint κ) → Sx κ → (Sx κ → Prop) → Prop) {γ : Type} (C : γ → Prop) (μ : γ → Nat) (I : γ → Sx κ) (g0 : γ) (S : Sx κ) (h0 : C g0) (hb : ∀ g, C g → ∀ J : Sx κ → Prop, (∀ g' S', C g' → μ g' < μ g → Sb S' (I g') → J S') → ∃ h, B h (I g) J)
    (hs1 : proj S (I g0) = I g0 := by kernel_rfl) (hs2 : presB S (I g0) = true := by kernel_rfl)
    (e : V = (∃ (γ : Type) (C : γ → Prop) (μ : γ → Nat) (I : γ → Sx κ) (g : γ), C g ∧ Sb S (I g) ∧ ∀ g, C g → ∃ hs, B hs (I g) (JL C μ I g)) := by kernel_rfl) : V :=
  e.mpr ⟨γ, C, μ, I, g0, h0, ⟨hs1, hs2⟩, fun g hC => hb g hC _ fun g' _ h1 h2 h3 => ⟨g', h1, h2, h3⟩⟩
/-- What is owed, spelt out. -/
theorem vcP {V : Prop} (p : Prop) (h : p) (e : V = p := by kernel_rfl) : V := e.mpr h
/-- The state behind a region. -/
def rs (E : Env P) (fn : Func) (hs : Nat → Hint E.κ) (r : Nat) (S : Sx E.κ) : Sx E.κ := match runReg E fn.ntmps (Go.Proofs.YtalcafbeepimgaaGreatDoor.Rg.regionOps fn r) (hs r) S with
  | some (S', _) => S'
  | none => S
theorem cnd_t {c : Bool} {p q : Prop} (h : c = true) (hp : p) : cnd c p q := by subst h; exact hp
theorem cnd_f {c : Bool} {p q : Prop} (h : c = false) (hq : q) : cnd c p q := by subst h; exact hq
/-- A function: by what is known of its arguments, and what is owed on the way. -/
theorem fnX {f : FuncId} {fn : Func} {args : Array Value} {w : World} (hf : P.funcs[f]? = some fn) (hm : P.follows .mixedOrders = true) (hs : Nat → Hint E.κ) (D0 : DL E.κ) (Res : Fk E.κ) (hD : AllL (fun x : Nat × Ks E.κ => (dS E.dk x.2).p w (args.getD x.1 undef)) D0)
    (hv : vc E fn.ntmps (rest fn) hs (ent fn D0) (fun _ => False) (rets E fn Res) (fun _ _ => False)) (hB : entB P E fn args.size D0 = true) : Calls P f args w (Ret w fun v w' => (dF E.dk (fun _ => 0) Res).p w' v) := by
  unfold entB at hB
  split at hB
  · next id ops c hb =>
    split at hB
    · next l hl =>
      simp only [Bool.and_eq_true, decide_eq_true_eq] at hB
      obtain ⟨⟨h1, h2⟩, h3⟩ := hB
      obtain ⟨k1, k2⟩ := acsOf_ok ops.toList l 0 hl rfl
      have e0 : ops0 fn = ops := by unfold ops0; rw [hb]
      have e1 : rest fn = c := by unfold rest; rw [hb]
      have e2 : ent fn D0 = acS l ⟨D0, []⟩ := by unfold ent; rw [e0, hl]; rfl
      rw [e1, e2] at hv
      refine enter (s := soft) hf hb rfl h2 (dv (dD E.dk D0)) (all_of fun x hx => ?_) fun kf a hS => ?_
      · obtain ⟨y, hy, rfl⟩ := List.mem_map.1 hx
        obtain ⟨z, hz, rfl⟩ := List.mem_map.1 hy
        have := List.all_eq_true.1 h3 z hz
        simp only [Bool.or_eq_true, decide_eq_true_eq] at this
        exact ⟨this, hD.mem z hz⟩
      · have hsz : ops.size = l.length := by rw [k1]; simp
        refine plain_seq hsz (acs l 0 [] (dD E.dk D0) kf a w hS h1 k2 fun kf' a' w' hS' => ?_)
        obtain ⟨g1, g2⟩ := acS_ok (E := E) l ⟨D0, []⟩
        have hS2 : SX fn.ntmps (acS l ⟨D0, []⟩) w kf' a' w' := by
          show S2 P fn.ntmps (dG E.dk (acS l ⟨D0, []⟩).G) (dD E.dk (acS l ⟨D0, []⟩).D) w kf' a' w'
          rw [← g1, ← g2]
          exact hS'
        refine vc_ok hm c hs _ _ _ _ _ kf' a' w' hv (fun _ _ _ _ h _ => by cases h) (fun S kf2 a2 w2 hR hS3 => ?_) (fun _ _ _ _ _ h _ => by cases h) hS2
        unfold rets at hR
        split at hR
        · next F hF =>
          obtain ⟨v, r1, r2⟩ := resF_ok hS3 hF (fun _ => 0)
          exact ⟨hS3.defers, v, r1, v, rfl, te_im E hR _ w2 v r2, hS3.grow⟩
        · cases hR
    · cases hB
  · cases hB
end
end Go.Proofs.YtalcafbeepimgaaGreatDoor.X

/- Whole functions by reckoning: sums and comparisons of ints, bools, texts; calls by contracts. No program is named here. -/
namespace Go.Proofs.YtalcafbeepimgaaGreatDoor.X
open Go.RowKit Go.Proofs.YtalcafbeepimgaaGreatDoor.Z
open Go.Proofs.YtalcafbeepimgaaGreatDoor.Rg (callOf)

section
variable {P : Program} {κ : Type} {dk : κ → Kd P}
def binI {κ : Type} (k : IntKind) (m n : Int) : BinOp → Option (Fk κ × List Prop)
  | .lss => some (.s (.E (.bool (decide (m < n)))), [])
  | .leq => some (.s (.E (.bool (decide (m ≤ n)))), [])
  | .gtr => some (.s (.E (.bool (decide (n < m)))), [])
  | .geq => some (.s (.E (.bool (decide (n ≤ m)))), [])
  | .eql => some (.s (.E (.bool (decide (m = n)))), [])
  | .neq => some (.s (.E (.bool (!decide (m = n)))), [])
  | .add => some (.s (.E (.int k (m + n))), [k.wrap (m + n) = m + n])
  | .sub => some (.s (.E (.int k (m - n))), [k.wrap (m - n) = m - n])
  | .mul => some (.s (.E (.int k (m * n))), [k.wrap (m * n) = m * n])
  | .rem => some (.s (.E (.int k (m.tmod n))), [n ≠ 0])
  | .quo => some (.s (.E (.int k (m.tdiv n))), [n ≠ 0, k.wrap (m.tdiv n) = m.tdiv n])
  | _ => none
def binT {κ : Type} (l r : List UInt8) : BinOp → Option (Fk κ × List Prop)
  | .eql => some (.s (.E (.bool (l == r))), [])
  | .neq => some (.s (.E (.bool (!(l == r)))), [])
  | .add => some (.s (.E (.string (str (l ++ r)))), [l.length + r.length ≤ 9223372036854775807])
  | _ => none
def hBin : Hd κ := fun _ ev op => match op with
  | .binOp b _ x y _ => match ev x, ev y with
    | some (.s (.E (.int k m))), some (.s (.E (.int k' n))) => cond (decide (k = k')) (binI k m n b) none
    | some (.s (.E (.string ⟨⟨l⟩⟩))), some (.s (.E (.string ⟨⟨r⟩⟩))) => binT l r b
    | _, _ => none
  | .unOp .not _ x => match ev x with
    | some (.s (.E (.bool m))) => some (.s (.E (.bool (!m))), [])
    | _ => none
  | .unOp .neg _ x => match ev x with
    | some (.s (.E (.int k m))) => some (.s (.E (.int k (k.wrap (-m)))), [])
    | _ => none
  | _ => none
theorem hBin_ok : HOk dk (hBin : Hd κ) := by
  intro ops Q Fc G D V kf0 i d va ev hev op F ps h hp hF
  unfold hBin at h
  split at h
  · next b t x y t2 =>
    split at h
    · next k m k' n e1 e2 =>
      cases hk : decide (k = k') with
      | false => rw [hk] at h; cases h
      | true =>
        rw [hk] at h
        have hk := of_decide_eq_true hk
        subst hk
        have a1 : Arg soft P ops Fc G D V kf0 i x (isE (.int k m)) := hev _ _ e1
        have a2 : Arg soft P ops Fc G D V kf0 i y (isE (.int k n)) := hev _ _ e2
        simp only [_root_.cond_true] at h
        cases b <;> first | (simp only [binI] at h; cases h; done) | skip
        all_goals
          simp only [binI, Option.some.injEq, Prod.mk.injEq] at h
          obtain ⟨h1, h2⟩ := h
          subst h1 h2
        · exact bin a1 a2 guardI (fun w => by simp [binOp, go_sem, hp.1]) hF
        · exact bin a1 a2 guardI (fun w => by simp [binOp, go_sem, hp.1]) hF
        · exact bin a1 a2 guardI (fun w => by simp [binOp, go_sem, hp.1]) hF
        · exact bin a1 a2 guardI (fun w => by simp [binOp, go_sem, Op.intDiv, hp.1, hp.2.1]) hF
        · exact bin a1 a2 guardI (fun w => by simp [binOp, go_sem, Op.intDiv, hp.1]) hF
        · exact eql a1 a2 hF
        · exact neq a1 a2 hF
        · exact lss a1 a2 hF
        · exact leq a1 a2 hF
        · exact gtr a1 a2 hF
        · exact geq a1 a2 hF
    · next l r e1 e2 =>
      have a1 : Arg soft P ops Fc G D V kf0 i x (isT l) := hev _ _ e1
      have a2 : Arg soft P ops Fc G D V kf0 i y (isT r) := hev _ _ e2
      cases b <;> first | (simp only [binT] at h; cases h; done) | skip
      all_goals
        simp only [binT, Option.some.injEq, Prod.mk.injEq] at h
        obtain ⟨h1, h2⟩ := h
        subst h1 h2
      · exact addS a1 a2 hp.1 hF
      · exact eqlS a1 a2 hF
      · exact neqS a1 a2 hF
    · cases h
  · next t x =>
    split at h
    · next m e1 =>
      simp only [Option.some.injEq, Prod.mk.injEq] at h
      obtain ⟨h1, h2⟩ := h
      subst h1 h2
      refine val (fun o a w ho c => ⟨.bool (!m), ?_, hF _ _ rfl⟩) rfl
      have e2 : a.eval x = .bool m := hev _ _ e1 a w c
      unfold execOp
      simp only [ho, e2]
      simp [go_sem]
    · cases h
  · next t x =>
    split at h
    · next k m e1 =>
      simp only [Option.some.injEq, Prod.mk.injEq] at h
      obtain ⟨h1, h2⟩ := h
      subst h1 h2
      refine val (fun o a w ho c => ⟨.int k (k.wrap (-m)), ?_, hF _ _ rfl⟩) rfl
      have e2 : a.eval x = .int k m := hev _ _ e1 a w c
      unfold execOp
      simp only [ho, e2]
      simp [go_sem]
    · cases h
  · cases h

/-! ### Calls -/
/-- The slot under which a fact of the memory is kept. -/
def wSlot : Nat := 1000000
variable (dk) in
/-- A contract. -/
structure Ct where
  f : FuncId
  va : Nat
  en : Enters P f
  run : List (Ks κ) → Ks κ → Option (Fk κ × List Prop)
  ok : ∀ ks kw F ps, run ks kw = some (F, ps) → AL ps → ∀ kf w vs u, allK w (ks.map (dS dk)) vs → (dS dk kw).p w u → Calls P f vs.toArray w (Ret w fun v w' => (dF dk kf F).p w' v)
def evL {κ : Type} (ev : Operand → Option (Fk κ)) : List Operand → Option (List (Ks κ))
  | [] => some []
  | x :: r => match ev x, evL ev r with
    | some (.s k), some ks => some (k :: ks)
    | _, _ => none
def evW {κ : Type} (ev : Operand → Option (Fk κ)) : Ks κ := match ev (.tmp wSlot) with
  | some (.s k) => k
  | _ => .X
def findC : List (Ct dk) → FuncId → Nat → Option (Ct dk)
  | [], _, _ => none
  | c :: r, f, va => cond (Nat.beq c.f f && Nat.beq c.va va) (some c) (findC r f va)
theorem findC_ok : ∀ {l : List (Ct dk)} {f va : Nat} {c : Ct dk}, findC l f va = some c → c.f = f := by
  intro l
  induction l with
  | nil => intro f va c h; cases h
  | cons x r ih =>
    intro f va c h
    simp only [findC] at h
    cases hb : (Nat.beq x.f f && Nat.beq x.va va) with
    | true =>
      rw [hb] at h
      injection h with h
      subst h
      simp only [Bool.and_eq_true] at hb
      exact Nat.eq_of_beq_eq_true hb.1
    | false => rw [hb] at h; exact ih h
def hCall (cts : List (Ct dk)) : Hd κ := fun va ev op => match op with
  | .call c => match c.callee with
    | .value (.func f) => match findC cts f va, evL ev c.args.toList with
      | some t, some ks => t.run ks (evW ev)
      | _, _ => none
    | _ => none
  | _ => none
theorem evL_ok {ev : Operand → Option (Fk κ)} {a : Act} {w : World} {kf : Nat → Nat} (hev : ∀ x F, ev x = some F → (dF dk kf F).p w (a.eval x)) : ∀ {l : List Operand} {ks : List (Ks κ)}, evL ev l = some ks → allK w (ks.map (dS dk)) (l.map a.eval) := by
  intro l
  induction l with
  | nil => intro ks h; injection h with h; subst h; trivial
  | cons x r ih =>
    intro ks h
    simp only [evL] at h
    split at h
    · next k ks' e1 e2 =>
      injection h with h
      subst h
      exact ⟨hev x _ e1, ih e2⟩
    · cases h
theorem hCall_ok (cts : List (Ct dk)) : HOk dk (hCall cts) := by
  intro ops Q Fc G D V kf0 i d va ev hev op F ps h hp hF
  unfold hCall at h
  split at h
  · next c =>
    split at h
    · next f hc =>
      split at h
      · next t ks e1 e2 =>
        have ef := findC_ok e1
        intro o a w ho hd cx
        have hop : o.op = .call { callee := .value (.func f), args := c.args, argTypes := c.argTypes } := by rw [ho, ← hc]
        have hall := evL_ok (dk := dk) (a := a) (w := w) (kf := kf0) (fun x F' hx => hev x F' hx a w cx) e2
        have hw : ∃ u, (dS dk (evW ev)).p w u := by
          unfold evW
          split
          · next k e => exact ⟨_, hev _ _ e a w cx⟩
          · exact ⟨undef, trivial⟩
        obtain ⟨u, hu⟩ := hw
        have hcall := t.ok ks (evW ev) F ps h hp kf0 w _ u hall hu
        rw [ef] at hcall
        have hen := t.en
        rw [ef] at hen
        have eargs : c.args.map a.eval = (c.args.toList.map a.eval).toArray := by
          rw [← Array.toList_map]
        refine callOf (F := Fc) hop hen hd (R := Ret w fun v w' => (dF dk kf0 F).p w' v) (by rw [eargs]; exact hcall) fun _ _ ⟨v, e, h, g⟩ => ⟨v, e, hF _ _ h, g⟩
      · cases h
    · cases h
  · cases h
end
end Go.Proofs.YtalcafbeepimgaaGreatDoor.X
