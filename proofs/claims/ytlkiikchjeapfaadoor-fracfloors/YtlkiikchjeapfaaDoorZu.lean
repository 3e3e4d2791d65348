/- The calculus of whole functions: what operations owe; a function's entry, its end, its branches. No program is named here. -/
import Derived.Test.YtlkiikchjeapfaaDoorZt
namespace Go.Proofs.YtlkiikchjeapfaaDoor.Z
open Go.RowKit Go.Proofs.YtlkiikchjeapfaaDoor.Rg
variable {P : Program} {s : Value → Bool}

/-- Cells that are no number. -/
def soft : Value → Bool
  | .int _ _ => false
  | _ => true

theorem look_stb : ∀ (fs : List (Nat × Pr)), AllL (fun x : Nat × Pr => Stb s x.2) fs → ∀ d, Stb s (Rg.look fs d) := by
  intro fs
  induction fs with
  | nil => intro _ d w w' v h _; exact h
  | cons x r ih =>
    intro hs d w w' v h g
    unfold Rg.look at h ⊢
    cases hb : Nat.beq x.1 d with
    | true => rw [hb] at h; exact hs.1 w w' v h g
    | false => rw [hb] at h; exact ih hs.2 d w w' v h g
theorem stb_prop (p : Prop) : Stb s (fun _ _ => p) := fun _ _ _ h _ => h

/-- A tuple of values of which each is known. -/
def IsT (ps : List Pr) : Pr := fun w v => ∃ vs : Array Value, v = .tuple vs ∧ vs.size = ps.length ∧ ∀ (j : Nat) (p : Pr), ps[j]? = some p → p w (vs.getD j undef)
theorem stb_T {ps : List Pr} (h : AllL (Stb s) ps) : Stb s (IsT ps) := by
  rintro w w' v ⟨vs, e, hz, hp⟩ g
  exact ⟨vs, e, hz, fun j p hj => h.mem p (List.mem_of_getElem? hj) _ _ _ (hp j p hj) g⟩
theorem IsT.mk2 {w : World} {a b : Value} {p q : Pr} (h1 : p w a) (h2 : q w b) : IsT [p, q] w (.tuple #[a, b]) := by
  refine ⟨#[a, b], rfl, rfl, fun j r hj => ?_⟩
  match j, hj with
  | 0, hj => cases hj; exact h1
  | 1, hj => cases hj; exact h2
  | j + 2, hj => cases hj
theorem IsT.mk3 {w : World} {a b c : Value} {p q r : Pr} (h1 : p w a) (h2 : q w b) (h3 : r w c) : IsT [p, q, r] w (.tuple #[a, b, c]) := by
  refine ⟨#[a, b, c], rfl, rfl, fun j u hj => ?_⟩
  match j, hj with
  | 0, hj => cases hj; exact h1
  | 1, hj => cases hj; exact h2
  | 2, hj => cases hj; exact h3
  | j + 3, hj => cases hj
theorem IsT.get2 {w : World} {v : Value} {p q : Pr} (h : IsT [p, q] w v) : ∃ a b, v = .tuple #[a, b] ∧ p w a ∧ q w b := by
  obtain ⟨⟨l⟩, rfl, hz, hp⟩ := h
  match l, hz with
  | [a, b], _ => exact ⟨a, b, rfl, hp 0 p rfl, hp 1 q rfl⟩
theorem IsT.get3 {w : World} {v : Value} {p q r : Pr} (h : IsT [p, q, r] w v) : ∃ a b c, v = .tuple #[a, b, c] ∧ p w a ∧ q w b ∧ r w c := by
  obtain ⟨⟨l⟩, rfl, hz, hp⟩ := h
  match l, hz with
  | [a, b, c], _ => exact ⟨a, b, c, rfl, hp 0 p rfl, hp 1 q rfl, hp 2 r rfl⟩

section
variable {ops : Array Oper} {Q : Exit → Act → World → Prop} {n : Nat} {F : Facts} {G : List Vr} {D : List (Nat × Pr)} {V : VS} {a0 : Act} {w0 wE : World} {kf0 : Nat → Nat} {i : Nat}

/-- What operation o, of destination and kind as they are told, owes. -/
def Owes (s : Value → Bool) (P : Program) (ops : Array Oper) (Q : Exit → Act → World → Prop) (F : Facts) (G : List Vr) (D : List (Nat × Pr)) (V : VS) (kf0 : Nat → Nat) (i : Nat) (dst : Option Nat) (op : Op) : Prop :=
  ∀ (o : Oper) (a : Act) (w : World), o.op = op → o.dst = dst → Ctx s P ops F G D V kf0 i a w → o.wp P a w (fun a' w' => ∃ v, a' = a.put o.dst v ∧ (∀ d, o.dst = some d → F d w' v) ∧ Grow w w') Q
/-- A step that is asked for only where the operation is no store and makes no variable. -/
def StepAt (s : Value → Bool) (P : Program) (ops : Array Oper) (Q : Exit → Act → World → Prop) (F : Facts) (G : List Vr) (D : List (Nat × Pr)) (V : VS) (kf0 : Nat → Nat) (i : Nat) : Prop := isAl V i = false → isSt V i = false → Step s P ops Q F G D V kf0 i
theorem steps {m : Nat} (hm : ops.size = m) (h : AllFrom (StepAt s P ops Q F G D V kf0) 0 m) : ∀ i, i < ops.size → isAl V i = false → isSt V i = false → Step s P ops Q F G D V kf0 i :=
  fun i hi => all_from m 0 h i (Nat.zero_le _) (by omega)
theorem isAlloc (h : isAl V i = true) : StepAt s P ops Q F G D V kf0 i := fun h' => by rw [h] at h'; cases h'
theorem isStore (h : isSt V i = true) : StepAt s P ops Q F G D V kf0 i := fun _ h' => by rw [h] at h'; cases h'

theorem ofRg {dst : Option Nat} {op : Op} (h : ∀ a0 w0, Rg.Owes P ops Q F a0 w0 i dst op) : Owes s P ops Q F G D V kf0 i dst op :=
  fun o a w ho hd c => h a w o a w ho hd (Grow.refl w) ⟨rfl, rfl, fun _ _ => rfl⟩ c.dep
theorem stepN {dst : Option Nat} {op : Op} (h : info ops i = some (dst, op, none)) (hs : Owes s P ops Q F G D V kf0 i dst op) : StepAt s P ops Q F G D V kf0 i := by
  intro _ _ o ho a w c
  obtain ⟨h1, h2, h3⟩ := Rg.info_parts h ho
  exact run_wanted ho (by simp [Region.wanted, h3]) (hs o a w h2 h1 c)
theorem stepG {j dj : Nat} {b : Bool} {dst : Option Nat} {op : Op} (h : info ops i = some (dst, op, some (j, b))) (hj : (ops[j]?).bind (·.dst) = some dj) (hdep : depI ops i dj = true) (hb : ∀ w v, F dj w v → v = .bool b)
    (hs : Owes s P ops Q F G D V kf0 i dst op) : StepAt s P ops Q F G D V kf0 i := by
  intro _ _ o ho a w c
  obtain ⟨h1, h2, h3⟩ := Rg.info_parts h ho
  exact run_wanted ho (by simp [Region.wanted, h3, yields hj (hb w _ (c.dep dj hdep))]) (hs o a w h2 h1 c)
theorem stepS {j dj : Nat} {b c : Bool} {dst : Option Nat} {op : Op} (h : info ops i = some (dst, op, some (j, b))) (hj : (ops[j]?).bind (·.dst) = some dj) (hdep : depI ops i dj = true) (hb : ∀ w v, F dj w v → v = .bool c) (hbc : (c == b) = false)
    (hu : ∀ d, dst = some d → ∀ w, F d w undef) : StepAt s P ops Q F G D V kf0 i := by
  intro _ _ o ho a w cx
  obtain ⟨h1, h2, h3⟩ := Rg.info_parts h ho
  have hv := hb w _ (cx.dep dj hdep)
  have hw : Region.wanted o (yielded ops a.tmps) = false := by
    simp only [Region.wanted, h3, yields hj hv]
    simpa using hbc
  unfold wpOp
  rw [ho]
  simp only [hw]
  exact ⟨undef, rfl, fun d hd' => hu d (h1 ▸ hd') w, Grow.refl w⟩
theorem stepU {j dj : Nat} {b : Bool} {dst : Option Nat} {op : Op} (h : info ops i = some (dst, op, some (j, b))) (hj : (ops[j]?).bind (·.dst) = some dj) (hdep : depI ops i dj = true) (hb : ∀ w v, F dj w v → v = undef)
    (hu : ∀ d, dst = some d → ∀ w, F d w undef) : StepAt s P ops Q F G D V kf0 i := by
  intro _ _ o ho a w cx
  obtain ⟨h1, h2, h3⟩ := Rg.info_parts h ho
  have hv := hb w _ (cx.dep dj hdep)
  have hw : Region.wanted o (yielded ops a.tmps) = false := by
    have hy : yielded ops a.tmps j = none := by
      unfold yielded
      rw [hj]
      simp only [Option.bind_some]
      rw [Array.getD_eq_getD_getElem?] at hv
      cases hx : a.tmps[dj]? with
      | none => rfl
      | some x => rw [hx, Option.getD_some] at hv; rw [hv]; rfl
    simp [Region.wanted, h3, hy]
  unfold wpOp
  rw [ho]
  simp only [hw]
  exact ⟨undef, rfl, fun d hd' => hu d (h1 ▸ hd') w, Grow.refl w⟩

/-- What is known of an operand. -/
def Arg (s : Value → Bool) (P : Program) (ops : Array Oper) (F : Facts) (G : List Vr) (D : List (Nat × Pr)) (V : VS) (kf0 : Nat → Nat) (i : Nat) (x : Operand) (p : Pr) : Prop := ∀ a w, Ctx s P ops F G D V kf0 i a w → p w (a.eval x)
theorem argT {x : Nat} {p : Pr} (dx : depI ops i x = true) (hp : ∀ w v, F x w v → p w v) : Arg s P ops F G D V kf0 i (.tmp x) p := fun _ _ c => hp _ _ (c.dep x dx)
theorem argC (v : Value) : Arg s P ops F G D V kf0 i (.const v) (fun _ u => u = v) := fun _ _ _ => rfl
theorem argO {x : Nat} {p : Pr} (hx : (x, p) ∈ D) (hr : readS ops i x = true) : Arg s P ops F G D V kf0 i (.tmp x) p := fun _ _ c => c.old _ hx hr

theorem val {dst : Option Nat} {op : Op} {d : Nat} (h : ∀ o a w, o.op = op → Ctx s P ops F G D V kf0 i a w → ∃ v, (execOp a.eval o).run P w = .ok (.value v) w ∧ F d w v) (e : dst = some d) : Owes s P ops Q F G D V kf0 i dst op := by
  intro o a w ho hd c
  obtain ⟨v, hr, hv⟩ := h o a w ho c
  exact Rg.valOf hr (hd.trans e) hv (Grow.refl w)
theorem move {d : Nat} {x : Operand} {p : Pr} (hx : Arg s P ops F G D V kf0 i x p) (hF : ∀ w v, p w v → F d w v) : Owes s P ops Q F G D V kf0 i (some d) (.move x) :=
  val (fun o a w ho c => ⟨a.eval x, by simp [execOp, ho], hF _ _ (hx a w c)⟩) rfl
theorem assign {d : Nat} {x : Operand} {p : Pr} (hx : Arg s P ops F G D V kf0 i x p) (hF : ∀ w v, p w v → F d w v) : Owes s P ops Q F G D V kf0 i (some d) (.assign x) :=
  val (fun o a w ho c => ⟨a.eval x, by simp [execOp, ho], hF _ _ (hx a w c)⟩) rfl
theorem pickT {d : Nat} {c x y : Operand} {p : Pr} (hc : Arg s P ops F G D V kf0 i c (fun _ v => v = .bool true)) (hx : Arg s P ops F G D V kf0 i x p) (hF : ∀ w v, p w v → F d w v) : Owes s P ops Q F G D V kf0 i (some d) (.pick c x y) :=
  val (fun o a w ho cx => ⟨a.eval x, by have := hc a w cx; simp [execOp, ho, this, asBool], hF _ _ (hx a w cx)⟩) rfl
theorem pickF {d : Nat} {c x y : Operand} {p : Pr} (hc : Arg s P ops F G D V kf0 i c (fun _ v => v = .bool false)) (hy : Arg s P ops F G D V kf0 i y p) (hF : ∀ w v, p w v → F d w v) : Owes s P ops Q F G D V kf0 i (some d) (.pick c x y) :=
  val (fun o a w ho cx => ⟨a.eval y, by have := hc a w cx; simp [execOp, ho, this, asBool], hF _ _ (hy a w cx)⟩) rfl
theorem extract {d x j : Nat} {ps : List Pr} {p : Pr} (dx : depI ops i x = true) (hx : ∀ w v, F x w v → IsT ps w v) (hj : ps[j]? = some p) (hF : ∀ w v, p w v → F d w v) : Owes s P ops Q F G D V kf0 i (some d) (.extract (.tmp x) j) :=
  val (fun o a w ho c => by
    obtain ⟨vs, e, hz, hp⟩ := hx _ _ (c.dep x dx)
    have hlt : j < vs.size := by rw [hz]; exact (List.getElem?_eq_some_iff.1 hj).1
    refine ⟨vs.getD j undef, ?_, hF _ _ (hp j p hj)⟩
    have e' : a.eval (.tmp x) = .tuple vs := e
    simp only [Act.eval, Array.getD_eq_getD_getElem?] at e'
    simp [execOp, ho, Act.eval, e', Instr.extract, hlt]) rfl
theorem loadV {d p : Nat} {t : TypeId} {q : Pr} (hx : (⟨p, t, q⟩ : Vr) ∈ G) (hr : readB ops V i p = true) (hF : ∀ w v, q w v → F d w v) : Owes s P ops Q F G D V kf0 i (some d) (.load t (.tmp p)) :=
  val (fun o a w ho c => by
    obtain ⟨cs, h1, h2, h3⟩ := c.rd _ hx hr
    exact ⟨.agg cs, run_load ho (c.ptr _ hx) h1 h2, hF _ _ h3⟩) rfl
/-- Where field f of a struct lies, and how many cells it has. -/
def fieldB (P : Program) (t : TypeId) (f off sz : Nat) : Bool := match P.underlying t with
  | some (.struct fs) => match fs[f]? with
    | some fd => Nat.beq fd.offset off && (match P.info? fd.type with
      | some j => Nat.beq j.size sz && !Nat.beq sz 0
      | none => false)
    | none => false
  | _ => false
theorem fieldV {d p f off sz : Nat} {t : TypeId} {q : Pr} (hx : (⟨p, t, q⟩ : Vr) ∈ G) (hf : fieldB P t f off sz = true) (hF : ∀ w v, v = .pointer (some ⟨kf0 p, off, none⟩) → F d w v) : Owes s P ops Q F G D V kf0 i (some d) (.fieldAddr t (.tmp p) f) :=
  val (fun o a w ho c => by
    refine ⟨.pointer (some ⟨kf0 p, off, none⟩), ?_, hF _ _ rfl⟩
    unfold fieldB at hf
    split at hf
    · next fs hu =>
      split at hf
      · next fd hfd =>
        simp only [Bool.and_eq_true] at hf
        obtain ⟨h1, h2⟩ := hf
        split at h2
        · next j hj =>
          simp only [Bool.and_eq_true, Bool.not_eq_true'] at h2
          have e1 : fd.offset = off := Nat.eq_of_beq_eq_true h1
          have e2 := Nat.eq_of_beq_eq_true h2.1
          have e3 : sz ≠ 0 := fun e => by rw [e] at h2; cases h2.2
          have hp : a.eval (.tmp p) = .pointer (some ⟨kf0 p, 0, none⟩) := c.ptr _ hx
          subst e1
          unfold execOp
          simp only [Act.eval, Array.getD_eq_getD_getElem?] at hp
          simp [go_sem, ho, hp, Act.eval, Instr.fieldAt, Instr.sureAddr, underlying, fieldPlace, sizeOf, typeInfo, hu, hfd, hj, e2, e3]
        · cases h2
      · cases hf
    · cases hf) rfl
def aggD : TypeDesc → Bool
  | .struct _ => true
  | .array _ _ => true
  | _ => false
theorem run_loadCell {w : World} {t : TypeId} {b o : Nat} {v : Value} (h : w.cell? ⟨b, o, none⟩ = some v) {d : TypeDesc} (hu : P.underlying t = some d) (hd : aggD d = false) : (loadVar t ⟨b, o, none⟩).run P w = .ok v w := by
  unfold loadVar isAgg
  rw [Sem.run_bind, Sem.run_bind, run_underlying hu w]
  cases d <;> simp_all [go_sem, aggD]
def plainB (P : Program) (t : TypeId) : Bool := match P.underlying t with
  | some (.struct _) => false
  | some (.array _ _) => false
  | some _ => true
  | none => false
/-- A field that is a struct. -/
theorem loadF {d x p off sz : Nat} {t t' : TypeId} {q r : Pr} (dx : depI ops i x = true) (hx : ∀ w v, F x w v → v = .pointer (some ⟨kf0 p, off, none⟩)) (hv : (⟨p, t, q⟩ : Vr) ∈ G) (hr : readB ops V i p = true) (ha : aggB P t' = true) (hsz : (P.info? t').map (·.size) = some sz)
    (hle : ((P.info? t).map (·.size)).any (fun m => decide (off + sz ≤ m)) = true) (hq : ∀ w cs, q w (.agg cs) → r w (.agg (cs.extract off (off + sz)))) (hF : ∀ w v, r w v → F d w v) : Owes s P ops Q F G D V kf0 i (some d) (.load t' (.tmp x)) :=
  val (fun o a w ho c => by
    obtain ⟨cs, h1, h2, h3⟩ := c.rd _ hv hr
    have hp : a.eval (.tmp x) = .pointer (some ⟨kf0 p, off, none⟩) := hx _ _ (c.dep x dx)
    have hm : off + sz ≤ cs.size := by
      rw [h2.size] at hle
      simpa using hle
    refine ⟨.agg (cs.extract off (off + sz)), ?_, hF _ _ (hq _ _ h3)⟩
    obtain ⟨ds, hu, hd⟩ := agg_desc ha
    have hrun := run_loadVar_mid (P := P) w (kf0 p) off t' (cs.extract off (off + sz)).toList ds (fun j v hj => by
      simp only [World.cell?, h1, Option.isSome_none, Bool.false_eq_true, if_false]
      rw [Array.getElem?_toList, Array.getElem?_extract] at hj
      split at hj
      · exact hj
      · cases hj) hu (by cases ds <;> first | rfl | exact hd) (by
      rw [hsz, Array.length_toList, Array.size_extract]
      congr 1
      omega)
    unfold execOp
    simp only [ho, hp, Instr.loadAt, Instr.sureAddr, Sem.run_bind, Sem.run_pure, Result.andThen_ok, hrun, Array.toArray_toList]) rfl
/-- A field that is none. -/
theorem loadP {d x p off : Nat} {t t' : TypeId} {q r : Pr} (dx : depI ops i x = true) (hx : ∀ w v, F x w v → v = .pointer (some ⟨kf0 p, off, none⟩)) (hv : (⟨p, t, q⟩ : Vr) ∈ G) (hr : readB ops V i p = true) (ha : plainB P t' = true)
    (hle : ((P.info? t).map (·.size)).any (fun m => decide (off < m)) = true) (hq : ∀ w cs, q w (.agg cs) → r w (cs.getD off undef)) (hF : ∀ w v, r w v → F d w v) : Owes s P ops Q F G D V kf0 i (some d) (.load t' (.tmp x)) :=
  val (fun o a w ho c => by
    obtain ⟨cs, h1, h2, h3⟩ := c.rd _ hv hr
    have hp : a.eval (.tmp x) = .pointer (some ⟨kf0 p, off, none⟩) := hx _ _ (c.dep x dx)
    have hm : off < cs.size := by
      rw [h2.size] at hle
      simpa using hle
    refine ⟨cs.getD off undef, ?_, hF _ _ (hq _ _ h3)⟩
    have hc : w.cell? ⟨kf0 p, off, none⟩ = some (cs.getD off undef) := by
      simp [World.cell?, h1, hm]
    have : ∃ ds, P.underlying t' = some ds ∧ aggD ds = false := by
      unfold plainB at ha
      split at ha
      · cases ha
      · cases ha
      · next ds h1 h2 e => exact ⟨ds, e, by cases ds <;> first | rfl | exact (h1 _ rfl).elim | exact (h2 _ _ rfl).elim⟩
      · cases ha
    obtain ⟨ds, hu, hd⟩ := this
    unfold execOp
    simp only [ho, hp, Instr.loadAt, Instr.sureAddr, Sem.run_bind, Sem.run_pure, Result.andThen_ok, run_loadCell hc hu hd]) rfl

/-! ### Calls -/
theorem callN {d f : Nat} {xs : Array Operand} {ts : Array TypeId} {R : Value → World → Prop} (en : Enters P f) (hc : ∀ a w, Ctx s P ops F G D V kf0 i a w → Calls P f (xs.map a.eval) w (Ret w R)) (hF : ∀ w v, R v w → F d w v) :
    Owes s P ops Q F G D V kf0 i (some d) (.call { callee := .value (.func f), args := xs, argTypes := ts }) :=
  fun _ a w ho hd c => callOf ho en hd (hc a w c) fun _ _ ⟨v, e, h, g⟩ => ⟨v, e, hF _ _ h, g⟩
theorem call0 {d f : Nat} {ts : Array TypeId} {R : Value → World → Prop} (en : Enters P f) (hc : ∀ w, Calls P f #[] w (Ret w R)) (hF : ∀ w v, R v w → F d w v) :
    Owes s P ops Q F G D V kf0 i (some d) (.call { callee := .value (.func f), args := #[], argTypes := ts }) := callN en (fun _ w _ => by simp only [List.map_toArray, List.map_nil]; exact hc w) hF
theorem call1 {d f : Nat} {x : Operand} {ts : Array TypeId} {p : Pr} {R : Value → World → Prop} (en : Enters P f) (hx : Arg s P ops F G D V kf0 i x p) (hc : ∀ w u, p w u → Calls P f #[u] w (Ret w R)) (hF : ∀ w v, R v w → F d w v) :
    Owes s P ops Q F G D V kf0 i (some d) (.call { callee := .value (.func f), args := #[x], argTypes := ts }) := callN en (fun a w c => by simp only [List.map_toArray, List.map_cons, List.map_nil]; exact hc w _ (hx a w c)) hF
theorem call2 {d f : Nat} {x y : Operand} {ts : Array TypeId} {p q : Pr} {R : Value → World → Prop} (en : Enters P f) (hx : Arg s P ops F G D V kf0 i x p) (hy : Arg s P ops F G D V kf0 i y q) (hc : ∀ w u v, p w u → q w v → Calls P f #[u, v] w (Ret w R)) (hF : ∀ w v, R v w → F d w v) :
    Owes s P ops Q F G D V kf0 i (some d) (.call { callee := .value (.func f), args := #[x, y], argTypes := ts }) := callN en (fun a w c => by simp only [List.map_toArray, List.map_cons, List.map_nil]; exact hc w _ _ (hx a w c) (hy a w c)) hF
theorem call3 {d f : Nat} {x y z : Operand} {ts : Array TypeId} {p q r : Pr} {R : Value → World → Prop} (en : Enters P f) (hx : Arg s P ops F G D V kf0 i x p) (hy : Arg s P ops F G D V kf0 i y q) (hz : Arg s P ops F G D V kf0 i z r) (hc : ∀ w u v t, p w u → q w v → r w t → Calls P f #[u, v, t] w (Ret w R)) (hF : ∀ w v, R v w → F d w v) :
    Owes s P ops Q F G D V kf0 i (some d) (.call { callee := .value (.func f), args := #[x, y, z], argTypes := ts }) := callN en (fun a w c => by simp only [List.map_toArray, List.map_cons, List.map_nil]; exact hc w _ _ _ (hx a w c) (hy a w c) (hz a w c)) hF
end

end Go.Proofs.YtlkiikchjeapfaaDoor.Z
