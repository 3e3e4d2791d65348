/- More for the calculus: slices of ints, of texts, of numbers; a table of texts among the package-level variables; facts that are told anew; fields of fields. -/
import Derived.Test.YtpjmfbiihhbjhaaGreatDoorZm
namespace Go.Proofs.YtpjmfbiihhbjhaaGreatDoor.Z
open Go.RowKit Go.Proofs.YtpjmfbiihhbjhaaGreatDoor.Rg

/-! ### Facts told anew, calls that lean on a fact of the memory -/
section
variable {P : Program} {n : Nat} {G : List (Vk P)} {D : FL P} {wE w : World} {kf : Nat → Nat} {a : Act}
def setD (D : FL P) (d : Nat) (K : Kd P) : FL P := D.map fun x => cond (Nat.beq x.1 d) (d, K) x
def setG (G : List (Vk P)) (p : Nat) (K : Kd P) : List (Vk P) := G.map fun x => cond (Nat.beq x.slot p) ⟨x.slot, x.ty, K⟩ x
theorem S2.reD (hS : S2 P n G D wE kf a w) (d : Nat) (K : Kd P) (h : ∀ w v, (lk D d).p w v → K.p w v) : S2 P n G (setD D d K) wE kf a w := by
  refine hS.mono (all_of fun x hx => ⟨x, hx, rfl, rfl, fun _ _ h => h⟩) (all_of fun x hx => ?_)
  obtain ⟨y, hy, rfl⟩ := List.mem_map.1 hx
  obtain ⟨z, hz, rfl⟩ := List.mem_map.1 hy
  cases hb : Nat.beq z.1 d with
  | false => exact ⟨_, List.mem_map.2 ⟨z, hz, rfl⟩, rfl, fun _ _ h => h⟩
  | true =>
    refine ⟨_, List.mem_map.2 ⟨_, lkD_mem (List.any_eq_true.2 ⟨z, hz, hb⟩), rfl⟩, rfl, h⟩
theorem S2.reG (hS : S2 P n G D wE kf a w) (p : Nat) (K : Kd P) (h : ∀ w v, (lkG G p).k.p w v → K.p w v) (hB : G.all (fun x => !Nat.beq x.slot p || Nat.beq (lkG G p).ty x.ty) = true := by kernel_rfl) : S2 P n (setG G p K) D wE kf a w := by
  refine hS.mono (all_of fun x hx => ?_) (all_of fun x hx => ⟨x, hx, rfl, fun _ _ h => h⟩)
  obtain ⟨y, hy, rfl⟩ := List.mem_map.1 hx
  obtain ⟨z, hz, rfl⟩ := List.mem_map.1 hy
  cases hb : Nat.beq z.slot p with
  | false => exact ⟨_, List.mem_map.2 ⟨z, hz, rfl⟩, rfl, rfl, fun _ _ h => h⟩
  | true =>
    have h1 := List.all_eq_true.1 hB z hz
    simp only [hb, Bool.not_true, Bool.false_or] at h1
    refine ⟨_, hasG_mem (List.any_eq_true.2 ⟨z, hz, hb⟩), (Nat.eq_of_beq_eq_true hb).symm, Nat.eq_of_beq_eq_true h1, h⟩
/-- Ways that meet again. -/
theorem mt {c : Code} {Q : Exit → Act → World → Prop} {K : Act → World → Prop} (_ : S2 P n G D wE kf a w) (G' : List (Vk P)) (D' : FL P) (tail : ∀ kf a w, S2 P n G' D' wE kf a w → K a w) (h : (∀ kf a w, S2 P n G' D' wE kf a w → K a w) → c.wp P (Exit.then K Q) a w) : c.wp P (Exit.then K Q) a w := h tail
theorem rtt {fn : Func} {R : Ending → World → Prop} (u t : Nat) (hS : S2 P n G D wE kf a w) (h : ∀ v z, (lk D u).p w v → (lk D t).p w z → R (.returned (.tuple #[v, z])) w) (hr : fn.results = #[.tmp u, .tmp t] := by kernel_rfl) (hc : (D.any (fun z => Nat.beq z.1 u) && D.any (fun z => Nat.beq z.1 t)) = true := by kernel_rfl) : bodyPost P fn R .ret a w := by
  simp only [Bool.and_eq_true] at hc
  refine ⟨hS.defers, .tuple #[a.tmps.getD u undef, a.tmps.getD t undef], ?_, h _ _ (hS.facts _ (List.mem_map.2 ⟨_, lkD_mem hc.1, rfl⟩)) (hS.facts _ (List.mem_map.2 ⟨_, lkD_mem hc.2, rfl⟩))⟩
  unfold results
  rw [hr]
  simp
variable {ops : Array Oper} {Q : Exit → Act → World → Prop} {V : VS} {fs : FL P} {kf0 : Nat → Nat} {i : Nat}
theorem bo {x y : Operand} {p : Pr} {W : World → Prop} (ax : A2 P ops fs G D V kf0 i x p) (aw : A2 P ops fs G D V kf0 i y (fun w _ => W w)) : A2 P ops fs G D V kf0 i x (fun w v => p w v ∧ W w) := fun a w c => ⟨ax a w c, aw a w c⟩
theorem c0w {f : Nat} {R : Value → World → Prop} (d : Nat) (en : Enters P f) {y : Operand} {W : World → Prop} (aw : A2 P ops fs G D V kf0 i y (fun w _ => W w)) (hc : ∀ w, W w → Calls P f #[] w (Ret w R)) (hF : ∀ w v, R v w → (lk fs d).p w v := by exact fun _ _ h => h) (h : callOp ops i = some (d, f, []) := by kernel_rfl) : B2 P ops Q fs G D V kf0 i := cN en (fun a w c => by simp only [List.map_nil]; exact hc w (aw a w c)) hF h
/-- A field of a field. -/
theorem fb (d x p t f off off' sz : Nat) (hF : ∀ w v, v = .pointer (some ⟨kf0 p, off + off', none⟩) → (lk fs d).p w v := by exact fun _ _ h => h) (hx : ∀ w v, (lk fs x).p w v → v = .pointer (some ⟨kf0 p, off, none⟩) := by exact fun _ _ h => h) (dx : depI ops i x = true := by kernel_rfl) (hf : fieldB P t f off' sz = true := by kernel_rfl) (h : opOf ops i = some (some d, .fieldAddr t (.tmp x) f) := by kernel_rfl) : B2 P ops Q fs G D V kf0 i :=
  ofOwes (val (fun o a w ho c => by
    refine ⟨.pointer (some ⟨kf0 p, off + off', none⟩), ?_, hF _ _ rfl⟩
    unfold fieldB at hf
    split at hf
    · next fs hu =>
      split at hf
      · next fd hfd =>
        simp only [Bool.and_eq_true] at hf
        obtain ⟨h1, h2⟩ := hf
        split at h2
        · next j hj =>
          simp only [Bool.and_eq_true, Bool.not_eq_true'] at h2
          have e1 : fd.offset = off' := Nat.eq_of_beq_eq_true h1
          have e2 := Nat.eq_of_beq_eq_true h2.1
          have e3 : sz ≠ 0 := fun e => by rw [e] at h2; cases h2.2
          have hp : a.eval (.tmp x) = .pointer (some ⟨kf0 p, off, none⟩) := hx _ _ (c.dep x dx)
          subst e1
          unfold execOp
          simp only [Act.eval, Array.getD_eq_getD_getElem?] at hp
          simp [go_sem, ho, hp, Act.eval, Instr.fieldAt, Instr.sureAddr, underlying, fieldPlace, sizeOf, typeInfo, hu, hfd, hj, e2, e3]
        · cases h2
      · cases hf
    · cases hf) rfl) h
end

/-! ### Cells that no variable holds stay -/
theorem cell_hard {w w' : World} {b o : Nat} {x : Value} (hx : softV x = false) (h : w.cell? ⟨b, o, none⟩ = some x) (g : Evo soft w w') : w'.cell? ⟨b, o, none⟩ = some x := by
  rcases g.block b (lt_of_cell h) with h1 | ⟨cs, cs', t, h1, _, h3, _⟩
  · rw [← h]
    simp only [World.cell?, h1]
  · exfalso
    have hc : cs[o]? = some x := by
      simpa [World.cell?, h1] using h
    obtain ⟨ho, e⟩ := Array.getElem?_eq_some_iff.1 hc
    have := Array.all_eq_true.1 (soft_all h3) o ho
    rw [e, hx] at this
    cases this
/-- An address whose cell holds a text. -/
def isB (l : List UInt8) : Pr := fun w v => ∃ b o, v = .pointer (some ⟨b, o, none⟩) ∧ w.cell? ⟨b, o, none⟩ = some (.string (str l))
theorem stb_B (l : List UInt8) : Stb soft (isB l) := fun _ _ _ ⟨b, o, e, h⟩ g => ⟨b, o, e, cell_hard rfl h g⟩
abbrev kB (l : List UInt8) : Kd Tryz.prog := .of (isB l) (stb_B l)
/-- An address whose cell holds a number of 64 bits. -/
def isU (x : Nat) : Pr := fun w v => ∃ b o, v = .pointer (some ⟨b, o, none⟩) ∧ w.cell? ⟨b, o, none⟩ = some (.int .u64 (x : Int))
theorem stb_U (x : Nat) : Stb soft (isU x) := fun _ _ _ ⟨b, o, e, h⟩ g => ⟨b, o, e, cell_hard rfl h g⟩
abbrev kU (x : Nat) : Kd Tryz.prog := .of (isU x) (stb_U x)
/-- A slice of such cells. -/
def isC (l : List Value) : Pr := fun w v => ∃ b o c, v = .slice (some ⟨b, o, none⟩) l.length c ∧ ∀ j x, l[j]? = some x → w.cell? ⟨b, o + j, none⟩ = some x
theorem stb_C {l : List Value} (hl : ∀ x ∈ l, softV x = false) : Stb soft (isC l) := fun _ _ _ ⟨b, o, c, e, h⟩ g => ⟨b, o, c, e, fun j x hx => cell_hard (hl x (List.mem_of_getElem? hx)) (h j x hx) g⟩
def ints (l : List Int) : List Value := l.map fun x => .int .i64 x
def txts (l : List (List UInt8)) : List Value := l.map fun x => .string (str x)
theorem hard_ints (l : List Int) : ∀ x ∈ ints l, softV x = false := fun x hx => by
  obtain ⟨y, _, rfl⟩ := List.mem_map.1 hx
  rfl
theorem hard_txts (l : List (List UInt8)) : ∀ x ∈ txts l, softV x = false := fun x hx => by
  obtain ⟨y, _, rfl⟩ := List.mem_map.1 hx
  rfl
abbrev kI (l : List Int) : Kd Tryz.prog := .of (isC (ints l)) (stb_C (hard_ints l))
abbrev kL (l : List (List UInt8)) : Kd Tryz.prog := .of (isC (txts l)) (stb_C (hard_txts l))
/-- A slice of numbers. -/
def isNs (l : List Nat) (k : Nat) : Pr := fun w v => ∃ b t c, ∃ cs : List Value, v = .slice (some ⟨b, 0, none⟩) l.length c ∧ cs.length = l.length ∧ w.heap[b]? = some (.cells cs.toArray t (0, 0)) ∧ soft cs.toArray = false ∧ ∀ (j n : Nat) (x : Value), l[j]? = some n → cs[j]? = some x → IsN w (.agg #[x]) n k
theorem block_hard {w w' : World} {b : Nat} {cs : Array Value} {t : TypeId} (hs : soft cs = false) (h : w.heap[b]? = some (.cells cs t (0, 0))) (g : Evo soft w w') : w'.heap[b]? = some (.cells cs t (0, 0)) := by
  rcases g.block b (by rw [Array.getElem?_eq_some_iff] at h; exact h.1) with h1 | ⟨cs2, cs', t', h1, _, h3, _⟩
  · rw [h1]; exact h
  · rw [h] at h1
    injection h1 with h1
    injection h1 with e1
    subst e1
    rw [hs] at h3
    cases h3
theorem stb_Ns (l : List Nat) (k : Nat) : Stb soft (isNs l k) := fun _ _ _ ⟨b, t, c, cs, e, hl, h, hs, hc⟩ g => ⟨b, t, c, cs, e, hl, block_hard hs h g, hs, fun j n x h1 h2 => stb_N _ _ _ _ _ (hc j n x h1 h2) g⟩
abbrev kNs (l : List Nat) (k : Nat) : Kd Tryz.prog := .of (isNs l k) (stb_Ns l k)
def isAN (n k : Nat) : Pr := fun w v => ∃ b j t, ∃ (cs : List Value) (x : Value), v = .pointer (some ⟨b, j, none⟩) ∧ w.heap[b]? = some (.cells cs.toArray t (0, 0)) ∧ soft cs.toArray = false ∧ cs[j]? = some x ∧ IsN w (.agg #[x]) n k
theorem stb_AN (n k : Nat) : Stb soft (isAN n k) := fun _ _ _ ⟨b, j, t, cs, x, e, h, hs, hx, hn⟩ g => ⟨b, j, t, cs, x, e, block_hard hs h g, hs, hx, stb_N _ _ _ _ _ hn g⟩
abbrev kAN (n k : Nat) : Kd Tryz.prog := .of (isAN n k) (stb_AN n k)
/-- The modes' words, as the package's table holds them. -/
def wordL : List (List UInt8) := [[100, 111, 119, 110], [117, 112], [104, 97, 108, 102, 45, 117, 112], [104, 97, 108, 102, 45, 100, 111, 119, 110], [104, 97, 108, 102, 45, 101, 118, 101, 110]]
def wd (n : Nat) : List UInt8 := wordL.getD n []
def Words (w : World) : Prop := ∀ j x, (txts wordL)[j]? = some x → w.cell? ⟨0, j, none⟩ = some x
abbrev kWd : Kd Tryz.prog := .of (fun w _ => Words w) (fun _ _ _ h g j x hx => cell_hard (hard_txts _ x (List.mem_of_getElem? hx)) (h j x hx) g)
section
variable {ops : Array Oper} {Q : Exit → Act → World → Prop} {F : Facts} {G : List Vr} {D : List (Nat × Pr)} {V : VS} {kf0 : Nat → Nat} {i d : Nat} {x y : Operand}
theorem idxG {z n : Nat} (hw : Arg soft Tryz.prog ops F G D V kf0 i (.tmp z) (fun w _ => Words w)) (hy : Arg soft Tryz.prog ops F G D V kf0 i y (isE (.int .i64 (n : Int)))) (hn : n < 5) (hF : ∀ w v, isB (wd n) w v → F d w v) : Owes soft Tryz.prog ops Q F G D V kf0 i (some d) (.indexAddr 112 (.global 0) y) :=
  val (fun o a w ho c => by
    have h1 : Words w := hw a w c
    have e2 : a.eval y = .int .i64 (n : Int) := hy a w c
    refine ⟨.pointer (some ⟨0, n, none⟩), ?_, hF _ _ ⟨_, _, rfl, h1 n _ ?_⟩⟩
    · unfold execOp
      simp only [ho, e2]
      simp [go_sem, Instr.indexAt, Act.eval, Instr.sureAddr]
      intro hx
      omega
    · rcases n with _ | _ | _ | _ | _ | n <;> first | rfl | omega) rfl
theorem loadB {l : List UInt8} (hx : Arg soft Tryz.prog ops F G D V kf0 i x (isB l)) (hF : ∀ w v, v = .string (str l) → F d w v) : Owes soft Tryz.prog ops Q F G D V kf0 i (some d) (.load 9 x) :=
  val (fun o a w ho c => by
    obtain ⟨b, off, e1, h1⟩ := hx a w c
    refine ⟨.string (str l), ?_, hF _ _ rfl⟩
    generalize str l = s at h1 ⊢
    unfold execOp
    simp only [ho, e1]
    simp [go_sem, Instr.loadAt, h1]) rfl
theorem loadU {n : Nat} (hx : Arg soft Tryz.prog ops F G D V kf0 i x (isU n)) (hF : ∀ w v, v = .int .u64 (n : Int) → F d w v) : Owes soft Tryz.prog ops Q F G D V kf0 i (some d) (.load 63 x) :=
  val (fun o a w ho c => by
    obtain ⟨b, off, e1, h1⟩ := hx a w c
    refine ⟨.int .u64 (n : Int), ?_, hF _ _ rfl⟩
    unfold execOp
    simp only [ho, e1]
    simp [go_sem, Instr.loadAt, h1]) rfl
theorem idxS0 {l : List Nat} (hx : Arg soft Tryz.prog ops F G D V kf0 i x (isS l)) (hl : 0 < l.length) (hF : ∀ w v, isU (l.getD 0 0) w v → F d w v) : Owes soft Tryz.prog ops Q F G D V kf0 i (some d) (.indexAddr 22 x (.const (.int .i64 0))) :=
  val (fun o a w ho c => by
    obtain ⟨A, c2, e1, h1, h2, h3⟩ := hx a w c
    obtain ⟨b, off, rfl, hb, hc⟩ := h3 (by intro e; rw [e] at hl; cases hl)
    refine ⟨.pointer (some ⟨b, off, none⟩), ?_, hF _ _ ⟨b, off, rfl, ?_⟩⟩
    · unfold execOp
      simp only [ho, e1]
      simp [go_sem, Instr.indexAt, Act.eval]
      intro hx
      rw [hx] at hl
      cases hl
    · have := hc 0 (l.getD 0 0) (by cases l with | nil => cases hl | cons u r => rfl)
      simpa using this) rfl
theorem idxC {l : List Value} {n : Nat} {v : Value} {t e : TypeId} (hu : Tryz.prog.underlying t = some (.slice e)) (hz : (Tryz.prog.info? e).map (·.size) = some 1) (hx : Arg soft Tryz.prog ops F G D V kf0 i x (isC l)) (hy : Arg soft Tryz.prog ops F G D V kf0 i y (isE (.int .i64 (n : Int)))) (hv : l[n]? = some v) (hF : ∀ w u, (∃ b o, u = .pointer (some ⟨b, o, none⟩) ∧ w.cell? ⟨b, o, none⟩ = some v) → F d w u) : Owes soft Tryz.prog ops Q F G D V kf0 i (some d) (.indexAddr t x y) :=
  val (fun o a w ho c => by
    obtain ⟨b, off, cap, e1, h1⟩ := hx a w c
    have e2 : a.eval y = .int .i64 (n : Int) := hy a w c
    have hn : n < l.length := (List.getElem?_eq_some_iff.1 hv).1
    refine ⟨.pointer (some ⟨b, off + n, none⟩), ?_, hF _ _ ⟨b, off + n, rfl, h1 n v hv⟩⟩
    cases hi : Tryz.prog.info? e with
    | none => rw [hi] at hz; cases hz
    | some inf =>
      rw [hi] at hz
      simp only [Option.map_some, Option.some.injEq] at hz
      unfold execOp
      simp only [ho, e1, e2]
      simp [go_sem, Instr.indexAt, underlying, sizeOf, typeInfo, hu, hi, hz, hn, Addr.add]) rfl
theorem idxI {l : List Int} {n : Nat} {z : Int} (hx : Arg soft Tryz.prog ops F G D V kf0 i x (isC (ints l))) (hy : Arg soft Tryz.prog ops F G D V kf0 i y (isE (.int .i64 (n : Int)))) (hv : l[n]? = some z) (hF : ∀ w u, isA z w u → F d w u) : Owes soft Tryz.prog ops Q F G D V kf0 i (some d) (.indexAddr 31 x y) :=
  idxC (by kernel_rfl) (e := 3) (by kernel_rfl) hx hy (v := .int .i64 z) (by simp [ints, hv]) hF
theorem lenC {l : List Value} {t e : TypeId} {ts : Array TypeId} (hu : Tryz.prog.underlying t = some (.slice e)) (hx : Arg soft Tryz.prog ops F G D V kf0 i x (isC l)) (ht : ts = #[t]) (hF : ∀ w v, v = .int .i64 ((l.length : Nat) : Int) → F d w v) : Owes soft Tryz.prog ops Q F G D V kf0 i (some d) (.call { callee := .builtin .len, args := #[x], argTypes := ts }) :=
  val (fun o a w ho c => by
    obtain ⟨b, off, cap, e1, h1⟩ := hx a w c
    subst ht
    refine ⟨.int .i64 ((l.length : Nat) : Int), ?_, hF _ _ rfl⟩
    unfold execOp
    simp only [ho, resolve, List.map_toArray, List.map_cons, List.map_nil, e1]
    simp [go_sem, invoke, builtin, Builtin.len_, goInt, underlying, hu]) rfl
theorem lenNs {l : List Nat} {k : Nat} {ts : Array TypeId} (hx : Arg soft Tryz.prog ops F G D V kf0 i x (isNs l k)) (ht : ts = #[106]) (hF : ∀ w v, v = .int .i64 ((l.length : Nat) : Int) → F d w v) : Owes soft Tryz.prog ops Q F G D V kf0 i (some d) (.call { callee := .builtin .len, args := #[x], argTypes := ts }) :=
  val (fun o a w ho c => by
    obtain ⟨b, t, cap, cs, e1, _⟩ := hx a w c
    subst ht
    refine ⟨.int .i64 ((l.length : Nat) : Int), ?_, hF _ _ rfl⟩
    unfold execOp
    simp only [ho, resolve, List.map_toArray, List.map_cons, List.map_nil, e1]
    simp [go_sem, invoke, builtin, Builtin.len_, goInt]) rfl
theorem idxNs {l : List Nat} {k n m : Nat} (hx : Arg soft Tryz.prog ops F G D V kf0 i x (isNs l k)) (hy : Arg soft Tryz.prog ops F G D V kf0 i y (isE (.int .i64 (n : Int)))) (hv : l[n]? = some m) (hF : ∀ w u, isAN m k w u → F d w u) : Owes soft Tryz.prog ops Q F G D V kf0 i (some d) (.indexAddr 106 x y) :=
  val (fun o a w ho c => by
    obtain ⟨b, t, cap, cs, e1, h1, h2, h3, h4⟩ := hx a w c
    have e2 : a.eval y = .int .i64 (n : Int) := hy a w c
    have hn : n < l.length := (List.getElem?_eq_some_iff.1 hv).1
    have hc : cs[n]? = some (cs[n]'(by omega)) := List.getElem?_eq_getElem (by omega)
    refine ⟨.pointer (some ⟨b, n, none⟩), ?_, hF _ _ ⟨b, n, t, cs, _, rfl, h2, h3, hc, h4 n m _ hv hc⟩⟩
    unfold execOp
    simp only [ho, e1, e2]
    simp [go_sem, Instr.indexAt]
    intro h0
    omega) rfl
theorem loadAN {n k : Nat} (hx : Arg soft Tryz.prog ops F G D V kf0 i x (isAN n k)) (hF : ∀ w v, isN n k w v → F d w v) : Owes soft Tryz.prog ops Q F G D V kf0 i (some d) (.load 26 x) :=
  val (fun o a w ho c => by
    obtain ⟨b, j, t, cs, u, e1, h1, h2, h3, h4⟩ := hx a w c
    refine ⟨.agg #[u], ?_, hF _ _ h4⟩
    obtain ⟨ds, hu, hd⟩ := agg_desc aggN
    have hrun := run_loadVar_mid (P := Tryz.prog) w b j 26 [u] ds (fun q v hq => by
      have e : q = 0 := by
        rcases q with _ | q
        · rfl
        · simp at hq
      subst e
      simp at hq
      subst hq
      have hj : cs.toArray[j]? = some u := by simpa using h3
      simp [World.cell?, h1, hj]) hu (by cases ds <;> first | rfl | exact hd) sizeN
    unfold execOp
    simp only [ho, e1, Instr.loadAt, Instr.sureAddr, Sem.run_bind, Sem.run_pure, Result.andThen_ok]
    simp [hrun]) rfl
theorem maxI {m n r : Int} {ts : Array TypeId} (hx : Arg soft Tryz.prog ops F G D V kf0 i x (isE (.int .i64 m))) (hy : Arg soft Tryz.prog ops F G D V kf0 i y (isE (.int .i64 n))) (hr : max m n = r) (hF : ∀ w v, v = .int .i64 r → F d w v) : Owes soft Tryz.prog ops Q F G D V kf0 i (some d) (.call { callee := .builtin .max, args := #[x, y], argTypes := ts }) :=
  val (fun o a w ho c => by
    have e1 : a.eval x = .int .i64 m := hx a w c
    have e2 : a.eval y = .int .i64 n := hy a w c
    refine ⟨.int .i64 r, ?_, hF _ _ rfl⟩
    have hr' : (if m < n then n else m) = r := by rw [← hr]; split <;> omega
    unfold execOp
    simp only [ho, resolve, List.map_toArray, List.map_cons, List.map_nil, e1, e2]
    simp [go_sem, invoke, builtin, Builtin.max_, Builtin.max2, hr']) rfl
theorem buildI2 {u v : Nat} {m n : Int} (hx : Arg soft Tryz.prog ops F G D V kf0 i (.tmp u) (isE (.int .i64 m))) (hy : Arg soft Tryz.prog ops F G D V kf0 i (.tmp v) (isE (.int .i64 n))) (hF : ∀ w v, isC (ints [m, n]) w v → F d w v) : Owes soft Tryz.prog ops Q F G D V kf0 i (some d) (.buildSlice 31 2 #[(0, .tmp u), (1, .tmp v)]) :=
  fun o a w ho hd cx => Rg.valOf (v := .slice (some ⟨w.heap.size, 0, none⟩) 2 2) (w' := w.alloc (.cells #[.int .i64 m, .int .i64 n] 3)) (by
    have e : a.eval (.tmp u) = .int .i64 m := hx a w cx
    have e' : a.eval (.tmp v) = .int .i64 n := hy a w cx
    simp only [Act.eval, Array.getD_eq_getD_getElem?] at e e'
    simp [execOp, ho, go_sem, Act.eval, e, e']) hd
    (hF _ _ ⟨w.heap.size, 0, 2, rfl, fun j x hj => by
      rcases j with _ | _ | j
      · simp [ints] at hj; subst hj; simp [go_sem]
      · simp [ints] at hj; subst hj; simp [go_sem]
      · simp [ints] at hj⟩) ((Grow.refl w).alloc _)
end
section
variable {P : Program} {ops : Array Oper} {Q : Exit → Act → World → Prop} {fs : FL P} {G : List (Vk P)} {D : FL P} {V : VS} {kf0 : Nat → Nat} {i : Nat} {x y : Operand}
theorem and_one (a : Nat) (ha : a < 18446744073709551616) : bits .and .u64 (a : Int) 1 = ((a % 2 : Nat) : Int) := by
  have h := bits_and_u64_nat a 1 ha (by omega)
  have e : a &&& 1 = a % 2 := Nat.and_two_pow_sub_one_eq_mod a 1
  rw [e] at h
  exact h
theorem bAn {m : Nat} {r : Int} (d : Nat) (ax : A2 P ops fs G D V kf0 i x (isE (.int .u64 (m : Int)))) (ay : A2 P ops fs G D V kf0 i y (isE (.int .u64 1))) (hm : m < 18446744073709551616) (e : ((m % 2 : Nat) : Int) = r) (hF : ∀ w v, v = .int .u64 r → (lk fs d).p w v := by exact fun _ _ h => h) (h : bnOf ops i = some (d, .and, x, y) := by kernel_rfl) : B2 P ops Q fs G D V kf0 i := bn_of h fun _ _ => bin ax ay guardI (fun w => by
  have h := and_one m hm
  simp [binOp, go_sem, h, e]) hF
theorem bRm {k : IntKind} {m n r : Int} (d : Nat) (ax : A2 P ops fs G D V kf0 i x (isE (.int k m))) (ay : A2 P ops fs G D V kf0 i y (isE (.int k n))) (hn : n ≠ 0) (e : m.tmod n = r) (hF : ∀ w v, v = .int k r → (lk fs d).p w v := by exact fun _ _ h => h) (h : bnOf ops i = some (d, .rem, x, y) := by kernel_rfl) : B2 P ops Q fs G D V kf0 i := bn_of h fun _ _ => bin ax ay guardI (fun w => by simp [binOp, go_sem, Op.intDiv, hn, e]) hF
end
end Go.Proofs.YtpjmfbiihhbjhaaGreatDoor.Z
