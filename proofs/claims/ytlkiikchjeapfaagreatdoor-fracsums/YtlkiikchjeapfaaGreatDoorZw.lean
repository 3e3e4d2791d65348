/- The calculus of whole functions: a function's entry, its end, its branches. No program is named here. -/
import Derived.Test.YtlkiikchjeapfaaGreatDoorZu
namespace Go.Proofs.YtlkiikchjeapfaaGreatDoor.Z
open Go.RowKit Go.Proofs.YtlkiikchjeapfaaGreatDoor.Rg
variable {P : Program} {s : Value → Bool}
section
variable {n : Nat} {G : List Vr} {D : List (Nat × Pr)} {wE w : World} {kf : Nat → Nat} {a : Act} {ops : Array Oper} {Q : Exit → Act → World → Prop}
theorem enter {f : FuncId} {fn : Func} {c : Code} {args : Array Value} {R : Ending → World → Prop} (hf : P.funcs[f]? = some fn) (hb : fn.body = some c) (hn : fn.ntmps = n) (hle : args.size ≤ n) (D : List (Nat × Pr)) (hD : AllL (fun x : Nat × Pr => x.1 < args.size ∧ x.2 w (args.getD x.1 undef)) D)
    (h : ∀ kf a, St s P n [] D w kf a w → c.wp P (bodyPost P fn R) a w) : Calls P f args w R := by
  refine calls_of_wp hf hb (h (fun _ => 0) _ ⟨?_, rfl, Grow.refl w, (fun x hx => by cases hx), (fun x hx => by cases hx), fun x hx => ?_⟩)
  · simp; omega
  obtain ⟨h1, h2⟩ := hD.mem x hx
  have e : (args ++ Array.replicate (fn.ntmps - args.size) undef).getD x.1 undef = args.getD x.1 undef := by
    simp [Array.getD_eq_getD_getElem?, Array.getElem?_append, h1]
  rw [e]
  exact h2
theorem mem_put {a : Act} {p : Nat} {v : Value} (h : p < a.tmps.size) : (a.put (some p) v).tmps.getD p undef = v := by rw [put_getD a p p v h, if_pos rfl]
theorem slot_ne {p : Nat} (hG : G.all (fun x => !Nat.beq x.slot p) = true) : ∀ x ∈ G, x.slot ≠ p := fun x hx e => by
  have := List.all_eq_true.1 hG x hx
  rw [e] at this
  simp at this
theorem fact_ne {p : Nat} (hD : D.all (fun x => !Nat.beq x.1 p) = true) : ∀ x ∈ D, x.1 ≠ p := fun x hx e => by
  have := List.all_eq_true.1 hD x hx
  rw [e] at this
  simp at this
theorem St.mk_var {p : Nat} {t : TypeId} {q : Pr} {cs : Array Value} (hS : St s P n G D wE kf a w) (hp : p < n) (hG : G.all (fun x => !Nat.beq x.slot p) = true) (hD : D.all (fun x => !Nat.beq x.1 p) = true)
    (hfit : Fits s P t cs) (hq : q (w.alloc (.cells cs t)) (.agg cs)) (hGs : AllL (fun x : Vr => Stb s x.val) G) (hDs : AllL (fun x : Nat × Pr => Stb s x.2) D) :
    St s P n (⟨p, t, q⟩ :: G) D wE (fun r => if r = p then w.heap.size else kf r) (a.put (some p) (.pointer (some ⟨w.heap.size, 0, none⟩))) (w.alloc (.cells cs t)) := by
  have hg : Grow w (w.alloc (.cells cs t)) := (Grow.refl w).alloc _
  have hev : Evo s w (w.alloc (.cells cs t)) := Evo.of_grow hg
  have hGne := slot_ne hG
  have hDne := fact_ne hD
  have hlt : ∀ x ∈ G, kf x.slot < w.heap.size := fun x hx => by
    obtain ⟨_, _, _, h3, _⟩ := hS.vars x hx
    exact (Array.getElem?_eq_some_iff.1 h3).1
  refine ⟨by rw [put_size]; exact hS.size, by rw [put_defers]; exact hS.defers, hS.grow.trans hg, fun x hx => ?_, fun x hx z hz hxz => ?_, fun x hx => ?_⟩
  · rcases List.mem_cons.1 hx with rfl | hx
    · simp only [if_true]
      exact ⟨mem_put (by rw [hS.size]; exact hp), hS.grow.size, cs, by unfold World.alloc; exact Array.getElem?_push_size, hfit, hq⟩
    · obtain ⟨h1, h2, c', h3, h4, h5⟩ := hS.vars x hx
      simp only [if_neg (hGne x hx)]
      exact ⟨by rw [put_other (fun e => hGne x hx (by injection e with e; exact e.symm))]; exact h1, h2, c', (Below.block hg _ (hlt x hx)).trans h3, h4, hGs.mem x hx _ _ _ h5 hev⟩
  · rcases List.mem_cons.1 hx with rfl | hx <;> rcases List.mem_cons.1 hz with rfl | hz
    · exact absurd rfl hxz
    · simp only [if_true, if_neg (hGne z hz)]
      have := hlt z hz
      omega
    · simp only [if_true, if_neg (hGne x hx)]
      have := hlt x hx
      omega
    · simp only [if_neg (hGne x hx), if_neg (hGne z hz)]
      exact hS.apart x hx z hz hxz
  · rw [put_other (fun e => hDne x hx (by injection e with e; exact e.symm))]
    exact hDs.mem x hx _ _ _ (hS.facts x hx) hev

/-- A region of a fixed order, one operation after the other. -/
theorem plain_seq {id m : Nat} {y : Code} (hm : ops.size = m) (h : wpOps P ops (Exit.then (y.wp P Q) Q) (List.range' 0 m) a w) : (Code.seq (.region id ops false) y).wp P Q a w := by
  refine wp_seq (wp_region ?_)
  rw [List.range_eq_range', hm]
  exact h
theorem plain_end {y : Code} {m : Nat} (h : y.wp P Q a w) : wpOps P ops (Exit.then (y.wp P Q) Q) (List.range' m 0) a w := h
/-- A variable that is made out of what a slot holds. -/
theorem box0 {m k p y : Nat} {t : TypeId} {q : Pr} (hS : St s P n G D wE kf a w) (hi : info ops m = some (some p, .box t (.tmp y), none)) (hp : decide (p < n) = true) (hG : G.all (fun x => !Nat.beq x.slot p) = true) (hD : D.all (fun x => !Nat.beq x.1 p) = true)
    (hy : (y, q) ∈ D) (hsh : ∀ w v, q w v → ∃ cs, v = .agg cs ∧ Fits s P t cs) (hGs : AllL (fun x : Vr => Stb s x.val) G) (hDs : AllL (fun x : Nat × Pr => Stb s x.2) D)
    (h : ∀ kf a w, St s P n (⟨p, t, q⟩ :: G) D wE kf a w → wpOps P ops Q (List.range' (m + 1) k) a w) : wpOps P ops Q (List.range' m (k + 1)) a w := by
  obtain ⟨o, ho, hd, hop, hg⟩ := info_some hi
  rw [List.range'_succ, wpOps_cons]
  refine run_wanted ho (by simp [Region.wanted, hg]) ?_
  obtain ⟨cs, hcs, hfit⟩ := hsh _ _ (hS.facts _ hy)
  unfold Oper.wp
  rw [run_box (ρ := a.eval) hop hcs]
  have hq := hDs.mem _ hy _ (w.alloc (.cells cs t)) _ (hS.facts _ hy) (Evo.of_grow ((Grow.refl w).alloc _))
  have hcs' : a.tmps.getD y undef = .agg cs := hcs
  rw [hcs'] at hq
  simp only at hd
  show wpOps P ops Q (List.range' (m + 1) k) (a.put o.dst _) _
  rw [hd]
  exact h _ _ _ (hS.mk_var (of_decide_eq_true hp) hG hD hfit hq hGs hDs)
/-- A new variable. -/
theorem alloc0 {m k p : Nat} {t : TypeId} (hS : St s P n G D wE kf a w) (hi : info ops m = some (some p, .alloc t, none)) (hp : decide (p < n) = true) (hG : G.all (fun x => !Nat.beq x.slot p) = true) (hD : D.all (fun x => !Nat.beq x.1 p) = true)
    (hz : zeroB s P t = true) (hGs : AllL (fun x : Vr => Stb s x.val) G) (hDs : AllL (fun x : Nat × Pr => Stb s x.2) D)
    (h : ∀ kf a w, St s P n (⟨p, t, fun _ _ => True⟩ :: G) D wE kf a w → wpOps P ops Q (List.range' (m + 1) k) a w) : wpOps P ops Q (List.range' m (k + 1)) a w := by
  obtain ⟨o, ho, hd, hop, hg⟩ := info_some hi
  rw [List.range'_succ, wpOps_cons]
  refine run_wanted ho (by simp [Region.wanted, hg]) ?_
  unfold Oper.wp
  rw [run_alloc (ρ := a.eval) hz hop]
  simp only at hd
  show wpOps P ops Q (List.range' (m + 1) k) (a.put o.dst _) _
  rw [hd]
  exact h _ _ _ (hS.mk_var (of_decide_eq_true hp) hG hD (zero_fits hz).1 trivial hGs hDs)
/-- A slot that gets a constant. -/
theorem const0 {m k p : Nat} {c : Value} (hS : St s P n G D wE kf a w) (hi : info ops m = some (some p, .assign (.const c), none)) (hp : decide (p < n) = true) (hG : G.all (fun x => !Nat.beq x.slot p) = true) (hD : D.all (fun x => !Nat.beq x.1 p) = true)
    (h : ∀ kf a w, St s P n G ((p, fun _ v => v = c) :: D) wE kf a w → wpOps P ops Q (List.range' (m + 1) k) a w) : wpOps P ops Q (List.range' m (k + 1)) a w := by
  obtain ⟨o, ho, hd, hop, hg⟩ := info_some hi
  rw [List.range'_succ, wpOps_cons]
  refine run_wanted ho (by simp [Region.wanted, hg]) ?_
  have hGne := slot_ne hG
  have hDne := fact_ne hD
  unfold Oper.wp
  have hrun : (execOp a.eval o).run P w = .ok (.value c) w := by
    simp only at hop
    simp [execOp, hop, Act.eval]
  rw [hrun]
  simp only at hd
  show wpOps P ops Q (List.range' (m + 1) k) (a.put o.dst _) _
  rw [hd]
  refine h kf _ _ ⟨by rw [put_size]; exact hS.size, by rw [put_defers]; exact hS.defers, hS.grow, fun x hx => ?_, hS.apart, fun x hx => ?_⟩
  · obtain ⟨h1, h2⟩ := hS.vars x hx
    exact ⟨by rw [put_other (fun e => hGne x hx (by injection e with e; exact e.symm))]; exact h1, h2⟩
  · rcases List.mem_cons.1 hx with rfl | hx
    · exact mem_put (by rw [hS.size]; exact of_decide_eq_true hp)
    · rw [put_other (fun e => hDne x hx (by injection e with e; exact e.symm))]
      exact hS.facts x hx

/-- A region, and what follows. -/
theorem region_seq {id : Nat} {b : Bool} {y : Code} {a0 : Act} {w0 : World} {kf0 : Nat → Nat} (hm : P.follows .mixedOrders = true) (hS : St s P n G D wE kf0 a0 w0) (F : Facts) (V : VS) (G' : List Vr) (D' : List (Nat × Pr)) (hwf : wfV n ops = true) (hok : okB s P ops (slots G) V = true)
    (hF : ∀ d, Stb s (F d)) (hGs : AllL (fun x : Vr => Stb s x.val) G) (hDs : AllL (fun x : Nat × Pr => Stb s x.2) D)
    (hal : AllL (fun x : Nat × Nat × TypeId => ∀ w v, F x.2.1 w v) V.al) (hst : AllL (fun x : Nat × Nat × Nat × TypeId => ∀ w v, F x.2.2.1 w v → ∃ cs, v = .agg cs ∧ Fits s P x.2.2.2 cs) V.st)
    (hG' : AllL (NewV P F G V) G') (hD' : AllL (NewD ops F D V) D')
    (step : ∀ i, i < ops.size → isAl V i = false → isSt V i = false → Step s P ops (Exit.then (y.wp P Q) Q) F G D V kf0 i)
    (fin : ∀ kf a w, St s P n G' D' wE kf a w → y.wp P Q a w) : (Code.seq (.region id ops b) y).wp P Q a0 w0 :=
  wp_seq (region hm hS F V G' D' hwf hok hF hGs hDs hal hst step hG' hD' fin)
theorem region_then {id : Nat} {b : Bool} {K : Act → World → Prop} {a0 : Act} {w0 : World} {kf0 : Nat → Nat} (hm : P.follows .mixedOrders = true) (hS : St s P n G D wE kf0 a0 w0) (F : Facts) (V : VS) (G' : List Vr) (D' : List (Nat × Pr)) (hwf : wfV n ops = true) (hok : okB s P ops (slots G) V = true)
    (hF : ∀ d, Stb s (F d)) (hGs : AllL (fun x : Vr => Stb s x.val) G) (hDs : AllL (fun x : Nat × Pr => Stb s x.2) D)
    (hal : AllL (fun x : Nat × Nat × TypeId => ∀ w v, F x.2.1 w v) V.al) (hst : AllL (fun x : Nat × Nat × Nat × TypeId => ∀ w v, F x.2.2.1 w v → ∃ cs, v = .agg cs ∧ Fits s P x.2.2.2 cs) V.st)
    (hG' : AllL (NewV P F G V) G') (hD' : AllL (NewD ops F D V) D')
    (step : ∀ i, i < ops.size → isAl V i = false → isSt V i = false → Step s P ops (Exit.then K Q) F G D V kf0 i)
    (fin : ∀ kf a w, St s P n G' D' wE kf a w → K a w) : (Code.region id ops b).wp P (Exit.then K Q) a0 w0 :=
  region hm hS F V G' D' hwf hok hF hGs hDs hal hst step hG' hD' fin
theorem skip_then {K : Act → World → Prop} (h : K a w) : Code.skip.wp P (Exit.then K Q) a w := wp_skip h
theorem cond_true {c : Nat} {q : Pr} {x y : Code} (hS : St s P n G D wE kf a w) (hc : (c, q) ∈ D) (hq : ∀ w v, q w v → v = .bool true) (h : x.wp P Q a w) : (Code.cond (.tmp c) x y).wp P Q a w := wp_cond_true (hq _ _ (hS.facts _ hc)) h
theorem cond_false {c : Nat} {q : Pr} {x y : Code} (hS : St s P n G D wE kf a w) (hc : (c, q) ∈ D) (hq : ∀ w v, q w v → v = .bool false) (h : y.wp P Q a w) : (Code.cond (.tmp c) x y).wp P Q a w := wp_cond_false (hq _ _ (hS.facts _ hc)) h
/-- Less is known. -/
theorem St.mono {G' : List Vr} {D' : List (Nat × Pr)} (hS : St s P n G D wE kf a w) (hG : AllL (fun x : Vr => ∃ y ∈ G, y.slot = x.slot ∧ y.ty = x.ty ∧ ∀ w v, y.val w v → x.val w v) G') (hD : AllL (fun x : Nat × Pr => ∃ y ∈ D, y.1 = x.1 ∧ ∀ w v, y.2 w v → x.2 w v) D') : St s P n G' D' wE kf a w := by
  refine ⟨hS.size, hS.defers, hS.grow, fun x hx => ?_, fun x hx z hz h => ?_, fun x hx => ?_⟩
  · obtain ⟨y, hy, e1, e2, e3⟩ := hG.mem x hx
    obtain ⟨h1, h2, cs, h3, h4, h5⟩ := hS.vars y hy
    rw [← e1, ← e2]
    exact ⟨h1, h2, cs, h3, h4, e3 _ _ h5⟩
  · obtain ⟨y, hy, e1, _⟩ := hG.mem x hx
    obtain ⟨u, hu, f1, _⟩ := hG.mem z hz
    rw [← e1, ← f1]
    exact hS.apart y hy u hu (by rw [e1, f1]; exact h)
  · obtain ⟨y, hy, e1, e2⟩ := hD.mem x hx
    have := hS.facts y hy
    rw [e1] at this
    exact e2 _ _ this

/-- What a function answers, slot by slot. -/
theorem res_cell {p : Nat} {t : TypeId} {q : Pr} (hS : St s P n G D wE kf a w) (hx : (⟨p, t, q⟩ : Vr) ∈ G) : ∃ ad v, (asAddr (a.tmps.getD p undef)).run P w = .ok ad w ∧ (loadVar t ad).run P w = .ok v w ∧ q w v := by
  obtain ⟨h1, _, cs, h3, h4, h5⟩ := hS.vars _ hx
  obtain ⟨d, hu, hd⟩ := agg_desc h4.agg
  refine ⟨⟨kf p, 0, none⟩, .agg cs, ?_, run_loadVar_row w _ t t cs _ d h3 hu (by cases d <;> first | rfl | exact hd) h4.size, h5⟩
  simp only at h1
  rw [h1]
  rfl
theorem ret_t {fn : Func} {R : Ending → World → Prop} {u : Nat} {q : Pr} (hr : fn.results = #[.tmp u]) (hS : St s P n G D wE kf a w) (hx : (u, q) ∈ D) (h : ∀ v, q w v → R (.returned v) w) : bodyPost P fn R .ret a w :=
  ⟨hS.defers, a.tmps.getD u undef, by simp [results, hr], h _ (hS.facts _ hx)⟩
theorem ret_c {fn : Func} {R : Ending → World → Prop} {p : Nat} {t : TypeId} {q : Pr} (hr : fn.results = #[.cell p t]) (hS : St s P n G D wE kf a w) (hx : (⟨p, t, q⟩ : Vr) ∈ G) (h : ∀ v, q w v → R (.returned v) w) : bodyPost P fn R .ret a w := by
  obtain ⟨ad, v, h1, h2, hq⟩ := res_cell hS hx
  refine ⟨hS.defers, v, ?_, h v hq⟩
  unfold results
  rw [hr]
  simp only [Array.getD_eq_getD_getElem?] at h1
  simp [h1, h2]
theorem ret_ct {fn : Func} {R : Ending → World → Prop} {p u : Nat} {t : TypeId} {q r : Pr} (hr : fn.results = #[.cell p t, .tmp u]) (hS : St s P n G D wE kf a w) (hx : (⟨p, t, q⟩ : Vr) ∈ G) (hy : (u, r) ∈ D) (h : ∀ v z, q w v → r w z → R (.returned (.tuple #[v, z])) w) : bodyPost P fn R .ret a w := by
  obtain ⟨ad, v, h1, h2, hq⟩ := res_cell hS hx
  refine ⟨hS.defers, .tuple #[v, a.tmps.getD u undef], ?_, h v _ hq (hS.facts _ hy)⟩
  unfold results
  rw [hr]
  simp only [Array.getD_eq_getD_getElem?] at h1
  simp [h1, h2]
theorem ret_cc {fn : Func} {R : Ending → World → Prop} {p u : Nat} {t t' : TypeId} {q r : Pr} (hr : fn.results = #[.cell p t, .cell u t']) (hS : St s P n G D wE kf a w) (hx : (⟨p, t, q⟩ : Vr) ∈ G) (hy : (⟨u, t', r⟩ : Vr) ∈ G) (h : ∀ v z, q w v → r w z → R (.returned (.tuple #[v, z])) w) : bodyPost P fn R .ret a w := by
  obtain ⟨ad, v, h1, h2, hq⟩ := res_cell hS hx
  obtain ⟨ad', z, h1', h2', hq'⟩ := res_cell hS hy
  refine ⟨hS.defers, .tuple #[v, z], ?_, h v z hq hq'⟩
  unfold results
  rw [hr]
  simp only [Array.getD_eq_getD_getElem?] at h1 h1'
  simp [h1, h2, h1', h2']
end
end Go.Proofs.YtlkiikchjeapfaaGreatDoor.Z
