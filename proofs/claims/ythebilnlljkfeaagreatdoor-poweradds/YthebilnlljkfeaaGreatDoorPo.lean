/- power.Poly: the value of a list of coefficients, from the last one on, by a loop over slices.Backward. -/
import Derived.Test.YthebilnlljkfeaaGreatDoorLX
import Derived.Test.YthebilnlljkfeaaGreatDoorPb
import Derived.Deep.WholeRow
namespace Go.Proofs.YthebilnlljkfeaaGreatDoor.X
set_option linter.unusedVariables false
open Go.RowKit Go.Proofs.YthebilnlljkfeaaGreatDoor.Z
section
variable {P:Program} {E:Env P}
def gS {κ:Type}:Option (Sx κ×List Prop)→Sx κ
 |some x=>x.1
 |none=>⟨[],[]⟩
def gP {κ:Type}:Option (Sx κ×List Prop)→List Prop
 |some x=>x.2
 |none=> []
theorem reg_in {n id m:Nat} {ops:Array Oper} {b:Bool} {h:Hint E.κ} {S SN:Sx E.κ} {r:Option Nat} {ds:List Deferred} {wE:World} {kf:Nat→Nat} {a:Act} {w:World} {Q:Exit→Act→World→Prop} (hm:P.follows .mixedOrders=true) (hr:(runReg E false n ops h S).isSome=true) (hp:AL (gP (runReg E false n ops h S))) (hN:Sb (gS (runReg E false n ops h S)) SN) (hd:noDf ops=true) (hS:SX n S wE kf a w)
  (fin: ∀kf' a' w',KV S.G kf kf'→SX n SN wE kf' a' w'→JS ops kf w w'→w.heap.size≤w'.heap.size→Q .normal (sh ds a') w'):(Code.region id ops b).wpIn {Fence.wide with round:=r} m P Q (sh ds a) w:=by
 cases hx:runReg E false n ops h S with
 |none=>rw [hx] at hr;cases hr
 |some x=>
  rw [hx] at hp hN
  have hD:=Dr.fin (runReg_drB (Q:=fun e a' w'=>e= .normal∧ ∃kf',w.heap.size≤w'.heap.size∧KV S.G kf kf'∧SX n SN wE kf' a' w'∧JS ops kf w w') (show runReg E false n ops h S=some (x.1,x.2) from hx) hp hS)
  have hw:=runReg_wf hx
  refine RW.codeIn hm hd (fun e a w h=>h.1) (fun a' w' h=> ?_) (hD.run hw fun a' w' h=> ?_)
  ·obtain ⟨_,kf',h0,h1,h2,h3⟩:=h
   exact fin kf' a' w' h1 h2 h3 h0
  ·obtain ⟨⟨kf',h0,h1,h2⟩,h3⟩:=h
   exact ⟨rfl,kf',h0,h1,hN.state h2,h3.2⟩
theorem reg_in0 {n id m:Nat} {ops:Array Oper} {b:Bool} {h:Hint E.κ} {S SN:Sx E.κ} {wE:World} {kf:Nat→Nat} {a:Act} {w:World} {Q:Exit→Act→World→Prop} (hm:P.follows .mixedOrders=true) (hr:(runReg E false n ops h S).isSome=true) (hp:AL (gP (runReg E false n ops h S))) (hN:Sb (gS (runReg E false n ops h S)) SN) (hd:noDf ops=true) (hS:SX n S wE kf a w)
  (fin: ∀kf' a' w',SX n SN wE kf' a' w'→Q .normal a' w'):(Code.region id ops b).wpIn Fence.wide m P Q a w:=by
 have:=reg_in (r:=none) (ds:= []) (id:=id) (m:=m) (b:=b) (Q:=Q) hm hr hp hN hd hS fun kf' a' w' _ h2 _ _=>by rw [sh_nil];exact fin kf' a' w' h2
 rwa [sh_nil] at this
theorem mkSX {n:Nat} {S:Sx E.κ} {wE:World} {kf:Nat→Nat} {a:Act} {w:World} (hsz:a.tmps.size=n) (hd:a.defers= []) (hg:Grow wE w) (hG: ∀x∈S.G,a.tmps.getD x.slot undef= .pointer (some ⟨kf x.slot,0,none⟩)∧wE.heap.size≤kf x.slot∧ ∃cs,w.heap[kf x.slot]? =some (.cells cs x.ty (0,0))∧Fits soft P x.ty cs∧(dS (E.dk (cxOf (gTy S.G) kf wE.heap.size)) kf (lvOf a) x.k).p w (.agg cs))
  (hap: ∀x∈S.G,∀y∈S.G,x.slot≠y.slot→kf x.slot≠kf y.slot) (hD: ∀x∈S.D,(dS (E.dk (cxOf (gTy S.G) kf wE.heap.size)) kf (lvOf a) x.2).p w (a.tmps.getD x.1 undef)):SX n S wE kf a w:=by
 refine ⟨hsz,hd,hg,vars_cx hG, ?_, ?_⟩
 ·intro x hx y hy
  obtain ⟨x',hx',rfl⟩:=List.mem_map.1 hx
  obtain ⟨y',hy',rfl⟩:=List.mem_map.1 hy
  obtain ⟨x2,hx2,rfl⟩:=List.mem_map.1 hx'
  obtain ⟨y2,hy2,rfl⟩:=List.mem_map.1 hy'
  exact hap x2 hx2 y2 hy2
 ·intro x hx
  obtain ⟨y,hy,rfl⟩:=List.mem_map.1 hx
  obtain ⟨z,hz,rfl⟩:=List.mem_map.1 hy
  exact hD z hz
theorem SX.var {n:Nat} {S:Sx E.κ} {wE:World} {kf:Nat→Nat} {a:Act} {w:World} (hS:SX n S wE kf a w) {x:Vx E.κ} (hx:x∈S.G):a.tmps.getD x.slot undef= .pointer (some ⟨kf x.slot,0,none⟩)∧wE.heap.size≤kf x.slot∧ ∃cs,w.heap[kf x.slot]? =some (.cells cs x.ty (0,0))∧Fits soft P x.ty cs∧(dS (E.dk (cxOf (gTy S.G) kf wE.heap.size)) kf (lvOf a) x.k).p w (.agg cs):=
 hS.vars _ (List.mem_map.2 ⟨_,List.mem_map.2 ⟨x,hx,rfl⟩,rfl⟩)
end
def qlen (q:Rat):Nat:=max 1 (max (Mx.len q.num.natAbs) (Mx.len q.den))
theorem isQ_lo {w:World} {v:Value} {q:Rat} {k j:Nat} (h:isQ q k w v) (hj:qlen q≤j):isQ q j w v:=by
 obtain ⟨_,n,h1,h2⟩:=h
 have e:Mx.len q.num.natAbs≤j∧Mx.len q.den≤j∧1≤j:=by unfold qlen at hj;omega
 refine ⟨e.2.2,n,h1.re e.1 ?_,h2⟩
 rcases h2 with rfl|⟨rfl,_⟩
 ·exact e.2.1
 ·exact Nat.zero_le _
theorem qlen_le {w:World} {v:Value} {q:Rat} {k:Nat} (h:isQ q k w v):qlen q≤k:=by
 have a:=IsQ.num_len h
 have b:=IsQ.den_len h
 have c:=h.1
 unfold qlen
 omega
theorem qlen_mul (a b:Rat):qlen (a*b)≤qlen a+qlen b:=by
 have e:=mul_rat a b
 have d:(a*b).den≤a.den*b.den:=by
  rw [←e.2]
  exact Nat.mul_le_mul (Nat.div_le_self _ _) (Nat.div_le_self _ _)
 have n:(a*b).num.natAbs≤a.num.natAbs*b.num.natAbs:=by
  rw [←e.1,Int.natAbs_mul]
  exact Nat.mul_le_mul (Int.natAbs_ediv_le_natAbs _ _) (Int.natAbs_ediv_le_natAbs _ _)
 have l1:=Nat.le_trans (Mx.len_mono d) (Mx.len_mul _ _)
 have l2:=Nat.le_trans (Mx.len_mono n) (Mx.len_mul _ _)
 unfold qlen
 omega
theorem qlen_add (a b:Rat):qlen (a+b)≤qlen a+qlen b+1:=by
 have d:=Nat.le_trans (Mx.len_mono (den_add_dvd a b)) (Mx.len_mul _ _)
 have n:=num_add_len (a:=a) (b:=b) (k:=qlen a) (j:=qlen b) (by unfold qlen;omega) (by unfold qlen;omega) (by unfold qlen;omega) (by unfold qlen;omega)
 have q:qlen a+qlen b≥Mx.len a.den+Mx.len b.den:=by unfold qlen;omega
 show max 1 (max (Mx.len (a+b).num.natAbs) (Mx.len (a+b).den))≤_
 omega
def KeepC (w w':World):Prop:=w.heap.size≤w'.heap.size∧ ∀(b:Nat) cs t fr,w.heap[b]? =some (.cells cs t fr)→w'.heap[b]? =some (.cells cs t fr)
theorem KeepC.cell {w w':World} (h:KeepC w w') {p:Addr} {x:Value} (hc:w.cell? p=some x):w'.cell? p=some x:=by
 unfold World.cell? at hc⊢
 split at hc
 ·next e=>rw [h.2 _ _ _ _ e];exact hc
 ·cases hc
theorem Cells.keepC {w w':World} {A:Option Addr} {l:List Nat} (h:Cells w A l) (g:KeepC w w'):Cells w' A l:=fun hn=>by
 obtain ⟨b,o,e,hb,hc⟩:=h hn
 exact ⟨b,o,e,Nat.lt_of_lt_of_le hb g.1,fun j x hx=>g.cell (hc j x hx)⟩
theorem isQ_keep {w w':World} {v:Value} {q:Rat} {k:Nat} (h:isQ q k w v) (g:KeepC w w'):isQ q k w' v:=by
 obtain ⟨h0,n,⟨A,l,c,A',l',c',e,⟨⟨B1,b1,e1,p1,p2⟩,p3⟩,⟨⟨B2,b2,e2,q1,q2⟩,q3⟩⟩,h2⟩:=h
 exact ⟨h0,n,⟨A,l,c,A',l',c',e,⟨⟨B1,b1,e1,p1,Cells.keepC p2 g⟩,p3⟩,⟨⟨B2,b2,e2,q1,Cells.keepC q2 g⟩,q3⟩⟩,h2⟩
theorem isQ_grow {w w':World} {v:Value} {q:Rat} {k:Nat} (h:isQ q k w v) (g:Grow w w'):isQ q k w' v:=stb_Q q k w w' v h (Evo.of_grow g)
theorem keepC_of {w w':World} {row:Option Nat} (hg:w.grownBy w' row) (hr: ∀r,row=some r→ ∃o:Obj,w.heap[r]? =some o∧o.isCells=false):KeepC w w':=
 ⟨hg.size,fun b cs t fr h=>(hg.block b (Z.lt_heap h) fun e=>by obtain ⟨o,ho,hc⟩:=hr b e.symm;rw [h] at ho;cases ho;cases hc).trans h⟩
theorem grow_of {a w w':World} {row:Option Nat} (h:Grow a w) (hg:w.grownBy w' row) (hr: ∀r,row=some r→a.heap.size≤r):Grow a w':=
 ⟨hg.os.trans h.os,hg.tape.trans h.tape,hg.output.trans h.output,Nat.le_trans h.size hg.size,fun b hb=>(hg.block b (Nat.lt_of_lt_of_le hb h.size) fun e=>by have:=hr b e.symm;omega).trans (Below.block h b hb)⟩
def polQ (x:Rat) (l:List Rat):Rat:=l.foldr (fun c s=>s*x+c) 0
noncomputable abbrev Pf:Func:=Tryz.f25
abbrev FT:TypeId:=28
abbrev Co (w:World) (j:Nat):Type:={p:Nat×Rat×List Value//p.2.2.length=3∧isQ p.2.1 j w (.agg p.2.2.toArray)}
abbrev g3 {w:World} {j:Nat} (y:Co w j):Value×Value×Value:=(y.1.2.2.getD 0 undef,y.1.2.2.getD 1 undef,y.1.2.2.getD 2 undef)
theorem agg3 {l:List Value} (h:l.length=3):Value.agg #[l.getD 0 undef,l.getD 1 undef,l.getD 2 undef]= .agg l.toArray:=by
 match l,h with
 | [a,b,c],_=>rfl
theorem mkCo {w:World} {j:Nat}: ∀{l:List Rat} {rows:List (List Value)} {i:Nat},All2 (fun (p:Pr) (r:List Value)=>p w (.agg r.toArray)) (l.map fun q=>(isQ q j:Pr)) rows→rowsB 3 rows→ ∃xs:List (Co w j),xs.length=rows.length∧(∀k y,xs[k]? =some y→y.1.1=i+k∧rows[k]? =some y.1.2.2)∧xs.map (·.1.2.1)=l:=by
 intro l
 induction l with
 |nil=>
  intro rows i h _
  cases rows with
  |nil=>exact ⟨[],rfl,fun k y h=>by simp at h,rfl⟩
  |cons r rs=>exact h.elim
 |cons q l ih=>
  intro rows i h h3
  cases rows with
  |nil=>exact h.elim
  |cons r rs=>
   obtain ⟨h1,h2⟩:=h
   obtain ⟨xs,e1,e2,e3⟩:=ih (i:=i+1) h2 fun x hx=>h3 x (.tail _ hx)
   refine ⟨⟨(i,q,r),h3 r (.head _),h1⟩::xs,by simp [e1],fun k y hy=> ?_,by simp [e3]⟩
   cases k with
   |zero=>
    simp at hy
    subst hy
    exact ⟨rfl,rfl⟩
   |succ k=>
    obtain ⟨a,b⟩:=e2 k y (by simpa using hy)
    exact ⟨by rw [a];omega,by simpa using b⟩
theorem hor_rev (x:Rat) {w:World} {j:Nat} (xs:List (Co w j)):xs.reverse.foldl (fun s y=>s*x+y.1.2.1) 0=polQ x (xs.map (·.1.2.1)):=by
 rw [List.foldl_reverse,polQ,List.foldr_map]
theorem hor_len (x:Rat) {w:World} {j:Nat} (pre:List (Co w j)):qlen (pre.foldl (fun s y=>s*x+y.1.2.1) 0)≤pre.length*(qlen x+j+1)+1:=by
 have key: ∀(pre:List (Co w j)) (s:Rat),qlen (pre.foldl (fun s y=>s*x+y.1.2.1) s)≤qlen s+pre.length*(qlen x+j+1):=by
  intro pre
  induction pre with
  |nil=>intro s;simp
  |cons y r ih=>
   intro s
   refine Nat.le_trans (ih _) ?_
   have a:=qlen_add (s*x) y.1.2.1
   have b:=qlen_mul s x
   have c:=qlen_le y.2.2
   simp only [List.length_cons,Nat.add_mul,Nat.one_mul]
   omega
 have:=key pre 0
 have e:qlen 0=1:=by decide
 omega
noncomputable def ctPo:List (Ct dk):= [ct2 22 0 en22 vQ vQ (fun x y=> .s (.O (.Q (x.1*y.1) (x.2+y.2)))) (fun x y=> [x.2≤268435456,y.2≤268435456]) fun _ _ p _ _ _ h1 h2=>mul_q h1 h2 p.1 p.2.1,
 ct2 21 0 en21 vQ vQ (fun x y=> .s (.O (.Q (x.1+y.1) (x.2+y.2+1)))) (fun x y=> [x.2≤268435456,y.2≤268435456]) fun _ _ p _ _ _ h1 h2=>add_q h1 h2 p.1 p.2.1]
noncomputable abbrev EP:Env Tryz.prog:=En ctPo
def findF:Code→Option (Code×Code)
 | .rangeFunc _ _ a b=>some (a,b)
 | .seq x y=>match findF x with
  |some z=>some z
  |none=>findF y
 | .block _ c=>findF c
 |_=>none
def opsC:Code→Array Oper
 | .region _ ops _=>ops
 | .block _ c=>opsC c
 |_=> #[]
noncomputable abbrev rPo (r:Nat):Array Oper:=Go.Proofs.YthebilnlljkfeaaGreatDoor.Rg.regionOps Pf r
noncomputable abbrev rPa:Array Oper:=opsC ((Pf.body.bind findF).getD (.skip, .skip)).1
noncomputable abbrev rPb:Array Oper:=opsC ((Pf.body.bind findF).getD (.skip, .skip)).2
def SLv (x:Rat) (k:Nat) (s:Rat) (m:Nat) (D:DL K) (G:List (Vx K)):Sx K:=⟨D,[⟨2,FT, .O (.Q x k)⟩,⟨4,FT, .X⟩,⟨5,FT, .O (.Q s m)⟩]++G⟩
structure PV (w:World) (kf:Nat→Nat) (x:Rat) (k:Nat) (s:Rat) (W:World):Prop where
 gr:Grow w W
 hx: ∃cs,W.heap[kf 2]? =some (.cells cs FT (0,0))∧isQ x k W (.agg cs)
 hr: ∃cs,W.heap[kf 4]? =some (.cells cs FT (0,0))∧Fits soft Tryz.prog FT cs
 hs: ∃cs,W.heap[kf 5]? =some (.cells cs FT (0,0))∧isQ s (qlen s) W (.agg cs)
theorem PV.keep {w:World} {kf:Nat→Nat} {x:Rat} {k:Nat} {s:Rat} {W W':World} (h:PV w kf x k s W) (g:KeepC W W') (hg:Grow w W'):PV w kf x k s W':=by
 obtain ⟨_,⟨c1,a1,b1⟩,⟨c2,a2,b2⟩,⟨c3,a3,b3⟩⟩:=h
 exact ⟨hg,⟨c1,g.2 _ _ _ _ a1,isQ_keep b1 g⟩,⟨c2,g.2 _ _ _ _ a2,b2⟩,⟨c3,g.2 _ _ _ _ a3,isQ_keep b3 g⟩⟩
theorem PV.xq {w:World} {kf:Nat→Nat} {x:Rat} {k:Nat} {s:Rat} {W:World} (h:PV w kf x k s W):isQ x k W (.agg h.hx.choose):=h.hx.choose_spec.2
theorem fitQ {q:Rat} {k:Nat} {w:World} {cs:Array Value} (h:isQ q k w (.agg cs)):Fits soft Tryz.prog FT cs:=by
 obtain ⟨cs',e,hf⟩:=shQ w _ h
 cases e
 exact hf
noncomputable abbrev hPo (r:Nat):Hint K:=if r=1 then [(0,0,some (.s (.O (.Q 0 1))))] else []
theorem q0_F {w:World} {v:Value} (e:v= .agg (zeroOf Tryz.prog FT)):isQ 0 1 w v:=
 IsF.q0 ⟨none,0,0,none,0,0,e.trans (congrArg Value.agg (by kernel_rfl)),(IsN.zero w).weak (Nat.zero_le 1),(IsN.zero w).weak (Nat.zero_le 1)⟩
theorem rest_eq:rest Pf=Code.seq (.region 1 (rPo 1) false) (Code.seq (Code.seq (.region 2 (rPo 2) false) (.block 0 (.rangeFunc (.tmp 9) #[10,11] (.region 3 rPa false) (.block 1 (.region 4 rPb true))))) (Code.seq (.region 5 (rPo 5) false) .ret)):=by kernel_rfl
abbrev LT:TypeId:=61
abbrev fB:Nat:=86
theorem wanted_of {o:Oper} {y:Nat→Option Bool} (h:o.guard=none):Region.wanted o y=true:=by
 unfold Region.wanted
 rw [h]
theorem reg2 {sv:Value} {A:Option Addr} {n c:Nat} {a:Act} {w:World} {Q:Exit→Act→World→Prop} (e:sv= .slice A n c) (h1:a.tmps.getD 1 undef=sv) (hs:a.tmps.size=18) (fin:Q .normal ((a.put (some 8) sv).put (some 9) (.func (.func fB) #[] #[.pointer (some ⟨w.heap.size,0,none⟩)])) (w.alloc (.cells #[sv] LT))):(Code.region 2 (rPo 2) false).wp Tryz.prog Q a w:=by
 subst e
 refine wp_region ?_
 rw [show List.range (rPo 2).size= [0,1] by kernel_rfl,wpOps_cons]
 obtain ⟨o,ho,hd,hop,hg⟩:=Z.info_some (show Rg.info (rPo 2) 0=some (some 8, .move (.tmp 1),none) by kernel_rfl)
 obtain ⟨o',ho',hd',hop',hg'⟩:=Z.info_some (show Rg.info (rPo 2) 1=some (some 9, .call {callee:= .value (.func 57),args:= #[.tmp 8],argTypes:= #[LT]},none) by kernel_rfl)
 refine Rg.run_wanted ho (wanted_of hg) ?_
 have hrun:(execOp a.eval o).run Tryz.prog w= .ok (.value (.slice A n c)) w:=by
  rw [←h1]
  simp [execOp,hop,Act.eval]
 unfold Oper.wp
 rw [hrun]
 rw [Oper.upon_value,hd,wpOps_cons]
 refine Rg.run_wanted ho' (wanted_of hg') ?_
 have h8:(a.put (some 8) (.slice A n c)).tmps.getD 8 undef= .slice A n c:=Z.mem_put (by omega)
 have hrun':(execOp (a.put (some 8) (.slice A n c)).eval o').run Tryz.prog w= .ok (.enter 57 #[.slice A n c]) w:=by
  simp only [execOp,hop',resolve,Deferred.ofValue,Act.eval,Sem.run_bind,Sem.run_pure,Result.andThen_ok,invoke,Array.append_empty,Array.empty_append]
  simp only [List.map_toArray,List.map_cons,List.map_nil,Act.eval,h8]
  exact en57 _ _
 unfold Oper.wp
 rw [hrun']
 refine (callsIn_wide.1 (back_in Fence.wide 5 trivial rfl A n c w)).mono ?_
 rintro e w' ⟨rfl,rfl⟩
 show wpOps _ _ _ [] (Act.put _ o'.dst _) _
 rw [hd']
 exact fin
structure KO (w:World) (kf:Nat→Nat):Prop where
 l2:w.heap.size≤kf 2
 l4:w.heap.size≤kf 4
 l5:w.heap.size≤kf 5
 n24:kf 2≠kf 4
 n25:kf 2≠kf 5
 n45:kf 4≠kf 5
structure PA (kf:Nat→Nat) (a:Act):Prop where
 df:a.defers= []
 sz:a.tmps.size=18
 p2:a.tmps.getD 2 undef= .pointer (some ⟨kf 2,0,none⟩)
 p4:a.tmps.getD 4 undef= .pointer (some ⟨kf 4,0,none⟩)
 p5:a.tmps.getD 5 undef= .pointer (some ⟨kf 5,0,none⟩)
theorem toSX {w W:World} {kf:Nat→Nat} {x s:Rat} {k:Nat} {a:Act} {D:DL K} (hV:PV w kf x k s W) (hA:PA kf a) (hK:KO w kf) (hD: ∀z∈D,(dS (EP.dk (cxOf (gTy (SLv x k s (qlen s) D []).G) kf w.heap.size)) kf (lvOf a) z.2).p W (a.tmps.getD z.1 undef)):SX (E:=EP) 18 (SLv x k s (qlen s) D []) w kf a W:=by
 refine mkSX hA.sz hA.df hV.gr (fun z hz=> ?_) (fun y hy z hz hyz=> ?_) hD
 ·rcases List.mem_cons.1 hz with rfl|hz
  ·obtain ⟨cs,e,h⟩:=hV.hx
   exact ⟨hA.p2,hK.l2,cs,e,fitQ h,h⟩
  rcases List.mem_cons.1 hz with rfl|hz
  ·obtain ⟨cs,e,h⟩:=hV.hr
   exact ⟨hA.p4,hK.l4,cs,e,h,trivial⟩
  rcases List.mem_cons.1 hz with rfl|hz
  ·obtain ⟨cs,e,h⟩:=hV.hs
   exact ⟨hA.p5,hK.l5,cs,e,fitQ h,h⟩
  cases hz
 ·have e: ∀z:Vx K,z∈(SLv x k s (qlen s) D []).G→z.slot=2∨z.slot=4∨z.slot=5:=fun z hz=>by
   rcases List.mem_cons.1 hz with rfl|hz
   ·exact .inl rfl
   rcases List.mem_cons.1 hz with rfl|hz
   ·exact .inr (.inl rfl)
   rcases List.mem_cons.1 hz with rfl|hz
   ·exact .inr (.inr rfl)
   cases hz
  rcases e y hy with h1|h1|h1<;>rcases e z hz with h2|h2|h2<;>rw [h1,h2] at hyz⊢ <;>first
   |exact absurd rfl hyz
   |exact hK.n24
   |exact hK.n25
   |exact hK.n45
   |exact hK.n24.symm
   |exact hK.n25.symm
   |exact hK.n45.symm
theorem toSX7 {w W:World} {kf:Nat→Nat} {x s q:Rat} {k j b7:Nat} {a:Act} (hV:PV w kf x k s W) (hA:PA kf a) (hK:KO w kf) (n2:b7≠kf 2) (n4:b7≠kf 4) (n5:b7≠kf 5) (hb:w.heap.size≤b7) (hp:a.tmps.getD 7 undef= .pointer (some ⟨b7,0,none⟩)) (hc: ∃cs,W.heap[b7]? =some (.cells cs FT (0,0))∧isQ q j W (.agg cs)):SX (E:=EP) 18 (SLv x k s (qlen s) [] [⟨7,FT, .O (.Q q j)⟩]) w (fun i=>if i=7 then b7 else kf i) a W:=by
 refine mkSX hA.sz hA.df hV.gr (fun z hz=> ?_) (fun y hy z hz hyz=> ?_) (fun z hz=>by cases hz)
 ·rcases List.mem_cons.1 hz with rfl|hz
  ·obtain ⟨cs,e,h⟩:=hV.hx
   exact ⟨hA.p2,hK.l2,cs,e,fitQ h,h⟩
  rcases List.mem_cons.1 hz with rfl|hz
  ·obtain ⟨cs,e,h⟩:=hV.hr
   exact ⟨hA.p4,hK.l4,cs,e,h,trivial⟩
  rcases List.mem_cons.1 hz with rfl|hz
  ·obtain ⟨cs,e,h⟩:=hV.hs
   exact ⟨hA.p5,hK.l5,cs,e,fitQ h,h⟩
  rcases List.mem_cons.1 hz with rfl|hz
  ·obtain ⟨cs,e,h⟩:=hc
   exact ⟨hp,hb,cs,e,fitQ h,h⟩
  cases hz
 ·have e: ∀z:Vx K,z∈(SLv x k s (qlen s) [] [⟨7,FT, .O (.Q q j)⟩]).G→z.slot=2∨z.slot=4∨z.slot=5∨z.slot=7:=fun z hz=>by
   rcases List.mem_cons.1 hz with rfl|hz
   ·exact .inl rfl
   rcases List.mem_cons.1 hz with rfl|hz
   ·exact .inr (.inl rfl)
   rcases List.mem_cons.1 hz with rfl|hz
   ·exact .inr (.inr (.inl rfl))
   rcases List.mem_cons.1 hz with rfl|hz
   ·exact .inr (.inr (.inr rfl))
   cases hz
  rcases e y hy with h1|h1|h1|h1<;>rcases e z hz with h2|h2|h2|h2<;>rw [h1,h2] at hyz⊢ <;>first
   |exact absurd rfl hyz
   |exact hK.n24
   |exact hK.n25
   |exact hK.n45
   |exact hK.n24.symm
   |exact hK.n25.symm
   |exact hK.n45.symm
   |exact n2
   |exact n4
   |exact n5
   |exact n2.symm
   |exact n4.symm
   |exact n5.symm
theorem ofSX {w W:World} {kf kf':Nat→Nat} {x s:Rat} {k m:Nat} {a:Act} {D:DL K} {G:List (Vx K)} (h:SX (E:=EP) 18 (SLv x k s m D G) w kf' a W) (e2:kf' 2=kf 2) (e4:kf' 4=kf 4) (e5:kf' 5=kf 5):PV w kf x k s W∧PA kf a:=by
 obtain ⟨p2,_,c2,h2,_,q2⟩:=SX.var h (x:=⟨2,FT, .O (.Q x k)⟩) (.head _)
 obtain ⟨p4,_,c4,h4,f4,_⟩:=SX.var h (x:=⟨4,FT, .X⟩) (.tail _ (.head _))
 obtain ⟨p5,_,c5,h5,_,q5⟩:=SX.var h (x:=⟨5,FT, .O (.Q s m)⟩) (.tail _ (.tail _ (.head _)))
 exact ⟨⟨h.grow,⟨c2,e2▸h2,q2⟩,⟨c4,e4▸h4,f4⟩,⟨c5,e5▸h5,isQ_lo q5 (Nat.le_refl _)⟩⟩,⟨h.defers,h.size,e2▸p2,e4▸p4,e5▸p5⟩⟩
theorem put_ne {a:Act} {p q:Nat} {v:Value} (h:q≠p) (hs:p<a.tmps.size):(a.put (some p) v).tmps.getD q undef=a.tmps.getD q undef:=by rw [Rg.put_getD a p q v hs,if_neg (Ne.symm h)]
theorem pa_put {kf:Nat→Nat} {a:Act} {p:Nat} {v:Value} (h:PA kf a) (h2:2≠p) (h4:4≠p) (h5:5≠p) (hp:p<18):PA kf (a.put (some p) v):=
 have hs:p<a.tmps.size:=by rw [h.sz];exact hp
 ⟨h.df,by rw [show (a.put (some p) v).tmps.size=a.tmps.size from Array.size_setIfInBounds,h.sz],(put_ne h2 hs).trans h.p2,(put_ne h4 hs).trans h.p4,(put_ne h5 hs).trans h.p5⟩
def Ax {w:World} {j:Nat} (kf:Nat→Nat) (y:Co w j) (a:Act) (W:World):Prop:=PA kf a∧ ∃b7,b7≠kf 2∧b7≠kf 4∧b7≠kf 5∧w.heap.size≤b7∧a.tmps.getD 7 undef= .pointer (some ⟨b7,0,none⟩)∧ ∃cs,W.heap[b7]? =some (.cells cs FT (0,0))∧isQ y.1.2.1 j W (.agg cs)
theorem poly_assign {w W:World} {kf:Nat→Nat} {x s:Rat} {k j l m B Bs:Nat} {y:Co w j} {a:Act} {Q:Exit→Act→World→Prop} (hK:KO w kf) (hV:PV w kf x k s W) (hA:PA kf a) (h11:a.tmps.getD 11 undef= .agg #[(g3 y).1,(g3 y).2.1,(g3 y).2.2]) (hB:Bs<W.heap.size)
  (fin: ∀a' W',KeepsFrom B W W'→KeepB w.heap.size Bs W W'→W.heap.size≤W'.heap.size→PV w kf x k s W'→Ax kf y a' W'→Q .normal a' W'):(Code.region 3 rPa false).wpIn (Fence.wide.inRound l) m Tryz.prog Q a W:=by
 have hq:isQ y.1.2.1 j W (.agg #[(g3 y).1,(g3 y).2.1,(g3 y).2.2]):=by rw [agg3 y.2.1];exact isQ_grow y.2.2 hV.gr
 have hfit:=fitQ hq
 have hz:zeroB soft Tryz.prog FT=true:=by kernel_rfl
 have hsz:(zeroOf Tryz.prog FT).size=(#[(g3 y).1,(g3 y).2.1,(g3 y).2.2]:Array Value).size:=Option.some.inj ((Z.zero_fits hz).1.size.symm.trans hfit.size)
 have hgr:Grow W (W.alloc (.cells #[(g3 y).1,(g3 y).2.1,(g3 y).2.2] FT)):=(Grow.refl W).alloc _
 have kc:KeepC W (W.alloc (.cells #[(g3 y).1,(g3 y).2.1,(g3 y).2.2] FT)):=keepC_of (World.grownBy_alloc W _ none) fun r e=>by cases e
 have same: ∀b,b<W.heap.size→(W.alloc (.cells #[(g3 y).1,(g3 y).2.1,(g3 y).2.2] FT)).heap[b]? =W.heap[b]? :=fun b hb=>Below.block hgr b hb
 have l2:kf 2<W.heap.size:=by obtain ⟨c,h,_⟩:=hV.hx;exact Z.lt_heap h
 have l4:kf 4<W.heap.size:=by obtain ⟨c,h,_⟩:=hV.hr;exact Z.lt_heap h
 have l5:kf 5<W.heap.size:=by obtain ⟨c,h,_⟩:=hV.hs;exact Z.lt_heap h
 have hg:=hV.gr.size
 have hs:7<a.tmps.size:=by rw [hA.sz];decide
 have hfin:=fin (a.put (some 7) (.pointer (some ⟨W.heap.size,0,none⟩))) (W.alloc (.cells #[(g3 y).1,(g3 y).2.1,(g3 y).2.2] FT)) ⟨hgr.size,fun i o _ hi _=>(same i (Z.lt_heap hi)).trans hi⟩ (fun b hb=>same b (by omega)) hgr.size (hV.keep kc (hV.gr.trans hgr)) ⟨pa_put hA (by decide) (by decide) (by decide) (by decide),W.heap.size,by omega,by omega,by omega,hg,Z.mem_put hs,_,World.alloc_heap_new W _,isQ_grow hq hgr⟩
 obtain ⟨o,ho,hd,hop,hgu⟩:=Z.info_some (show Rg.info rPa 0=some (some 7, .alloc FT,none) by kernel_rfl)
 obtain ⟨o',ho',hd',hop',hgu'⟩:=Z.info_some (show Rg.info rPa 1=some (none, .store FT (.tmp 7) (.tmp 11),none) by kernel_rfl)
 have hrun:RW Tryz.prog rPa (fun e a' w'=>e= .normal∧a'=a.put (some 7) (.pointer (some ⟨W.heap.size,0,none⟩))∧w'=W.alloc (.cells #[(g3 y).1,(g3 y).2.1,(g3 y).2.2] FT)) false a W:=by
  unfold RW
  simp only
  rw [show List.range' 0 rPa.size= [0,1] by kernel_rfl,wpOps_cons]
  refine Rg.run_wanted ho (wanted_of hgu) ?_
  unfold Oper.wp
  rw [run_alloc (ρ:=a.eval) hz hop,Oper.upon_value,hd,wpOps_cons]
  refine Rg.run_wanted ho' (wanted_of hgu') ?_
  unfold Oper.wp
  rw [Z.run_store (ρ:=(a.put (some 7) (.pointer (some ⟨W.heap.size,0,none⟩))).eval) (cs:= #[(g3 y).1,(g3 y).2.1,(g3 y).2.2]) hop' (Z.mem_put hs) ((put_ne (by decide) hs).trans h11) (World.alloc_heap_new W _) hsz hfit,Oper.upon_skip,World.setRow_alloc_new,hd']
  exact ⟨rfl,rfl,rfl⟩
 have:=RW.codeIn (r:=some l) (n:=m) (id:=3) (ds:= []) (Q':=Q) mo (by kernel_rfl) (fun _ _ _ h=>h.1) (fun a' w' h=>by
  obtain ⟨_,rfl,rfl⟩:=h
  rw [sh_nil]
  exact hfin) hrun
 rwa [sh_nil] at this
theorem poly_body {w W:World} {kf:Nat→Nat} {x s:Rat} {k j l m B Bs:Nat} {y:Co w j} {a:Act} {Q:Exit→Act→World→Prop} (hk:k≤1000000) (hj:j≤1000000) (hl:qlen s≤250000000) (hK:KO w kf) (hV:PV w kf x k s W) (hA:Ax kf y a W) (hB:kf 5<Bs) (hB2:Bs<W.heap.size)
  (fin: ∀a' W',KeepsFrom B W W'→KeepB w.heap.size Bs W W'→W.heap.size≤W'.heap.size→PV w kf x k (s*x+y.1.2.1) W'→Q .normal a' W'):(Code.region 4 rPb true).wpIn (Fence.wide.inRound l) m Tryz.prog Q a W:=by
 obtain ⟨hA,b7,n2,n4,n5,hb,hp,hc⟩:=hA
 have hS:=toSX7 hV hA hK n2 n4 n5 hb hp hc
 have:=reg_in (E:=EP) (r:=some l) (ds:= []) (id:=4) (m:=m) (b:=true) (Q:=Q) (h:= []) (SN:=SLv x k (s*x+y.1.2.1) (qlen s+k+j+1) [] []) mo (by kernel_rfl) (vcP (qlen s≤268435456∧k≤268435456∧qlen s+k≤268435456∧j≤268435456∧True) ⟨by omega,by omega,by omega,by omega,trivial⟩) ⟨by kernel_rfl,by kernel_rfl⟩ (by kernel_rfl) hS fun kf' a' W' hkv hS' hjs hsz=>by
  rw [sh_nil]
  have e2:kf' 2=kf 2:=hkv _ (.head _)
  have e4:kf' 4=kf 4:=hkv _ (.tail _ (.head _))
  have e5:kf' 5=kf 5:=hkv _ (.tail _ (.tail _ (.head _)))
  have same: ∀b,b<W.heap.size→kf 5≠b→W'.heap[b]? =W.heap[b]? :=fun b hb hn=>hjs b hb fun i p z t hz _=>by
   rw [show stOf rPb= [(5,5,16,FT)] by kernel_rfl] at hz
   cases List.mem_singleton.1 hz
   exact hn
  obtain ⟨hV',hA'⟩:=ofSX (kf:=kf) hS' e2 e4 e5
  obtain ⟨c5,h5,_⟩:=hV.hs
  have hl5:=hK.l5
  refine fin a' W' ⟨hsz,fun i o _ hi ho=>(same i (Z.lt_heap hi) fun e=> ?_).trans hi⟩ (fun b hb=> ?_) hsz hV'
  ·rw [←e,h5] at hi
   cases hi
   cases ho
  ·rcases Nat.lt_or_ge b W.heap.size with h|h
   ·refine same b h fun e=> ?_
    rcases hb with hb|hb<;>omega
   ·rcases hb with hb|rfl
    ·exact absurd (Nat.lt_of_lt_of_le hb hV.gr.size) (Nat.not_lt.2 h)
    ·exact absurd hB2 (Nat.not_lt.2 h)
 rwa [sh_nil] at this
theorem poly_done {w W:World} {kf:Nat→Nat} {x s:Rat} {k D:Nat} {a:Act} {R:Ending→World→Prop} (hK:KO w kf) (hV:PV w kf x k s W) (hA:PA kf a) (hD:w.heap.size≤D) (hd:W.heap[D]? =some (.deferred (some []))) (hR: ∀v W,Grow w W→isQ s (qlen s) W v→R (.returned v) W):(Code.seq (.region 5 (rPo 5) false) .ret).wpIn Fence.wide 6 Tryz.prog (bodyPostM Fence.wide 6 Tryz.prog Pf R) {a with defers:={target:= .collected D,args:= #[]}::a.defers} W:=by
 have ea:({a with defers:={target:= .collected D,args:= #[]}::a.defers}:Act)=sh [{target:= .collected D,args:= #[]}] a:=by
  show _=({a with defers:=a.defers++_}:Act)
  rw [hA.df]
  rfl
 rw [ea]
 have hS:=toSX (D:= []) hV hA hK fun z hz=>by cases hz
 refine wpIn_seq (reg_in (E:=EP) (r:=none) (h:= []) (SN:=⟨[],[⟨4,FT, .O (.Q s (qlen s))⟩]⟩) mo (by kernel_rfl) (vcP True trivial) ⟨by kernel_rfl,by kernel_rfl⟩ (by kernel_rfl) hS fun kf' a' W' hkv hS' hjs hsz=> ?_)
 have e4:kf' 4=kf 4:=hkv _ (.tail _ (.head _))
 have hd':W'.heap[D]? =some (.deferred (some [])):=(hjs D (Z.lt_heap hd) fun i p z t hz _ e=>by
  rw [show stOf (rPo 5)= [(1,4,17,FT)] by kernel_rfl] at hz
  cases List.mem_singleton.1 hz
  obtain ⟨c4,h4,_⟩:=hV.hr
  rw [e,hd] at h4
  cases h4).trans hd
 obtain ⟨p4,l4,c4,h4,f4,q4⟩:=SX.var hS' (x:=⟨4,FT, .O (.Q s (qlen s))⟩) (.head _)
 have hk:KeepC W' (W'.putObj D (.deferred none)):=keepC_of (grownBy_putObj' W' D _) fun r e=>by
  cases e
  exact ⟨_,hd',rfl⟩
 have hg:Grow w (W'.putObj D (.deferred none)):=grow_of hS'.grow (grownBy_putObj' W' D _) fun r e=>by
  cases e
  exact hD
 have hS2:SX (E:=EP) 18 ⟨[],[⟨4,FT, .O (.Q s (qlen s))⟩]⟩ w kf' a' (W'.putObj D (.deferred none)):=mkSX hS'.size hS'.defers hg (fun z hz=>by
  cases List.mem_singleton.1 hz
  exact ⟨p4,l4,c4,hk.2 _ _ _ _ h4,f4,isQ_keep q4 hk⟩) (fun y hy z hz hyz=>by
  cases List.mem_singleton.1 hy
  cases List.mem_singleton.1 hz
  exact absurd rfl hyz) (fun z hz=>by cases hz)
 obtain ⟨v,r1,r2⟩:=resF_ok (fn:=Pf) hS2 (F:= .s (.O (.Q s (qlen s)))) (by kernel_rfl)
 refine wpIn_ret ?_
 show LeavesInM Fence.wide 6 Tryz.prog Pf a'.tmps R (a'.defers++ [_]) .returning W'
 rw [hS'.defers]
 exact ⟨by simp, .inl ⟨_,_,rfl,run_takeDeferred hd',⟨v,r1,hR v _ hg r2⟩⟩⟩
theorem poly_walk {w:World} {x:Rat} {k j:Nat} {rows:List (List Value)} {A:Option Addr} {cap:Nat} {xs:List (Co w j)} {R:Ending→World→Prop} {kf:Nat→Nat} {a:Act} {w':World} (hk:k≤1000000) (hj:j≤1000000) (hl:xs.length≤100)
  (hR: ∀v W,Grow w W→isQ (xs.reverse.foldl (fun s y=>s*x+y.1.2.1) 0) (qlen (xs.reverse.foldl (fun s y=>s*x+y.1.2.1) 0)) W v→R (.returned v) W)
  (hix: ∀(k:Nat) (y:Co w j),xs[k]? =some y→y.1.1=k) (hI:(rows.length=0∧xs= [])∨ ∃b off,A=some ⟨b,off,none⟩∧rows.length=xs.length∧b<w.heap.size∧ ∀(k:Nat) (y:Co w j),xs[k]? =some y→w.cell? ⟨b,off+k*3,none⟩=some (g3 y).1∧w.cell? ⟨b,off+k*3+1,none⟩=some (g3 y).2.1∧w.cell? ⟨b,off+k*3+2,none⟩=some (g3 y).2.2)
  (hS:SX (E:=EP) Pf.ntmps (ent Tryz.prog Pf [(0, .O (.Q x k)),(1, .E (.slice A rows.length cap))]) w kf a w'):(rest Pf).wp Tryz.prog (bodyPostM Fence.wide 6 Tryz.prog Pf R) a w':=by
 refine (wpIn_wide (n:=6)).1 ?_
 rw [rest_eq]
 have hS0:SX (E:=EP) 18 ⟨[(1, .E (.slice A rows.length cap))],[⟨2,FT, .O (.Q x k)⟩,⟨4,FT, .X⟩]⟩ w kf a w':=Sb.state (E:=EP) ⟨by kernel_rfl,by kernel_rfl⟩ hS
 clear hS
 refine wpIn_seq (reg_in0 (E:=EP) (S:=⟨[(1, .E (.slice A rows.length cap))],[⟨2,FT, .O (.Q x k)⟩,⟨4,FT, .X⟩]⟩) (SN:=SLv x k 0 1 [(1, .E (.slice A rows.length cap))] []) (h:=hPo 1) mo (by kernel_rfl) (vcP (tK (.E (.agg (zeroOf Tryz.prog FT))) (.O (.Q 0 1))∧True) ⟨fun _ _ _ _ _ h=>q0_F h,trivial⟩) ⟨by kernel_rfl,by kernel_rfl⟩ (by kernel_rfl) hS0 fun kf a w1 hS1=> ?_)
 clear hS0
 have h1:a.tmps.getD 1 undef= .slice A rows.length cap:=hS1.facts _ (List.mem_map.2 ⟨_,List.mem_map.2 ⟨_, .head _,rfl⟩,rfl⟩)
 have hK:KO w kf:=⟨(SX.var hS1 (x:=⟨2,FT, .O (.Q x k)⟩) (.head _)).2.1,(SX.var hS1 (x:=⟨4,FT, .X⟩) (.tail _ (.head _))).2.1,(SX.var hS1 (x:=⟨5,FT, .O (.Q 0 1)⟩) (.tail _ (.tail _ (.head _)))).2.1,
  ap_of hS1 (x:=⟨2,FT, .O (.Q x k)⟩) (y:=⟨4,FT, .X⟩) (.head _) (.tail _ (.head _)) (show (2:Nat)≠4 by decide),ap_of hS1 (x:=⟨2,FT, .O (.Q x k)⟩) (y:=⟨5,FT, .O (.Q 0 1)⟩) (.head _) (.tail _ (.tail _ (.head _))) (show (2:Nat)≠5 by decide),ap_of hS1 (x:=⟨4,FT, .X⟩) (y:=⟨5,FT, .O (.Q 0 1)⟩) (.tail _ (.head _)) (.tail _ (.tail _ (.head _))) (show (4:Nat)≠5 by decide)⟩
 obtain ⟨hV,hA⟩:=ofSX (kf:=kf) hS1 rfl rfl rfl
 clear hS1
 have l5:kf 5<w1.heap.size:=by obtain ⟨c,h,_⟩:=hV.hs;exact Z.lt_heap h
 refine wpIn_seq (wpIn_seq ((wpIn_wide (n:=6)).2 (reg2 rfl h1 hA.sz ?_)))
 refine wpIn_block ?_
 have hA2:PA kf ((a.put (some 8) (.slice A rows.length cap)).put (some 9) (.func (.func fB) #[] #[.pointer (some ⟨w1.heap.size,0,none⟩)])):=pa_put (pa_put hA (by decide) (by decide) (by decide) (by decide)) (by decide) (by decide) (by decide) (by decide)
 have h9:((a.put (some 8) (.slice A rows.length cap)).put (some 9) (.func (.func fB) #[] #[.pointer (some ⟨w1.heap.size,0,none⟩)])).eval (.tmp 9)= .func (.func fB) #[] #[.pointer (some ⟨w1.heap.size,0,none⟩)]:=Z.mem_put (by rw [show (a.put (some 8) (.slice A rows.length cap)).tmps.size=a.tmps.size from Array.size_setIfInBounds,hA.sz];decide)
 generalize ((a.put (some 8) (.slice A rows.length cap)).put (some 9) (.func (.func fB) #[] #[.pointer (some ⟨w1.heap.size,0,none⟩)]))=a2 at hA2 h9⊢
 have hsz:(w1.alloc (.cells #[.slice A rows.length cap] LT)).heap.size=w1.heap.size+1:=World.size_alloc _ _
 have hgr:Grow w1 (w1.alloc (.cells #[.slice A rows.length cap] LT)):=(Grow.refl w1).alloc _
 have hcB:(w1.alloc (.cells #[.slice A rows.length cap] LT)).cell? ⟨w1.heap.size,0,none⟩=some (.slice A rows.length cap):=by
  unfold World.cell?
  rw [World.alloc_heap_new]
  rfl
 have hw1:=hV.gr.size
 have hkc:KeepC w1 (w1.alloc (.cells #[.slice A rows.length cap] LT)):=keepC_of (World.grownBy_alloc w1 _ none) fun r e=>by cases e
 have hV2:PV w kf x k 0 (w1.alloc (.cells #[.slice A rows.length cap] LT)):=hV.keep hkc (hV.gr.trans hgr)
 have hgw:Grow w (w1.alloc (.cells #[.slice A rows.length cap] LT)):=hV2.gr
 have hI2:((∃A' cap',(.slice A rows.length cap:Value)= .slice A' 0 cap')∧xs= [])∨ ∃b off cap',(.slice A rows.length cap:Value)= .slice (some ⟨b,off,none⟩) xs.length cap'∧b<w.heap.size∧ ∀(k:Nat) (y:Co w j),xs[k]? =some y→(w1.alloc (.cells #[.slice A rows.length cap] LT)).cell? ⟨b,off+k*3,none⟩=some (g3 y).1∧(w1.alloc (.cells #[.slice A rows.length cap] LT)).cell? ⟨b,off+k*3+1,none⟩=some (g3 y).2.1∧(w1.alloc (.cells #[.slice A rows.length cap] LT)).cell? ⟨b,off+k*3+2,none⟩=some (g3 y).2.2:=by
  rcases hI with ⟨e,h⟩|⟨b,off,rfl,e,hb,h⟩
  ·exact .inl ⟨⟨A,cap,by rw [e]⟩,h⟩
  ·refine .inr ⟨b,off,cap,by rw [e],hb,fun k y hy=> ?_⟩
   have c: ∀o,(w1.alloc (.cells #[.slice (some ⟨b,off,none⟩) rows.length cap] LT)).cell? ⟨b,o,none⟩=w.cell? ⟨b,o,none⟩:=fun o=>World.cell?_of_block (Below.block hgw b hb)
   rw [c,c,c]
   exact h k y hy
 clear hI
 generalize w1.alloc (.cells #[.slice A rows.length cap] LT)=w2 at*
 refine wpIn_rangeFunc_ownH (F:=Fence.wide) (n:=6) rfl (by decide) (gf:=fB) (lb:= #[.pointer (some ⟨w1.heap.size,0,none⟩)]) h9 trivial en86
  (back_stops Fence.wide 5 trivial rfl (by decide) w1.heap.size 0 w.heap.size (.slice A rows.length cap) xs g3 (fun y=>y.1.1) hix (by omega) w2 (by omega) hcB (by omega) hI2) (fun h k=>KeepB.trans h k) ?hKb (Below.refl _ _) (fun _=>rfl)
  (fun pre W=>PV w kf x k (pre.foldl (fun s y=>s*x+y.1.2.1) 0) W∧w2.heap.size≤W.heap.size) (fun _ _ _=>False) ?hI2 (fun _ _ _ _ _ h _ _=>h) ⟨hV2,Nat.le_refl _⟩ (fun y a' W=>Ax kf y a' W) ?hAx ?hassign ?hbody ?hdone (fun _ _ _ _ _ _ h _=>h.elim)
 case hKb=>
  intro W l o o' hl ho hc _ b hb
  have hlt:l<W.heap.size:=Z.lt_heap ho
  exact (grownBy_putObj' W l o').block b (by omega) (fun e=>by cases e;omega)
 case hI2=>
  intro pre W W' row h hg hr
  exact ⟨h.1.keep (keepC_of hg fun r e=>(hr r e).2) (grow_of h.1.gr hg fun r e=>by have:=(hr r e).1;omega),Nat.le_trans h.2 hg.size⟩
 case hAx=>
  intro y a' _ W W' row h hg hr
  obtain ⟨h1,b7,n2,n4,n5,h2,h3,cs,h4,h6⟩:=h
  have kc:KeepC W W':=keepC_of hg fun r e=>(hr r e).2
  exact ⟨h1,b7,n2,n4,n5,h2,h3,cs,kc.2 _ _ _ _ h4,isQ_keep h6 kc⟩
 case hassign=>
  intro l pre y W K hI hK'
  have hA3:PA kf ((a2.put (some 10) (.int .i64 (y.1.1:Nat))).put (some 11) (.agg #[(g3 y).1,(g3 y).2.1,(g3 y).2.2])):=pa_put (pa_put hA2 (by decide) (by decide) (by decide) (by decide)) (by decide) (by decide) (by decide) (by decide)
  have h11:((a2.put (some 10) (.int .i64 (y.1.1:Nat))).put (some 11) (.agg #[(g3 y).1,(g3 y).2.1,(g3 y).2.2])).tmps.getD 11 undef= .agg #[(g3 y).1,(g3 y).2.1,(g3 y).2.2]:=Z.mem_put (by rw [show (a2.put (some 10) (.int .i64 (y.1.1:Nat))).tmps.size=a2.tmps.size from Array.size_setIfInBounds,hA2.sz];decide)
  rw [show (#[10,11].zip #[Value.int .i64 (y.1.1:Nat), .agg #[(g3 y).1,(g3 y).2.1,(g3 y).2.2]]).foldl (fun t (p,v)=>t.setIfInBounds p v) a2.tmps=((a2.put (some 10) (.int .i64 (y.1.1:Nat))).put (some 11) (.agg #[(g3 y).1,(g3 y).2.1,(g3 y).2.2])).tmps by simp [Act.put]]
  refine poly_assign (Bs:=w1.heap.size) hK hI.1 ⟨rfl,hA3.sz,hA3.p2,hA3.p4,hA3.p5⟩ h11 (by omega) fun a' W' k1 k2 k3 v ax=>hK' a' W' k1 k2 ⟨v,Nat.le_trans hI.2 k3⟩ ax
 case hbody=>
  intro l pre y a' W hl' _ hI hax hN
  refine wpIn_block ?_
  have hq:=hor_len x pre
  have hq2:=qlen_le hV.xq
  refine poly_body (Bs:=w1.heap.size) hk hj ?_ hK hI.1 hax l5 (by omega) fun a' W' k1 k2 k3 v=>⟨k1,k2, ?_,Nat.le_trans hI.2 k3⟩
  ·have:pre.length*(qlen x+j+1)≤100*2000001:=Nat.mul_le_mul (by omega) (by omega)
   omega
  ·rw [List.foldl_append]
   exact v
 case hdone=>
  intro D ys W hD hy hI hd
  subst hy
  exact poly_done hK hI.1 hA2 (by omega) hd hR
theorem flat_cell {w:World} {b off:Nat} {cs:Array Value} {t:TypeId} {fr:Nat×Nat} {rows:List (List Value)} (hb:w.heap[b]? =some (.cells cs t fr)) (h3:rowsB 3 rows) (hc: ∀(j:Nat) (x:Value),rows.flatten[j]? =some x→cs[off+j]? =some x) {k i:Nat} {r:List Value} {x:Value} (hr:rows[k]? =some r) (hx:r[i]? =some x):w.cell? ⟨b,off+k*3+i,none⟩=some x:=by
 have:=hc _ _ (flat_get h3 hr hx)
 rw [←Nat.add_assoc] at this
 simpa [World.cell?,hb] using this
theorem poly_t {w:World} {v u:Value} {x:Rat} {k j:Nat} {l:List Rat} (h0:isQ x k w v) (h1:isLo (cxA w) FT 3 ((l.map fun q=>K.Q q j).map fun o=>(dk (cxA w) o).p) false w u) (hk:k≤1000000) (hj:j≤1000000) (hl:l.length≤100):Calls Tryz.prog 25 #[v,u] w (Ret w fun v' w'=>isQ (polQ x l) (l.length*(k+j+1)+1) w' v'):=by
 obtain ⟨rows,⟨h3,A,cap,rfl,hcap,hmax,hc⟩,ha⟩:=h1
 have ha':All2 (fun (p:Pr) (r:List Value)=>p w (.agg r.toArray)) (l.map fun q=>(isQ q j:Pr)) rows:=by
  rw [List.map_map] at ha
  exact ha
 obtain ⟨xs,e1,e2,e3⟩:=mkCo (i:=0) ha' h3
 have el:xs.length=l.length:=by rw [←e3,List.length_map]
 have hix: ∀(k:Nat) (y:Co w j),xs[k]? =some y→y.1.1=k:=fun k y h=>by rw [(e2 k y h).1];omega
 have hI:(rows.length=0∧xs= [])∨ ∃b off,A=some ⟨b,off,none⟩∧rows.length=xs.length∧b<w.heap.size∧ ∀(k:Nat) (y:Co w j),xs[k]? =some y→w.cell? ⟨b,off+k*3,none⟩=some (g3 y).1∧w.cell? ⟨b,off+k*3+1,none⟩=some (g3 y).2.1∧w.cell? ⟨b,off+k*3+2,none⟩=some (g3 y).2.2:=by
  rcases Nat.eq_zero_or_pos rows.length with e|e
  ·exact .inl ⟨e,List.eq_nil_of_length_eq_zero (by omega)⟩
  ·obtain ⟨b,off,cs,t,fr,rfl,hb,_,hbo,hcs⟩:=hc (fun e'=>by rw [e'] at e;simp at e)
   refine .inr ⟨b,off,rfl,by omega,hbo rfl,fun k y hy=> ?_⟩
   have hr:=(e2 k y hy).2
   have g: ∀i,i<3→y.1.2.2[i]? =some (y.1.2.2.getD i undef):=fun i hi=>by
    rw [List.getD_eq_getElem?_getD,List.getElem?_eq_getElem (by rw [y.2.1];exact hi)]
    rfl
   exact ⟨flat_cell (i:=0) hb h3 hcs hr (g 0 (by omega)),flat_cell (i:=1) hb h3 hcs hr (g 1 (by omega)),flat_cell (i:=2) hb h3 hcs hr (g 2 (by omega))⟩
 obtain ⟨c,hbody,hw⟩:=fnW (E:=EP) (P:=Tryz.prog) (fn:=Pf) (args:= #[v, .slice A rows.length cap]) (w:=w) (Q:=bodyPostM Fence.wide 6 Tryz.prog Pf (Ret w fun v' w'=>isQ (polQ x l) (l.length*(k+j+1)+1) w' v')) [(0, .O (.Q x k)),(1, .E (.slice A rows.length cap))] ⟨h0,rfl,trivial⟩ (by kernel_rfl) fun kf a w' hS=>poly_walk (xs:=xs) hk hj (by omega) (fun v' W hg hq=>Ret.mk (by
   rw [hor_rev,e3] at hq
   refine isQ_lo hq ?_
   have a1:=hor_len x xs.reverse
   have a2:=qlen_le h0
   rw [hor_rev,e3,List.length_reverse,el] at a1
   refine Nat.le_trans a1 (Nat.add_le_add_right (Nat.mul_le_mul_left _ (by omega)) 1)) hg) hix hI hS
 exact callsIn_wide.1 (callsIn_of_wp_marks (F:=Fence.wide) (n:=6) (f:=25) (fn:=Pf) Tryz.func25 hbody trivial (wpIn_wide.2 hw))
end Go.Proofs.YthebilnlljkfeaaGreatDoor.X
