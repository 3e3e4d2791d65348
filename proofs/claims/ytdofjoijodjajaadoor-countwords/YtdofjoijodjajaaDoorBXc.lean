/- One text out of: Xc. -/
import Derived.Test.YtdofjoijodjajaaDoorBXb
import Derived.Test.YtdofjoijodjajaaDoorBZq
namespace Go.Proofs.YtdofjoijodjajaaDoor.X
open Go.RowKit Go.Proofs.YtdofjoijodjajaaDoor.Z
open Go.Proofs.YtdofjoijodjajaaDoor.Rg (depI Facts dsts info run_wanted)
structure Sx (κ:Type) where
 D:DL κ
 G:List (Vx κ)
def alOf (ops:Array Oper):List (Nat×Nat×TypeId):=ops.toList.zipIdx.filterMap fun x=>match x.1.dst,x.1.op with
 |some p, .alloc t=>some (x.2,p,t)
 |_,_=>none
def stOf (ops:Array Oper):List (Nat×Nat×Nat×TypeId):=ops.toList.zipIdx.filterMap fun x=>match x.1.op with
 | .store t (.tmp p) (.tmp y)=>some (x.2,p,y,t)
 |_=>none
def vsOf (ops:Array Oper):VS:=⟨alOf ops,stOf ops⟩
def isSF {κ:Type}:Fk κ→Bool
 | .s _=>true
 |_=>false
def unS {κ:Type}:Fk κ→Ks κ
 | .s k=>k
 |_=> .X
def plK {κ:Type}:Ks κ→Ks κ
 | .P _ _=> .X
 | .V _=> .X
 | .Q _ _ _=> .X
 |k=>k
def stK {κ:Type} (mid:Bool) (ds:List Nat) (al:List (Nat×Nat×TypeId)) (D:DL κ):Ks κ→Ks κ
 | .P q off=>cond (mid&&al.all fun z=> !Nat.beq z.2.1 q) (.P q off) .X
 | .V d=>cond (mid&& !ds.contains d) (.V d) (cond (hasD D d) (plK (lS D d)) .X)
 | .Q d k sz=>cond (mid&& !ds.contains d) (.Q d k sz) .X
 |k=>k
def nV {κ:Type} (V:VS) (fs:FX κ) (x:Vx κ):Vx κ:=match srcOf V x.slot with
 |some y=>⟨x.slot,x.ty,unS (lF fs y.1)⟩
 |none=>x
def nG0 {κ:Type} (G:List (Vx κ)) (V:VS) (fs:FX κ):List (Vx κ):=G.map (nV V fs)++V.al.map fun z=>nV V fs ⟨z.2.1,z.2.2, .X⟩
def nG {κ:Type} (G:List (Vx κ)) (V:VS) (fs:FX κ):List (Vx κ):=(nG0 G V fs).map fun x=>⟨x.slot,x.ty,plK x.k⟩
def keepOf {κ:Type} (fs:FX κ):List Nat:=(fs.map (·.1)).filter fun d=>isSF (lF fs d)
def nD0 {κ:Type} (D:DL κ) (ds:List Nat) (fs:FX κ):DL κ:=D.filter (fun x=> !ds.contains x.1)++(keepOf fs).map fun d=>(d,unS (lF fs d))
def nD {κ:Type} (mid:Bool) (D:DL κ) (ds:List Nat) (al:List (Nat×Nat×TypeId)) (fs:FX κ):DL κ:=(nD0 D ds fs).map fun x=>(x.1,stK mid ds al D x.2)
def gTy {κ:Type} (G:List (Vx κ)):List (Nat×TypeId):=G.map fun x=>(x.slot,x.ty)
def cxOf (G:List (Nat×TypeId)) (kf:Nat→Nat) (own:Nat):Cx:=⟨fun b t=>G.any fun x=>Nat.beq (kf x.1) b&&Nat.beq x.2 t,own⟩
def cxR (G:List (Nat×TypeId)) (al:List (Nat×Nat×TypeId)) (m:Nat) (kf:Nat→Nat) (own:Nat):Cx:=⟨fun b t=>(G.any fun x=>Nat.beq (kf x.1) b&&Nat.beq x.2 t)||(al.any (fun z=>Nat.beq z.2.2 t)&&decide (m≤b)),own⟩
def lvOf (a:Act):Nat→Value:=fun d=>a.tmps.getD d undef
def ftOf (al:List (Nat×Nat×TypeId)) (t:TypeId):Bool:=al.all fun z=> !Nat.beq z.2.2 t
def cx0:Cx:=⟨fun _ _=>false,0⟩
section
variable {P:Program} (E:Env P)
def runReg (mid:Bool) (n:Nat) (ops:Array Oper) (h:Hint E.κ) (S:Sx E.κ):Option (Sx E.κ×List Prop):=match go E (ftOf (alOf ops)) ops (vsOf ops) S.D S.G h ops.toList 0 [] with
 |some (fs,ps)=>cond (regB P n ops (gTy S.G) (vsOf ops) (dFs (E.dk cx0) (fun _=>0) (fun _=>undef) fs) (keepOf fs)&&(stOf ops).all (fun x=>isSF (lF fs x.2.2.1))&& !(dsts ops).contains szSlot) (some (⟨nD mid S.D (dsts ops) (alOf ops) fs,nG S.G (vsOf ops) fs⟩,ps)) none
 |none=>none
variable {E}
theorem dF_ty {cx cx':Cx} {kf kf':Nat→Nat} {lv lv':Nat→Value} (F:Fk E.κ):(dF (E.dk cx) kf lv F).ty=(dF (E.dk cx') kf' lv' F).ty:=by
 induction F with
 |m c F ih=>cases c<;>first|rfl|exact ih
 |s k=>
  cases k with
  |O o=>exact (E.dcx o cx cx').2
  |_=>rfl
 |_=>rfl
theorem all_key {cx:Cx} {kf:Nat→Nat} {lv:Nat→Value} {fs:FX E.κ} (p:Nat→Bool):(dFs (E.dk cx) kf lv fs).all (fun x=>p x.1)=fs.all (fun x=>p x.1):=by
 unfold dFs
 rw [List.all_map]
 rfl
theorem regB_kf {n:Nat} {ops:Array Oper} {G:List (Nat×TypeId)} {V:VS} {fs:FX E.κ} {keep:List Nat} {cx cx':Cx} {kf kf':Nat→Nat} {lv lv':Nat→Value}:regB P n ops G V (dFs (E.dk cx) kf lv fs) keep=regB P n ops G V (dFs (E.dk cx') kf' lv' fs) keep:=by
 unfold regB
 have e1: ∀z:Nat×Nat×TypeId,(dFs (E.dk cx) kf lv fs).all (fun x=> !Nat.beq x.1 z.2.1)=(dFs (E.dk cx') kf' lv' fs).all (fun x=> !Nat.beq x.1 z.2.1):=fun z=>by
  rw [all_key (fun y=> !Nat.beq y z.2.1),all_key (fun y=> !Nat.beq y z.2.1)]
 have e2: ∀x:Nat×Nat×Nat×TypeId,(lk (dFs (E.dk cx) kf lv fs) x.2.2.1).ty x.2.2.2=(lk (dFs (E.dk cx') kf' lv' fs) x.2.2.1).ty x.2.2.2:=fun x=>by
  rw [lk_dFs,lk_dFs,dF_ty]
 simp only [e1,e2]
theorem dF_unS {cx:Cx} {kf:Nat→Nat} {lv:Nat→Value} {F:Fk E.κ} (h:isSF F=true):dF (E.dk cx) kf lv F=dS (E.dk cx) kf lv (unS F):=by
 cases F with
 |s k=>rfl
 |_=>cases h
theorem newG_dG {cx:Cx} {kf:Nat→Nat} {lv:Nat→Value} {G:List (Vx E.κ)} {V:VS} {fs:FX E.κ} (h:V.st.all (fun x=>isSF (lF fs x.2.2.1))=true):newG (dG (E.dk cx) kf lv G) V (dFs (E.dk cx) kf lv fs)=dG (E.dk cx) kf lv (nG0 G V fs):=by
 have hv: ∀x:Vx E.κ,newV V (dFs (E.dk cx) kf lv fs) ⟨x.slot,x.ty,dS (E.dk cx) kf lv x.k⟩=⟨(nV V fs x).slot,(nV V fs x).ty,dS (E.dk cx) kf lv (nV V fs x).k⟩:=fun x=>by
  unfold newV nV
  cases hs:srcOf V x.slot with
  |none=>rfl
  |some y=>
   obtain ⟨j,hj⟩:=srcOf_some hs
   have:=List.all_eq_true.1 h _ hj
   simp only
   rw [lk_dFs,dF_unS this]
 unfold newG nG0 dG
 rw [List.map_append,List.map_map,List.map_map,List.map_map]
 congr 1
 ·exact List.map_congr_left fun x _=>hv x
 ·exact List.map_congr_left fun z _=>hv ⟨z.2.1,z.2.2, .X⟩
theorem newD_dD {cx:Cx} {kf:Nat→Nat} {lv:Nat→Value} {D:DL E.κ} {ds:List Nat} {fs:FX E.κ}:newD (dD (E.dk cx) kf lv D) ds (dFs (E.dk cx) kf lv fs) (keepOf fs)=dD (E.dk cx) kf lv (nD0 D ds fs):=by
 unfold newD nD0 dD
 rw [List.map_append,List.map_map,List.filter_map]
 congr 1
 refine List.map_congr_left fun d hd=> ?_
 have:=(List.mem_filter.1 hd).2
 show (d,lk (dFs (E.dk cx) kf lv fs) d)=(d,dS (E.dk cx) kf lv (unS (lF fs d)))
 rw [lk_dFs,dF_unS this]
theorem dS_cx {cx cx':Cx} {kf:Nat→Nat} {lv:Nat→Value} {w:World} {v:Value} (hb: ∀b t,b<w.heap.size→cx.ban b t=false→cx'.ban b t=false) (ho:cx'.own=cx.own): ∀{k:Ks E.κ},(dS (E.dk cx) kf lv k).p w v→(dS (E.dk cx') kf lv k).p w v:=by
 intro k h
 cases k with
 |O o=>
  show (E.dk cx' o).p w v
  rw [(E.dcx o cx' cx).1]
  exact h
 |L T sz l o=>
  cases o with
  |true=>exact isOw.mono hb (Nat.le_of_eq ho) h
  |false=>exact isRd.mono hb (fun _=>Nat.le_of_eq ho.symm) h
 |A row=>exact isAd.mono hb h
 |I s pos=>exact isIt.mono hb (Nat.le_of_eq ho) h
 |C f rows=>exact isCl.mono hb h
 |_=>exact h
theorem dS_pl {cx:Cx} {kf kf':Nat→Nat} {lv lv':Nat→Value} {w:World} {v:Value}: ∀{k:Ks E.κ},(dS (E.dk cx) kf lv k).p w v→(dS (E.dk cx) kf' lv' (plK k)).p w v:=by
 intro k h
 cases k with
 |P _ _=>trivial
 |V _=>trivial
 |Q _ _ _=>trivial
 |_=>exact h
theorem dS_st {cx:Cx} {kf kf':Nat→Nat} {lv lv':Nat→Value} {w:World} {v:Value} {mid:Bool} {ds:List Nat} {al:List (Nat×Nat×TypeId)} {D:DL E.κ} (hP: ∀q,(∀z∈al,z.2.1≠q)→kf' q=kf q) (hV: ∀d,ds.contains d=false→lv' d=lv d) (hD: ∀d,hasD D d=true→(dS (E.dk cx) kf lv (lS D d)).p w (lv d)):
  ∀{k:Ks E.κ},(dS (E.dk cx) kf lv k).p w v→(dS (E.dk cx) kf' lv' (stK mid ds al D k)).p w v:=by
 intro k h
 cases k with
 |P q off=>
  show (dS (E.dk cx) kf' lv' (cond (mid&&al.all fun z=> !Nat.beq z.2.1 q) (.P q off) .X)).p w v
  cases hc:(mid&&al.all fun z=> !Nat.beq z.2.1 q) with
  |false=>trivial
  |true=>
   simp only [Bool.and_eq_true] at hc
   show v= .pointer (some ⟨kf' q,off,none⟩)
   rw [hP q fun z hz e=>by
    have:=List.all_eq_true.1 hc.2 z hz
    rw [e] at this
    simp at this]
   exact h
 |V d=>
  show (dS (E.dk cx) kf' lv' (cond (mid&& !ds.contains d) (.V d) (cond (hasD D d) (plK (lS D d)) .X))).p w v
  cases hc:(mid&& !ds.contains d) with
  |true=>
   simp only [Bool.and_eq_true,Bool.not_eq_true'] at hc
   show v=lv' d
   rw [hV d hc.2]
   exact h
  |false=>
   cases hd:hasD D d with
   |false=>trivial
   |true=>
    have e:v=lv d:=h
    rw [e]
    exact dS_pl (hD d hd)
 |Q d k sz=>
  show (dS (E.dk cx) kf' lv' (cond (mid&& !ds.contains d) (.Q d k sz) .X)).p w v
  cases hc:(mid&& !ds.contains d) with
  |true=>
   simp only [Bool.and_eq_true,Bool.not_eq_true'] at hc
   show v=eaddr (lv' d) (k*sz)
   rw [hV d hc.2]
   exact h
  |false=>trivial
 |_=>exact h
abbrev SX (n:Nat) (S:Sx E.κ) (wE:World) (kf:Nat→Nat) (a:Act) (w:World):Prop:=S2 P (cx:=cxOf (gTy S.G) kf wE.heap.size) n (dG (E.dk (cxOf (gTy S.G) kf wE.heap.size)) kf (lvOf a) S.G) (dD (E.dk (cxOf (gTy S.G) kf wE.heap.size)) kf (lvOf a) S.D) wE kf a w
section
variable {n:Nat} {S S':Sx E.κ} {wE:World} {kf:Nat→Nat} {a:Act} {w:World}
theorem SX.d (hS:SX n S wE kf a w) {d:Nat} (h:hasD S.D d=true):(dS (E.dk (cxOf (gTy S.G) kf wE.heap.size)) kf (lvOf a) (lS S.D d)).p w (a.tmps.getD d undef):=by
 rw [←lk_dD]
 exact hS.facts _ (List.mem_map.2 ⟨_,lkD_mem (has_dD h),rfl⟩)
theorem SX.lt (hS:SX n S wE kf a w) {x:Vx E.κ} (hx:x∈S.G):wE.heap.size≤kf x.slot∧ ∃cs,w.heap[kf x.slot]? =some (.cells cs x.ty (0,0))∧Fits soft P x.ty cs:=by
 obtain ⟨_,h2,cs,h3,h4,_⟩:=hS.vars _ (List.mem_map.2 ⟨_,List.mem_map.2 ⟨x,hx,rfl⟩,rfl⟩)
 exact ⟨h2,cs,h3,h4⟩
theorem ban_var {b t own:Nat} {G:List (Vx E.κ)} (h:(cxOf (gTy G) kf own).ban b t=true): ∃x∈G,kf x.slot=b∧x.ty=t:=by
 obtain ⟨y,hy,h⟩:=List.any_eq_true.1 h
 obtain ⟨x,hx,rfl⟩:=List.mem_map.1 hy
 simp only [Bool.and_eq_true] at h
 exact ⟨x,hx,Nat.eq_of_beq_eq_true h.1,Nat.eq_of_beq_eq_true h.2⟩
theorem var_ban {own:Nat} {G:List (Vx E.κ)} {x:Vx E.κ} (hx:x∈G):(cxOf (gTy G) kf own).ban (kf x.slot) x.ty=true:=List.any_eq_true.2 ⟨_,List.mem_map.2 ⟨x,hx,rfl⟩,by simp⟩
theorem SX.fr (hS:SX n S wE kf a w) {b t:Nat} (hb:w.heap.size≤b):(cxOf (gTy S.G) kf wE.heap.size).ban b t=false:=by
 cases h:(cxOf (gTy S.G) kf wE.heap.size).ban b t with
 |false=>rfl
 |true=>
  obtain ⟨x,hx,e,_⟩:=ban_var h
  obtain ⟨_,cs,h3,_⟩:=hS.lt hx
  have:=lt_heap h3
  omega
theorem slk_dG {cx:Cx} {lv:Nat→Value} {G:List (Vx E.κ)}:slk (dG (E.dk cx) kf lv G)=gTy G:=by
 unfold slk dG gTy
 rw [List.map_map]
 rfl
theorem vars_cx {cx:Cx} {lv:Nat→Value} {G:List (Vx E.κ)} {Q:Vr→Prop} (h: ∀x∈G,Q ⟨x.slot,x.ty,(dS (E.dk cx) kf lv x.k).p⟩): ∀x∈gv (dG (E.dk cx) kf lv G),Q x:=by
 intro x hx
 obtain ⟨y,hy,rfl⟩:=List.mem_map.1 hx
 obtain ⟨z,hz,rfl⟩:=List.mem_map.1 hy
 exact h z hz
theorem ap_of {cx:Cx} {kf':Nat→Nat} {lv:Nat→Value} {G:List (Vx E.κ)} {D:List (Nat×Pr)} (h:St soft P n (gv (dG (E.dk cx) kf lv G)) D wE kf' a w) {x y:Vx E.κ} (hx:x∈G) (hy:y∈G) (hxy:x.slot≠y.slot):kf' x.slot≠kf' y.slot:=
 h.apart ⟨x.slot,x.ty,(dS (E.dk cx) kf lv x.k).p⟩ (List.mem_map.2 ⟨_,List.mem_map.2 ⟨x,hx,rfl⟩,rfl⟩) ⟨y.slot,y.ty,(dS (E.dk cx) kf lv y.k).p⟩ (List.mem_map.2 ⟨_,List.mem_map.2 ⟨y,hy,rfl⟩,rfl⟩) hxy
theorem R_var {G:List (Nat×TypeId)} {al:List (Nat×Nat×TypeId)} {m own:Nat} {x:Nat×TypeId} (hx:x∈G):(cxR G al m kf own).ban (kf x.1) x.2=true:=
 Bool.or_eq_true_iff.2 (.inl (List.any_eq_true.2 ⟨x,hx,by simp⟩))
theorem R_new {G:List (Nat×TypeId)} {al:List (Nat×Nat×TypeId)} {m own b:Nat} {z:Nat×Nat×TypeId} (hz:z∈al) (hb:m≤b):(cxR G al m kf own).ban b z.2.2=true:=
 Bool.or_eq_true_iff.2 (.inr (Bool.and_eq_true_iff.2 ⟨List.any_eq_true.2 ⟨z,hz,by simp⟩,decide_eq_true hb⟩))
theorem runReg_dr {ops:Array Oper} {mid:Bool} {h:Hint E.κ} {ps:List Prop} {Q:Exit→Act→World→Prop} (hr:runReg E mid n ops h S=some (S',ps)) (hp:AL ps) (hS:SX n S wE kf a w):Dr P ops Q a w fun a w=> ∃kf,SX n S' wE kf a w:=by
 unfold runReg at hr
 split at hr
 ·next fs qs e=>
  cases hc:(regB P n ops (gTy S.G) (vsOf ops) (dFs (E.dk cx0) (fun _=>0) (fun _=>undef) fs) (keepOf fs)&&(stOf ops).all (fun x=>isSF (lF fs x.2.2.1))&& !(dsts ops).contains szSlot) with
  |false=>rw [hc] at hr;cases hr
  |true=>
   rw [hc] at hr
   injection hr with hr
   injection hr with h1 h2
   subst h1 h2
   simp only [Bool.and_eq_true,Bool.not_eq_true'] at hc
   obtain ⟨⟨hB,hst⟩,hsz⟩:=hc
   let R:Cx:=cxR (gTy S.G) (alOf ops) w.heap.size kf wE.heap.size
   have hcx: ∀b t,b<w.heap.size→(cxOf (gTy S.G) kf wE.heap.size).ban b t=false→R.ban b t=false:=fun b t hb h=>by
    show ((gTy S.G).any (fun x=>Nat.beq (kf x.1) b&&Nat.beq x.2 t)||((alOf ops).any (fun z=>Nat.beq z.2.2 t)&&decide (w.heap.size≤b)))=false
    rw [show (gTy S.G).any (fun x=>Nat.beq (kf x.1) b&&Nat.beq x.2 t)=false from h,decide_eq_false (by omega),Bool.and_false]
    rfl
   have hFr0:Fr R (ftOf (alOf ops)) w:=by
    refine ⟨hS.grow.size,fun t ht b hb=> ?_⟩
    show ((gTy S.G).any (fun x=>Nat.beq (kf x.1) b&&Nat.beq x.2 t)||((alOf ops).any (fun z=>Nat.beq z.2.2 t)&&decide (w.heap.size≤b)))=false
    rw [show (gTy S.G).any (fun x=>Nat.beq (kf x.1) b&&Nat.beq x.2 t)=false from hS.fr hb]
    have:(alOf ops).any (fun z=>Nat.beq z.2.2 t)=false:=by
     cases ha:(alOf ops).any (fun z=>Nat.beq z.2.2 t) with
     |false=>rfl
     |true=>
      obtain ⟨z,hz,e⟩:=List.any_eq_true.1 ha
      have:=List.all_eq_true.1 ht z hz
      rw [e] at this
      cases this
    rw [this]
    rfl
   have hSR:St soft P n (gv (dG (E.dk R) kf (lvOf a) S.G)) (dv (dD (E.dk R) kf (lvOf a) S.D)++D2 (lvOf a) (Fr R (ftOf (alOf ops))) S.D) wE kf a w:=by
    refine ⟨hS.size,hS.defers,hS.grow, ?_, ?_, ?_⟩
    ·refine vars_cx fun x hx=> ?_
     obtain ⟨g1,g2,cs,g3,g4,g5⟩:=hS.vars _ (List.mem_map.2 ⟨_,List.mem_map.2 ⟨x,hx,rfl⟩,rfl⟩)
     exact ⟨g1,g2,cs,g3,g4,dS_cx hcx rfl g5⟩
    ·intro x hx y hy
     obtain ⟨x',hx',rfl⟩:=List.mem_map.1 hx
     obtain ⟨y',hy',rfl⟩:=List.mem_map.1 hy
     obtain ⟨x2,hx2,rfl⟩:=List.mem_map.1 hx'
     obtain ⟨y2,hy2,rfl⟩:=List.mem_map.1 hy'
     exact fun hne=>ap_of hS hx2 hy2 hne
    ·intro x hx
     rcases List.mem_append.1 hx with hx|hx
     ·obtain ⟨y,hy,rfl⟩:=List.mem_map.1 hx
      obtain ⟨z,hz,rfl⟩:=List.mem_map.1 hy
      exact dS_cx hcx rfl (hS.facts _ (List.mem_map.2 ⟨_,List.mem_map.2 ⟨z,hz,rfl⟩,rfl⟩))
     ·rcases List.mem_cons.1 hx with rfl|hx
      ·exact hFr0
      ·obtain ⟨z,hz,rfl⟩:=List.mem_map.1 hx
       rfl
   have hD2:AllL (fun x:Nat×Pr=>StbE (eC soft R) x.2) (D2 (lvOf a) (Fr R (ftOf (alOf ops))) S.D):=by
    refine all_of fun x hx=> ?_
    rcases List.mem_cons.1 hx with rfl|hx
    ·intro w1 w2 _ hf g
     exact ⟨Nat.le_trans hf.1 g.size,fun t ht b hb=>hf.2 t ht b (Nat.le_trans g.size hb)⟩
    ·obtain ⟨z,hz,rfl⟩:=List.mem_map.1 hx
     exact fun _ _ _ h _=>h
   have hB':regB P n ops (slk (dG (E.dk R) kf (lvOf a) S.G)) (vsOf ops) (dFs (E.dk R) kf (lvOf a) fs) (keepOf fs)=true:=by
    rw [slk_dG,regB_kf (cx':=cx0) (kf':=fun _=>0) (lv':=fun _=>undef)]
    exact hB
   have hR:eR (slk (dG (E.dk R) kf (lvOf a) S.G)) (vsOf ops) kf w.heap.size R:=by
    rw [slk_dG]
    exact ⟨fun x hx=>R_var hx,fun z hz b hb=>R_new hz hb⟩
   have hst2:=(go_ok (Q:=Q) (kf0:=kf) (cx:=R) (lv:=lvOf a) hsz _ 0 [] fs qs e rfl hp).2
   obtain ⟨I,i0,i1,i2⟩:=reg (Q:=Q) hSR hD2 hB' hR fun i hi=>hst2 i (Nat.zero_le _) hi
   refine ⟨I,i0,i1,fun L a' w' hL hI=> ?_⟩
   obtain ⟨kf',k1,k2,k3,k4,k5⟩:=i2 L a' w' hL hI
   refine ⟨kf', ?_⟩
   rw [newG_dG hst,newD_dD] at k5
   have halG: ∀x∈S.G,kf' x.slot=kf x.slot:=fun x hx=>k1 _ fun z hz e=>by
    have hok:okB soft P ops (gTy S.G) (vsOf ops)=true:=by
     simp only [regB,Bool.and_eq_true] at hB
     exact hB.1.1.1.1.2
    simp only [okB,Bool.and_eq_true] at hok
    have h1:=List.all_eq_true.1 hok.1.1.1 z hz
    simp only [okA,Bool.and_eq_true] at h1
    have:=List.all_eq_true.1 h1.2 (x.slot,x.ty) (List.mem_map.2 ⟨x,hx,rfl⟩)
    simp only [e] at this
    simp at this
   have nVs: ∀x:Vx E.κ,(nV (vsOf ops) fs x).slot=x.slot∧(nV (vsOf ops) fs x).ty=x.ty:=fun x=>by
    unfold nV
    split<;>exact ⟨rfl,rfl⟩
   have hcx2: ∀b t,b<w'.heap.size→R.ban b t=false→(cxOf (gTy (nG S.G (vsOf ops) fs)) kf' wE.heap.size).ban b t=false:=fun b t _ hRb=>by
    cases hb:(cxOf (gTy (nG S.G (vsOf ops) fs)) kf' wE.heap.size).ban b t with
    |false=>rfl
    |true=>
     exfalso
     obtain ⟨x,hx,e1,e2⟩:=ban_var hb
     obtain ⟨y,hy,rfl⟩:=List.mem_map.1 hx
     simp only at e1 e2
     rcases List.mem_append.1 hy with hy|hy
     ·obtain ⟨z,hz,rfl⟩:=List.mem_map.1 hy
      rw [(nVs z).1,halG z hz] at e1
      rw [(nVs z).2] at e2
      have:R.ban b t=true:=by
       rw [←e1,←e2]
       exact R_var (x:=(z.slot,z.ty)) (List.mem_map.2 ⟨z,hz,rfl⟩)
      rw [this] at hRb
      cases hRb
     ·obtain ⟨z,hz,rfl⟩:=List.mem_map.1 hy
      rw [(nVs _).1] at e1
      rw [(nVs _).2] at e2
      simp only at e1 e2
      have h2:=k2 z hz
      have:R.ban b t=true:=by
       rw [←e2]
       exact R_new hz (by rw [←e1];exact h2)
      rw [this] at hRb
      cases hRb
   have hDs: ∀d,hasD S.D d=true→(dS (E.dk R) kf (lvOf a) (lS S.D d)).p w' (lvOf a d):=fun d hd=>
    (dS (E.dk R) kf (lvOf a) (lS S.D d)).st _ _ _ (dS_cx hcx rfl (hS.d hd)) k4
   refine ⟨k5.size,k5.defers,k5.grow, ?_, ?_, ?_⟩
   ·refine vars_cx fun x hx=> ?_
    obtain ⟨y,hy,rfl⟩:=List.mem_map.1 hx
    obtain ⟨g1,g2,cs,g3,g4,g5⟩:=k5.vars _ (List.mem_map.2 ⟨_,List.mem_map.2 ⟨y,hy,rfl⟩,rfl⟩)
    exact ⟨g1,g2,cs,g3,g4,dS_cx hcx2 rfl (dS_pl g5)⟩
   ·intro x hx y hy
    obtain ⟨x',hx',rfl⟩:=List.mem_map.1 hx
    obtain ⟨y',hy',rfl⟩:=List.mem_map.1 hy
    obtain ⟨x2,hx2,rfl⟩:=List.mem_map.1 hx'
    obtain ⟨y2,hy2,rfl⟩:=List.mem_map.1 hy'
    obtain ⟨x3,hx3,rfl⟩:=List.mem_map.1 hx2
    obtain ⟨y3,hy3,rfl⟩:=List.mem_map.1 hy2
    exact fun hne=>ap_of k5 hx3 hy3 hne
   ·intro x hx
    obtain ⟨y,hy,rfl⟩:=List.mem_map.1 hx
    obtain ⟨z,hz,rfl⟩:=List.mem_map.1 hy
    obtain ⟨u,hu,rfl⟩:=List.mem_map.1 hz
    exact dS_cx hcx2 rfl (dS_st (fun q hq=>k1 q hq) (fun d hd=>k3 d hd) hDs (k5.facts _ (List.mem_map.2 ⟨_,List.mem_map.2 ⟨u,hu,rfl⟩,rfl⟩)))
 ·cases hr
end
end
end Go.Proofs.YtdofjoijodjajaaDoor.X
