/- One text out of: Zr, Zs, Zt, Zv. -/
import Derived.Test.YthebilnlljkfeaaGreatDoorBRg
import Derived.Laws.Tables
import Derived.Laws.Rows
import Derived.Deep.MidRow
namespace Go.Proofs.YthebilnlljkfeaaGreatDoor.Z
open Go.RowKit Go.Proofs.YthebilnlljkfeaaGreatDoor.Rg
variable {P:Program} {s:Array Value→TypeId→Bool}
abbrev Pr:=World→Value→Prop
structure EvoE (e:Nat→Obj→Bool) (w w':World):Prop where
 size:w.heap.size≤w'.heap.size
 block: ∀b,b<w.heap.size→w'.heap[b]? =w.heap[b]? ∨ ∃o o',w.heap[b]? =some o∧w'.heap[b]? =some o'∧e b o=true∧e b o'=true
def softO (s:Array Value→TypeId→Bool):Obj→Bool
 | .cells cs t (0,0)=>s cs t
 | .stringIter _ _=>true
 |_=>false
abbrev Evo (s:Array Value→TypeId→Bool) (w w':World):Prop:=EvoE (fun _=>softO s) w w'
structure Cx where
 ban:Nat→TypeId→Bool
 own:Nat
 reg:Nat
abbrev cxA (w:World):Cx:=⟨fun _ _=>false,w.heap.size,0⟩
def itT:TypeId:=1000000
def eC (s:Array Value→TypeId→Bool) (cx:Cx) (b:Nat):Obj→Bool
 | .cells cs t (0,0)=>cx.ban b t&&s cs t
 | .stringIter _ _=>cx.ban b itT
 |_=>false
variable {e:Nat→Obj→Bool}
theorem eC_soft {cx:Cx} {b:Nat} {o:Obj} (h:eC s cx b o=true):softO s o=true:=by
 unfold eC at h
 split at h
 ·exact (Bool.and_eq_true_iff.1 h).2
 ·rfl
 ·cases h
theorem EvoE.soft {cx:Cx} {w w':World} (h:EvoE (eC s cx) w w'):Evo s w w':=⟨h.size,fun b hb=>(h.block b hb).imp id fun ⟨o,o',h1,h2,h3,h4⟩=>⟨o,o',h1,h2,eC_soft h3,eC_soft h4⟩⟩
theorem EvoE.refl (w:World):EvoE e w w:=⟨Nat.le_refl _,fun _ _=> .inl rfl⟩
theorem EvoE.trans {a b c:World} (h:EvoE e a b) (k:EvoE e b c):EvoE e a c:=by
 refine ⟨Nat.le_trans h.size k.size,fun x hx=> ?_⟩
 rcases h.block x hx with h1|⟨o,o',h1,h2,h3,h4⟩
 ·rcases k.block x (Nat.lt_of_lt_of_le hx h.size) with k1|⟨r,r',k1,k2,k3,k4⟩
  ·exact .inl (k1.trans h1)
  ·exact .inr ⟨r,r',h1▸k1,k2,k3,k4⟩
 ·rcases k.block x (Nat.lt_of_lt_of_le hx h.size) with k1|⟨r,r',k1,k2,k3,k4⟩
  ·exact .inr ⟨o,o',h1,k1.trans h2,h3,h4⟩
  ·exact .inr ⟨o,r',h1,k2,h3,k4⟩
theorem EvoE.of_grow {a b:World} (h:Grow a b):EvoE e a b:=⟨h.size,fun x hx=> .inl (Below.block h x hx)⟩
theorem EvoE.set {w:World} {k:Nat} {cs cs':Array Value} {t:TypeId} (h:w.heap[k]? =some (.cells cs t (0,0))) (h1:e k (.cells cs t (0,0))=true) (h2:e k (.cells cs' t (0,0))=true):EvoE e w (w.setRow k cs'):=by
 refine ⟨by simp,fun b _=> ?_⟩
 by_cases he:b=k
 ·subst he;exact .inr ⟨_,_,h,setRow_heap w b cs cs' t _ h,h1,h2⟩
 ·exact .inl (setRow_other w k b cs' he)
theorem Evo.of_grow {a b:World} (h:Grow a b):Evo s a b:=EvoE.of_grow h
theorem grow_set {a w:World} (h:Grow a w) {k:Nat} (hk:a.heap.size≤k) (cs:Array Value):Grow a (w.setRow k cs):=
 ⟨h.os,h.tape,h.output,by rw [setRow_size];exact h.size,fun b hb=>(setRow_other w k b cs (by omega)).trans (Below.block h b hb)⟩
def StbE (e:Nat→Obj→Bool) (p:Pr):Prop:= ∀w w' v,p w v→EvoE e w w'→p w' v
def Stb (s:Array Value→TypeId→Bool) (p:Pr):Prop:= ∀w w' v,p w v→Evo s w w'→p w' v
theorem Stb.up {p:Pr} {cx:Cx} (h:Stb s p):StbE (eC s cx) p:=fun w w' v hp he=>h w w' v hp he.soft
theorem stb_eq (c:Value):Stb s (fun _ v=>v=c):=fun _ _ _ h _=>h
theorem stb_true:Stb s (fun _ _=>True):=fun _ _ _ h _=>h
def aggB (P:Program) (t:TypeId):Bool:=match P.underlying t with
 |some (.struct _)=>true
 |some (.array _ _)=>true
 |_=>false
structure Fits (s:Array Value→TypeId→Bool) (P:Program) (t:TypeId) (cs:Array Value):Prop where
 agg:aggB P t=true
 size:(P.info? t).map (·.size)=some cs.size
 one:cs.all (·.oneCell')=true
 soft:s cs t=true
def zeroOf (P:Program) (t:TypeId):Array Value:=((P.info? t).bind (·.zero)).elim #[] Value.cells
def zeroB (s:Array Value→TypeId→Bool) (P:Program) (t:TypeId):Bool:=match P.info? t with
 |some i=>match i.zero with
  |some (.agg cs)=>Nat.beq i.size cs.size&&cs.all (·.oneCell')&&s cs t&&aggB P t
  |_=>false
 |none=>false
theorem zero_fits {t:TypeId} (h:zeroB s P t=true):Fits s P t (zeroOf P t)∧ ∃i,P.info? t=some i∧i.zero=some (.agg (zeroOf P t)):=by
 unfold zeroB at h
 split at h
 ·next i hi=>
  split at h
  ·next cs hz=>
   simp only [Bool.and_eq_true] at h
   obtain ⟨⟨⟨h1,h2⟩,h3⟩,h4⟩:=h
   have e:zeroOf P t=cs:=by simp [zeroOf,hi,hz,Value.cells]
   rw [e]
   exact ⟨⟨h4,by rw [hi];simpa using Nat.eq_of_beq_eq_true h1,h2,h3⟩,i,hi,hz⟩
  ·cases h
 ·cases h
theorem run_alloc {w:World} {t:TypeId} {o:Oper} {ρ:Operand→Value} (h:zeroB s P t=true) (ho:o.op= .alloc t):(execOp ρ o).run P w= .ok (.value (.pointer (some ⟨w.heap.size,0,none⟩))) (w.alloc (.cells (zeroOf P t) t)):=by
 obtain ⟨_,i,hi,hz⟩:=zero_fits h
 have hz':(zeroValue t).run P w= .ok (.agg (zeroOf P t)) w:=by
  unfold zeroValue typeInfo
  simp [go_sem,hi,hz]
 unfold execOp
 simp only [ho,Instr.alloc,Sem.run_bind,hz',Result.andThen_ok,Sem.run_pure]
 rfl
theorem run_box {w:World} {t:TypeId} {o:Oper} {ρ:Operand→Value} {x:Operand} {cs:Array Value} (ho:o.op= .box t x) (hx:ρ x= .agg cs):(execOp ρ o).run P w= .ok (.value (.pointer (some ⟨w.heap.size,0,none⟩))) (w.alloc (.cells cs t)):=by
 unfold execOp
 simp only [ho,hx,Instr.box,Sem.run_bind,Sem.run_pure]
 rfl
theorem agg_desc {t:TypeId} (h:aggB P t=true): ∃d,P.underlying t=some d∧(match d with| .struct _| .array _ _=>true|_=>false)=true:=by
 unfold aggB at h
 split at h
 ·next e=>exact ⟨_,e,rfl⟩
 ·next e=>exact ⟨_,e,rfl⟩
 ·cases h
theorem run_store {w:World} {t:TypeId} {o:Oper} {ρ:Operand→Value} {p x:Operand} {k:Nat} {cs old:Array Value} (ho:o.op= .store t p x) (hp:ρ p= .pointer (some ⟨k,0,none⟩)) (hx:ρ x= .agg cs) (hk:w.heap[k]? =some (.cells old t (0,0))) (hs:old.size=cs.size)
  (hf:Fits s P t cs):(execOp ρ o).run P w= .ok .skip (w.setRow k cs):=by
 unfold execOp
 simp only [ho,hp,hx,Instr.storeAt,Instr.sureAddr,Sem.run_bind,Sem.run_pure,Result.andThen_ok,run_storeVar_row w k t t old cs hk hf.size hs hf.one]
theorem run_load {w:World} {t:TypeId} {o:Oper} {ρ:Operand→Value} {p:Operand} {k:Nat} {cs:Array Value} (ho:o.op= .load t p) (hp:ρ p= .pointer (some ⟨k,0,none⟩)) (hk:w.heap[k]? =some (.cells cs t (0,0)))
  (hf:Fits s P t cs):(execOp ρ o).run P w= .ok (.value (.agg cs)) w:=by
 obtain ⟨d,hu,hd⟩:=agg_desc hf.agg
 unfold execOp
 simp only [ho,hp,Instr.loadAt,Instr.sureAddr,Sem.run_bind,Sem.run_pure,Result.andThen_ok,run_loadVar_row w k t t cs _ d hk hu (by cases d<;>first|rfl|exact hd) hf.size]
section
variable {ops:Array Oper} {Q:Exit→Act→World→Prop} {n:Nat}
def RW (P:Program) (ops:Array Oper) (Q:Exit→Act→World→Prop) (b:Bool) (a:Act) (w:World):Prop:=match b with
 |true=>wpAny P .any ops Q ops.size (Array.replicate ops.size false) a w.drew
 |false=>wpOps P ops Q (List.range' 0 ops.size) a w
theorem RW.code {id:Nat} {b:Bool} {a:Act} {w:World} (hm:P.follows .mixedOrders=true) (h:RW P ops Q b a w):(Code.region id ops b).wp P Q a w:=by
 cases b with
 |true=>exact wp_region_any hm h
 |false=>
  refine wp_region ?_
  rw [List.range_eq_range']
  exact h
theorem region_inv {b:Bool} {a0:Act} {w0:World} (I:Array Bool→Act→World→Prop) (hwf:wfV n ops=true)
  (h0: ∀w,(w=w0∨w=w0.drew)→I (Array.replicate ops.size false) a0 w)
  (step: ∀L i o a w,L.size=ops.size→ops[i]? =some o→L.getD i false=false→(∀e,e∈o.after→Region.binds .any e=true→L.getD e.on false=true)→I L a w→wpOp P ops Q i (I (L.setIfInBounds i true)) a w)
  (fin: ∀L a w,(∀i,i<ops.size→L.getD i false=true)→I L a w→Q .normal a w):RW P ops Q b a0 w0:=by
 cases b with
 |true=>
  have key: ∀(fuel:Nat) (L:Array Bool) (a:Act) (w:World),L.size=ops.size→L.toList.count false=fuel→I L a w→wpAny P .any ops Q fuel L a w:=by
   intro fuel
   induction fuel with
   |zero=>
    intro L a w hL hc hI
    have hr:Region.ready .any ops L= []:=by
     rw [List.eq_nil_iff_forall_not_mem]
     intro i hi
     unfold Region.ready at hi
     rw [List.mem_filter] at hi
     obtain ⟨hi1,hi2⟩:=hi
     rw [List.mem_range] at hi1
     simp only [Bool.and_eq_true,Bool.not_eq_true'] at hi2
     have hs:i<L.size:=by omega
     have h0:L[i]=false:=by
      have:=hi2.1
      rwa [Array.getD_eq_getD_getElem?,Array.getElem?_eq_getElem hs,Option.getD_some] at this
     have:false∈L.toList:=by rw [←h0];simp
     rw [List.count_eq_zero] at hc
     exact hc this
    exact ⟨hr,fin L a w (all_listedV hwf hL hr) hI⟩
   |succ fuel ih=>
    intro L a w hL hc hI
    refine ⟨fun hr=>fin L a w (all_listedV hwf hL hr) hI,fun i hi=> ?_⟩
    unfold Region.ready at hi
    rw [List.mem_filter] at hi
    obtain ⟨hi1,hi2⟩:=hi
    rw [List.mem_range] at hi1
    simp only [Bool.and_eq_true,Bool.not_eq_true'] at hi2
    have hget:ops[i]? =some ops[i]:=Array.getElem?_eq_getElem hi1
    have hs:i<L.size:=by omega
    have h0:L.toList[i]? =some false:=by
     have:=hi2.1
     rw [Array.getD_eq_getD_getElem?,Array.getElem?_eq_getElem hs,Option.getD_some] at this
     rw [Array.getElem?_toList,Array.getElem?_eq_getElem hs,this]
    have hLi:L.getD i false=false:=by
     rw [Array.getD_eq_getD_getElem?,←Array.getElem?_toList,h0];rfl
    refine wpOp_mono (fun a' w' hI'=>ih _ _ _ (by simpa using hL) ?_ hI') (step L i ops[i] a w hL hget hLi ?_ hI)
    ·have:=count_set L.toList i h0
     rw [Array.toList_setIfInBounds]
     omega
    ·intro e he hb
     have:=hi2.2
     rw [hget] at this
     simp only [Option.map_some,Option.getD_some] at this
     rw [Array.all_eq_true'] at this
     have:=this e he
     simpa [hb] using this
  exact key _ _ _ _ (by simp) (by simp) (h0 _ (.inr rfl))
 |false=>
  have hwf':=hwf
  simp only [wfV,Bool.and_eq_true,decide_eq_true_eq] at hwf'
  obtain ⟨_,hed⟩:=hwf'
  have key: ∀(k m:Nat) (L:Array Bool) (a:Act) (w:World),m+k=ops.size→L.size=ops.size→(∀i,i<m→L.getD i false=true)→(∀i,m≤i→L.getD i false=false)→I L a w→wpOps P ops Q (List.range' m k) a w:=by
   intro k
   induction k with
   |zero=>
    intro m L a w hmk hL hd hn hI
    show Q .normal a w
    exact fin L a w (fun i hi=>hd i (by omega)) hI
   |succ k ih=>
    intro m L a w hmk hL hd hn hI
    rw [List.range'_succ,wpOps_cons]
    have hlt:m<ops.size:=by omega
    have hget:ops[m]? =some ops[m]:=Array.getElem?_eq_getElem hlt
    refine wpOp_mono (fun a' w' hI'=>ih (m+1) _ _ _ (by omega) (by simpa using hL) (fun i hi=> ?_) (fun i hi=> ?_) hI') (step L m ops[m] a w hL hget (hn m (Nat.le_refl _)) ?_ hI)
    ·rw [Array.getD_eq_getD_getElem?,Array.getElem?_setIfInBounds]
     by_cases e:m=i
     ·subst e;simp [hL,hlt]
     ·rw [if_neg e,←Array.getD_eq_getD_getElem?];exact hd i (by omega)
    ·rw [Array.getD_eq_getD_getElem?,Array.getElem?_setIfInBounds,if_neg (by omega),←Array.getD_eq_getD_getElem?]
     exact hn i (by omega)
    ·intro e he hb
     have hz:(ops[m],m)∈ops.toList.zipIdx:=by
      rw [List.mem_zipIdx_iff_getElem?,Array.getElem?_toList]
      exact hget
     have h1:=List.all_eq_true.1 hed _ hz
     simp only at h1
     rw [Array.all_eq_true'] at h1
     have h2:=h1 e he
     rw [hb] at h2
     exact hd _ (by simpa using h2)
  exact key ops.size 0 _ a0 w0 (by omega) (by simp) (fun i hi=>by omega) (fun i _=>by rw [Array.getD_eq_getD_getElem?,Array.getElem?_replicate];split<;>rfl) (h0 w0 (.inl rfl))
def Dr (P:Program) (ops:Array Oper) (Q:Exit→Act→World→Prop) (a0:Act) (w0:World) (J:World→Prop) (fin:Act→World→Prop):Prop:= ∃I:Array Bool→Act→World→Prop,(∀w,(w=w0∨w=w0.drew)→I (Array.replicate ops.size false) a0 w)∧
 (∀L i o a w,L.size=ops.size→ops[i]? =some o→L.getD i false=false→(∀e,e∈o.after→Region.binds .any e=true→L.getD e.on false=true)→I L a w→wpOp P ops Q i (I (L.setIfInBounds i true)) a w)∧
 (∀L a w,(∀i,i<ops.size→L.getD i false=true)→I L a w→fin a w)∧ ∀L a w,I L a w→J w
theorem Dr.run {b:Bool} {a0:Act} {w0:World} {J:World→Prop} {fin:Act→World→Prop} (hwf:wfV n ops=true) (h:Dr P ops Q a0 w0 J fin) (hf: ∀a w,fin a w→Q .normal a w):RW P ops Q b a0 w0:=by
 obtain ⟨I,h0,h1,h2,_⟩:=h
 exact region_inv I hwf h0 h1 fun L a w hL hI=>hf a w (h2 L a w hL hI)
end
end Go.Proofs.YthebilnlljkfeaaGreatDoor.Z
namespace Go.Proofs.YthebilnlljkfeaaGreatDoor.Z
open Go.RowKit Go.Proofs.YthebilnlljkfeaaGreatDoor.Rg
variable {P:Program} {s:Array Value→TypeId→Bool} {e:Nat→Obj→Bool}
def AllL {α:Type} (p:α→Prop):List α→Prop
 | []=>True
 |x::l=>p x∧AllL p l
theorem AllL.mem {α:Type} {p:α→Prop}: ∀{l:List α},AllL p l→ ∀x∈l,p x:=by
 intro l
 induction l with
 |nil=>intro _ x h;cases h
 |cons y l ih=>
  intro h x hx
  rcases List.mem_cons.1 hx with rfl|hx
  ·exact h.1
  ·exact ih h.2 x hx
structure Vr where
 slot:Nat
 ty:TypeId
 val:Pr
structure St (s:Array Value→TypeId→Bool) (P:Program) (n:Nat) (G:List Vr) (D:List (Nat×Pr)) (wE:World) (kf:Nat→Nat) (a:Act) (w:World):Prop where
 size:a.tmps.size=n
 defers:a.defers= []
 grow:Grow wE w
 vars: ∀x∈G,a.tmps.getD x.slot undef= .pointer (some ⟨kf x.slot,0,none⟩)∧wE.heap.size≤kf x.slot∧ ∃cs,w.heap[kf x.slot]? =some (.cells cs x.ty (0,0))∧Fits s P x.ty cs∧x.val w (.agg cs)
 apart: ∀x∈G,∀y∈G,x.slot≠y.slot→kf x.slot≠kf y.slot
 facts: ∀x∈D,x.2 w (a.tmps.getD x.1 undef)
structure VS where
 al:List (Nat×Nat×TypeId)
 st:List (Nat×Nat×Nat×TypeId)
def isAl (V:VS) (i:Nat):Bool:=V.al.any fun x=>Nat.beq x.1 i
def isSt (V:VS) (i:Nat):Bool:=V.st.any fun x=>Nat.beq x.1 i
def slots (G:List Vr):List (Nat×TypeId):=G.map fun x=>(x.slot,x.ty)
def okA (s:Array Value→TypeId→Bool) (P:Program) (ops:Array Oper) (G:List (Nat×TypeId)) (x:Nat×Nat×TypeId):Bool:=
 (match info ops x.1 with
  |some (some p, .alloc t,none)=>Nat.beq p x.2.1&&Nat.beq t x.2.2
  |_=>false)&&zeroB s P x.2.2&&G.all (fun y=> !Nat.beq y.1 x.2.1)
def okS (ops:Array Oper) (G:List (Nat×TypeId)) (V:VS) (x:Nat×Nat×Nat×TypeId):Bool:=
 (match info ops x.1 with
  |some (none, .store t (.tmp p) (.tmp y),none)=>Nat.beq p x.2.1&&Nat.beq y x.2.2.1&&Nat.beq t x.2.2.2
  |_=>false)&&depI ops x.1 x.2.2.1&&V.al.all (fun z=> !Nat.beq z.2.1 x.2.2.1)&&
 (G.any (fun y=>Nat.beq y.1 x.2.1&&Nat.beq y.2 x.2.2.2)||(depI ops x.1 x.2.1&&V.al.any fun z=>Nat.beq z.2.1 x.2.1&&Nat.beq z.2.2 x.2.2.2))
def okB (s:Array Value→TypeId→Bool) (P:Program) (ops:Array Oper) (G:List (Nat×TypeId)) (V:VS):Bool:=
 V.al.all (okA s P ops G)&&V.st.all (okS ops G V)&&G.all (fun y=> !(dsts ops).contains y.1)&&decide ((V.st.map (·.2.1)).Nodup)
def predI (ops:Array Oper) (j i:Nat):Bool:=match ops[j]? with
 |some o=>o.after.any fun e=>Region.binds .any e&&Nat.beq e.on i
 |none=>false
def readB (ops:Array Oper) (V:VS) (i p:Nat):Bool:=V.st.all fun x=> !Nat.beq x.2.1 p||predI ops x.1 i
def readS (ops:Array Oper) (i d:Nat):Bool:=ops.toList.zipIdx.all fun x=> !(x.1.dst==some d)||(x.1.after.any fun e=>Region.binds .any e&&Nat.beq e.on i)||Nat.beq x.2 i
section
variable {ops:Array Oper} {Q:Exit→Act→World→Prop} {n:Nat} {F:Facts} {G:List Vr} {D:List (Nat×Pr)} {V:VS} {a0:Act} {w0 wE:World} {kf0:Nat→Nat}
structure Ctx (s:Array Value→TypeId→Bool) (P:Program) (ops:Array Oper) (F:Facts) (G:List Vr) (D:List (Nat×Pr)) (V:VS) (kf0:Nat→Nat) (i:Nat) (a:Act) (w:World):Prop where
 dep: ∀d,depI ops i d=true→F d w (a.tmps.getD d undef)
 ptr: ∀x∈G,a.tmps.getD x.slot undef= .pointer (some ⟨kf0 x.slot,0,none⟩)
 rd: ∀x∈G,readB ops V i x.slot=true→ ∃cs,w.heap[kf0 x.slot]? =some (.cells cs x.ty (0,0))∧Fits s P x.ty cs∧x.val w (.agg cs)
 old: ∀x∈D,readS ops i x.1=true→x.2 w (a.tmps.getD x.1 undef)
def Step (s:Array Value→TypeId→Bool) (P:Program) (ops:Array Oper) (Q:Exit→Act→World→Prop) (F:Facts) (G:List Vr) (D:List (Nat×Pr)) (V:VS) (kf0:Nat→Nat) (i:Nat):Prop:=
 ∀o,ops[i]? =some o→ ∀a w,Ctx s P ops F G D V kf0 i a w→wpOp P ops Q i (fun a' w'=> ∃v,a'=a.put o.dst v∧(∀d,o.dst=some d→F d w' v)∧Grow w w') a w
def live (G:List Vr) (V:VS) (L:Array Bool) (p:Nat) (t:TypeId):Prop:=(∃x∈G,x.slot=p∧x.ty=t)∨ ∃i,(i,p,t)∈V.al∧L.getD i false=true
structure Inv (s:Array Value→TypeId→Bool) (e:Nat→Obj→Bool) (P:Program) (ops:Array Oper) (F:Facts) (n:Nat) (G:List Vr) (V:VS) (a0:Act) (w0 wE:World) (kf0 kf:Nat→Nat) (L:Array Bool) (a:Act) (w:World):Prop where
 hk: ∀q,(∀z∈V.al,z.2.1≠q)→kf q=kf0 q
 size:a.tmps.size=n
 defers:a.defers= []
 gr:Grow wE w
 ev:EvoE e w0 w
 newk: ∀i p t,(i,p,t)∈V.al→L.getD i false=true→w0.heap.size≤kf p
 keep: ∀d,(∀i o,ops[i]? =some o→L.getD i false=true→o.dst≠some d)→a.tmps.getD d undef=a0.tmps.getD d undef
 facts: ∀i o d,ops[i]? =some o→L.getD i false=true→isAl V i=false→o.dst=some d→F d w (a.tmps.getD d undef)
 clos: ∀i o e,ops[i]? =some o→L.getD i false=true→e∈o.after→Region.binds .any e=true→L.getD e.on false=true
 vars: ∀p t,live G V L p t→a.tmps.getD p undef= .pointer (some ⟨kf p,0,none⟩)∧wE.heap.size≤kf p∧ ∃cs,w.heap[kf p]? =some (.cells cs t (0,0))∧Fits s P t cs∧ ∀j y t',(j,p,y,t')∈V.st→L.getD j false=true→a.tmps.getD y undef= .agg cs
 gval: ∀x∈G,(∀j y t,(j,x.slot,y,t)∈V.st→L.getD j false=false)→ ∃cs,w.heap[kf x.slot]? =some (.cells cs x.ty (0,0))∧x.val w (.agg cs)
 aval: ∀i p t,(i,p,t)∈V.al→L.getD i false=true→(∀j y t,(j,p,y,t)∈V.st→L.getD j false=false)→w.heap[kf p]? =some (.cells (zeroOf P t) t (0,0))
 apart: ∀p t q t',live G V L p t→live G V L q t'→p≠q→kf p≠kf q
 same: ∀b,b<w0.heap.size→(∀j p y t,(j,p,y,t)∈V.st→(∀z∈V.al,z.2.1≠p)→kf0 p≠b)→w.heap[b]? =w0.heap[b]?
theorem info_some {i:Nat} {x:Option Nat×Op×Option (Nat×Bool)} (h:info ops i=some x): ∃o,ops[i]? =some o∧o.dst=x.1∧o.op=x.2.1∧o.guard=x.2.2:=by
 unfold info at h
 cases ho:ops[i]? with
 |none=>rw [ho] at h;cases h
 |some o=>
  rw [ho,Option.map_some] at h
  injection h with h
  subst h
  exact ⟨o,rfl,rfl,rfl,rfl⟩
theorem al_info (hok:okB s P ops (slots G) V=true) {i p:Nat} {t:TypeId} (h:(i,p,t)∈V.al):(∃o,ops[i]? =some o∧o.dst=some p∧o.op= .alloc t∧o.guard=none)∧zeroB s P t=true∧ ∀x∈G,x.slot≠p:=by
 simp only [okB,Bool.and_eq_true] at hok
 have h1:=List.all_eq_true.1 hok.1.1.1 _ h
 simp only [okA,Bool.and_eq_true] at h1
 obtain ⟨⟨h1,h2⟩,h3⟩:=h1
 refine ⟨?_,h2,fun x hx e=> ?_⟩
 ·split at h1
  ·next p' t' he=>
   simp only [Bool.and_eq_true] at h1
   have e1:=Nat.eq_of_beq_eq_true h1.1
   have e2:=Nat.eq_of_beq_eq_true h1.2
   subst e1 e2
   obtain ⟨o,ho,a1,a2,a3⟩:=info_some he
   exact ⟨o,ho,a1,a2,a3⟩
  ·cases h1
 ·have:=List.all_eq_true.1 h3 (x.slot,x.ty) (List.mem_map.2 ⟨x,hx,rfl⟩)
  subst e
  simp at this
theorem st_info (hok:okB s P ops (slots G) V=true) {i p y:Nat} {t:TypeId} (h:(i,p,y,t)∈V.st):(∃o,ops[i]? =some o∧o.dst=none∧o.op= .store t (.tmp p) (.tmp y)∧o.guard=none)∧depI ops i y=true∧(∀z∈V.al,z.2.1≠y)∧
  ((∃x∈G,x.slot=p∧x.ty=t)∨(depI ops i p=true∧ ∃j,(j,p,t)∈V.al)):=by
 simp only [okB,Bool.and_eq_true] at hok
 have h1:=List.all_eq_true.1 hok.1.1.2 _ h
 simp only [okS,Bool.and_eq_true,Bool.or_eq_true] at h1
 obtain ⟨⟨⟨h1,h2⟩,h3⟩,h4⟩:=h1
 refine ⟨?_,h2,fun z hz e=> ?_, ?_⟩
 ·split at h1
  ·next t' p' y' he=>
   simp only [Bool.and_eq_true] at h1
   have e1:=Nat.eq_of_beq_eq_true h1.1.1
   have e2:=Nat.eq_of_beq_eq_true h1.1.2
   have e3:=Nat.eq_of_beq_eq_true h1.2
   subst e1 e2 e3
   obtain ⟨o,ho,a1,a2,a3⟩:=info_some he
   exact ⟨o,ho,a1,a2,a3⟩
  ·cases h1
 ·have:=List.all_eq_true.1 h3 z hz
  subst e
  simp at this
 ·rcases h4 with h4|⟨h4,h5⟩
  ·obtain ⟨z,hz,e⟩:=List.any_eq_true.1 h4
   obtain ⟨x,hx,rfl⟩:=List.mem_map.1 hz
   simp only [Bool.and_eq_true] at e
   exact .inl ⟨x,hx,Nat.eq_of_beq_eq_true e.1,Nat.eq_of_beq_eq_true e.2⟩
  ·obtain ⟨⟨j,q,u⟩,hz,e⟩:=List.any_eq_true.1 h5
   simp only [Bool.and_eq_true] at e
   have e1:=Nat.eq_of_beq_eq_true e.1
   have e2:=Nat.eq_of_beq_eq_true e.2
   subst e1 e2
   exact .inr ⟨h4,j,hz⟩
theorem Inv.hkG (hok:okB s P ops (slots G) V=true) {kf:Nat→Nat} {L:Array Bool} {a:Act} {w:World} (hI:Inv s e P ops F n G V a0 w0 wE kf0 kf L a w) {x:Vr} (hx:x∈G):kf x.slot=kf0 x.slot:=hI.hk _ fun z hz e=>(al_info hok (i:=z.1) (p:=z.2.1) (t:=z.2.2) hz).2.2 x hx e.symm
theorem g_dst (hok:okB s P ops (slots G) V=true) {x:Vr} (hx:x∈G):(dsts ops).contains x.slot=false:=by
 simp only [okB,Bool.and_eq_true] at hok
 have:=List.all_eq_true.1 hok.1.2 (x.slot,x.ty) (List.mem_map.2 ⟨x,hx,rfl⟩)
 simpa using this
theorem st_one (hok:okB s P ops (slots G) V=true) {i j p y z:Nat} {t u:TypeId} (h:(i,p,y,t)∈V.st) (h':(j,p,z,u)∈V.st):i=j∧y=z∧t=u:=by
 simp only [okB,Bool.and_eq_true,decide_eq_true_eq] at hok
 have key: ∀(l:List (Nat×Nat×Nat×TypeId)),(l.map (·.2.1)).Nodup→(i,p,y,t)∈l→(j,p,z,u)∈l→(i,p,y,t)=(j,p,z,u):=by
  intro l
  induction l with
  |nil=>intro _ h;cases h
  |cons a l ih=>
   intro hn h1 h2
   rw [List.map_cons,List.nodup_cons] at hn
   rcases List.mem_cons.1 h1 with h1|h1<;>rcases List.mem_cons.1 h2 with h2|h2
   ·rw [h1,h2]
   ·exact absurd (List.mem_map.2 ⟨_,h2,by rw [←h1]⟩) hn.1
   ·exact absurd (List.mem_map.2 ⟨_,h1,by rw [←h2]⟩) hn.1
   ·exact ih hn.2 h1 h2
 have:=key V.st hok.2 h h'
 simp only [Prod.mk.injEq] at this
 exact ⟨this.1,this.2.2.1,this.2.2.2⟩
theorem dep_writer {i d:Nat} {o:Oper} (ho:ops[i]? =some o) (h:depI ops i d=true): ∃e∈o.after,Region.binds .any e=true∧ ∃q,ops[e.on]? =some q∧q.dst=some d:=by
 rw [depI_eq ho] at h
 unfold depB at h
 rw [Array.any_eq_true] at h
 obtain ⟨k,hk,hd⟩:=h
 simp only [Bool.and_eq_true,beq_iff_eq] at hd
 cases hq:ops[(o.after[k]).on]? with
 |none=>rw [hq] at hd;cases hd.2
 |some q=>exact ⟨o.after[k],Array.getElem_mem hk,hd.1,q,hq,by rw [hq] at hd;exact hd.2⟩
theorem isAl_iff {i:Nat}:isAl V i=true↔ ∃p t,(i,p,t)∈V.al:=by
 unfold isAl
 rw [List.any_eq_true]
 constructor
 ·rintro ⟨⟨j,p,t⟩,h,e⟩
  have:=Nat.eq_of_beq_eq_true e
  simp only at this
  subst this
  exact ⟨p,t,h⟩
 ·rintro ⟨p,t,h⟩
  exact ⟨_,h,by simp⟩
theorem isSt_iff {i:Nat}:isSt V i=true↔ ∃p y t,(i,p,y,t)∈V.st:=by
 unfold isSt
 rw [List.any_eq_true]
 constructor
 ·rintro ⟨⟨j,p,y,t⟩,h,e⟩
  have:=Nat.eq_of_beq_eq_true e
  simp only at this
  subst this
  exact ⟨p,y,t,h⟩
 ·rintro ⟨p,y,t,h⟩
  exact ⟨_,h,by simp⟩
theorem put_other {a:Act} {dst:Option Nat} {v:Value} {e:Nat} (h:dst≠some e):(a.put dst v).tmps.getD e undef=a.tmps.getD e undef:=by
 cases dst with
 |none=>rfl
 |some d=>
  have hne:d≠e:=fun x=>h (by rw [x])
  simp only [Act.put,Array.getD_eq_getD_getElem?,Array.getElem?_setIfInBounds]
  simp [hne]
theorem put_size (a:Act) (dst:Option Nat) (v:Value):(a.put dst v).tmps.size=a.tmps.size:=by
 cases dst<;>simp [Act.put]
theorem put_defers (a:Act) (dst:Option Nat) (v:Value):(a.put dst v).defers=a.defers:=by
 cases dst<;>rfl
theorem set_get {L:Array Bool} {i j:Nat} (h:(L.setIfInBounds i true).getD j false=true):j=i∨L.getD j false=true:=by
 by_cases e:i=j
 ·exact .inl e.symm
 ·exact .inr (getD_set h e)
theorem set_keep {L:Array Bool} {i j:Nat} (h:L.getD j false=true):(L.setIfInBounds i true).getD j false=true:=by
 rw [Array.getD_eq_getD_getElem?,Array.getElem?_setIfInBounds]
 by_cases e:i=j
 ·subst e
  have:i<L.size:=by
   rcases Nat.lt_or_ge i L.size with h'|h'
   ·exact h'
   ·rw [Array.getD_eq_getD_getElem?,Array.getElem?_eq_none h'] at h;cases h
  simp [this]
 ·rw [if_neg e,←Array.getD_eq_getD_getElem?];exact h
theorem set_self {L:Array Bool} {i:Nat} (h:i<L.size):(L.setIfInBounds i true).getD i false=true:=by
 rw [Array.getD_eq_getD_getElem?,Array.getElem?_setIfInBounds]
 simp [h]
theorem not_again (hwf:wfV n ops=true) {L:Array Bool} {i:Nat} {o:Oper} (hi:ops[i]? =some o) (hLi:L.getD i false=false) {e:Nat} (h: ∃j q,ops[j]? =some q∧q.dst=some e∧L.getD j false=true):o.dst≠some e:=by
 intro hd
 obtain ⟨j,q,hj,hq,hLj⟩:=h
 simp only [wfV,Bool.and_eq_true,decide_eq_true_eq] at hwf
 have hi':ops.toList[i]? =some o:=by rw [Array.getElem?_toList];exact hi
 have hj':ops.toList[j]? =some q:=by rw [Array.getElem?_toList];exact hj
 have:=nodup_filterMap_idx (fun x:Oper=>x.dst) ops.toList hwf.1.2 i j o q e hi' hj' hd hq
 subst this
 rw [hLi] at hLj
 cases hLj
theorem not_var (hwf:wfV n ops=true) (hok:okB s P ops (slots G) V=true) {L:Array Bool} {i:Nat} {o:Oper} (hi:ops[i]? =some o) (hLi:L.getD i false=false) {p:Nat} {t:TypeId} (h:live G V L p t):o.dst≠some p:=by
 rcases h with ⟨x,hx,rfl,rfl⟩|⟨j,hj,hL⟩
 ·intro hd
  have h1:=g_dst hok hx
  have h2:=mem_dsts hi hd
  rw [List.contains_eq_mem] at h1
  simp [h2] at h1
 ·obtain ⟨⟨q,hq,hqd,_⟩,_⟩:=al_info hok hj
  exact not_again hwf hi hLi ⟨j,q,hq,hqd,hL⟩
theorem src_done (hok:okB s P ops (slots G) V=true) {kf:Nat→Nat} {L:Array Bool} {a:Act} {w:World} (hI:Inv s e P ops F n G V a0 w0 wE kf0 kf L a w) {j p y:Nat} {t:TypeId} (h:(j,p,y,t)∈V.st) (hL:L.getD j false=true): ∃m q,ops[m]? =some q∧q.dst=some y∧L.getD m false=true:=by
 obtain ⟨⟨o,ho,_⟩,hdep,_⟩:=st_info hok h
 obtain ⟨e,he,hb,q,hq,hqd⟩:=dep_writer ho hdep
 exact ⟨e.on,q,hq,hqd,hI.clos j o e ho hL he hb⟩
theorem live_set {L:Array Bool} {i p:Nat} {t:TypeId} (h:live G V (L.setIfInBounds i true) p t):live G V L p t∨(i,p,t)∈V.al:=by
 rcases h with h|⟨j,hj,hL⟩
 ·exact .inl (.inl h)
 ·rcases set_get hL with e|e
  ·subst e;exact .inr hj
  ·exact .inl (.inr ⟨j,hj,e⟩)
theorem clos_set {kf:Nat→Nat} {L:Array Bool} {a:Act} {w:World} (hI:Inv s e P ops F n G V a0 w0 wE kf0 kf L a w) {i:Nat} {o:Oper} (hi:ops[i]? =some o) (hdone: ∀e,e∈o.after→Region.binds .any e=true→L.getD e.on false=true):
  ∀j q e,ops[j]? =some q→(L.setIfInBounds i true).getD j false=true→e∈q.after→Region.binds .any e=true→(L.setIfInBounds i true).getD e.on false=true:=by
 intro j q e hj hL he hb
 rcases set_get hL with e1|e1
 ·subst e1
  rw [hi] at hj
  injection hj with hj
  subst hj
  exact set_keep (hdone e he hb)
 ·exact set_keep (hI.clos j q e hj e1 he hb)
end
end Go.Proofs.YthebilnlljkfeaaGreatDoor.Z
namespace Go.Proofs.YthebilnlljkfeaaGreatDoor.Z
open Go.RowKit Go.Proofs.YthebilnlljkfeaaGreatDoor.Rg
variable {P:Program} {s:Array Value→TypeId→Bool} {e:Nat→Obj→Bool}
section
variable {ops:Array Oper} {Q:Exit→Act→World→Prop} {n:Nat} {F:Facts} {G:List Vr} {D:List (Nat×Pr)} {V:VS} {a0:Act} {w0 wE:World} {kf0:Nat→Nat}
theorem inv_plain (hwf:wfV n ops=true) (hok:okB s P ops (slots G) V=true) (hF: ∀d,StbE e (F d)) (hGs: ∀x∈G,StbE e x.val) {kf:Nat→Nat} {L:Array Bool} {a:Act} {w:World} (hI:Inv s e P ops F n G V a0 w0 wE kf0 kf L a w) {i:Nat} {o:Oper} (hi:ops[i]? =some o) (hLs:i<L.size) (hLi:L.getD i false=false)
  (hdone: ∀e,e∈o.after→Region.binds .any e=true→L.getD e.on false=true) (hna:isAl V i=false) (hns:isSt V i=false) {v:Value} {w':World} (hv: ∀d,o.dst=some d→F d w' v) (hc:Grow w w'):
  Inv s e P ops F n G V a0 w0 wE kf0 kf (L.setIfInBounds i true) (a.put o.dst v) w':=by
 have hlive: ∀p t,live G V (L.setIfInBounds i true) p t→live G V L p t:=fun p t h=>(live_set h).elim id fun h'=>by
  have:=isAl_iff.2 ⟨p,t,h'⟩
  rw [hna] at this
  cases this
 have hst: ∀j p y t,(j,p,y,t)∈V.st→(L.setIfInBounds i true).getD j false=true→L.getD j false=true:=fun j p y t h hL=>(set_get hL).elim (fun e=>by
  subst e
  have:=isSt_iff.2 ⟨p,y,t,h⟩
  rw [hns] at this
  cases this) id
 have hvb: ∀p t,live G V L p t→w'.heap[kf p]? =w.heap[kf p]? :=fun p t hp=>by
  obtain ⟨_,_,cs,h3,_⟩:=hI.vars p t hp
  exact Below.block hc (kf p) (Array.getElem?_eq_some_iff.1 h3).1
 have hev:EvoE e w w':=EvoE.of_grow hc
 have hback: ∀j,L.getD j false=true→(L.setIfInBounds i true).getD j false=true:=fun j h=>set_keep h
 have hnot: ∀j,(L.setIfInBounds i true).getD j false=false→L.getD j false=false:=fun j h=>by
  cases h':L.getD j false with
  |false=>rfl
  |true=>rw [hback j h'] at h;cases h
 refine ⟨hI.hk,by rw [put_size];exact hI.size,by rw [put_defers];exact hI.defers,hI.gr.trans hc,hI.ev.trans hev,fun j p t hj hL=>hI.newk j p t hj ((set_get hL).elim (fun e1=>by
   subst e1
   have:=isAl_iff.2 ⟨p,t,hj⟩
   rw [hna] at this
   cases this) id),fun d hd=> ?_,fun j q d hj hL hj2 hd=> ?_,clos_set hI hi hdone,fun p t hp=> ?_,fun x hx h=> ?_,fun j p t hj hL h=> ?_,fun p t q t' hp hq=>hI.apart p t q t' (hlive p t hp) (hlive q t' hq),fun b hb hs=>(Below.block hc b (Nat.lt_of_lt_of_le hb hI.ev.size)).trans (hI.same b hb hs)⟩
 ·rw [put_other (fun hd'=>hd i o hi (set_self hLs) hd')]
  exact hI.keep d fun j q hj hL=>hd j q hj (set_keep hL)
 ·rcases set_get hL with e|e
  ·subst e
   rw [hi] at hj
   injection hj with hj
   subst hj
   have hlt:d<a.tmps.size:=by
    rw [hI.size]
    simp only [wfV,Bool.and_eq_true] at hwf
    have:=List.all_eq_true.1 hwf.1.1 d (mem_dsts hi hd)
    simpa using this
   rw [hd,put_getD a d d v hlt,if_pos rfl]
   exact hv d hd
  ·rw [put_other (not_again hwf hi hLi ⟨j,q,hj,hd,e⟩)]
   exact hF d _ _ _ (hI.facts j q d hj e hj2 hd) hev
 ·obtain ⟨h1,h2,cs,h3,h4,h5⟩:=hI.vars p t (hlive p t hp)
  refine ⟨by rw [put_other (not_var hwf hok hi hLi (hlive p t hp))];exact h1,h2,cs,(hvb p t (hlive p t hp)).trans h3,h4,fun j y t' hj hL=> ?_⟩
  have hL':=hst j p y t' hj hL
  rw [put_other (not_again hwf hi hLi (src_done hok hI hj hL'))]
  exact h5 j y t' hj hL'
 ·obtain ⟨cs,h1,h2⟩:=hI.gval x hx fun j y t hj=>hnot j (h j y t hj)
  exact ⟨cs,(hvb x.slot x.ty (.inl ⟨x,hx,rfl,rfl⟩)).trans h1,hGs x hx _ _ _ h2 hev⟩
 ·have hL':L.getD j false=true:=(set_get hL).elim (fun e=>by
   subst e
   have:=isAl_iff.2 ⟨p,t,hj⟩
   rw [hna] at this
   cases this) id
  exact (hvb p t (.inr ⟨j,hj,hL'⟩)).trans (hI.aval j p t hj hL' fun m y t' hm=>hnot m (h m y t' hm))
theorem inv_alloc (hwf:wfV n ops=true) (hok:okB s P ops (slots G) V=true) (hF: ∀d,StbE e (F d)) (hGs: ∀x∈G,StbE e x.val) {kf:Nat→Nat} {L:Array Bool} {a:Act} {w:World} (hI:Inv s e P ops F n G V a0 w0 wE kf0 kf L a w) {i p:Nat} {t:TypeId} (hal:(i,p,t)∈V.al) {o:Oper} (hi:ops[i]? =some o) (hd:o.dst=some p) (hLs:i<L.size) (hLi:L.getD i false=false)
  (hdone: ∀e,e∈o.after→Region.binds .any e=true→L.getD e.on false=true) (hns:isSt V i=false) (hz:zeroB s P t=true) (hfit:Fits s P t (zeroOf P t)) (hpG: ∀x∈G,x.slot≠p):
  Inv s e P ops F n G V a0 w0 wE kf0 (fun q=>if q=p then w.heap.size else kf q) (L.setIfInBounds i true) (a.put o.dst (.pointer (some ⟨w.heap.size,0,none⟩))) (w.alloc (.cells (zeroOf P t) t)):=by
 have hg:Grow w (w.alloc (.cells (zeroOf P t) t)):=(Grow.refl w).alloc _
 have hev:EvoE e w (w.alloc (.cells (zeroOf P t) t)):=EvoE.of_grow hg
 have hblk: ∀{k:Nat} {x:Obj},w.heap[k]? =some x→(w.alloc (.cells (zeroOf P t) t)).heap[k]? =some x:=fun {k x} h=>(Below.block hg k (Array.getElem?_eq_some_iff.1 h).1).trans h
 have hnew:(w.alloc (.cells (zeroOf P t) t)).heap[w.heap.size]? =some (.cells (zeroOf P t) t (0,0)):=by unfold World.alloc;exact Array.getElem?_push_size
 have hlt:p<a.tmps.size:=by
  rw [hI.size]
  have hwf':=hwf
  simp only [wfV,Bool.and_eq_true] at hwf'
  have:=List.all_eq_true.1 hwf'.1.1 p (mem_dsts hi hd)
  simpa using this
 have hst: ∀j p y t,(j,p,y,t)∈V.st→(L.setIfInBounds i true).getD j false=true→L.getD j false=true:=fun j p y t h hL=>(set_get hL).elim (fun e=>by
  subst e
  have:=isSt_iff.2 ⟨p,y,t,h⟩
  rw [hns] at this
  cases this) id
 have hnot: ∀j,(L.setIfInBounds i true).getD j false=false→L.getD j false=false:=fun j h=>by
  cases h':L.getD j false with
  |false=>rfl
  |true=>rw [set_keep h'] at h;cases h
 have hone: ∀q u,(i,q,u)∈V.al→q=p:=fun q u h=>by
  obtain ⟨⟨o',ho',hd',_⟩,_⟩:=al_info hok h
  rw [hi] at ho'
  injection ho' with ho'
  subst ho'
  rw [hd] at hd'
  injection hd' with hd'
  exact hd'.symm
 have hpn: ∀q u,live G V L q u→q≠p:=fun q u h e=>not_var hwf hok hi hLi h (by rw [hd,e])
 have hty: ∀u,(i,p,u)∈V.al→u=t:=fun u h=>by
  obtain ⟨⟨o',ho',_,hop,_⟩,_⟩:=al_info hok h
  obtain ⟨⟨o2,ho2,_,hop2,_⟩,_⟩:=al_info hok hal
  rw [ho2] at ho'
  injection ho' with ho'
  subst ho'
  rw [hop2] at hop
  injection hop with hop
  exact hop.symm
 refine ⟨fun q hq=>by rw [if_neg (fun e=>hq _ hal e.symm)];exact hI.hk q hq,by rw [put_size];exact hI.size,by rw [put_defers];exact hI.defers,hI.gr.trans hg,hI.ev.trans hev,fun j q u hj hL=> ?_,fun d hdd=> ?_,fun j q d hj hL hj2 hdd=> ?_,clos_set hI hi hdone,fun q u hq=> ?_,fun x hx h=> ?_,fun j q u hj hL h=> ?_,fun q u r u' hq hr hqr=> ?_,fun b hb hs=>(Below.block hg b (Nat.lt_of_lt_of_le hb hI.ev.size)).trans (hI.same b hb hs)⟩
 ·by_cases hqp:q=p
  ·rw [if_pos hqp]
   exact hI.ev.size
  ·rw [if_neg hqp]
   refine hI.newk j q u hj ((set_get hL).elim (fun e1=> ?_) id)
   subst e1
   exact absurd (hone q u hj) hqp
 ·rw [put_other (fun hd'=>hdd i o hi (set_self hLs) hd')]
  exact hI.keep d fun j q hj hL=>hdd j q hj (set_keep hL)
 ·rcases set_get hL with e|e
  ·subst e
   have:=isAl_iff.2 ⟨p,t,hal⟩
   rw [hj2] at this
   cases this
  ·rw [put_other (not_again hwf hi hLi ⟨j,q,hj,hdd,e⟩)]
   exact hF d _ _ _ (hI.facts j q d hj e hj2 hdd) hev
 ·rcases live_set hq with hq|hq
  ·obtain ⟨h1,h2,cs,h3,h4,h5⟩:=hI.vars q u hq
   simp only [if_neg (hpn q u hq)]
   refine ⟨by rw [put_other (not_var hwf hok hi hLi hq)];exact h1,h2,cs,hblk h3,h4,fun j y t' hj hL=> ?_⟩
   have hL':=hst j q y t' hj hL
   rw [put_other (not_again hwf hi hLi (src_done hok hI hj hL'))]
   exact h5 j y t' hj hL'
  ·have e:=hone q u hq
   subst e
   have e2:=hty u hq
   subst e2
   simp only [if_true]
   refine ⟨by rw [hd,put_getD a q q _ hlt,if_pos rfl],hI.gr.size,_,hnew,hfit,fun j y t' hj hL=> ?_⟩
   exfalso
   have hL':=hst j q y t' hj hL
   obtain ⟨⟨oj,hoj,_⟩,_,_,hor⟩:=st_info hok hj
   rcases hor with ⟨x,hx,e,_⟩|⟨hdep,m,hm⟩
   ·exact hpG x hx e
   ·obtain ⟨e,he,hb,r,hr,hrd⟩:=dep_writer hoj hdep
    have hLe:=hI.clos j oj e hoj hL' he hb
    exact not_again hwf hi hLi ⟨e.on,r,hr,hrd,hLe⟩ hd
 ·simp only [if_neg (hpG x hx)]
  obtain ⟨cs,h1,h2⟩:=hI.gval x hx fun j y t hj=>hnot j (h j y t hj)
  exact ⟨cs,hblk h1,hGs x hx _ _ _ h2 hev⟩
 ·rcases set_get hL with e|e
  ·subst e
   have e:=hone q u hj
   subst e
   have e2:=hty u hj
   subst e2
   simp only [if_true]
   exact hnew
  ·simp only [if_neg (hpn q u (.inr ⟨j,hj,e⟩))]
   exact hblk (hI.aval j q u hj e fun m y t' hm=>hnot m (h m y t' hm))
 ·have hfresh: ∀q u,live G V L q u→kf q<w.heap.size:=fun q u h=>by
   obtain ⟨_,_,cs,h3,_⟩:=hI.vars q u h
   exact (Array.getElem?_eq_some_iff.1 h3).1
  rcases live_set hq with hq|hq<;>rcases live_set hr with hr|hr
  ·simp only [if_neg (hpn q u hq),if_neg (hpn r u' hr)]
   exact hI.apart q u r u' hq hr hqr
  ·have e:=hone r u' hr
   subst e
   simp only [if_neg (hpn q u hq),if_true]
   have:=hfresh q u hq
   omega
  ·have e:=hone q u hq
   subst e
   simp only [if_neg (hpn r u' hr),if_true]
   have:=hfresh r u' hr
   omega
  ·exact absurd ((hone q u hq).trans (hone r u' hr).symm) hqr
theorem inv_store (hok:okB s P ops (slots G) V=true) (hF: ∀d,StbE e (F d)) (hGs: ∀x∈G,StbE e x.val) {kf:Nat→Nat} {L:Array Bool} {a:Act} {w:World} (hI:Inv s e P ops F n G V a0 w0 wE kf0 kf L a w) {i p y:Nat} {t:TypeId} (hst:(i,p,y,t)∈V.st) {o:Oper} (hi:ops[i]? =some o) (hd:o.dst=none) (hLs:i<L.size) (hLi:L.getD i false=false)
  (hdone: ∀e,e∈o.after→Region.binds .any e=true→L.getD e.on false=true) (hna:isAl V i=false) (hlp:live G V L p t) {cs:Array Value} (hy:a.tmps.getD y undef= .agg cs) (hfit:Fits s P t cs) (hek: ∀cs,s cs t=true→e (kf p) (.cells cs t (0,0))=true):
  Inv s e P ops F n G V a0 w0 wE kf0 kf (L.setIfInBounds i true) (a.put o.dst undef) (w.setRow (kf p) cs):=by
 have hput:a.put o.dst undef=a:=by rw [hd];rfl
 rw [hput]
 obtain ⟨hp1,hp2,old,hp3,hp4,hp5⟩:=hI.vars p t hlp
 have hev:EvoE e w (w.setRow (kf p) cs):=EvoE.set hp3 (hek _ hp4.soft) (hek _ hfit.soft)
 have hlive: ∀p t,live G V (L.setIfInBounds i true) p t→live G V L p t:=fun p t h=>(live_set h).elim id fun h'=>by
  have:=isAl_iff.2 ⟨p,t,h'⟩
  rw [hna] at this
  cases this
 have hnot: ∀j,(L.setIfInBounds i true).getD j false=false→L.getD j false=false:=fun j h=>by
  cases h':L.getD j false with
  |false=>rfl
  |true=>rw [set_keep h'] at h;cases h
 have hself:(w.setRow (kf p) cs).heap[kf p]? =some (.cells cs t (0,0)):=setRow_heap w (kf p) old cs t _ hp3
 have hoth: ∀{k:Nat},k≠kf p→(w.setRow (kf p) cs).heap[k]? =w.heap[k]? :=fun {k} h=>setRow_other w (kf p) k cs h
 refine ⟨hI.hk,hI.size,hI.defers,grow_set hI.gr hp2 cs,hI.ev.trans hev,fun j q u hj hL=>hI.newk j q u hj ((set_get hL).elim (fun e1=>by
   subst e1
   have:=isAl_iff.2 ⟨q,u,hj⟩
   rw [hna] at this
   cases this) id),fun d hdd=>hI.keep d fun j q hj hL=>hdd j q hj (set_keep hL),fun j q d hj hL hj2 hdd=> ?_,clos_set hI hi hdone,fun q u hq=> ?_,fun x hx h=> ?_,fun j q u hj hL h=> ?_,fun q u r u' hq hr hqr=>hI.apart q u r u' (hlive q u hq) (hlive r u' hr) hqr,fun b hb hs=>(hoth fun e=> ?_).trans (hI.same b hb hs)⟩
 ·rcases set_get hL with e|e
  ·subst e
   rw [hi] at hj
   injection hj with hj
   subst hj
   rw [hd] at hdd
   cases hdd
  ·exact hF d _ _ _ (hI.facts j q d hj e hj2 hdd) hev
 ·have hq':=hlive q u hq
  obtain ⟨h1,h2,cs',h3,h4,h5⟩:=hI.vars q u hq'
  by_cases hqp:q=p
  ·subst hqp
   rw [hp3] at h3
   injection h3 with h3
   injection h3 with e1 e2
   subst e2
   refine ⟨h1,h2,cs,hself,hfit,fun j y' t' hj hL=> ?_⟩
   obtain ⟨_,e2,_⟩:=st_one hok hst hj
   rw [←e2]
   exact hy
  ·have hne:kf q≠kf p:=hI.apart q u p t hq' hlp hqp
   refine ⟨h1,h2,cs',by rw [hoth hne];exact h3,h4,fun j y' t' hj hL=> ?_⟩
   rcases set_get hL with e|e
   ·subst e
    obtain ⟨⟨o1,ho1,_,hop1,_⟩,_⟩:=st_info hok hst
    obtain ⟨⟨o2,ho2,_,hop2,_⟩,_⟩:=st_info hok hj
    rw [ho1] at ho2
    injection ho2 with ho2
    subst ho2
    rw [hop1] at hop2
    injection hop2 with _ hop2 _
    injection hop2 with hop2
    exact absurd hop2.symm hqp
   ·exact h5 j y' t' hj e
 ·by_cases hxp:x.slot=p
  ·exfalso
   have:=h i y t (by rw [hxp];exact hst)
   rw [set_self hLs] at this
   cases this
  ·obtain ⟨cs',h1,h2⟩:=hI.gval x hx fun j y t hj=>hnot j (h j y t hj)
   exact ⟨cs',by rw [hoth (hI.apart x.slot x.ty p t (.inl ⟨x,hx,rfl,rfl⟩) hlp hxp)];exact h1,hGs x hx _ _ _ h2 hev⟩
 ·have hL':L.getD j false=true:=(set_get hL).elim (fun e=>by
   subst e
   have:=isAl_iff.2 ⟨q,u,hj⟩
   rw [hna] at this
   cases this) id
  by_cases hqp:q=p
  ·exfalso
   have:=h i y t (by rw [hqp];exact hst)
   rw [set_self hLs] at this
   cases this
  ·rw [hoth (hI.apart q u p t (.inr ⟨j,hj,hL'⟩) hlp hqp)]
   exact hI.aval j q u hj hL' fun m y t' hm=>hnot m (h m y t' hm)
 ·rcases hlp with ⟨x,hx,ex,_⟩|⟨j,hj,hL⟩
  ·have e2:=hI.hkG hok hx
   rw [ex] at e2
   exact hs i p y t hst (fun z hz e3=>(al_info hok (i:=z.1) (p:=z.2.1) (t:=z.2.2) hz).2.2 x hx (ex.trans e3.symm)) (e2.symm.trans e.symm)
  ·have:=hI.newk j p t hj hL
   omega
def NewV (P:Program) (F:Facts) (G:List Vr) (V:VS) (x:Vr):Prop:=
 (∃y∈V.st,y.2.1=x.slot∧y.2.2.2=x.ty∧ ∀w v,F y.2.2.1 w v→x.val w v)∨
 (V.st.all (fun y=> !Nat.beq y.2.1 x.slot)=true∧ ∃y∈G,y.slot=x.slot∧y.ty=x.ty∧ ∀w v,y.val w v→x.val w v)∨
 (V.st.all (fun y=> !Nat.beq y.2.1 x.slot)=true∧ ∃y∈V.al,y.2.1=x.slot∧y.2.2=x.ty∧ ∀w,x.val w (.agg (zeroOf P x.ty)))
def NewD (ops:Array Oper) (F:Facts) (D:List (Nat×Pr)) (V:VS) (x:Nat×Pr):Prop:=
 ((dsts ops).contains x.1=true∧V.al.all (fun z=> !Nat.beq z.2.1 x.1)=true∧ ∀w v,F x.1 w v→x.2 w v)∨
 ((dsts ops).contains x.1=false∧ ∃y∈D,y.1=x.1∧ ∀w v,y.2 w v→x.2 w v)
abbrev KS:=List (Nat×TypeId)
def KB (w0:World) (ks:KS) (w:World):Prop:= ∀x∈ks,w0.heap.size≤x.1∧x.1<w.heap.size
theorem Inv.mono {e':Nat→Obj→Bool} {F':Facts} {G':List Vr} {kf:Nat→Nat} {L:Array Bool} {a:Act} {w:World} (hI:Inv s e P ops F n G V a0 w0 wE kf0 kf L a w) (he: ∀b o,e b o=true→e' b o=true) (hF: ∀d v,F d w v→F' d w v)
  (hG: ∀y∈G',∃x∈G,x.slot=y.slot∧x.ty=y.ty∧ ∀v,x.val w v→y.val w v):Inv s e' P ops F' n G' V a0 w0 wE kf0 kf L a w:=by
 have hl: ∀p t,live G' V L p t→live G V L p t:=fun p t h=>by
  rcases h with ⟨y,hy,rfl,rfl⟩|h
  ·obtain ⟨x,hx,e1,e2,_⟩:=hG y hy
   exact .inl ⟨x,hx,e1,e2⟩
  ·exact .inr h
 refine ⟨hI.hk,hI.size,hI.defers,hI.gr,⟨hI.ev.size,fun b hb=>(hI.ev.block b hb).imp id fun ⟨o,o',h1,h2,h3,h4⟩=>⟨o,o',h1,h2,he _ _ h3,he _ _ h4⟩⟩,hI.newk,hI.keep,fun i o d h1 h2 h3 h4=>hF _ _ (hI.facts i o d h1 h2 h3 h4),hI.clos,fun p t h=>hI.vars p t (hl p t h),fun y hy h=> ?_,hI.aval,fun p t q t' hp hq=>hI.apart p t q t' (hl p t hp) (hl q t' hq),hI.same⟩
 obtain ⟨x,hx,e1,e2,e3⟩:=hG y hy
 obtain ⟨cs,h1,h2⟩:=hI.gval x hx fun j z t hj=>h j z t (by rw [←e1];exact hj)
 exact ⟨cs,by rw [←e1,←e2];exact h1,e3 _ h2⟩
theorem regionK (e:KS→Nat→Obj→Bool) {G:KS→List Vr} {D0:List (Nat×Pr)} {D:KS→List (Nat×Pr)} (hS:St s P n (G []) D0 wE kf0 a0 w0) (F:KS→Facts) (V:VS) (G':KS→List Vr) (D':KS→List (Nat×Pr)) (hwf:wfV n ops=true) (hok: ∀ks,okB s P ops (slots (G ks)) V=true)
  (heS: ∀ks j p y t,(j,p,y,t)∈V.st→ ∀x∈G ks,x.slot=p→ ∀cs,s cs t=true→e ks (kf0 p) (.cells cs t (0,0))=true) (heN: ∀ks b t,(b,t)∈ks→ ∀cs,s cs t=true→e ks b (.cells cs t (0,0))=true) (heM: ∀ks x b o,e ks b o=true→e (x::ks) b o=true)
  (hF: ∀ks d,StbE (e ks) (F ks d)) (hGs: ∀ks,AllL (fun x:Vr=>StbE (e ks) x.val) (G ks)) (hFm: ∀ks x w d v,w.heap.size≤x.1→F ks d w v→F (x::ks) d w v) (hGm: ∀ks x w,w.heap.size≤x.1→ ∀y∈G (x::ks),∃z∈G ks,z.slot=y.slot∧z.ty=y.ty∧ ∀v,z.val w v→y.val w v)
  (hDk: ∀ks w,KB w0 ks w→EvoE (e ks) w0 w→ ∀x∈D ks,x.2 w (a0.tmps.getD x.1 undef))
  (hal: ∀ks,AllL (fun x:Nat×Nat×TypeId=> ∀w v,F ks x.2.1 w v) V.al) (hst: ∀ks,AllL (fun x:Nat×Nat×Nat×TypeId=> ∀w v,F ks x.2.2.1 w v→ ∃cs,v= .agg cs∧Fits s P x.2.2.2 cs) V.st)
  (step: ∀ks i,i<ops.size→isAl V i=false→isSt V i=false→Step s P ops Q (F ks) (G ks) (D ks) V kf0 i)
  (hG': ∀ks,AllL (NewV P (F ks) (G ks) V) (G' ks)) (hD': ∀ks,AllL (NewD ops (F ks) (D ks) V) (D' ks)) {J:World→Prop} (hJ: ∀w:World,(∀b,b<w0.heap.size→(∀j p y t,(j,p,y,t)∈V.st→(∀z∈V.al,z.2.1≠p)→kf0 p≠b)→w.heap[b]? =w0.heap[b]?)→J w)
  :Dr P ops Q a0 w0 J fun a w=> ∃kf ks,(∀q,(∀z∈V.al,z.2.1≠q)→kf q=kf0 q)∧(∀z∈V.al,(kf z.2.1,z.2.2)∈ks)∧KB w0 ks w∧(∀d,(dsts ops).contains d=false→a.tmps.getD d undef=a0.tmps.getD d undef)∧EvoE (e ks) w0 w∧St s P n (G' ks) (D' ks) wE kf a w:=by
 have hGm2:=fun ks=>(hGs ks).mem
 have noSt: ∀{p:Nat},V.st.all (fun y=> !Nat.beq y.2.1 p)=true→ ∀j y t,(j,p,y,t)∈V.st→False:=by
  intro p h j y t hj
  have:=List.all_eq_true.1 h _ hj
  simp at this
 refine ⟨fun L a w=> ∃kf ks,Inv s (e ks) P ops (F ks) n (G ks) V a0 w0 wE kf0 kf L a w∧(∀i p t,(i,p,t)∈V.al→L.getD i false=true→(kf p,t)∈ks)∧KB w0 ks w, ?_, ?_, ?_,fun L a w ⟨_,_,hI,_⟩=>hJ w hI.same⟩
 ·
  intro w hw
  have hnone: ∀j,(Array.replicate ops.size false).getD j false=true→False:=by
   intro j h
   rw [Array.getD_eq_getD_getElem?,Array.getElem?_replicate] at h
   split at h<;>simp at h
  have hall: ∀j,(Array.replicate ops.size false).getD j false=false:=by
   intro j
   rw [Array.getD_eq_getD_getElem?,Array.getElem?_replicate]
   split<;>rfl
  have hheap:w.heap=w0.heap:=by rcases hw with rfl|rfl<;>rfl
  have hg:Grow w0 w:=by
   rcases hw with rfl|rfl
   ·exact Grow.refl _
   ·exact (Grow.refl _).drew
  have hev:EvoE (e []) w0 w:=EvoE.of_grow hg
  refine ⟨kf0,[],⟨fun _ _=>rfl,hS.size,hS.defers,hS.grow.trans hg,hev,fun i _ _ _ h=>(hnone i h).elim,fun _ _=>rfl,fun i _ _ _ h=>(hnone i h).elim,fun i _ _ _ h=>(hnone i h).elim,fun p t h=> ?_,fun x hx _=> ?_,fun i _ _ _ h=>(hnone i h).elim,fun p t q t' hp hq hpq=> ?_,fun b _ _=>by rw [hheap]⟩,(fun i p t _ h=>(hnone i h).elim),fun x hx=>by cases hx⟩
  ·rcases h with ⟨x,hx,rfl,rfl⟩|⟨i,_,h⟩
   ·obtain ⟨h1,h2,cs,h3,h4,_⟩:=hS.vars x hx
    exact ⟨h1,h2,cs,by rw [hheap];exact h3,h4,fun j _ _ _ h=>(hnone j h).elim⟩
   ·exact (hnone i h).elim
  ·obtain ⟨_,_,cs,h3,_,h5⟩:=hS.vars x hx
   exact ⟨cs,by rw [hheap];exact h3,hGm2 [] x hx _ _ _ h5 hev⟩
  ·rcases hp with ⟨x,hx,rfl,rfl⟩|⟨i,_,h⟩
   ·rcases hq with ⟨y,hy,rfl,rfl⟩|⟨i,_,h⟩
    ·exact hS.apart x hx y hy hpq
    ·exact (hnone i h).elim
   ·exact (hnone i h).elim
 ·
  rintro L i o a w hL hi hLi hdone ⟨kf,ks,hI,hK,hB⟩
  have hok0:=hok
  have hok:=hok0 ks
  have hLs:i<L.size:=by
   rw [hL]
   exact (Array.getElem?_eq_some_iff.1 hi).1
  have hdepw: ∀d,depI ops i d=true→ ∃j q,ops[j]? =some q∧q.dst=some d∧L.getD j false=true:=by
   intro d hd
   obtain ⟨e,he,hb,q,hq,hqd⟩:=dep_writer hi hd
   exact ⟨e.on,q,hq,hqd,hdone e he hb⟩
  have hdepF: ∀d,depI ops i d=true→F ks d w (a.tmps.getD d undef):=by
   intro d hd
   obtain ⟨j,q,hj,hq,hLj⟩:=hdepw d hd
   cases hja:isAl V j with
   |false=>exact hI.facts j q d hj hLj hja hq
   |true=>
    obtain ⟨p,t,hpt⟩:=isAl_iff.1 hja
    obtain ⟨⟨o',ho',hd',_⟩,_⟩:=al_info hok hpt
    rw [hj] at ho'
    injection ho' with ho'
    subst ho'
    rw [hq] at hd'
    injection hd' with hd'
    subst hd'
    exact (hal ks).mem _ hpt w _
  cases hia:isAl V i with
  |true=>
   obtain ⟨p,t,hpt⟩:=isAl_iff.1 hia
   obtain ⟨⟨o',ho',hd',hop,hgd⟩,hz,hpG⟩:=al_info hok hpt
   rw [hi] at ho'
   injection ho' with ho'
   subst ho'
   have hns:isSt V i=false:=by
    cases h:isSt V i with
    |false=>rfl
    |true=>
     obtain ⟨p',y',t',h'⟩:=isSt_iff.1 h
     obtain ⟨⟨o2,ho2,hd2,_⟩,_⟩:=st_info hok h'
     rw [hi] at ho2
     injection ho2 with ho2
     subst ho2
     rw [hd'] at hd2
     cases hd2
   refine run_wanted hi (by simp [Region.wanted,hgd]) ?_
   unfold Oper.wp
   rw [run_alloc hz hop]
   have hok':=hok0 ((w.heap.size,t)::ks)
   have hI2:=hI.mono (heM ks (w.heap.size,t)) (hFm ks (w.heap.size,t) w · · (Nat.le_refl _)) (hGm ks (w.heap.size,t) w (Nat.le_refl _))
   refine ⟨_,(w.heap.size,t)::ks,inv_alloc hwf hok' (hF _) (hGm2 _) hI2 hpt hi hd' hLs hLi hdone hns hz (zero_fits hz).1 (al_info hok' hpt).2.2,fun j q u hj hL=> ?_,fun x hx=> ?_⟩
   ·rcases set_get hL with e1|e1
    ·subst e1
     obtain ⟨⟨o2,ho2,hd2,hop2,_⟩,_⟩:=al_info hok hj
     rw [hi] at ho2
     injection ho2 with ho2
     subst ho2
     rw [hd'] at hd2
     injection hd2 with hd2
     rw [hop] at hop2
     injection hop2 with hop2
     subst hd2 hop2
     simp
    ·have hne:q≠p:=fun e2=>not_var hwf hok hi hLi (.inr ⟨j,hj,e1⟩) (by rw [hd',e2])
     simp only [if_neg hne]
     exact .tail _ (hK j q u hj e1)
   ·have hs:(w.alloc (.cells (zeroOf P t) t)).heap.size=w.heap.size+1:=by unfold World.alloc;simp
    rcases List.mem_cons.1 hx with rfl|hx
    ·exact ⟨hI.ev.size,by rw [hs];exact Nat.lt_succ_self _⟩
    ·have:=hB x hx
     exact ⟨this.1,by rw [hs];omega⟩
  |false=>
   cases his:isSt V i with
   |true=>
    obtain ⟨p,y,t,hpt⟩:=isSt_iff.1 his
    obtain ⟨⟨o',ho',hd',hop,hgd⟩,hdy,hny,hor⟩:=st_info hok hpt
    rw [hi] at ho'
    injection ho' with ho'
    subst ho'
    have hlp:live (G ks) V L p t:=by
     rcases hor with h|⟨hdp,j,hj⟩
     ·exact .inl h
     ·obtain ⟨m,q,hm,hq,hLm⟩:=hdepw p hdp
      obtain ⟨⟨o2,ho2,hd2,_⟩,_⟩:=al_info hok hj
      have hwf':=hwf
      simp only [wfV,Bool.and_eq_true,decide_eq_true_eq] at hwf'
      have h1:ops.toList[j]? =some o2:=by rw [Array.getElem?_toList];exact ho2
      have h2:ops.toList[m]? =some q:=by rw [Array.getElem?_toList];exact hm
      have:=nodup_filterMap_idx (fun x:Oper=>x.dst) ops.toList hwf'.1.2 j m o2 q p h1 h2 hd2 hq
      exact .inr ⟨j,hj,by rw [this];exact hLm⟩
    obtain ⟨hp1,hp2,old,hp3,hp4,_⟩:=hI.vars p t hlp
    obtain ⟨cs,hcs,hfit⟩:=(hst ks).mem _ hpt w _ (hdepF y hdy)
    have hsz:old.size=cs.size:=by
     have h1:=hp4.size
     rw [hfit.size] at h1
     injection h1 with h1
     exact h1.symm
    refine run_wanted hi (by simp [Region.wanted,hgd]) ?_
    unfold Oper.wp
    rw [run_store (ρ:=a.eval) hop hp1 hcs hp3 hsz hfit,Oper.upon_skip]
    have hia2: ∀j q u,(j,q,u)∈V.al→(L.setIfInBounds i true).getD j false=true→L.getD j false=true:=fun j q u hj hL=>(set_get hL).elim (fun e1=>by
     subst e1
     have:=isAl_iff.2 ⟨q,u,hj⟩
     rw [hia] at this
     cases this) id
    refine ⟨_,ks,inv_store hok (hF ks) (hGm2 ks) hI hpt hi hd' hLs hLi hdone hia hlp hcs hfit (fun cs hs=> ?_),fun j q u hj hL=>hK j q u hj (hia2 j q u hj hL),fun x hx=>⟨(hB x hx).1,by rw [setRow_size];exact (hB x hx).2⟩⟩
    rcases hlp with ⟨x,hx,ex,_⟩|⟨j,hj,hL⟩
    ·have:=hI.hkG hok hx
     rw [ex] at this
     rw [this]
     exact heS ks i p y t hpt x hx ex cs hs
    ·exact heN ks _ _ (hK j p t hj hL) cs hs
   |false=>
    have hctx:Ctx s P ops (F ks) (G ks) (D ks) V kf0 i a w:=by
     refine ⟨hdepF,fun x hx=> ?_,fun x hx hr=> ?_,fun x hx hr=> ?_⟩
     ·have:=(hI.vars x.slot x.ty (.inl ⟨x,hx,rfl,rfl⟩)).1
      rw [hI.hkG hok hx] at this
      exact this
     ·have hns: ∀j y t,(j,x.slot,y,t)∈V.st→L.getD j false=false:=by
       intro j y t hj
       cases h:L.getD j false with
       |false=>rfl
       |true=>
        exfalso
        have:=List.all_eq_true.1 hr _ hj
        simp only [Bool.or_eq_true,Bool.not_eq_true'] at this
        rcases this with h1|h1
        ·simp at h1
        ·unfold predI at h1
         obtain ⟨⟨oj,hoj,_⟩,_⟩:=st_info hok hj
         rw [hoj] at h1
         simp only at h1
         rw [Array.any_eq_true] at h1
         obtain ⟨k,hk,h1⟩:=h1
         simp only [Bool.and_eq_true] at h1
         have h2:=hI.clos j oj _ hoj h (Array.getElem_mem hk) h1.1
         rw [Nat.eq_of_beq_eq_true h1.2,hLi] at h2
         cases h2
      obtain ⟨cs,h1,h2⟩:=hI.gval x hx hns
      obtain ⟨_,_,cs',h3,h4,_⟩:=hI.vars x.slot x.ty (.inl ⟨x,hx,rfl,rfl⟩)
      rw [h1] at h3
      injection h3 with h3
      injection h3 with h3
      subst h3
      rw [hI.hkG hok hx] at h1
      exact ⟨cs,h1,h4,h2⟩
     ·have hk:a.tmps.getD x.1 undef=a0.tmps.getD x.1 undef:=by
       refine hI.keep x.1 fun j q hj hLj hqd=> ?_
       have hz:(q,j)∈ops.toList.zipIdx:=by
        rw [List.mem_zipIdx_iff_getElem?,Array.getElem?_toList]
        exact hj
       have h1:=List.all_eq_true.1 hr _ hz
       simp only [Bool.or_eq_true,Bool.not_eq_true'] at h1
       rcases h1 with (h1|h1)|h1
       ·rw [hqd] at h1;simp at h1
       ·rw [Array.any_eq_true] at h1
        obtain ⟨k,hk,h1⟩:=h1
        simp only [Bool.and_eq_true] at h1
        have h2:=hI.clos j q _ hj hLj (Array.getElem_mem hk) h1.1
        rw [Nat.eq_of_beq_eq_true h1.2,hLi] at h2
        cases h2
       ·rw [Nat.eq_of_beq_eq_true h1,hLi] at hLj
        cases hLj
      rw [hk]
      exact hDk ks w hB hI.ev x hx
    refine wpOp_mono ?_ (step ks i (by rw [←hL];exact hLs) hia his o hi a w hctx)
    rintro a' w' ⟨v,rfl,hv,hg⟩
    refine ⟨kf,ks,inv_plain hwf hok (hF ks) (hGm2 ks) hI hi hLs hLi hdone hia his hv hg,fun j q u hj hL=>hK j q u hj ((set_get hL).elim (fun e1=> ?_) id),fun x hx=>⟨(hB x hx).1,Nat.lt_of_lt_of_le (hB x hx).2 hg.size⟩⟩
    subst e1
    have:=isAl_iff.2 ⟨q,u,hj⟩
    rw [hia] at this
    cases this
 ·
  rintro L a w hall ⟨kf,ks,hI,hK,hB⟩
  have hok:=hok ks
  have hdn: ∀{i o},ops[i]? =some o→L.getD i false=true:=fun {i o} h=>hall i (Array.getElem?_eq_some_iff.1 h).1
  have hF2: ∀d,(dsts ops).contains d=true→(∀z∈V.al,z.2.1≠d)→F ks d w (a.tmps.getD d undef):=by
   intro d hd hna
   have hd':d∈dsts ops:=by simpa using hd
   unfold dsts at hd'
   obtain ⟨o,ho,hod⟩:=List.mem_filterMap.1 hd'
   obtain ⟨i,hi,rfl⟩:=List.getElem_of_mem ho
   have hi2:i<ops.size:=by simpa using hi
   have hoi:ops[i]? =some ops.toList[i]:=by rw [Array.getElem?_eq_getElem hi2];simp
   refine hI.facts i _ d hoi (hdn hoi) ?_ hod
   cases hal':isAl V i with
   |false=>rfl
   |true=>
    exfalso
    obtain ⟨p,t,hpt⟩:=isAl_iff.1 hal'
    obtain ⟨⟨o',ho',hd',_⟩,_⟩:=al_info hok hpt
    rw [hoi] at ho'
    injection ho' with ho'
    rw [←ho',hod] at hd'
    injection hd' with hd'
    exact hna _ hpt hd'.symm
  have hFy: ∀{j p y t},(j,p,y,t)∈V.st→F ks y w (a.tmps.getD y undef):=by
   intro j p y t hj
   obtain ⟨⟨oj,hoj,_⟩,hdep,hny,_⟩:=st_info hok hj
   obtain ⟨e,he,hb,q,hq,hqd⟩:=dep_writer hoj hdep
   refine hF2 y ?_ hny
   have:=mem_dsts hq hqd
   simpa using this
  have hlv: ∀x:Vr,NewV P (F ks) (G ks) V x→live (G ks) V L x.slot x.ty:=by
   intro x hx
   have hAl: ∀y∈V.al,y.2.1=x.slot→y.2.2=x.ty→live (G ks) V L x.slot x.ty:=by
    rintro ⟨i,p,t⟩ hy e1 e2
    simp only at e1 e2
    subst e1 e2
    obtain ⟨⟨o,ho,_⟩,_⟩:=al_info hok hy
    exact .inr ⟨i,hy,hdn ho⟩
   rcases hx with ⟨⟨j,p,y,t⟩,hy,e1,e2,_⟩|⟨_,y,hy,e1,e2,_⟩|⟨_,y,hy,e1,e2,_⟩
   ·simp only at e1 e2
    subst e1 e2
    obtain ⟨_,_,_,hor⟩:=st_info hok hy
    rcases hor with h|⟨_,m,hm⟩
    ·exact .inl h
    ·exact hAl _ hm rfl rfl
   ·exact .inl ⟨y,hy,e1,e2⟩
   ·exact hAl y hy e1 e2
  refine ⟨kf,ks,hI.hk,(fun z hz=> ?_),hB,(fun d hd=>hI.keep d fun j q hj _ hqd=> ?_),hI.ev,hI.size,hI.defers,hI.gr,fun x hx=> ?_,fun x hx y hy hxy=>hI.apart _ _ _ _ (hlv x ((hG' ks).mem x hx)) (hlv y ((hG' ks).mem y hy)) hxy,fun x hx=> ?_⟩
  ·obtain ⟨i,p,t⟩:=z
   obtain ⟨⟨o,ho,_⟩,_⟩:=al_info hok hz
   exact hK i p t hz (hdn ho)
  ·have h2:=mem_dsts hj hqd
   rw [List.contains_eq_mem] at hd
   simp [h2] at hd
  ·have hnv:=(hG' ks).mem x hx
   obtain ⟨h1,h2,cs,h3,h4,h5⟩:=hI.vars x.slot x.ty (hlv x hnv)
   refine ⟨h1,h2,cs,h3,h4, ?_⟩
   rcases hnv with ⟨⟨j,p,y,t⟩,hy,e1,e2,e3⟩|⟨hns,y,hy,e1,e2,e3⟩|⟨hns,⟨i,p,t⟩,hy,e1,e2,e3⟩
   ·simp only at e1 e2 e3
    subst e1 e2
    have hyv:=hFy hy
    obtain ⟨⟨oj,hoj,_⟩,_⟩:=st_info hok hy
    have:=h5 j y x.ty hy (hdn hoj)
    rw [this] at hyv
    exact e3 w _ hyv
   ·obtain ⟨cs',h6,h7⟩:=hI.gval y hy fun j z t hj=>(noSt hns j z t (by rw [←e1];exact hj)).elim
    rw [e1,h3] at h6
    injection h6 with h6
    injection h6 with h6
    subst h6
    exact e3 w _ h7
   ·simp only at e1 e2
    subst e1 e2
    obtain ⟨⟨o,ho,_⟩,_⟩:=al_info hok hy
    have h6:=hI.aval i x.slot x.ty hy (hdn ho) fun j z t hj=>(noSt hns j z t hj).elim
    rw [h3] at h6
    injection h6 with h6
    injection h6 with h6
    subst h6
    exact e3 w
  ·rcases (hD' ks).mem x hx with ⟨h1,h2,h3⟩|⟨h1,y,hy,e,h3⟩
   ·refine h3 w _ (hF2 x.1 h1 fun z hz e=> ?_)
    have:=List.all_eq_true.1 h2 z hz
    rw [e] at this
    simp at this
   ·refine h3 w _ ?_
    rw [←e]
    have hk:a.tmps.getD y.1 undef=a0.tmps.getD y.1 undef:=by
     refine hI.keep y.1 fun j q hj _ hqd=> ?_
     have h2:=mem_dsts hj hqd
     rw [←e,List.contains_eq_mem] at h1
     simp [h2] at h1
    rw [hk]
    exact hDk ks w hB hI.ev y hy
end
end Go.Proofs.YthebilnlljkfeaaGreatDoor.Z
namespace Go.Proofs.YthebilnlljkfeaaGreatDoor.Z
open Go.RowKit Go.Proofs.YthebilnlljkfeaaGreatDoor.Rg
variable {P:Program}
def isNop (o:Oper):Bool:=match o.dst,o.op,o.guard with
 |none, .assign (.const _),none=>true
 |_,_,_=>false
def nopA (ops:Array Oper) (i:Nat):Bool:=match ops[i]? with
 |some o=>isNop o
 |none=>false
def cutB (ops:Array Oper) (m:Nat):Bool:=
 (List.range m).all (fun j=>(nopA ops j||(List.range' (j+1) (m-j)).any (fun i=>predI ops i j&&(!nopA ops i||Nat.beq i m)))&&match info ops j with
  |some (_,_,some (k,_))=>decide (k<m)
  |_=>true)&&
 (List.range' (m+1) (ops.size-(m+1))).all (fun i=>nopA ops i||(List.range' m (i-m)).any (fun j=>predI ops i j&&(!nopA ops j||Nat.beq j m)))
theorem nop_spec {o:Oper} (h:isNop o=true):o.dst=none∧(∃v,o.op= .assign (.const v))∧o.guard=none:=by
 unfold isNop at h
 split at h
 ·next v e1 e2 e3=>exact ⟨e1,⟨v,e2⟩,e3⟩
 ·cases h
theorem nop_in {ops:Array Oper} {Q:Exit→Act→World→Prop} {K:Act→World→Prop} {i:Nat} {o:Oper} {a:Act} {w:World} (hi:ops[i]? =some o) (hn:isNop o=true) (h:K a w):wpOp P ops Q i K a w:=by
 obtain ⟨e1,⟨v,e2⟩,e3⟩:=nop_spec hn
 refine run_wanted hi (by simp [Region.wanted,e3]) ?_
 have hr:(execOp a.eval o).run P w= .ok (.value (a.eval (.const v))) w:=by unfold execOp;simp only [e2];rfl
 unfold Oper.wp
 rw [hr]
 show K (a.put o.dst _) w
 rw [e1]
 exact h
theorem nop_out {ops:Array Oper} {Q:Exit→Act→World→Prop} {K:Act→World→Prop} {i:Nat} {o:Oper} {a:Act} {w:World} (hi:ops[i]? =some o) (hn:isNop o=true) (h:wpOp P ops Q i K a w):K a w:=by
 obtain ⟨e1,⟨v,e2⟩,e3⟩:=nop_spec hn
 have hw:Region.wanted o (yielded ops a.tmps)=true:=by simp [Region.wanted,e3]
 have hr:(execOp a.eval o).run P w= .ok (.value (a.eval (.const v))) w:=by unfold execOp;simp only [e2];rfl
 unfold wpOp at h
 rw [hi] at h
 simp only [hw,if_true] at h
 rcases h with h|⟨h,_⟩
 ·unfold Oper.wp at h
  rw [hr] at h
  have h':K (a.put o.dst (a.eval (.const v))) w:=h
  rw [e1] at h'
  exact h'
 ·exfalso
  have h1:=h.1
  unfold execOp at h1
  simp only [e2] at h1
  simp [Sem.runT,pure,Sem.events] at h1
def shiftG (m:Nat):Option (Nat×Bool)→Option (Nat×Bool)
 |some (k,b)=>if m≤k then some (k-m,b) else none
 |none=>none
def shiftO (m:Nat) (o:Oper):Oper:={o with after:=(o.after.filter fun e=>decide (m≤e.on)).map fun e=>{e with on:=e.on-m},guard:=shiftG m o.guard}
def sufO (ops:Array Oper) (m:Nat):Array Oper:=((ops.toList.drop m).map (shiftO m)).toArray
def preO (ops:Array Oper) (m:Nat):Array Oper:=(ops.toList.take m).toArray
section
variable {ops:Array Oper} {Q:Exit→Act→World→Prop} {n m:Nat}
theorem predI_on {i j:Nat} (h:predI ops i j=true): ∃o e,ops[i]? =some o∧e∈o.after∧Region.binds .any e=true∧e.on=j:=by
 unfold predI at h
 split at h
 ·next o ho=>
  rw [Array.any_eq_true] at h
  obtain ⟨k,hk,h⟩:=h
  simp only [Bool.and_eq_true] at h
  exact ⟨o,o.after[k],ho,Array.getElem_mem hk,h.1,Nat.eq_of_beq_eq_true h.2⟩
 ·cases h
theorem pre_get {i:Nat} (h:i<m):(preO ops m)[i]? =ops[i]? :=by
 unfold preO
 rw [List.getElem?_toArray,List.getElem?_take,if_pos h,Array.getElem?_toList]
theorem suf_get {i:Nat}:(sufO ops m)[i]? =(ops[m+i]?).map (shiftO m):=by
 unfold sufO
 rw [List.getElem?_toArray,List.getElem?_map,List.getElem?_drop,Array.getElem?_toList]
theorem pre_size (h:m≤ops.size):(preO ops m).size=m:=by simp [preO];omega
theorem suf_size:(sufO ops m).size=ops.size-m:=by simp [sufO]
theorem yielded_pre {tmps:Array Value} {j:Nat} (h:j<m):yielded (preO ops m) tmps j=yielded ops tmps j:=by
 unfold yielded
 rw [pre_get h]
theorem wpOp_eq {ops':Array Oper} {i j:Nat} {K:Act→World→Prop} {a:Act} {w:World} {o o':Oper} (h:ops[i]? =some o) (h':ops'[j]? =some o') (e1:o.op=o'.op) (e2:o.dst=o'.dst) (e3:o.type=o'.type) (e5:o.pos=o'.pos) (hw:Region.wanted o (yielded ops a.tmps)=Region.wanted o' (yielded ops' a.tmps)) (hp:wpOp P ops' Q j K a w):wpOp P ops Q i K a w:=by
 unfold wpOp at hp⊢
 rw [h]
 rw [h'] at hp
 simp only at hp⊢
 rw [hw,e2]
 have hx:o={o' with after:=o.after,guard:=o.guard}:=by
  cases o;cases o';simp_all
 have h1:o.wp P a w K Q=o'.wp P a w K Q:=by rw [hx];rfl
 have h2:o.asks P a w=o'.asks P a w:=by rw [hx];rfl
 rw [h1,h2]
 exact hp
theorem getD_take {L:Array Bool} {i:Nat} {b:Bool} (h:i<m):(L.toList.take m).toArray.getD i b=L.getD i b:=by
 rw [Array.getD_eq_getD_getElem?,Array.getD_eq_getD_getElem?,List.getElem?_toArray,List.getElem?_take,if_pos h,Array.getElem?_toList]
theorem getD_drop {L:Array Bool} {i:Nat} {b:Bool}:(L.toList.drop m).toArray.getD i b=L.getD (m+i) b:=by
 rw [Array.getD_eq_getD_getElem?,Array.getD_eq_getD_getElem?,List.getElem?_toArray,List.getElem?_drop,Array.getElem?_toList]
theorem take_set {L:Array Bool} {i:Nat}:((L.setIfInBounds i true).toList.take m).toArray=(L.toList.take m).toArray.setIfInBounds i true:=by
 apply Array.ext'
 rw [Array.toList_setIfInBounds,Array.toList_setIfInBounds]
 simp only [List.take_set]
theorem drop_set {L:Array Bool} {i:Nat}:((L.setIfInBounds (m+i) true).toList.drop m).toArray=(L.toList.drop m).toArray.setIfInBounds i true:=by
 apply Array.ext'
 rw [Array.toList_setIfInBounds,Array.toList_setIfInBounds]
 simp only [List.drop_set]
 rw [if_neg (by omega)]
 congr 1
 omega
theorem wp_keep {o:Oper} {a:Act} {w:World} {K:Act→World→Prop} (h:o.wp P a w K Q):o.wp P a w (fun a' w'=>K a' w'∧ ∀d,o.dst≠some d→a'.tmps.getD d undef=a.tmps.getD d undef) Q:=by
 have key: ∀(b:Act) (v:Value),b.tmps=a.tmps→ ∀d,o.dst≠some d→(b.put o.dst v).tmps.getD d undef=a.tmps.getD d undef:=fun b v e d hd=>by rw [put_other hd,e]
 unfold Oper.wp at*
 generalize (execOp a.eval o).run P w=r at*
 cases r with
 |ok n w'=>
  cases n<;>simp only [Oper.upon] at h⊢ <;>
   first
    |exact ⟨h,key _ _ rfl⟩
    |exact Calls.mono h (fun e w'' he=>by cases e<;>first|exact ⟨he,key _ _ rfl⟩|exact he)
    |exact Rows.mono h (fun _ _ he=>⟨he,key _ _ rfl⟩)
 |halt x w'=>cases x<;>simp only [Oper.upon] at h⊢ <;>exact h
theorem wpOp_keep {i:Nat} {o:Oper} {a:Act} {w:World} {K:Act→World→Prop} (ho:ops[i]? =some o) (h:wpOp P ops Q i K a w):wpOp P ops Q i (fun a' w'=>K a' w'∧ ∀d,o.dst≠some d→a'.tmps.getD d undef=a.tmps.getD d undef) a w:=by
 unfold wpOp at*
 rw [ho] at h⊢
 simp only at h⊢
 split
 ·next hw=>rw [if_pos hw] at h;exact h.imp wp_keep id
 ·next hw=>rw [if_neg hw] at h;exact ⟨h,fun d hd=>put_other hd⟩
theorem nop_fill {a:Act} {w:World} (I:Array Bool→Act→World→Prop) (hback: ∀(i:Nat) (o:Oper) (e:Edge),ops[i]? =some o→e∈o.after→Region.binds .any e=true→e.on<i) (step: ∀L i o a w,L.size=ops.size→ops[i]? =some o→L.getD i false=false→(∀e,e∈o.after→Region.binds .any e=true→L.getD e.on false=true)→I L a w→wpOp P ops Q i (I (L.setIfInBounds i true)) a w)
  {L M:Array Bool} (hL:L.size=ops.size) (hM:M.size=ops.size) (hle: ∀i,L.getD i false=true→M.getD i false=true) (hn: ∀i,M.getD i false=true→L.getD i false=false→nopA ops i=true) (hcl: ∀i o e,ops[i]? =some o→M.getD i false=true→e∈o.after→Region.binds .any e=true→M.getD e.on false=true) (hI:I L a w):I M a w:=by
 have key: ∀k,k≤ops.size→ ∃L':Array Bool,L'.size=ops.size∧(∀i,L'.getD i false=true↔(L.getD i false=true∨(i<k∧M.getD i false=true)))∧I L' a w:=by
  intro k
  induction k with
  |zero=>intro _;exact ⟨L,hL,fun i=>⟨.inl,fun h=>h.elim id fun h=>by omega⟩,hI⟩
  |succ k ih=>
   intro hk
   obtain ⟨L',s1,s2,s3⟩:=ih (by omega)
   cases hMk:M.getD k false with
   |false=>
    refine ⟨L',s1,fun i=> ?_,s3⟩
    rw [s2]
    constructor
    ·exact fun h=>h.imp id fun h=>⟨by omega,h.2⟩
    ·rintro (h|⟨h1,h2⟩)
     ·exact .inl h
     ·by_cases e:i=k
      ·subst e;rw [hMk] at h2;cases h2
      ·exact .inr ⟨by omega,h2⟩
   |true=>
    cases hLk:L.getD k false with
    |true=>
     refine ⟨L',s1,fun i=> ?_,s3⟩
     rw [s2]
     constructor
     ·exact fun h=>h.imp id fun h=>⟨by omega,h.2⟩
     ·rintro (h|⟨h1,h2⟩)
      ·exact .inl h
      ·by_cases e:i=k
       ·subst e;exact .inl hLk
       ·exact .inr ⟨by omega,h2⟩
    |false=>
     have hget:ops[k]? =some ops[k]:=Array.getElem?_eq_getElem (by omega)
     have hnk:=hn k hMk hLk
     unfold nopA at hnk
     rw [hget] at hnk
     have hf:L'.getD k false=false:=by
      cases h:L'.getD k false with
      |false=>rfl
      |true=>
       rcases (s2 k).1 h with h|h
       ·rw [hLk] at h;cases h
       ·omega
     have:=nop_out hget hnk (step L' k ops[k] a w s1 hget hf (fun e he hb=>(s2 _).2 (.inr ⟨hback k _ e hget he hb,hcl k _ e hget hMk he hb⟩)) s3)
     refine ⟨L'.setIfInBounds k true,by simpa using s1,fun i=> ?_,this⟩
     rw [Array.getD_eq_getD_getElem?,Array.getElem?_setIfInBounds]
     by_cases e:k=i
     ·subst e
      simp only [if_true]
      rw [if_pos (by omega)]
      simp only [Option.getD_some,true_iff]
      exact .inr ⟨by omega,hMk⟩
     ·rw [if_neg e,←Array.getD_eq_getD_getElem?,s2]
      constructor
      ·exact fun h=>h.imp id fun h=>⟨by omega,h.2⟩
      ·exact fun h=>h.imp id fun h=>⟨by omega,h.2⟩
 obtain ⟨L',s1,s2,s3⟩:=key ops.size (Nat.le_refl _)
 have:L'=M:=by
  apply Array.ext (by rw [s1,hM])
  intro i h1 h2
  have hi:i<ops.size:=by rw [←s1];exact h1
  have e1:L'.getD i false=L'[i]:=by rw [Array.getD_eq_getD_getElem?,Array.getElem?_eq_getElem h1];rfl
  have e2:M.getD i false=M[i]:=by rw [Array.getD_eq_getD_getElem?,Array.getElem?_eq_getElem h2];rfl
  rw [←e1,←e2]
  cases hm:M.getD i false with
  |true=>exact (s2 i).2 (.inr ⟨hi,hm⟩)
  |false=>
   cases hl:L'.getD i false with
   |false=>rfl
   |true=>
    rcases (s2 i).1 hl with h|h
    ·rw [hle i h] at hm;cases hm
    ·rw [h.2] at hm;cases hm
 rw [←this]
 exact s3
set_option maxHeartbeats 1600000 in
theorem Dr.cut {a0:Act} {w0:World} {J:World→Prop} {f1 f2:Act→World→Prop} {K:Act→World→Prop} (hwf:wfV n ops=true) (hm:m<ops.size) (hc:cutB ops m=true) (pre:Dr P (preO ops m) Q a0 w0 J f1) (mid: ∀a w,f1 a w→J w→wpOp P ops Q m K a w) (suf: ∀a w,K a w→Dr P (sufO ops (m+1)) Q a w J f2) (hgd: ∀i o k b,m<i→ops[i]? =some o→o.guard=some (k,b)→k≤m→ ∀a w,K a w→ ∃d,(ops[k]?).bind (·.dst)=some d∧a.tmps.getD d undef= .bool b):Dr P ops Q a0 w0 J f2:=by
 obtain ⟨I1,p0,p1,p2,p3⟩:=pre
 simp only [cutB,Bool.and_eq_true] at hc
 obtain ⟨hc1,hc2⟩:=hc
 have hwf':=hwf
 simp only [wfV,Bool.and_eq_true,decide_eq_true_eq] at hwf'
 have hback: ∀{i:Nat} {o:Oper} {e:Edge},ops[i]? =some o→e∈o.after→Region.binds .any e=true→e.on<i:=by
  intro i o e ho he hb
  have hz:(o,i)∈ops.toList.zipIdx:=by
   rw [List.mem_zipIdx_iff_getElem?,Array.getElem?_toList]
   exact ho
  have h1:=List.all_eq_true.1 hwf'.2 _ hz
  simp only at h1
  rw [Array.all_eq_true'] at h1
  have h2:=h1 e he
  rw [hb] at h2
  simpa using h2
 have hsz:(preO ops m).size=m:=pre_size (by omega)
 have hsz2:(sufO ops (m+1)).size=ops.size-(m+1):=suf_size
 let Cl:Array Bool→Prop:=fun L=> ∀i o e,ops[i]? =some o→L.getD i false=true→e∈o.after→Region.binds .any e=true→L.getD e.on false=true
 have before: ∀L:Array Bool,Cl L→(∀o e,ops[m]? =some o→e∈o.after→Region.binds .any e=true→L.getD e.on false=true)→ ∀k j,m-j≤k→j<m→nopA ops j=false→L.getD j false=true:=by
  intro L hL hm1 k
  induction k with
  |zero=>intro j h1 h2;omega
  |succ k ih=>
   intro j h1 h2 hj
   have h3:=List.all_eq_true.1 hc1 j (List.mem_range.2 h2)
   simp only [Bool.and_eq_true,hj,Bool.false_or] at h3
   obtain ⟨i,hi,h4⟩:=List.any_eq_true.1 h3.1
   rw [List.mem_range'_1] at hi
   simp only [Bool.and_eq_true,Bool.or_eq_true,Bool.not_eq_true'] at h4
   obtain ⟨o,e,ho,he,hb,hon⟩:=predI_on h4.1
   rcases Nat.lt_or_ge i m with h5|h5
   ·rw [←hon]
    exact hL i o e ho (ih i (by omega) h5 (h4.2.elim id fun h=>by have:=Nat.eq_of_beq_eq_true h;omega)) he hb
   ·have:i=m:=by omega
    subst this
    rw [←hon]
    exact hm1 o e ho he hb
 have behind: ∀L:Array Bool,Cl L→ ∀k i,i-m≤k→m<i→i<ops.size→nopA ops i=false→(∀o e,ops[i]? =some o→e∈o.after→Region.binds .any e=true→L.getD e.on false=true)→L.getD m false=true:=by
  intro L hL k
  induction k with
  |zero=>intro i h1 h2;omega
  |succ k ih=>
   intro i h1 h2 h2' hni hi1
   have h3:=List.all_eq_true.1 hc2 i (by rw [List.mem_range'_1];omega)
   simp only [hni,Bool.false_or] at h3
   obtain ⟨j,hj,h4⟩:=List.any_eq_true.1 h3
   rw [List.mem_range'_1] at hj
   simp only [Bool.and_eq_true,Bool.or_eq_true,Bool.not_eq_true'] at h4
   obtain ⟨o,e,ho,he,hb,hon⟩:=predI_on h4.1
   have h6:=hi1 o e ho he hb
   rw [hon] at h6
   rcases Nat.lt_or_ge m j with h5|h5
   ·exact ih j (by omega) h5 (by omega) (h4.2.elim id fun h=>by have:=Nat.eq_of_beq_eq_true h;omega) fun o e ho he hb=>hL j o e ho h6 he hb
   ·have:j=m:=by omega
    subst this
    exact h6
 have hpre: ∀i,i<m→nopA (preO ops m) i=nopA ops i:=fun i hi=>by unfold nopA;rw [pre_get hi]
 have hsuf: ∀i,nopA ops (m+1+i)=true→nopA (sufO ops (m+1)) i=true:=fun i h=>by
  unfold nopA at h⊢
  rw [suf_get]
  split at h
  ·next o ho=>
   rw [ho]
   obtain ⟨e1,⟨v,e2⟩,e3⟩:=nop_spec h
   show isNop (shiftO (m+1) o)=true
   unfold isNop shiftO
   simp only [e1,e2,e3,shiftG]
  ·cases h
 refine ⟨fun L a w=>Cl L∧((L.getD m false=false∧(∀i,m<i→L.getD i false=true→nopA ops i=true)∧I1 (L.toList.take m).toArray a w)∨(L.getD m false=true∧ ∃a1 w1,K a1 w1∧(∀k d,k≤m→(ops[k]?).bind (·.dst)=some d→a.tmps.getD d undef=a1.tmps.getD d undef)∧ ∃hd:Dr P (sufO ops (m+1)) Q a1 w1 J f2,hd.choose (L.toList.drop (m+1)).toArray a w)), ?_, ?_, ?_, ?_⟩
 ·intro w hw
  have hall: ∀j,(Array.replicate ops.size false).getD j false=false:=by
   intro j
   rw [Array.getD_eq_getD_getElem?,Array.getElem?_replicate]
   split<;>rfl
  refine ⟨(fun i o e _ h=>by rw [hall] at h;cases h), .inl ⟨hall m,(fun i _ h=>by rw [hall] at h;cases h), ?_⟩⟩
  have:((Array.replicate ops.size false).toList.take m).toArray=Array.replicate (preO ops m).size false:=by
   apply Array.ext'
   rw [hsz]
   simp [List.take_replicate]
   omega
  rw [this]
  exact p0 w hw
 ·rintro L i o a w hL hi hLi hdone ⟨hCl,hI⟩
  have hlt:i<ops.size:=(Array.getElem?_eq_some_iff.1 hi).1
  have hnop:nopA ops i=isNop o:=by unfold nopA;rw [hi]
  have hCl':Cl (L.setIfInBounds i true):=by
   intro j q e hj hLj he hb
   rcases set_get hLj with e1|e1
   ·subst e1
    rw [hi] at hj
    injection hj with hj
    subst hj
    exact set_keep (hdone e he hb)
   ·exact set_keep (hCl j q e hj e1 he hb)
  have bef: ∀L:Array Bool,Cl L→L.getD m false=true→ ∀j,j<m→nopA ops j=false→L.getD j false=true:=fun L hC hm1 j hj hn=>before L hC (fun o e ho he hb=>hC m o e ho hm1 he hb) (m-j) j (Nat.le_refl _) hj hn
  rcases Nat.lt_trichotomy i m with him|him|him
  ·rcases hI with ⟨h1,h2,h3⟩|⟨h1,a1,w1,hK,hkp,hd,h3⟩
   ·have hst:=p1 (L.toList.take m).toArray i o a w (by rw [hsz];simp;omega) (by rw [pre_get him];exact hi) (by rw [getD_take him];exact hLi) (fun e he hb=>by
     have:=hback hi he hb
     rw [getD_take (by omega)]
     exact hdone e he hb) h3
    have hst2:wpOp P ops Q i (I1 ((L.toList.take m).toArray.setIfInBounds i true)) a w:=by
     refine wpOp_eq hi (by rw [pre_get him];exact hi) rfl rfl rfl rfl ?_ hst
     unfold Region.wanted
     cases hg:o.guard with
     |none=>rfl
     |some x=>
      obtain ⟨k,b⟩:=x
      simp only
      rw [yielded_pre]
      have h5:=List.all_eq_true.1 hc1 i (List.mem_range.2 him)
      simp only [Bool.and_eq_true] at h5
      have h6:=h5.2
      unfold info at h6
      rw [hi] at h6
      simp only [Option.map_some,hg,decide_eq_true_eq] at h6
      exact h6
    refine wpOp_mono (fun a' w' h'=>⟨hCl', .inl ⟨?_,fun j hj hLj=> ?_, ?_⟩⟩) hst2
    ·rw [Array.getD_eq_getD_getElem?,Array.getElem?_setIfInBounds,if_neg (by omega),←Array.getD_eq_getD_getElem?];exact h1
    ·rcases set_get hLj with e|e
     ·omega
     ·exact h2 j hj e
    ·rw [take_set];exact h'
   ·have hno:nopA ops i=true:=by
     cases h:nopA ops i with
     |true=>rfl
     |false=>rw [bef L hCl h1 i him h] at hLi;cases hLi
    refine nop_in hi (by rw [←hnop];exact hno) ⟨hCl', .inr ⟨set_keep h1,a1,w1,hK,hkp,hd, ?_⟩⟩
    have:((L.setIfInBounds i true).toList.drop (m+1)).toArray=(L.toList.drop (m+1)).toArray:=by
     rw [Array.toList_setIfInBounds,List.drop_set,if_pos (by omega)]
    rw [this]
    exact h3
  ·subst him
   rcases hI with ⟨h1,h2,h3⟩|⟨h1,_⟩
   ·have hb: ∀j,j<i→nopA ops j=false→L.getD j false=true:=fun j hj hn=>before L hCl (fun o' e ho he hb=>by
     rw [hi] at ho
     injection ho with ho
     subst ho
     exact hdone e he hb) (i-j) j (Nat.le_refl _) hj hn
    have hM: ∀j,(Array.replicate i true).getD j false=true↔j<i:=fun j=>by
     rw [Array.getD_eq_getD_getElem?,Array.getElem?_replicate]
     split<;>simp_all
    have hfull:I1 (Array.replicate i true) a w:=by
     refine nop_fill (ops:=preO ops i) I1 (fun j q e hj he hb'=> ?_) p1 (L:=(L.toList.take i).toArray) (by rw [hsz];simp;omega) (by rw [hsz];simp) (fun j hj=> ?_) (fun j hj hj2=> ?_) (fun j q e hj hj2 he hb'=> ?_) h3
     ·have hji:j<i:=by
       have:=(Array.getElem?_eq_some_iff.1 hj).1
       rwa [hsz] at this
      rw [pre_get hji] at hj
      exact hback hj he hb'
     ·rw [hM]
      rcases Nat.lt_or_ge j i with h|h
      ·exact h
      ·rw [Array.getD_eq_getD_getElem?,Array.getElem?_eq_none (by simp;omega)] at hj;cases hj
     ·have hji:=(hM j).1 hj
      rw [hpre j hji]
      cases h:nopA ops j with
      |true=>rfl
      |false=>
       rw [getD_take hji,hb j hji h] at hj2
       cases hj2
     ·have hji:=(hM j).1 hj2
      rw [pre_get hji] at hj
      rw [hM]
      have:=hback hj he hb'
      omega
    have hf:=p2 _ a w (fun j hj=>(hM j).2 (by rw [hsz] at hj;exact hj)) hfull
    refine wpOp_mono (fun a' w' h'=>⟨hCl', .inr ⟨set_self (by omega),a',w',h',fun _ _ _ _=>rfl,suf a' w' h', ?_⟩⟩) (mid a w hf (p3 _ a w hfull))
    have hd:=suf a' w' h'
    have h0:=hd.choose_spec.1 w' (.inl rfl)
    have hget: ∀j,((L.setIfInBounds i true).toList.drop (i+1)).toArray.getD j false=L.getD (i+1+j) false:=fun j=>by
     rw [getD_drop,Array.getD_eq_getD_getElem?,Array.getElem?_setIfInBounds,if_neg (by omega),←Array.getD_eq_getD_getElem?]
    refine nop_fill (ops:=sufO ops (i+1)) hd.choose (fun j q e hj he hb'=> ?_) hd.choose_spec.2.1 (by simp) (by rw [hsz2];simp;omega) (fun j hj=> ?_) (fun j hj _=> ?_) (fun j q e hj hj2 he hb'=> ?_) h0
    ·rw [suf_get] at hj
     obtain ⟨q',hq',rfl⟩:=Option.map_eq_some_iff.1 hj
     unfold shiftO at he
     simp only [Array.mem_map,Array.mem_filter,decide_eq_true_eq] at he
     obtain ⟨e',⟨he',hle⟩,rfl⟩:=he
     have hb2:Region.binds .any e'=true:=hb'
     have:=hback hq' he' hb2
     simp only
     omega
    ·exfalso
     rw [Array.getD_eq_getD_getElem?,Array.getElem?_replicate] at hj
     split at hj<;>simp at hj
    ·rw [hget] at hj
     exact hsuf j (h2 _ (by omega) hj)
    ·rw [suf_get] at hj
     obtain ⟨q',hq',rfl⟩:=Option.map_eq_some_iff.1 hj
     unfold shiftO at he
     simp only [Array.mem_map,Array.mem_filter,decide_eq_true_eq] at he
     obtain ⟨e',⟨he',hle⟩,rfl⟩:=he
     have hb2:Region.binds .any e'=true:=hb'
     rw [hget] at hj2⊢
     simp only
     rw [show i+1+(e'.on-(i+1))=e'.on by omega]
     exact hCl _ q' e' hq' hj2 he' hb2
   ·rw [h1] at hLi;cases hLi
  ·rcases hI with ⟨h1,h2,h3⟩|⟨h1,a1,w1,hK,hkp,hd,h3⟩
   ·have hno:nopA ops i=true:=by
     cases h:nopA ops i with
     |true=>rfl
     |false=>
      have:=behind L hCl (i-m) i (Nat.le_refl _) him hlt h (fun o' e ho he hb=>by
       rw [hi] at ho
       injection ho with ho
       subst ho
       exact hdone e he hb)
      rw [h1] at this
      cases this
    refine nop_in hi (by rw [←hnop];exact hno) ⟨hCl', .inl ⟨?_,fun j hj hLj=> ?_, ?_⟩⟩
    ·rw [Array.getD_eq_getD_getElem?,Array.getElem?_setIfInBounds,if_neg (by omega),←Array.getD_eq_getD_getElem?];exact h1
    ·rcases set_get hLj with e|e
     ·rw [e];exact hno
     ·exact h2 j hj e
    ·have:((L.setIfInBounds i true).toList.take m).toArray=(L.toList.take m).toArray:=by
      rw [Array.toList_setIfInBounds,List.take_set,List.set_eq_of_length_le (by rw [List.length_take];omega)]
     rw [this]
     exact h3
   ·obtain ⟨k,rfl⟩: ∃k,i=m+1+k:=⟨i-(m+1),by omega⟩
    have hwant:Region.wanted o (yielded ops a.tmps)=Region.wanted (shiftO (m+1) o) (yielded (sufO ops (m+1)) a.tmps):=by
     unfold Region.wanted
     show _=(match shiftG (m+1) o.guard with|none=>true|some (i,b)=>_)
     cases hg:o.guard with
     |none=>rfl
     |some x=>
      obtain ⟨j,b⟩:=x
      unfold shiftG
      rcases Nat.lt_or_ge m j with hj|hj
      ·simp only
       rw [if_pos (by omega)]
       simp only
       have:yielded (sufO ops (m+1)) a.tmps (j-(m+1))=yielded ops a.tmps j:=by
        unfold yielded
        rw [suf_get,show m+1+(j-(m+1))=j by omega]
        cases ops[j]? <;>rfl
       rw [this]
      ·simp only
       rw [if_neg (by omega)]
       simp only
       obtain ⟨d,e1,e2⟩:=hgd _ o j b (by omega) hi hg hj a1 w1 hK
       rw [yields e1 ((hkp j d hj e1).trans e2)]
       simp
    have hst:=hd.choose_spec.2.1 (L.toList.drop (m+1)).toArray k (shiftO (m+1) o) a w (by rw [hsz2];simp;omega) (by rw [suf_get,hi];rfl) (by rw [getD_drop];exact hLi) (fun e he hb=>by
     unfold shiftO at he
     simp only [Array.mem_map,Array.mem_filter,decide_eq_true_eq] at he
     obtain ⟨e',⟨he',hle⟩,rfl⟩:=he
     have hb':Region.binds .any e'=true:=hb
     rw [getD_drop]
     have:=hdone e' he' hb'
     simp only
     rw [show m+1+(e'.on-(m+1))=e'.on by omega]
     exact this) h3
    refine wpOp_mono (fun a' w' ⟨h',hk'⟩=>⟨hCl', .inr ⟨set_keep h1,a1,w1,hK,fun j d hj e1=> ?_,hd, ?_⟩⟩) (wpOp_keep hi (wpOp_eq (o':=shiftO (m+1) o) hi (by rw [suf_get,hi];rfl) rfl rfl rfl rfl hwant hst))
    ·rw [←hkp j d hj e1]
     refine hk' d fun e2=> ?_
     obtain ⟨q,hq,hqd⟩:=Option.bind_eq_some_iff.1 e1
     have g1:ops.toList[j]? =some q:=by rw [Array.getElem?_toList];exact hq
     have g2:ops.toList[m+1+k]? =some o:=by rw [Array.getElem?_toList];exact hi
     have:=nodup_filterMap_idx (fun x:Oper=>x.dst) ops.toList hwf'.1.2 j (m+1+k) q o d g1 g2 hqd e2
     omega
    rw [drop_set]
    exact h'
 ·rintro L a w hall ⟨_,hI⟩
  rcases hI with ⟨h1,_⟩|⟨_,a1,w1,_,_,hd,h3⟩
  ·rw [hall m hm] at h1;cases h1
  ·refine hd.choose_spec.2.2.1 _ a w (fun i hi=> ?_) h3
   rw [hsz2] at hi
   rw [getD_drop]
   exact hall _ (by omega)
 ·rintro L a w ⟨_,hI⟩
  rcases hI with ⟨_,_,h3⟩|⟨_,a1,w1,_,_,hd,h3⟩
  ·exact p3 _ a w h3
  ·exact hd.choose_spec.2.2.2 _ a w h3
def nopO (o:Oper):Oper:={o with dst:=none,op:= .assign (.const undef),guard:=none}
theorem nopO_nop (o:Oper):isNop (nopO o)=true:=rfl
theorem wpOp_putE {j:Nat} {oi oj:Oper} {v:Value} {E:Sem Next} (hj:ops[j]? =some oj) (hap:oi.apart ops oj=true) (hsi: ∀cs b,oi.op≠ .select cs b) (hsj: ∀cs b,oj.op≠ .select cs b) (hQ: ∀c a a' w,Q (.panic c) a w→Q (.panic c) a' w) {K:Act→World→Prop} {a:Act} {w:World}
  (hy:execOp a.eval oi=E) (h:wpOp P ops Q j K (a.put oi.dst v) w):wpOp P ops Q j (fun a' w'=>execOp a'.eval oi=E∧K (a'.put oi.dst v) w') a w:=by
 obtain ⟨h1,h2,h3⟩:=Oper.apart_spec hap
 have keep: ∀(a:Act),execOp a.eval oi=E→ ∀u,execOp (a.put oj.dst u).eval oi=E:=fun a hy u=>(execOp_put oi hsi a oj.dst u h3).trans hy
 unfold wpOp at*
 simp only [hj] at*
 rw [wanted_put oj a oi.dst v h1] at h
 split
 ·rename_i hw
  simp only [hw,if_true] at h
  rcases h with h|⟨hasks,hlets⟩
  case inr=>exact .inr ⟨by unfold Oper.asks at*;rw [execOp_put oj hsj a oi.dst v h1] at hasks;exact hasks,hlets⟩
  refine .inl ?_
  unfold Oper.wp at*
  rw [execOp_put oj hsj a oi.dst v h1] at h
  generalize (execOp a.eval oj).run P w=r at*
  cases r with
  |ok n w'=>
   cases n<;>simp only [Oper.upon] at h⊢
   case value u=>exact ⟨keep a hy u,by rw [←Act.put_comm a v u h2];exact h⟩
   case skip=>exact ⟨keep a hy _,by rw [←Act.put_comm a v undef h2];exact h⟩
   case defer d=>
    refine ⟨keep {a with defers:=d::a.defers} hy _, ?_⟩
    rw [←Act.put_comm _ v undef h2,←Act.put_defers]
    exact h
   case enter f args=>
    refine Calls.mono h fun e w'' he=> ?_
    cases e with
    |returned u=>exact ⟨keep a hy u,by rw [←Act.put_comm a v u h2];exact he⟩
    |panicked c=>exact hQ _ _ _ _ he
    |outgrown=>exact he
   case row row args=>exact Rows.mono h fun u w'' he=>⟨keep a hy u,by rw [←Act.put_comm a v u h2];exact he⟩
  |halt x w'=>
   cases x<;>simp only [Oper.upon] at h⊢
   case panic u=>exact hQ _ _ _ _ h
 ·rename_i hw
  simp only [hw] at h
  exact ⟨keep a hy _,by rw [←Act.put_comm a v undef h2];exact h⟩
def folS (ops:Array Oper) (i:Nat):List Nat:=(List.range' (i+1) (ops.size-(i+1))).foldl (fun acc j=>cond (predI ops j i||acc.any fun k=>predI ops j k) (j::acc) acc) []
def Cls (ops:Array Oper) (L:Array Bool):Prop:= ∀(i:Nat) (o:Oper) (e:Edge),ops[i]? =some o→L.getD i false=true→e∈o.after→Region.binds .any e=true→L.getD e.on false=true
theorem folS_ok {i j:Nat} (h:j∈folS ops i): ∀L,Cls ops L→(∀(o:Oper) (e:Edge),ops[j]? =some o→e∈o.after→Region.binds .any e=true→L.getD e.on false=true)→L.getD i false=true:=by
 have key: ∀(l acc:List Nat),(∀j∈acc,∀L,Cls ops L→(∀(o:Oper) (e:Edge),ops[j]? =some o→e∈o.after→Region.binds .any e=true→L.getD e.on false=true)→L.getD i false=true)→ ∀j∈l.foldl (fun acc j=>cond (predI ops j i||acc.any fun k=>predI ops j k) (j::acc) acc) acc,∀L,Cls ops L→(∀(o:Oper) (e:Edge),ops[j]? =some o→e∈o.after→Region.binds .any e=true→L.getD e.on false=true)→L.getD i false=true:=by
  intro l
  induction l with
  |nil=>intro acc h;exact h
  |cons x r ih=>
   intro acc h
   refine ih _ ?_
   show ∀j∈cond (predI ops x i||acc.any fun k=>predI ops x k) (x::acc) acc,_
   cases hc:(predI ops x i||acc.any fun k=>predI ops x k) with
   |false=>exact h
   |true=>
    intro j hj
    have hj:j∈x::acc:=hj
    rcases List.mem_cons.1 hj with rfl|hj
    ·intro L hL hr
     rw [Bool.or_eq_true] at hc
     rcases hc with hc|hc
     ·obtain ⟨o,e,ho,he,hb,hon⟩:=predI_on hc
      rw [←hon]
      exact hr o e ho he hb
     ·obtain ⟨k,hk,hp⟩:=List.any_eq_true.1 hc
      obtain ⟨o,e,ho,he,hb,hon⟩:=predI_on hp
      have hLk:L.getD k false=true:=by rw [←hon];exact hr o e ho he hb
      exact h k hk L hL fun o e ho he hb=>hL k o e ho hLk he hb
    ·exact h j hj
 exact key _ [] (fun j hj=>by cases hj) j h
def hoistB (ops:Array Oper) (i:Nat):Bool:=match ops[i]? with
 |some oi=>oi.dst.isSome&&oi.guard.isNone&&Region.noSelect ops&&(List.range ops.size).all fun j=>Nat.beq j i||(match ops[j]? with
   |some oj=>(isNop oj||(folS ops i).contains j||oi.apart ops oj)&&(match oj.guard with
    |some (k,_)=> !Nat.beq k i
    |none=>true)
   |none=>true)
 |none=>false
def hopA (ops:Array Oper) (i:Nat):Array Oper:=ops.modify i nopO
theorem hop_size {i:Nat}:(hopA ops i).size=ops.size:=by simp [hopA]
theorem hop_self {i:Nat} {o:Oper} (h:ops[i]? =some o):(hopA ops i)[i]? =some (nopO o):=by simp [hopA,Array.getElem?_modify,h]
theorem hop_ne {i j:Nat} (h:j≠i):(hopA ops i)[j]? =ops[j]? :=by
 unfold hopA
 rw [Array.getElem?_modify,if_neg (fun e=>h e.symm)]
theorem Dr.hoist {i d:Nat} {oi:Oper} {a0:Act} {w0:World} {J:World→Prop} {fin:Act→World→Prop} {v:Value} (hi:ops[i]? =some oi) (hd:oi.dst=some d) (hB:hoistB ops i=true) (hJ: ∀w,J w→(execOp a0.eval oi).run P w= .ok (.value v) w) (hQ: ∀c a a' w,Q (.panic c) a w→Q (.panic c) a' w)
  (h:Dr P (hopA ops i) Q (a0.put (some d) v) w0 J fin):Dr P ops Q a0 w0 J fin:=by
 obtain ⟨I,i0,i1,i2,i3⟩:=h
 unfold hoistB at hB
 rw [hi] at hB
 simp only [Bool.and_eq_true,Option.isNone_iff_eq_none] at hB
 obtain ⟨⟨⟨_,hg⟩,hsel⟩,hall⟩:=hB
 have hsel':=Region.noSelect_spec hsel
 have hlt:i<ops.size:=(Array.getElem?_eq_some_iff.1 hi).1
 have hfree: ∀j oj,ops[j]? =some oj→j≠i→(isNop oj=true∨(folS ops i).contains j=true∨oi.apart ops oj=true)∧ ∀k b,oj.guard=some (k,b)→k≠i:=fun j oj hj hne=>by
  have hjl:j<ops.size:=(Array.getElem?_eq_some_iff.1 hj).1
  have:=List.all_eq_true.1 hall j (List.mem_range.2 hjl)
  rw [hj] at this
  simp only [Bool.or_eq_true,Bool.and_eq_true] at this
  rcases this with h1|⟨h1,h2⟩
  ·exact absurd (Nat.eq_of_beq_eq_true h1) hne
  ·refine ⟨or_assoc.1 h1,fun k b hk e=> ?_⟩
   rw [hk,e] at h2
   simp at h2
 have hyd: ∀(tm:Array Value) k,k≠i→yielded (hopA ops i) tm k=yielded ops tm k:=fun tm k hk=>by
  unfold yielded
  rw [hop_ne hk]
 have hwant: ∀(oj:Oper) (tm:Array Value),(∀k b,oj.guard=some (k,b)→k≠i)→Region.wanted oj (yielded ops tm)=Region.wanted oj (yielded (hopA ops i) tm):=fun oj tm h=>by
  unfold Region.wanted
  cases hg:oj.guard with
  |none=>rfl
  |some x=>
   obtain ⟨k,b⟩:=x
   simp only
   rw [hyd tm k (h k b hg)]
 have hnone: ∀j,(Array.replicate ops.size false).getD j false=false:=fun j=>by
  rw [Array.getD_eq_getD_getElem?,Array.getElem?_replicate]
  split<;>rfl
 refine ⟨fun L a w=>Cls ops L∧((L.getD i false=true∧I L a w)∨(L.getD i false=false∧execOp a.eval oi=execOp a0.eval oi∧I L (a.put (some d) v) w)),fun w hw=>⟨fun j o e _ h=>(by rw [hnone] at h;cases h), .inr ⟨hnone i,rfl, ?_⟩⟩, ?_, ?_, ?_⟩
 ·have:=i0 w hw
  rw [hop_size] at this
  exact this
 ·rintro L j oj a w hL hj hLj hdone ⟨hC,hI⟩
  have hC':Cls ops (L.setIfInBounds j true):=by
   intro k q e hk hLk he hb
   rcases set_get hLk with e1|e1
   ·subst e1
    rw [hj] at hk
    injection hk with hk
    subst hk
    exact set_keep (hdone e he hb)
   ·exact set_keep (hC k q e hk e1 he hb)
  have hLo:L.size=(hopA ops i).size:=by rw [hop_size];exact hL
  rcases hI with ⟨h1,h2⟩|⟨h1,h2,h3⟩
  ·have hne:j≠i:=fun e=>by rw [e,h1] at hLj;cases hLj
   have hst:=i1 L j oj a w hLo (by rw [hop_ne hne];exact hj) hLj hdone h2
   exact wpOp_mono (fun a' w' h'=>⟨hC', .inl ⟨set_keep h1,h'⟩⟩) (wpOp_eq hj (by rw [hop_ne hne];exact hj) rfl rfl rfl rfl (hwant oj a.tmps (hfree j oj hj hne).2) hst)
  ·by_cases hne:j=i
   ·subst hne
    rw [hi] at hj
    injection hj with hj
    subst hj
    have hst:=nop_out (hop_self hi) (nopO_nop _) (i1 L j (nopO oi) (a.put (some d) v) w hLo (hop_self hi) hLj hdone h3)
    refine run_wanted hi (by simp [Region.wanted,hg]) ?_
    unfold Oper.wp
    rw [h2,hJ w (i3 _ _ _ h3)]
    rw [Oper.upon_value,hd]
    exact ⟨hC', .inl ⟨set_self (by omega),hst⟩⟩
   ·obtain ⟨hf,hk⟩:=hfree j oj hj hne
    have hst:=i1 L j oj (a.put (some d) v) w hLo (by rw [hop_ne hne];exact hj) hLj hdone h3
    have hLi:(L.setIfInBounds j true).getD i false=false:=by
     rw [Array.getD_eq_getD_getElem?,Array.getElem?_setIfInBounds,if_neg hne,←Array.getD_eq_getD_getElem?]
     exact h1
    rcases hf with hn|hp|hap
    ·exact nop_in hj hn ⟨hC', .inr ⟨hLi,h2,nop_out (by rw [hop_ne hne];exact hj) hn hst⟩⟩
    ·exfalso
     have:=folS_ok (by simpa using hp) L hC fun o e ho he hb=>by
      rw [hj] at ho
      injection ho with ho
      subst ho
      exact hdone e he hb
     rw [h1] at this
     cases this
    ·have hst2:wpOp P ops Q j (I (L.setIfInBounds j true)) (a.put oi.dst v) w:=by
      rw [hd]
      exact wpOp_eq hj (by rw [hop_ne hne];exact hj) rfl rfl rfl rfl (hwant oj _ hk) hst
     refine wpOp_mono (fun a' w' h'=>⟨hC', .inr ⟨hLi,h'.1, ?_⟩⟩) (wpOp_putE hj hap (fun cs b=>hsel' i oi cs b hi) (fun cs b=>hsel' j oj cs b hj) hQ h2 hst2)
     have:=h'.2
     rw [hd] at this
     exact this
 ·rintro L a w hall ⟨_,hI⟩
  rcases hI with ⟨_,h2⟩|⟨h1,_⟩
  ·exact i2 L a w (fun k hk=>hall k (by rw [hop_size] at hk;exact hk)) h2
  ·rw [hall i hlt] at h1;cases h1
 ·rintro L a w ⟨_,hI⟩
  rcases hI with ⟨_,h2⟩|⟨_,_,h3⟩
  ·exact i3 _ _ _ h2
  ·exact i3 _ _ _ h3
end
end Go.Proofs.YthebilnlljkfeaaGreatDoor.Z
