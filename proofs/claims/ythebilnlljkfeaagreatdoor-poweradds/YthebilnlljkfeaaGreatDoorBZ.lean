/- One text out of: Zu, Zw, Zy, Zp. -/
import Derived.Test.YthebilnlljkfeaaGreatDoorBZa
import Derived.Test.YthebilnlljkfeaaGreatDoorTab
import Derived.KernelRfl
import Derived.Laws.AppendOwn
import Derived.Laws.OwnMore
import Derived.Laws.MakeOwn
import Derived.Laws.RangeAny
import Derived.Lib.OthersKept
namespace Go.Proofs.YthebilnlljkfeaaGreatDoor.Z
open Go.RowKit Go.Proofs.YthebilnlljkfeaaGreatDoor.Rg
variable {P:Program} {s:Array Value→TypeId→Bool}
def softV:Value→Bool
 | .int .u64 _=>false
 |_=>true
def intTy (t:TypeId):Bool:=Nat.beq t 3||tabTy t
def natTy (t:TypeId):Bool:=Nat.beq t 24
def hardTy (t:TypeId):Bool:=intTy t||natTy t
def soft (cs:Array Value) (t:TypeId):Bool:=cs.all softV&& !(decide (2≤cs.size)&&natTy t)&& !intTy t
theorem soft_all {cs:Array Value} {t:TypeId} (h:soft cs t=true):cs.all softV=true:=(Bool.and_eq_true_iff.1 (Bool.and_eq_true_iff.1 h).1).1
theorem soft_ty {cs:Array Value} {t:TypeId} (ht:intTy t=true) (h:soft cs t=true):False:=by
 have:=(Bool.and_eq_true_iff.1 h).2
 rw [ht] at this
 cases this
theorem soft_int {cs:Array Value} (h:soft cs 3=true):False:=soft_ty (by unfold intTy;rw [Nat.beq_refl];rfl) h
theorem look_stb: ∀(fs:List (Nat×Pr)),AllL (fun x:Nat×Pr=>Stb s x.2) fs→ ∀d,Stb s (Rg.look fs d):=by
 intro fs
 induction fs with
 |nil=>intro _ d w w' v h _;exact h
 |cons x r ih=>
  intro hs d w w' v h g
  unfold Rg.look at h⊢
  cases hb:Nat.beq x.1 d with
  |true=>rw [hb] at h;exact hs.1 w w' v h g
  |false=>rw [hb] at h;exact ih hs.2 d w w' v h g
theorem stb_prop (p:Prop):Stb s (fun _ _=>p):=fun _ _ _ h _=>h
def IsT (ps:List Pr):Pr:=fun w v=> ∃vs:Array Value,v= .tuple vs∧vs.size=ps.length∧ ∀(j:Nat) (p:Pr),ps[j]? =some p→p w (vs.getD j undef)
theorem stb_T {ps:List Pr} (h:AllL (Stb s) ps):Stb s (IsT ps):=by
 rintro w w' v ⟨vs,e,hz,hp⟩ g
 exact ⟨vs,e,hz,fun j p hj=>h.mem p (List.mem_of_getElem? hj) _ _ _ (hp j p hj) g⟩
theorem IsT.mk2 {w:World} {a b:Value} {p q:Pr} (h1:p w a) (h2:q w b):IsT [p,q] w (.tuple #[a,b]):=by
 refine ⟨#[a,b],rfl,rfl,fun j r hj=> ?_⟩
 match j,hj with
 |0,hj=>cases hj;exact h1
 |1,hj=>cases hj;exact h2
 |j+2,hj=>cases hj
theorem IsT.mk3 {w:World} {a b c:Value} {p q r:Pr} (h1:p w a) (h2:q w b) (h3:r w c):IsT [p,q,r] w (.tuple #[a,b,c]):=by
 refine ⟨#[a,b,c],rfl,rfl,fun j u hj=> ?_⟩
 match j,hj with
 |0,hj=>cases hj;exact h1
 |1,hj=>cases hj;exact h2
 |2,hj=>cases hj;exact h3
 |j+3,hj=>cases hj
theorem IsT.get2 {w:World} {v:Value} {p q:Pr} (h:IsT [p,q] w v): ∃a b,v= .tuple #[a,b]∧p w a∧q w b:=by
 obtain ⟨⟨l⟩,rfl,hz,hp⟩:=h
 match l,hz with
 | [a,b],_=>exact ⟨a,b,rfl,hp 0 p rfl,hp 1 q rfl⟩
theorem IsT.get3 {w:World} {v:Value} {p q r:Pr} (h:IsT [p,q,r] w v): ∃a b c,v= .tuple #[a,b,c]∧p w a∧q w b∧r w c:=by
 obtain ⟨⟨l⟩,rfl,hz,hp⟩:=h
 match l,hz with
 | [a,b,c],_=>exact ⟨a,b,c,rfl,hp 0 p rfl,hp 1 q rfl,hp 2 r rfl⟩
section
variable {ops:Array Oper} {Q:Exit→Act→World→Prop} {n:Nat} {F:Facts} {G:List Vr} {D:List (Nat×Pr)} {V:VS} {a0:Act} {w0 wE:World} {kf0:Nat→Nat} {i:Nat}
def Owes (s:Array Value→TypeId→Bool) (P:Program) (ops:Array Oper) (Q:Exit→Act→World→Prop) (F:Facts) (G:List Vr) (D:List (Nat×Pr)) (V:VS) (kf0:Nat→Nat) (i:Nat) (dst:Option Nat) (op:Op):Prop:=
 ∀(o:Oper) (a:Act) (w:World),o.op=op→o.dst=dst→Ctx s P ops F G D V kf0 i a w→o.wp P a w (fun a' w'=> ∃v,a'=a.put o.dst v∧(∀d,o.dst=some d→F d w' v)∧Grow w w') Q
def StepAt (s:Array Value→TypeId→Bool) (P:Program) (ops:Array Oper) (Q:Exit→Act→World→Prop) (F:Facts) (G:List Vr) (D:List (Nat×Pr)) (V:VS) (kf0:Nat→Nat) (i:Nat):Prop:=isAl V i=false→isSt V i=false→Step s P ops Q F G D V kf0 i
theorem steps {m:Nat} (hm:ops.size=m) (h:AllFrom (StepAt s P ops Q F G D V kf0) 0 m): ∀i,i<ops.size→isAl V i=false→isSt V i=false→Step s P ops Q F G D V kf0 i:=
 fun i hi=>all_from m 0 h i (Nat.zero_le _) (by omega)
theorem isAlloc (h:isAl V i=true):StepAt s P ops Q F G D V kf0 i:=fun h'=>by rw [h] at h';cases h'
theorem isStore (h:isSt V i=true):StepAt s P ops Q F G D V kf0 i:=fun _ h'=>by rw [h] at h';cases h'
theorem ofRg {dst:Option Nat} {op:Op} (h: ∀a0 w0,Rg.Owes P ops Q F a0 w0 i dst op):Owes s P ops Q F G D V kf0 i dst op:=
 fun o a w ho hd c=>h a w o a w ho hd (Grow.refl w) ⟨rfl,rfl,fun _ _=>rfl⟩ c.dep
theorem stepN {dst:Option Nat} {op:Op} (h:info ops i=some (dst,op,none)) (hs:Owes s P ops Q F G D V kf0 i dst op):StepAt s P ops Q F G D V kf0 i:=by
 intro _ _ o ho a w c
 obtain ⟨h1,h2,h3⟩:=Rg.info_parts h ho
 exact run_wanted ho (by simp [Region.wanted,h3]) (hs o a w h2 h1 c)
theorem stepG {j dj:Nat} {b:Bool} {dst:Option Nat} {op:Op} (h:info ops i=some (dst,op,some (j,b))) (hj:(ops[j]?).bind (·.dst)=some dj) (hdep:depI ops i dj=true) (hb: ∀w v,F dj w v→v= .bool b)
  (hs:Owes s P ops Q F G D V kf0 i dst op):StepAt s P ops Q F G D V kf0 i:=by
 intro _ _ o ho a w c
 obtain ⟨h1,h2,h3⟩:=Rg.info_parts h ho
 exact run_wanted ho (by simp [Region.wanted,h3,yields hj (hb w _ (c.dep dj hdep))]) (hs o a w h2 h1 c)
theorem stepS {j dj:Nat} {b c:Bool} {dst:Option Nat} {op:Op} (h:info ops i=some (dst,op,some (j,b))) (hj:(ops[j]?).bind (·.dst)=some dj) (hdep:depI ops i dj=true) (hb: ∀w v,F dj w v→v= .bool c) (hbc:(c==b)=false)
  (hu: ∀d,dst=some d→ ∀w,F d w undef):StepAt s P ops Q F G D V kf0 i:=by
 intro _ _ o ho a w cx
 obtain ⟨h1,h2,h3⟩:=Rg.info_parts h ho
 have hv:=hb w _ (cx.dep dj hdep)
 have hw:Region.wanted o (yielded ops a.tmps)=false:=by
  simp only [Region.wanted,h3,yields hj hv]
  simpa using hbc
 unfold wpOp
 rw [ho]
 simp only [hw]
 exact ⟨undef,rfl,fun d hd'=>hu d (h1▸hd') w,Grow.refl w⟩
theorem stepU {j dj:Nat} {b:Bool} {dst:Option Nat} {op:Op} (h:info ops i=some (dst,op,some (j,b))) (hj:(ops[j]?).bind (·.dst)=some dj) (hdep:depI ops i dj=true) (hb: ∀w v,F dj w v→v=undef)
  (hu: ∀d,dst=some d→ ∀w,F d w undef):StepAt s P ops Q F G D V kf0 i:=by
 intro _ _ o ho a w cx
 obtain ⟨h1,h2,h3⟩:=Rg.info_parts h ho
 have hv:=hb w _ (cx.dep dj hdep)
 have hw:Region.wanted o (yielded ops a.tmps)=false:=by
  have hy:yielded ops a.tmps j=none:=by
   unfold yielded
   rw [hj]
   simp only [Option.bind_some]
   rw [Array.getD_eq_getD_getElem?] at hv
   cases hx:a.tmps[dj]? with
   |none=>rfl
   |some x=>rw [hx,Option.getD_some] at hv;rw [hv];rfl
  simp [Region.wanted,h3,hy]
 unfold wpOp
 rw [ho]
 simp only [hw]
 exact ⟨undef,rfl,fun d hd'=>hu d (h1▸hd') w,Grow.refl w⟩
def Arg (s:Array Value→TypeId→Bool) (P:Program) (ops:Array Oper) (F:Facts) (G:List Vr) (D:List (Nat×Pr)) (V:VS) (kf0:Nat→Nat) (i:Nat) (x:Operand) (p:Pr):Prop:= ∀a w,Ctx s P ops F G D V kf0 i a w→p w (a.eval x)
theorem argT {x:Nat} {p:Pr} (dx:depI ops i x=true) (hp: ∀w v,F x w v→p w v):Arg s P ops F G D V kf0 i (.tmp x) p:=fun _ _ c=>hp _ _ (c.dep x dx)
theorem argC (v:Value):Arg s P ops F G D V kf0 i (.const v) (fun _ u=>u=v):=fun _ _ _=>rfl
theorem argO {x:Nat} {p:Pr} (hx:(x,p)∈D) (hr:readS ops i x=true):Arg s P ops F G D V kf0 i (.tmp x) p:=fun _ _ c=>c.old _ hx hr
theorem val {dst:Option Nat} {op:Op} {d:Nat} (h: ∀o a w,o.op=op→Ctx s P ops F G D V kf0 i a w→ ∃v,(execOp a.eval o).run P w= .ok (.value v) w∧F d w v) (e:dst=some d):Owes s P ops Q F G D V kf0 i dst op:=by
 intro o a w ho hd c
 obtain ⟨v,hr,hv⟩:=h o a w ho c
 exact Rg.valOf hr (hd.trans e) hv (Grow.refl w)
theorem move {d:Nat} {x:Operand} {p:Pr} (hx:Arg s P ops F G D V kf0 i x p) (hF: ∀w v,p w v→F d w v):Owes s P ops Q F G D V kf0 i (some d) (.move x):=
 val (fun o a w ho c=>⟨a.eval x,by simp [execOp,ho],hF _ _ (hx a w c)⟩) rfl
theorem assign {d:Nat} {x:Operand} {p:Pr} (hx:Arg s P ops F G D V kf0 i x p) (hF: ∀w v,p w v→F d w v):Owes s P ops Q F G D V kf0 i (some d) (.assign x):=
 val (fun o a w ho c=>⟨a.eval x,by simp [execOp,ho],hF _ _ (hx a w c)⟩) rfl
theorem pickT {d:Nat} {c x y:Operand} {p:Pr} (hc:Arg s P ops F G D V kf0 i c (fun _ v=>v= .bool true)) (hx:Arg s P ops F G D V kf0 i x p) (hF: ∀w v,p w v→F d w v):Owes s P ops Q F G D V kf0 i (some d) (.pick c x y):=
 val (fun o a w ho cx=>⟨a.eval x,by have:=hc a w cx;simp [execOp,ho,this,asBool],hF _ _ (hx a w cx)⟩) rfl
theorem pickF {d:Nat} {c x y:Operand} {p:Pr} (hc:Arg s P ops F G D V kf0 i c (fun _ v=>v= .bool false)) (hy:Arg s P ops F G D V kf0 i y p) (hF: ∀w v,p w v→F d w v):Owes s P ops Q F G D V kf0 i (some d) (.pick c x y):=
 val (fun o a w ho cx=>⟨a.eval y,by have:=hc a w cx;simp [execOp,ho,this,asBool],hF _ _ (hy a w cx)⟩) rfl
theorem extract {d x j:Nat} {ps:List Pr} {p:Pr} (dx:depI ops i x=true) (hx: ∀w v,F x w v→IsT ps w v) (hj:ps[j]? =some p) (hF: ∀w v,p w v→F d w v):Owes s P ops Q F G D V kf0 i (some d) (.extract (.tmp x) j):=
 val (fun o a w ho c=>by
  obtain ⟨vs,e,hz,hp⟩:=hx _ _ (c.dep x dx)
  have hlt:j<vs.size:=by rw [hz];exact (List.getElem?_eq_some_iff.1 hj).1
  refine ⟨vs.getD j undef, ?_,hF _ _ (hp j p hj)⟩
  have e':a.eval (.tmp x)= .tuple vs:=e
  simp only [Act.eval,Array.getD_eq_getD_getElem?] at e'
  simp [execOp,ho,Act.eval,e',Instr.extract,hlt]) rfl
theorem loadV {d p:Nat} {t:TypeId} {q:Pr} (hx:(⟨p,t,q⟩:Vr)∈G) (hr:readB ops V i p=true) (hF: ∀w v,q w v→F d w v):Owes s P ops Q F G D V kf0 i (some d) (.load t (.tmp p)):=
 val (fun o a w ho c=>by
  obtain ⟨cs,h1,h2,h3⟩:=c.rd _ hx hr
  exact ⟨.agg cs,run_load ho (c.ptr _ hx) h1 h2,hF _ _ h3⟩) rfl
def fieldB (P:Program) (t:TypeId) (f off sz:Nat):Bool:=match P.underlying t with
 |some (.struct fs)=>match fs[f]? with
  |some fd=>Nat.beq fd.offset off&&(match P.info? fd.type with
   |some j=>Nat.beq j.size sz&& !Nat.beq sz 0
   |none=>false)
  |none=>false
 |_=>false
theorem fieldV {d p f off sz:Nat} {t:TypeId} {q:Pr} (hx:(⟨p,t,q⟩:Vr)∈G) (hf:fieldB P t f off sz=true) (hF: ∀w v,v= .pointer (some ⟨kf0 p,off,none⟩)→F d w v):Owes s P ops Q F G D V kf0 i (some d) (.fieldAddr t (.tmp p) f):=
 val (fun o a w ho c=>by
  refine ⟨.pointer (some ⟨kf0 p,off,none⟩), ?_,hF _ _ rfl⟩
  unfold fieldB at hf
  split at hf
  ·next fs hu=>
   split at hf
   ·next fd hfd=>
    simp only [Bool.and_eq_true] at hf
    obtain ⟨h1,h2⟩:=hf
    split at h2
    ·next j hj=>
     simp only [Bool.and_eq_true,Bool.not_eq_true'] at h2
     have e1:fd.offset=off:=Nat.eq_of_beq_eq_true h1
     have e2:=Nat.eq_of_beq_eq_true h2.1
     have e3:sz≠0:=fun e=>by rw [e] at h2;cases h2.2
     have hp:a.eval (.tmp p)= .pointer (some ⟨kf0 p,0,none⟩):=c.ptr _ hx
     subst e1
     unfold execOp
     simp only [Act.eval,Array.getD_eq_getD_getElem?] at hp
     simp [go_sem,ho,hp,Act.eval,Instr.fieldAt,Instr.sureAddr,underlying,fieldPlace,sizeOf,typeInfo,hu,hfd,hj,e2,e3]
    ·cases h2
   ·cases hf
  ·cases hf) rfl
theorem fieldA {d q f o0 off sz:Nat} {t:TypeId} {x:Operand} (hx:Arg s P ops F G D V kf0 i x (fun _ v=>v= .pointer (some ⟨kf0 q,o0,none⟩))) (hf:fieldB P t f off sz=true) (hF: ∀w v,v= .pointer (some ⟨kf0 q,o0+off,none⟩)→F d w v):Owes s P ops Q F G D V kf0 i (some d) (.fieldAddr t x f):=
 val (fun o a w ho c=>by
  refine ⟨.pointer (some ⟨kf0 q,o0+off,none⟩), ?_,hF _ _ rfl⟩
  unfold fieldB at hf
  split at hf
  ·next fs hu=>
   split at hf
   ·next fd hfd=>
    simp only [Bool.and_eq_true] at hf
    obtain ⟨h1,h2⟩:=hf
    split at h2
    ·next j hj=>
     simp only [Bool.and_eq_true,Bool.not_eq_true'] at h2
     have e1:fd.offset=off:=Nat.eq_of_beq_eq_true h1
     have e2:=Nat.eq_of_beq_eq_true h2.1
     have e3:sz≠0:=fun e=>by rw [e] at h2;cases h2.2
     have hp:a.eval x= .pointer (some ⟨kf0 q,o0,none⟩):=hx a w c
     subst e1
     unfold execOp
     simp only [ho,hp]
     simp [go_sem,Instr.fieldAt,Instr.sureAddr,underlying,fieldPlace,sizeOf,typeInfo,hu,hfd,hj,e2,e3]
    ·cases h2
   ·cases hf
  ·cases hf) rfl
def aggD:TypeDesc→Bool
 | .struct _=>true
 | .array _ _=>true
 |_=>false
theorem run_loadCell {w:World} {t:TypeId} {b o:Nat} {v:Value} (h:w.cell? ⟨b,o,none⟩=some v) {d:TypeDesc} (hu:P.underlying t=some d) (hd:aggD d=false):(loadVar t ⟨b,o,none⟩).run P w= .ok v w:=by
 unfold loadVar isAgg
 rw [Sem.run_bind,Sem.run_bind,run_underlying hu w]
 cases d<;>simp_all [go_sem,aggD]
def plainB (P:Program) (t:TypeId):Bool:=match P.underlying t with
 |some (.struct _)=>false
 |some (.array _ _)=>false
 |some _=>true
 |none=>false
theorem loadF {d x p off sz:Nat} {t t':TypeId} {q r:Pr} (hx:Arg s P ops F G D V kf0 i (.tmp x) (fun _ v=>v= .pointer (some ⟨kf0 p,off,none⟩))) (hv:(⟨p,t,q⟩:Vr)∈G) (hr:readB ops V i p=true) (ha:aggB P t'=true) (hsz:(P.info? t').map (·.size)=some sz)
  (hle:((P.info? t).map (·.size)).any (fun m=>decide (off+sz≤m))=true) (hq: ∀w cs,q w (.agg cs)→r w (.agg (cs.extract off (off+sz)))) (hF: ∀w v,r w v→F d w v):Owes s P ops Q F G D V kf0 i (some d) (.load t' (.tmp x)):=
 val (fun o a w ho c=>by
  obtain ⟨cs,h1,h2,h3⟩:=c.rd _ hv hr
  have hp:a.eval (.tmp x)= .pointer (some ⟨kf0 p,off,none⟩):=hx a w c
  have hm:off+sz≤cs.size:=by
   rw [h2.size] at hle
   simpa using hle
  refine ⟨.agg (cs.extract off (off+sz)), ?_,hF _ _ (hq _ _ h3)⟩
  obtain ⟨ds,hu,hd⟩:=agg_desc ha
  have hrun:=run_loadVar_mid (P:=P) w (kf0 p) off t' (cs.extract off (off+sz)).toList ds (fun j v hj=>by
   simp only [World.cell?,h1,Option.isSome_none,Bool.false_eq_true,if_false]
   rw [Array.getElem?_toList,Array.getElem?_extract] at hj
   split at hj
   ·exact hj
   ·cases hj) hu (by cases ds<;>first|rfl|exact hd) (by
   rw [hsz,Array.length_toList,Array.size_extract]
   congr 1
   omega)
  unfold execOp
  simp only [ho,hp,Instr.loadAt,Instr.sureAddr,Sem.run_bind,Sem.run_pure,Result.andThen_ok,hrun,Array.toArray_toList]) rfl
theorem loadP {d x p off:Nat} {t t':TypeId} {q r:Pr} (hx:Arg s P ops F G D V kf0 i (.tmp x) (fun _ v=>v= .pointer (some ⟨kf0 p,off,none⟩))) (hv:(⟨p,t,q⟩:Vr)∈G) (hr:readB ops V i p=true) (ha:plainB P t'=true)
  (hle:((P.info? t).map (·.size)).any (fun m=>decide (off<m))=true) (hq: ∀w cs,q w (.agg cs)→r w (cs.getD off undef)) (hF: ∀w v,r w v→F d w v):Owes s P ops Q F G D V kf0 i (some d) (.load t' (.tmp x)):=
 val (fun o a w ho c=>by
  obtain ⟨cs,h1,h2,h3⟩:=c.rd _ hv hr
  have hp:a.eval (.tmp x)= .pointer (some ⟨kf0 p,off,none⟩):=hx a w c
  have hm:off<cs.size:=by
   rw [h2.size] at hle
   simpa using hle
  refine ⟨cs.getD off undef, ?_,hF _ _ (hq _ _ h3)⟩
  have hc:w.cell? ⟨kf0 p,off,none⟩=some (cs.getD off undef):=by
   simp [World.cell?,h1,hm]
  have: ∃ds,P.underlying t'=some ds∧aggD ds=false:=by
   unfold plainB at ha
   split at ha
   ·cases ha
   ·cases ha
   ·next ds h1 h2 e=>exact ⟨ds,e,by cases ds<;>first|rfl|exact (h1 _ rfl).elim|exact (h2 _ _ rfl).elim⟩
   ·cases ha
  obtain ⟨ds,hu,hd⟩:=this
  unfold execOp
  simp only [ho,hp,Instr.loadAt,Instr.sureAddr,Sem.run_bind,Sem.run_pure,Result.andThen_ok,run_loadCell hc hu hd]) rfl
theorem callN {d f:Nat} {xs:Array Operand} {ts:Array TypeId} {R:Value→World→Prop} (en:Enters P f) (hc: ∀a w,Ctx s P ops F G D V kf0 i a w→Calls P f (xs.map a.eval) w (Ret w R)) (hF: ∀w v,R v w→F d w v):
  Owes s P ops Q F G D V kf0 i (some d) (.call {callee:= .value (.func f),args:=xs,argTypes:=ts}):=
 fun _ a w ho hd c=>callOf ho en hd (hc a w c) fun _ _ ⟨v,e,h,g⟩=>⟨v,e,hF _ _ h,g⟩
theorem call0 {d f:Nat} {ts:Array TypeId} {R:Value→World→Prop} (en:Enters P f) (hc: ∀w,Calls P f #[] w (Ret w R)) (hF: ∀w v,R v w→F d w v):
  Owes s P ops Q F G D V kf0 i (some d) (.call {callee:= .value (.func f),args:= #[],argTypes:=ts}):=callN en (fun _ w _=>by simp only [List.map_toArray,List.map_nil];exact hc w) hF
theorem call1 {d f:Nat} {x:Operand} {ts:Array TypeId} {p:Pr} {R:Value→World→Prop} (en:Enters P f) (hx:Arg s P ops F G D V kf0 i x p) (hc: ∀w u,p w u→Calls P f #[u] w (Ret w R)) (hF: ∀w v,R v w→F d w v):
  Owes s P ops Q F G D V kf0 i (some d) (.call {callee:= .value (.func f),args:= #[x],argTypes:=ts}):=callN en (fun a w c=>by simp only [List.map_toArray,List.map_cons,List.map_nil];exact hc w _ (hx a w c)) hF
theorem call2 {d f:Nat} {x y:Operand} {ts:Array TypeId} {p q:Pr} {R:Value→World→Prop} (en:Enters P f) (hx:Arg s P ops F G D V kf0 i x p) (hy:Arg s P ops F G D V kf0 i y q) (hc: ∀w u v,p w u→q w v→Calls P f #[u,v] w (Ret w R)) (hF: ∀w v,R v w→F d w v):
  Owes s P ops Q F G D V kf0 i (some d) (.call {callee:= .value (.func f),args:= #[x,y],argTypes:=ts}):=callN en (fun a w c=>by simp only [List.map_toArray,List.map_cons,List.map_nil];exact hc w _ _ (hx a w c) (hy a w c)) hF
theorem call3 {d f:Nat} {x y z:Operand} {ts:Array TypeId} {p q r:Pr} {R:Value→World→Prop} (en:Enters P f) (hx:Arg s P ops F G D V kf0 i x p) (hy:Arg s P ops F G D V kf0 i y q) (hz:Arg s P ops F G D V kf0 i z r) (hc: ∀w u v t,p w u→q w v→r w t→Calls P f #[u,v,t] w (Ret w R)) (hF: ∀w v,R v w→F d w v):
  Owes s P ops Q F G D V kf0 i (some d) (.call {callee:= .value (.func f),args:= #[x,y,z],argTypes:=ts}):=callN en (fun a w c=>by simp only [List.map_toArray,List.map_cons,List.map_nil];exact hc w _ _ _ (hx a w c) (hy a w c) (hz a w c)) hF
end
end Go.Proofs.YthebilnlljkfeaaGreatDoor.Z
namespace Go.Proofs.YthebilnlljkfeaaGreatDoor.Z
open Go.RowKit Go.Proofs.YthebilnlljkfeaaGreatDoor.Rg
variable {P:Program} {s:Array Value→TypeId→Bool} {e:Nat→Obj→Bool}
section
variable {n:Nat} {G:List Vr} {D:List (Nat×Pr)} {wE w:World} {kf:Nat→Nat} {a:Act} {ops:Array Oper} {Q:Exit→Act→World→Prop}
theorem entSt {fn:Func} {args:Array Value} (hn:fn.ntmps=n) (hle:args.size≤n) (D:List (Nat×Pr)) (hD:AllL (fun x:Nat×Pr=>(x.1<args.size∨n≤x.1)∧x.2 w (args.getD x.1 undef)) D):St s P n [] D w (fun _=>0) {tmps:=args++Array.replicate (fn.ntmps-args.size) undef,defers:= []} w:=by
 refine ⟨?_,rfl,Grow.refl w,(fun x hx=>by cases hx),(fun x hx=>by cases hx),fun x hx=> ?_⟩
 ·simp;omega
 obtain ⟨h1,h2⟩:=hD.mem x hx
 have e:(args++Array.replicate (fn.ntmps-args.size) undef).getD x.1 undef=args.getD x.1 undef:=by
  rcases h1 with h1|h1
  ·simp [Array.getD_eq_getD_getElem?,Array.getElem?_append,h1]
  ·rw [Array.getD_eq_getD_getElem?,Array.getD_eq_getD_getElem?,Array.getElem?_eq_none (by simp;omega),Array.getElem?_eq_none (by omega)]
 rw [e]
 exact h2
theorem enter {f:FuncId} {fn:Func} {c:Code} {args:Array Value} {R:Ending→World→Prop} (hf:P.funcs[f]? =some fn) (hb:fn.body=some c) (hn:fn.ntmps=n) (hle:args.size≤n) (D:List (Nat×Pr)) (hD:AllL (fun x:Nat×Pr=>(x.1<args.size∨n≤x.1)∧x.2 w (args.getD x.1 undef)) D)
  (h: ∀kf a,St s P n [] D w kf a w→c.wp P (bodyPost P fn R) a w):Calls P f args w R:=calls_of_wp hf hb (h (fun _=>0) _ (entSt hn hle D hD))
theorem mem_put {a:Act} {p:Nat} {v:Value} (h:p<a.tmps.size):(a.put (some p) v).tmps.getD p undef=v:=by rw [put_getD a p p v h,if_pos rfl]
theorem slot_ne {p:Nat} (hG:G.all (fun x=> !Nat.beq x.slot p)=true): ∀x∈G,x.slot≠p:=fun x hx e=>by
 have:=List.all_eq_true.1 hG x hx
 rw [e] at this
 simp at this
theorem fact_ne {p:Nat} (hD:D.all (fun x=> !Nat.beq x.1 p)=true): ∀x∈D,x.1≠p:=fun x hx e=>by
 have:=List.all_eq_true.1 hD x hx
 rw [e] at this
 simp at this
theorem St.mk_var {p:Nat} {t:TypeId} {q:Pr} {cs:Array Value} (hS:St s P n G D wE kf a w) (hp:p<n) (hG:G.all (fun x=> !Nat.beq x.slot p)=true) (hD:D.all (fun x=> !Nat.beq x.1 p)=true)
  (hfit:Fits s P t cs) (hq:q (w.alloc (.cells cs t)) (.agg cs)) (hGs:AllL (fun x:Vr=>StbE e x.val) G) (hDs:AllL (fun x:Nat×Pr=>StbE e x.2) D):
  St s P n (⟨p,t,q⟩::G) D wE (fun r=>if r=p then w.heap.size else kf r) (a.put (some p) (.pointer (some ⟨w.heap.size,0,none⟩))) (w.alloc (.cells cs t)):=by
 have hg:Grow w (w.alloc (.cells cs t)):=(Grow.refl w).alloc _
 have hev:EvoE e w (w.alloc (.cells cs t)):=EvoE.of_grow hg
 have hGne:=slot_ne hG
 have hDne:=fact_ne hD
 have hlt: ∀x∈G,kf x.slot<w.heap.size:=fun x hx=>by
  obtain ⟨_,_,_,h3,_⟩:=hS.vars x hx
  exact (Array.getElem?_eq_some_iff.1 h3).1
 refine ⟨by rw [put_size];exact hS.size,by rw [put_defers];exact hS.defers,hS.grow.trans hg,fun x hx=> ?_,fun x hx z hz hxz=> ?_,fun x hx=> ?_⟩
 ·rcases List.mem_cons.1 hx with rfl|hx
  ·simp only [if_true]
   exact ⟨mem_put (by rw [hS.size];exact hp),hS.grow.size,cs,by unfold World.alloc;exact Array.getElem?_push_size,hfit,hq⟩
  ·obtain ⟨h1,h2,c',h3,h4,h5⟩:=hS.vars x hx
   simp only [if_neg (hGne x hx)]
   exact ⟨by rw [put_other (fun e=>hGne x hx (by injection e with e;exact e.symm))];exact h1,h2,c',(Below.block hg _ (hlt x hx)).trans h3,h4,hGs.mem x hx _ _ _ h5 hev⟩
 ·rcases List.mem_cons.1 hx with rfl|hx<;>rcases List.mem_cons.1 hz with rfl|hz
  ·exact absurd rfl hxz
  ·simp only [if_true,if_neg (hGne z hz)]
   have:=hlt z hz
   omega
  ·simp only [if_true,if_neg (hGne x hx)]
   have:=hlt x hx
   omega
  ·simp only [if_neg (hGne x hx),if_neg (hGne z hz)]
   exact hS.apart x hx z hz hxz
 ·rw [put_other (fun e=>hDne x hx (by injection e with e;exact e.symm))]
  exact hDs.mem x hx _ _ _ (hS.facts x hx) hev
theorem plain_seq {id m:Nat} {y:Code} (hm:ops.size=m) (h:wpOps P ops (Exit.then (y.wp P Q) Q) (List.range' 0 m) a w):(Code.seq (.region id ops false) y).wp P Q a w:=by
 refine wp_seq (wp_region ?_)
 rw [List.range_eq_range',hm]
 exact h
theorem plain_end {y:Code} {m:Nat} (h:y.wp P Q a w):wpOps P ops (Exit.then (y.wp P Q) Q) (List.range' m 0) a w:=h
theorem box0 {m k p y:Nat} {t:TypeId} {q:Pr} (hS:St s P n G D wE kf a w) (hi:info ops m=some (some p, .box t (.tmp y),none)) (hp:decide (p<n)=true) (hG:G.all (fun x=> !Nat.beq x.slot p)=true) (hD:D.all (fun x=> !Nat.beq x.1 p)=true)
  (hy:(y,q)∈D) (hsh: ∀w v,q w v→ ∃cs,v= .agg cs∧Fits s P t cs) (hGs:AllL (fun x:Vr=>StbE e x.val) G) (hDs:AllL (fun x:Nat×Pr=>StbE e x.2) D)
  (h: ∀kf a w,St s P n (⟨p,t,q⟩::G) D wE kf a w→wpOps P ops Q (List.range' (m+1) k) a w):wpOps P ops Q (List.range' m (k+1)) a w:=by
 obtain ⟨o,ho,hd,hop,hg⟩:=info_some hi
 rw [List.range'_succ,wpOps_cons]
 refine run_wanted ho (by simp [Region.wanted,hg]) ?_
 obtain ⟨cs,hcs,hfit⟩:=hsh _ _ (hS.facts _ hy)
 unfold Oper.wp
 rw [run_box (ρ:=a.eval) hop hcs]
 have hq:=hDs.mem _ hy _ (w.alloc (.cells cs t)) _ (hS.facts _ hy) (EvoE.of_grow ((Grow.refl w).alloc _))
 have hcs':a.tmps.getD y undef= .agg cs:=hcs
 rw [hcs'] at hq
 simp only at hd
 show wpOps P ops Q (List.range' (m+1) k) (a.put o.dst _) _
 rw [hd]
 exact h _ _ _ (hS.mk_var (of_decide_eq_true hp) hG hD hfit hq hGs hDs)
theorem alloc0 {m k p:Nat} {t:TypeId} (hS:St s P n G D wE kf a w) (hi:info ops m=some (some p, .alloc t,none)) (hp:decide (p<n)=true) (hG:G.all (fun x=> !Nat.beq x.slot p)=true) (hD:D.all (fun x=> !Nat.beq x.1 p)=true)
  (hz:zeroB s P t=true) (hGs:AllL (fun x:Vr=>StbE e x.val) G) (hDs:AllL (fun x:Nat×Pr=>StbE e x.2) D)
  (h: ∀kf a w,St s P n (⟨p,t,fun _ _=>True⟩::G) D wE kf a w→wpOps P ops Q (List.range' (m+1) k) a w):wpOps P ops Q (List.range' m (k+1)) a w:=by
 obtain ⟨o,ho,hd,hop,hg⟩:=info_some hi
 rw [List.range'_succ,wpOps_cons]
 refine run_wanted ho (by simp [Region.wanted,hg]) ?_
 unfold Oper.wp
 rw [run_alloc (ρ:=a.eval) hz hop]
 simp only at hd
 show wpOps P ops Q (List.range' (m+1) k) (a.put o.dst _) _
 rw [hd]
 exact h _ _ _ (hS.mk_var (of_decide_eq_true hp) hG hD (zero_fits hz).1 trivial hGs hDs)
theorem const0 {m k p:Nat} {c:Value} (hS:St s P n G D wE kf a w) (hi:info ops m=some (some p, .assign (.const c),none)) (hp:decide (p<n)=true) (hG:G.all (fun x=> !Nat.beq x.slot p)=true) (hD:D.all (fun x=> !Nat.beq x.1 p)=true)
  (h: ∀kf a w,St s P n G ((p,fun _ v=>v=c)::D) wE kf a w→wpOps P ops Q (List.range' (m+1) k) a w):wpOps P ops Q (List.range' m (k+1)) a w:=by
 obtain ⟨o,ho,hd,hop,hg⟩:=info_some hi
 rw [List.range'_succ,wpOps_cons]
 refine run_wanted ho (by simp [Region.wanted,hg]) ?_
 have hGne:=slot_ne hG
 have hDne:=fact_ne hD
 unfold Oper.wp
 have hrun:(execOp a.eval o).run P w= .ok (.value c) w:=by
  simp only at hop
  simp [execOp,hop,Act.eval]
 rw [hrun]
 simp only at hd
 show wpOps P ops Q (List.range' (m+1) k) (a.put o.dst _) _
 rw [hd]
 refine h kf _ _ ⟨by rw [put_size];exact hS.size,by rw [put_defers];exact hS.defers,hS.grow,fun x hx=> ?_,hS.apart,fun x hx=> ?_⟩
 ·obtain ⟨h1,h2⟩:=hS.vars x hx
  exact ⟨by rw [put_other (fun e=>hGne x hx (by injection e with e;exact e.symm))];exact h1,h2⟩
 ·rcases List.mem_cons.1 hx with rfl|hx
  ·exact mem_put (by rw [hS.size];exact of_decide_eq_true hp)
  ·rw [put_other (fun e=>hDne x hx (by injection e with e;exact e.symm))]
   exact hS.facts x hx
theorem cond_true {c:Nat} {q:Pr} {x y:Code} (hS:St s P n G D wE kf a w) (hc:(c,q)∈D) (hq: ∀w v,q w v→v= .bool true) (h:x.wp P Q a w):(Code.cond (.tmp c) x y).wp P Q a w:=wp_cond_true (hq _ _ (hS.facts _ hc)) h
theorem cond_false {c:Nat} {q:Pr} {x y:Code} (hS:St s P n G D wE kf a w) (hc:(c,q)∈D) (hq: ∀w v,q w v→v= .bool false) (h:y.wp P Q a w):(Code.cond (.tmp c) x y).wp P Q a w:=wp_cond_false (hq _ _ (hS.facts _ hc)) h
theorem St.mono {G':List Vr} {D':List (Nat×Pr)} (hS:St s P n G D wE kf a w) (hG:AllL (fun x:Vr=> ∃y∈G,y.slot=x.slot∧y.ty=x.ty∧ ∀w v,y.val w v→x.val w v) G') (hD:AllL (fun x:Nat×Pr=> ∃y∈D,y.1=x.1∧ ∀w v,y.2 w v→x.2 w v) D'):St s P n G' D' wE kf a w:=by
 refine ⟨hS.size,hS.defers,hS.grow,fun x hx=> ?_,fun x hx z hz h=> ?_,fun x hx=> ?_⟩
 ·obtain ⟨y,hy,e1,e2,e3⟩:=hG.mem x hx
  obtain ⟨h1,h2,cs,h3,h4,h5⟩:=hS.vars y hy
  rw [←e1,←e2]
  exact ⟨h1,h2,cs,h3,h4,e3 _ _ h5⟩
 ·obtain ⟨y,hy,e1,_⟩:=hG.mem x hx
  obtain ⟨u,hu,f1,_⟩:=hG.mem z hz
  rw [←e1,←f1]
  exact hS.apart y hy u hu (by rw [e1,f1];exact h)
 ·obtain ⟨y,hy,e1,e2⟩:=hD.mem x hx
  have:=hS.facts y hy
  rw [e1] at this
  exact e2 _ _ this
theorem res_cell {p:Nat} {t:TypeId} {q:Pr} (hS:St s P n G D wE kf a w) (hx:(⟨p,t,q⟩:Vr)∈G): ∃ad v,(asAddr (a.tmps.getD p undef)).run P w= .ok ad w∧(loadVar t ad).run P w= .ok v w∧q w v:=by
 obtain ⟨h1,_,cs,h3,h4,h5⟩:=hS.vars _ hx
 obtain ⟨d,hu,hd⟩:=agg_desc h4.agg
 refine ⟨⟨kf p,0,none⟩, .agg cs, ?_,run_loadVar_row w _ t t cs _ d h3 hu (by cases d<;>first|rfl|exact hd) h4.size,h5⟩
 simp only at h1
 rw [h1]
 rfl
end
end Go.Proofs.YthebilnlljkfeaaGreatDoor.Z
namespace Go.Proofs.YthebilnlljkfeaaGreatDoor.Z
open Go.RowKit Go.Proofs.YthebilnlljkfeaaGreatDoor.Rg
structure Kd (P:Program) (cx:Cx) where
 p:Pr
 st:StbE (eC soft cx) p
 ty:TypeId→Bool
 fit: ∀t,ty t=true→ ∀w v,p w v→ ∃cs,v= .agg cs∧Fits soft P t cs
variable {P:Program} {cx:Cx}
abbrev Kd.of (p:Pr) (h:Stb soft p):Kd P cx:=⟨p,h.up,fun _=>false,fun _ h=>by cases h⟩
abbrev Kd.ofE (p:Pr) (h:StbE (eC soft cx) p):Kd P cx:=⟨p,h,fun _=>false,fun _ h=>by cases h⟩
abbrev Kd.X:Kd P cx:= .of (fun _ _=>True) stb_true
def fitB (P:Program) (t:TypeId):Value→Bool
 | .agg cs=>aggB P t&&(match P.info? t with
  |some i=>Nat.beq i.size cs.size
  |none=>false)&&cs.all (·.oneCell')&&soft cs t
 |_=>false
theorem fitB_ok {t:TypeId} {v:Value} (h:fitB P t v=true): ∃cs,v= .agg cs∧Fits soft P t cs:=by
 unfold fitB at h
 split at h
 ·next cs=>
  simp only [Bool.and_eq_true] at h
  obtain ⟨⟨⟨h1,h2⟩,h3⟩,h4⟩:=h
  refine ⟨cs,rfl,h1, ?_,h3,h4⟩
  split at h2
  ·next i hi=>
   rw [hi]
   exact congrArg some (Nat.eq_of_beq_eq_true h2)
  ·cases h2
 ·cases h
abbrev Kd.E (c:Value):Kd P cx:=⟨fun _ v=>v=c,Stb.up (stb_eq c),fun t=>fitB P t c,fun t h _ v e=>by rw [e];exact fitB_ok h⟩
abbrev Kd.at (p:Pr) (h:Stb soft p) (t:TypeId) (hf: ∀w v,p w v→ ∃cs,v= .agg cs∧Fits soft P t cs):Kd P cx:=⟨p,h.up,fun u=>Nat.beq u t,fun u hu w v hv=>by
 have e:u=t:=Nat.eq_of_beq_eq_true hu
 rw [e];exact hf w v hv⟩
def allK (w:World):List (Kd P cx)→List Value→Prop
 | [],[]=>True
 |k::ks,v::vs=>k.p w v∧allK w ks vs
 |_,_=>False
theorem allK_get {w:World}: ∀{ks:List (Kd P cx)} {vs:List Value},allK w ks vs→ks.length=vs.length∧ ∀(j:Nat) (k:Kd P cx),ks[j]? =some k→k.p w (vs.getD j undef):=by
 intro ks
 induction ks with
 |nil=>
  intro vs h
  cases vs with
  |nil=>exact ⟨rfl,fun j k h=>by simp at h⟩
  |cons v vs=>cases h
 |cons k ks ih=>
  intro vs h
  cases vs with
  |nil=>cases h
  |cons v vs=>
   obtain ⟨h1,h2⟩:=h
   obtain ⟨e,g⟩:=ih h2
   refine ⟨by simp [e],fun j k' hj=> ?_⟩
   cases j with
   |zero=>simp at hj;subst hj;simpa using h1
   |succ j=>simpa using g j k' (by simpa using hj)
theorem allK_stb {w w':World} (g:EvoE (eC soft cx) w w'): ∀{ks:List (Kd P cx)} {vs:List Value},allK w ks vs→allK w' ks vs:=by
 intro ks
 induction ks with
 |nil=>intro vs h;cases vs<;>exact h
 |cons k ks ih=>
  intro vs h
  cases vs with
  |nil=>cases h
  |cons v vs=>exact ⟨k.st _ _ _ h.1 g,ih h.2⟩
abbrev Kd.T (ks:List (Kd P cx)):Kd P cx:= .ofE (fun w v=> ∃vs:List Value,v= .tuple vs.toArray∧allK w ks vs) (fun _ _ _ ⟨vs,e,h⟩ g=>⟨vs,e,allK_stb g h⟩)
theorem tup2 {w:World} {a b:Value} {k l:Kd P cx} (h1:k.p w a) (h2:l.p w b):(Kd.T [k,l]).p w (.tuple #[a,b]):=⟨[a,b],rfl,h1,h2,trivial⟩
theorem tup3 {w:World} {a b c:Value} {k l m:Kd P cx} (h1:k.p w a) (h2:l.p w b) (h3:m.p w c):(Kd.T [k,l,m]).p w (.tuple #[a,b,c]):=⟨[a,b,c],rfl,h1,h2,h3,trivial⟩
abbrev FL (P:Program) (cx:Cx):=List (Nat×Kd P cx)
def lk:FL P cx→Nat→Kd P cx
 | [],_=> .X
 |x::r,d=>cond (Nat.beq x.1 d) x.2 (lk r d)
theorem lk_none: ∀{fs:FL P cx} {d:Nat},fs.all (fun x=> !Nat.beq x.1 d)=true→lk fs d= .X:=by
 intro fs
 induction fs with
 |nil=>intro d _;rfl
 |cons x r ih=>
  intro d h
  simp only [List.all_cons,Bool.and_eq_true,Bool.not_eq_true'] at h
  unfold lk
  rw [h.1]
  exact ih h.2
structure Vk (P:Program) (cx:Cx) where
 slot:Nat
 ty:TypeId
 k:Kd P cx
def Vk.vr (x:Vk P cx):Vr:=⟨x.slot,x.ty,x.k.p⟩
def lkG:List (Vk P cx)→Nat→Vk P cx
 | [],_=>⟨0,0, .X⟩
 |x::r,d=>cond (Nat.beq x.slot d) x (lkG r d)
theorem lkG_mem: ∀{G:List (Vk P cx)} {d:Nat},G.any (fun x=>Nat.beq x.slot d)=true→lkG G d∈G∧(lkG G d).slot=d:=by
 intro G
 induction G with
 |nil=>intro d h;cases h
 |cons x r ih=>
  intro d h
  unfold lkG
  cases hb:Nat.beq x.slot d with
  |true=>exact ⟨.head _,Nat.eq_of_beq_eq_true hb⟩
  |false=>
   simp only [List.any_cons,hb,Bool.false_or] at h
   exact ⟨.tail _ (ih h).1,(ih h).2⟩
theorem lkD_mem: ∀{D:FL P cx} {d:Nat},D.any (fun x=>Nat.beq x.1 d)=true→(d,lk D d)∈D:=by
 intro D
 induction D with
 |nil=>intro d h;cases h
 |cons x r ih=>
  intro d h
  unfold lk
  cases hb:Nat.beq x.1 d with
  |true=>
   have e:x.1=d:=Nat.eq_of_beq_eq_true hb
   have:(d,x.2)=x:=by rw [←e]
   show (d,x.2)∈x::r
   rw [this];exact .head _
  |false=>
   simp only [List.any_cons,hb,Bool.false_or] at h
   exact .tail _ (ih h)
abbrev gv (G:List (Vk P cx)):List Vr:=G.map Vk.vr
abbrev dv (D:FL P cx):List (Nat×Pr):=D.map fun x=>(x.1,x.2.p)
abbrev fv (fs:FL P cx):Facts:=fun d=>(lk fs d).p
abbrev S2 (P:Program) {cx:Cx} (n:Nat) (G:List (Vk P cx)) (D:FL P cx) (wE:World) (kf:Nat→Nat) (a:Act) (w:World):Prop:=St soft P n (gv G) (dv D) wE kf a w
theorem gv_stb (G:List (Vk P cx)):AllL (fun x:Vr=>StbE (eC soft cx) x.val) (gv G):=by
 induction G with
 |nil=>trivial
 |cons x r ih=>exact ⟨x.k.st,ih⟩
theorem dv_stb (D:FL P cx):AllL (fun x:Nat×Pr=>StbE (eC soft cx) x.2) (dv D):=by
 induction D with
 |nil=>trivial
 |cons x r ih=>exact ⟨x.2.st,ih⟩
theorem all_of {α:Type} {p:α→Prop}: ∀{l:List α},(∀x∈l,p x)→AllL p l:=by
 intro l
 induction l with
 |nil=>intro _;trivial
 |cons x r ih=>intro h;exact ⟨h x (.head _),ih fun y hy=>h y (.tail _ hy)⟩
def srcOf (V:VS) (p:Nat):Option (Nat×TypeId):=(V.st.find? fun x=>Nat.beq x.2.1 p).map fun x=>(x.2.2.1,x.2.2.2)
def newV (V:VS) (fs:FL P cx) (x:Vk P cx):Vk P cx:=match srcOf V x.slot with
 |some y=>⟨x.slot,x.ty,lk fs y.1⟩
 |none=>x
def newG (G:List (Vk P cx)) (V:VS) (fs:FL P cx) (zk:Nat×Nat×TypeId→Kd P cx):List (Vk P cx):=G.map (newV V fs)++V.al.map fun z=>newV V fs ⟨z.2.1,z.2.2,zk z⟩
def newD (D:FL P cx) (ds:List Nat) (fs:FL P cx) (keep:List Nat):FL P cx:=D.filter (fun x=> !ds.contains x.1)++keep.map fun d=>(d,lk fs d)
def regB (P:Program) (n:Nat) (ops:Array Oper) (G:List (Nat×TypeId)) (V:VS) (fs:FL P cx) (keep:List Nat):Bool:=
 wfV n ops&&okB soft P ops G V&&V.al.all (fun z=>fs.all (fun x=> !Nat.beq x.1 z.2.1))&&V.st.all (fun x=>(lk fs x.2.2.1).ty x.2.2.2)&&
 V.st.all (fun s=>G.all (fun y=> !Nat.beq y.1 s.2.1||Nat.beq s.2.2.2 y.2)&&V.al.all (fun z=> !Nat.beq z.2.1 s.2.1||Nat.beq s.2.2.2 z.2.2))&&
 keep.all (fun d=>(dsts ops).contains d&&V.al.all (fun z=> !Nat.beq z.2.1 d))
def slk (G:List (Vk P cx)):List (Nat×TypeId):=G.map fun x=>(x.slot,x.ty)
section
variable {ops:Array Oper} {Q:Exit→Act→World→Prop} {n:Nat} {G:List (Vk P cx)} {D:FL P cx} {V:VS} {fs:FL P cx} {keep:List Nat} {wE:World} {kf0:Nat→Nat} {a0:Act} {w0:World}
theorem srcOf_some {p:Nat} {y:Nat×TypeId} (h:srcOf V p=some y): ∃j,(j,p,y.1,y.2)∈V.st:=by
 unfold srcOf at h
 cases hf:V.st.find? fun x=>Nat.beq x.2.1 p with
 |none=>rw [hf] at h;cases h
 |some s=>
  rw [hf] at h
  simp only [Option.map_some,Option.some.injEq] at h
  subst h
  have h1:=List.find?_some hf
  have e:s.2.1=p:=Nat.eq_of_beq_eq_true h1
  refine ⟨s.1, ?_⟩
  have:=List.mem_of_find?_eq_some hf
  rw [←e];exact this
theorem srcOf_none {p:Nat} (h:srcOf V p=none):V.st.all (fun y=> !Nat.beq y.2.1 p)=true:=by
 unfold srcOf at h
 cases hf:V.st.find? fun x=>Nat.beq x.2.1 p with
 |some s=>rw [hf] at h;cases h
 |none=>
  rw [List.all_eq_true]
  intro x hx
  have:=List.find?_eq_none.1 hf x hx
  cases hb:Nat.beq x.2.1 p with
  |true=>exact absurd hb this
  |false=>rfl
theorem newV_slot (x:Vk P cx):(newV V fs x).slot=x.slot∧(newV V fs x).ty=x.ty:=by
 unfold newV
 split<;>exact ⟨rfl,rfl⟩
theorem newG_ok {zk:Nat×Nat×TypeId→Kd P cx} (hzk: ∀z∈V.al,∀w,(zk z).p w (.agg (zeroOf P z.2.2))) (hty: ∀s∈V.st,(∀x∈G,x.slot=s.2.1→s.2.2.2=x.ty)∧ ∀z∈V.al,z.2.1=s.2.1→s.2.2.2=z.2.2):AllL (NewV P (fv fs) (gv G) V) (gv (newG G V fs zk)):=by
 refine all_of fun x hx=> ?_
 obtain ⟨u,hu,rfl⟩:=List.mem_map.1 hx
 rcases List.mem_append.1 hu with hu|hu
 ·obtain ⟨y,hy,rfl⟩:=List.mem_map.1 hu
  unfold newV
  split
  ·next s hs=>
   obtain ⟨j,hj⟩:=srcOf_some hs
   exact .inl ⟨_,hj,rfl,(hty _ hj).1 y hy rfl,fun _ _ h=>h⟩
  ·next hs=>exact .inr (.inl ⟨srcOf_none hs,_,List.mem_map.2 ⟨y,hy,rfl⟩,rfl,rfl,fun _ _ h=>h⟩)
 ·obtain ⟨z,hz,rfl⟩:=List.mem_map.1 hu
  unfold newV
  split
  ·next s hs=>
   obtain ⟨j,hj⟩:=srcOf_some hs
   exact .inl ⟨_,hj,rfl,(hty _ hj).2 z hz rfl,fun _ _ h=>h⟩
  ·next hs=>exact .inr (.inr ⟨srcOf_none hs,_,hz,rfl,rfl,hzk z hz⟩)
theorem newD_ok (hk: ∀d∈keep,(dsts ops).contains d=true∧V.al.all (fun z=> !Nat.beq z.2.1 d)=true):AllL (NewD ops (fv fs) (dv D) V) (dv (newD D (dsts ops) fs keep)):=by
 refine all_of fun x hx=> ?_
 obtain ⟨u,hu,rfl⟩:=List.mem_map.1 hx
 rcases List.mem_append.1 hu with hu|hu
 ·rw [List.mem_filter] at hu
  exact .inr ⟨by simpa using hu.2,_,List.mem_map.2 ⟨u,hu.1,rfl⟩,rfl,fun _ _ h=>h⟩
 ·obtain ⟨d,hd,rfl⟩:=List.mem_map.1 hu
  exact .inl ⟨(hk d hd).1,(hk d hd).2,fun _ _ h=>h⟩
def eR (G:List (Nat×TypeId)) (ks:KS) (kf0:Nat→Nat) (cx:Cx):Prop:=(∀x∈G,cx.ban (kf0 x.1) x.2=true)∧ ∀x∈ks,cx.ban x.1 x.2=true
theorem eC_mono {cx cx':Cx} (h: ∀b t,cx.ban b t=true→cx'.ban b t=true) {b:Nat} {o:Obj} (ho:eC soft cx b o=true):eC soft cx' b o=true:=by
 unfold eC at ho⊢
 split at ho
 ·simp only [Bool.and_eq_true] at ho⊢
  exact ⟨h _ _ ho.1,ho.2⟩
 ·exact h _ _ ho
 ·cases ho
theorem reg {cx:KS→Cx} {G: ∀ks,List (Vk P (cx ks))} {D fs: ∀ks,FL P (cx ks)} {zk: ∀ks,Nat×Nat×TypeId→Kd P (cx ks)} {D0:List (Nat×Pr)} {D2:KS→List (Nat×Pr)} (hzk: ∀ks,∀z∈V.al,∀w,(zk ks z).p w (.agg (zeroOf P z.2.2))) (hS:St soft P n (gv (G [])) D0 wE kf0 a0 w0)
  (hB: ∀ks,regB P n ops (slk (G ks)) V (fs ks) keep=true) (hR: ∀ks,eR (slk (G ks)) ks kf0 (cx ks)) (hRm: ∀ks x b t,(cx ks).ban b t=true→(cx (x::ks)).ban b t=true)
  (hFm: ∀ks x w d v,w.heap.size≤x.1→(lk (fs ks) d).p w v→(lk (fs (x::ks)) d).p w v) (hGm: ∀ks x w,w.heap.size≤x.1→ ∀y∈gv (G (x::ks)),∃z∈gv (G ks),z.slot=y.slot∧z.ty=y.ty∧ ∀v,z.val w v→y.val w v)
  (hDk: ∀ks w,KB w0 ks w→EvoE (eC soft (cx ks)) w0 w→ ∀x∈dv (D ks)++D2 ks,x.2 w (a0.tmps.getD x.1 undef))
  (step: ∀ks i,i<ops.size→isAl V i=false→isSt V i=false→Step soft P ops Q (fv (fs ks)) (gv (G ks)) (dv (D ks)++D2 ks) V kf0 i) {J:World→Prop} (hJ: ∀w:World,(∀b,b<w0.heap.size→(∀j p y t,(j,p,y,t)∈V.st→(∀z∈V.al,z.2.1≠p)→kf0 p≠b)→w.heap[b]? =w0.heap[b]?)→J w):
  Dr P ops Q a0 w0 J fun a w=> ∃kf ks,(∀q,(∀z∈V.al,z.2.1≠q)→kf q=kf0 q)∧(∀z∈V.al,(kf z.2.1,z.2.2)∈ks)∧KB w0 ks w∧(∀d,(dsts ops).contains d=false→a.tmps.getD d undef=a0.tmps.getD d undef)∧EvoE (eC soft (cx ks)) w0 w∧S2 P n (newG (G ks) V (fs ks) (zk ks)) (newD (D ks) (dsts ops) (fs ks) keep) wE kf a w:=by
 have hsl: ∀ks,slots (gv (G ks))=slk (G ks):=fun ks=>by unfold slots slk gv;rw [List.map_map];rfl
 have hB':=hB
 simp only [regB,Bool.and_eq_true] at hB'
 have hty: ∀ks,∀s∈V.st,(∀x∈G ks,x.slot=s.2.1→s.2.2.2=x.ty)∧ ∀z∈V.al,z.2.1=s.2.1→s.2.2.2=z.2.2:=by
  intro ks s hs
  have h:=List.all_eq_true.1 (hB' ks).1.2 s hs
  simp only [Bool.and_eq_true] at h
  refine ⟨fun x hx e=> ?_,fun z hz e=> ?_⟩
  ·have:=List.all_eq_true.1 h.1 (x.slot,x.ty) (List.mem_map.2 ⟨x,hx,rfl⟩)
   simp only [e,Bool.or_eq_true,Bool.not_eq_true'] at this
   rcases this with h'|h'
   ·simp at h'
   ·exact Nat.eq_of_beq_eq_true h'
  ·have:=List.all_eq_true.1 h.2 z hz
   simp only [e,Bool.or_eq_true,Bool.not_eq_true'] at this
   rcases this with h'|h'
   ·simp at h'
   ·exact Nat.eq_of_beq_eq_true h'
 have hok: ∀ks,okB soft P ops (slots (gv (G ks))) V=true:=fun ks=>by rw [hsl];exact (hB' ks).1.1.1.1.2
 refine regionK (fun ks=>eC soft (cx ks)) (G:=fun ks=>gv (G ks)) (D:=fun ks=>dv (D ks)++D2 ks) hS (fun ks=>fv (fs ks)) V (fun ks=>gv (newG (G ks) V (fs ks) (zk ks))) (fun ks=>dv (newD (D ks) (dsts ops) (fs ks) keep)) (hB' []).1.1.1.1.1 hok ?_ ?_ (fun ks x b o h=>eC_mono (hRm ks x) h) (fun ks d=>(lk (fs ks) d).st) (fun ks=>gv_stb (G ks)) hFm hGm hDk ?_ ?_ step (fun ks=>newG_ok (hzk ks) (hty ks)) ?_ hJ
 ·intro ks j p y t hj x hx ex cs hs
  obtain ⟨u,hu,rfl⟩:=List.mem_map.1 hx
  have e2:=(hty ks _ hj).1 u hu ex
  simp only at e2
  have:=(hR ks).1 (u.slot,u.ty) (List.mem_map.2 ⟨u,hu,rfl⟩)
  simp only at this
  have ex':u.slot=p:=ex
  rw [ex',←e2] at this
  simp only [eC,this,hs,Bool.and_self]
 ·intro ks b t hb cs hs
  have:=(hR ks).2 _ hb
  simp only at this
  simp only [eC,this,hs,Bool.and_self]
 ·intro ks
  refine all_of fun x hx w v=> ?_
  have:=List.all_eq_true.1 (hB' ks).1.1.1.2 x hx
  show (lk (fs ks) x.2.1).p w v
  rw [lk_none this]
  trivial
 ·intro ks
  refine all_of fun x hx w v hv=> ?_
  exact (lk (fs ks) x.2.2.1).fit _ (List.all_eq_true.1 (hB' ks).1.1.2 x hx) w v hv
 ·intro ks
  refine all_of fun x hx=> ?_
  rcases (newD_ok (P:=P) (D:=D ks) (fs:=fs ks) (ops:=ops) (V:=V) (keep:=keep) fun d hd=>by
   have:=List.all_eq_true.1 (hB' ks).2 d hd
   simpa only [Bool.and_eq_true] using this).mem x hx with h|⟨h1,y,hy,e,h⟩
  ·exact .inl h
  ·exact .inr ⟨h1,y,List.mem_append.2 (.inl hy),e,h⟩
def hasG (G:List (Vk P cx)) (p:Nat):Bool:=G.any fun x=>Nat.beq x.slot p
theorem hasG_mem {p:Nat} (h:hasG G p=true):(⟨p,(lkG G p).ty,(lkG G p).k.p⟩:Vr)∈gv G:=by
 obtain ⟨h1,h2⟩:=lkG_mem h
 refine List.mem_map.2 ⟨_,h1, ?_⟩
 unfold Vk.vr
 rw [h2]
end
theorem free_evo {w w':World} (g:EvoE (eC soft cx) w w') {b:Nat} {cs:Array Value} {t:TypeId} {fr:Nat×Nat} (h:w.heap[b]? =some (.cells cs t fr)) (hb:cx.ban b t=false):w'.heap[b]? =some (.cells cs t fr):=by
 rcases g.block b (Array.getElem?_eq_some_iff.1 h).1 with h1|⟨o,o',h1,h2,h3,h4⟩
 ·rw [h1];exact h
 ·rw [h] at h1
  injection h1 with h1
  subst h1
  unfold eC at h3
  split at h3
  ·next e=>
   injection e with e1 e2 e3
   subst e2
   rw [hb] at h3
   cases h3
  ·next e=>cases e
  ·cases h3
def isAd (cx:Cx) (row:List Value):Pr:=fun w v=> ∃b off cs t fr,v= .pointer (some ⟨b,off,none⟩)∧w.heap[b]? =some (.cells cs t fr)∧cx.ban b t=false∧ ∀(j:Nat) (x:Value),row[j]? =some x→cs[off+j]? =some x
theorem stb_Ad {row:List Value}:StbE (eC soft cx) (isAd cx row):=by
 rintro w w' v ⟨b,off,cs,t,fr,e,h1,h2,h3⟩ g
 exact ⟨b,off,cs,t,fr,e,free_evo g h1 h2,h2,h3⟩
section
variable {n:Nat} {G:List (Vk P cx)} {D:FL P cx} {wE w:World} {kf:Nat→Nat} {a:Act} {ops:Array Oper} {Q:Exit→Act→World→Prop}
inductive Ac
 |box (p:Nat) (t:TypeId) (y:Nat)
 |al (p:Nat) (t:TypeId)
 |cn (p:Nat) (v:Value)
 |bx (p:Nat) (t:TypeId) (y:Nat) (v:Value)
def Ac.op:Ac→Option Nat×Op×Option (Nat×Bool)
 | .box p t y=>(some p, .box t (.tmp y),none)
 | .al p t=>(some p, .alloc t,none)
 | .cn p v=>(some p, .assign (.const v),none)
 | .bx p t y _=>(some p, .box t (.tmp y),none)
def Ac.dst:Ac→Nat
 | .box p _ _=>p
 | .al p _=>p
 | .cn p _=>p
 | .bx p _ _ _=>p
abbrev kBx (v:Value):Kd P cx:= .ofE (isAd cx [v]) stb_Ad
def acG:List Ac→List (Vk P cx)→FL P cx→List (Vk P cx)
 | [],G,_=>G
 | .box p t y::r,G,D=>acG r (⟨p,t,lk D y⟩::G) D
 | .al p t::r,G,D=>acG r (⟨p,t, .X⟩::G) D
 | .cn p v::r,G,D=>acG r G ((p, .E v)::D)
 | .bx p _ _ v::r,G,D=>acG r G ((p,kBx v)::D)
def acD:List Ac→FL P cx→FL P cx
 | [],D=>D
 | .cn p v::r,D=>acD r ((p, .E v)::D)
 | .bx p _ _ v::r,D=>acD r ((p,kBx v)::D)
 |_::r,D=>acD r D
def acB (P:Program) (n:Nat) (ops:Array Oper):List Ac→Nat→List (Vk P cx)→FL P cx→Bool
 | [],_,_,_=>true
 |x::r,m,G,D=>decide (x.dst<n)&&G.all (fun y=> !Nat.beq y.slot x.dst)&&D.all (fun y=> !Nat.beq y.1 x.dst)&&
  (match x with
   | .box p t y=>D.any (fun z=>Nat.beq z.1 y)&&(lk D y).ty t&&acB P n ops r (m+1) (⟨p,t,lk D y⟩::G) D
   | .al p t=>zeroB soft P t&&acB P n ops r (m+1) (⟨p,t, .X⟩::G) D
   | .cn p v=>acB P n ops r (m+1) G ((p, .E v)::D)
   | .bx p t y v=>D.any (fun z=>Nat.beq z.1 y)&& !aggB P t&&acB P n ops r (m+1) G ((p,kBx v)::D))
def acV:List Ac→FL P cx→Prop
 | [],_=>True
 | .cn p v::r,D=>acV r ((p, .E v)::D)
 | .bx p _ y v::r,D=>((∀w u,(lk D y).p w u→u=v)∧v.cells= #[v])∧acV r ((p,kBx v)::D)
 |_::r,D=>acV r D
def acI (ops:Array Oper):List Ac→Nat→Prop
 | [],_=>True
 |x::r,m=>info ops m=some x.op∧acI ops r (m+1)
theorem acI_of: ∀(l:List Ac) (m:Nat),(List.range' m l.length).map (info ops)=l.map (fun x=>some x.op)→acI ops l m:=by
 intro l
 induction l with
 |nil=>intro m _;trivial
 |cons x r ih=>
  intro m h
  rw [List.length_cons,List.range'_succ,List.map_cons,List.map_cons] at h
  injection h with h1 h2
  exact ⟨h1,ih (m+1) h2⟩
theorem plainbox0 {m k p y:Nat} {t:TypeId} {v:Value} {q:Pr} {G:List Vr} {D:List (Nat×Pr)} (hS:St soft P n G D wE kf a w) (hi:info ops m=some (some p, .box t (.tmp y),none)) (hp:decide (p<n)=true) (hG:G.all (fun x=> !Nat.beq x.slot p)=true) (hD:D.all (fun x=> !Nat.beq x.1 p)=true)
  (hy:(y,q)∈D) (hq: ∀w u,q w u→u=v) (hv:v.cells= #[v]) (hb: ∀b,cx.ban b t=false) (hGs:AllL (fun x:Vr=>StbE (eC soft cx) x.val) G) (hDs:AllL (fun x:Nat×Pr=>StbE (eC soft cx) x.2) D)
  (h: ∀kf a w,St soft P n G ((p,isAd cx [v])::D) wE kf a w→wpOps P ops Q (List.range' (m+1) k) a w):wpOps P ops Q (List.range' m (k+1)) a w:=by
 obtain ⟨o,ho,hd,hop,hg⟩:=info_some hi
 rw [List.range'_succ,wpOps_cons]
 refine run_wanted ho (by simp [Region.wanted,hg]) ?_
 have hv':a.tmps.getD y undef=v:=hq _ _ (hS.facts _ hy)
 have hGne:=slot_ne hG
 have hDne:=fact_ne hD
 have hgr:Grow w (w.alloc (.cells #[v] t)):=(Grow.refl w).alloc _
 have hev:EvoE (eC soft cx) w (w.alloc (.cells #[v] t)):=EvoE.of_grow hgr
 have hrun:(execOp a.eval o).run P w= .ok (.value (.pointer (some ⟨w.heap.size,0,none⟩))) (w.alloc (.cells #[v] t)):=by
  have e:a.eval (.tmp y)=v:=hv'
  unfold execOp
  simp only at hop
  have hn:(newVar t v).run P w= .ok ⟨w.heap.size,0,none⟩ (w.alloc (.cells v.cells t)):=rfl
  simp only [hop,e,Instr.box,Sem.run_bind,Sem.run_pure,hn,hv,Result.andThen_ok]
 unfold Oper.wp
 rw [hrun]
 simp only at hd
 show wpOps P ops Q (List.range' (m+1) k) (a.put o.dst _) _
 rw [hd]
 refine h kf _ _ ⟨by rw [put_size];exact hS.size,by rw [put_defers];exact hS.defers,hS.grow.trans hgr,fun x hx=> ?_,hS.apart,fun x hx=> ?_⟩
 ·obtain ⟨h1,h2,c',h3,h4,h5⟩:=hS.vars x hx
  exact ⟨by rw [put_other (fun e=>hGne x hx (by injection e with e;exact e.symm))];exact h1,h2,c',(Below.block hgr _ (Array.getElem?_eq_some_iff.1 h3).1).trans h3,h4,hGs.mem x hx _ _ _ h5 hev⟩
 ·rcases List.mem_cons.1 hx with rfl|hx
  ·show isAd cx [v] _ ((a.put (some p) _).tmps.getD p undef)
   rw [mem_put (by rw [hS.size];exact of_decide_eq_true hp)]
   refine ⟨w.heap.size,0, #[v],t,(0,0),rfl,by unfold World.alloc;exact Array.getElem?_push_size,hb _,fun j x hj=> ?_⟩
   rcases j with _|j
   ·simpa using hj
   ·simp at hj
  ·rw [put_other (fun e=>hDne x hx (by injection e with e;exact e.symm))]
   exact hDs.mem x hx _ _ _ (hS.facts x hx) hev
theorem acs (hfree: ∀t,aggB P t=false→ ∀b,cx.ban b t=false): ∀(l:List Ac) (m:Nat) (G:List (Vk P cx)) (D:FL P cx) (kf:Nat→Nat) (a:Act) (w:World),S2 P n G D wE kf a w→acB P n ops l m G D=true→acV l D→acI ops l m→(∀kf a w,S2 P n (acG l G D) (acD l D) wE kf a w→Q .normal a w)→wpOps P ops Q (List.range' m l.length) a w:=by
 intro l
 induction l with
 |nil=>intro m G D kf a w hS _ _ _ fin;exact fin kf a w hS
 |cons x r ih=>
  intro m G D kf a w hS hB hV hI fin
  obtain ⟨hi,hI⟩:=hI
  simp only [acB,Bool.and_eq_true] at hB
  obtain ⟨⟨⟨h1,h2⟩,h3⟩,h4⟩:=hB
  have h2':(gv G).all (fun y=> !Nat.beq y.slot x.dst)=true:=by
   rw [List.all_map];exact h2
  have h3':(dv D).all (fun y=> !Nat.beq y.1 x.dst)=true:=by
   rw [List.all_map];exact h3
  cases x with
  |box p t y=>
   simp only [Bool.and_eq_true] at h4
   refine box0 (q:=(lk D y).p) hS hi h1 h2' h3' (List.mem_map.2 ⟨_,lkD_mem h4.1.1,rfl⟩) (fun w v h=>(lk D y).fit t h4.1.2 w v h) (gv_stb G) (dv_stb D) fun kf a w hS=> ?_
   exact ih (m+1) (⟨p,t,lk D y⟩::G) D kf a w hS h4.2 hV hI fin
  |al p t=>
   simp only [Bool.and_eq_true] at h4
   refine alloc0 hS hi h1 h2' h3' h4.1 (gv_stb G) (dv_stb D) fun kf a w hS=> ?_
   exact ih (m+1) (⟨p,t, .X⟩::G) D kf a w hS h4.2 hV hI fin
  |cn p v=>
   refine const0 (c:=v) hS hi h1 h2' h3' fun kf a w hS=> ?_
   exact ih (m+1) G ((p, .E v)::D) kf a w hS h4 hV hI fin
  |bx p t y v=>
   simp only [Bool.and_eq_true,Bool.not_eq_true'] at h4
   obtain ⟨⟨hV1,hV2⟩,hV3⟩:=hV
   refine plainbox0 (q:=(lk D y).p) (v:=v) hS hi h1 h2' h3' (List.mem_map.2 ⟨_,lkD_mem h4.1.1,rfl⟩) hV1 hV2 (hfree t h4.1.2) (gv_stb G) (dv_stb D) fun kf a w hS=> ?_
   exact ih (m+1) G ((p,kBx v)::D) kf a w hS h4.2 hV3 hI fin
end
end Go.Proofs.YthebilnlljkfeaaGreatDoor.Z
namespace Go.Proofs.YthebilnlljkfeaaGreatDoor.Z
open Go.RowKit Go.Proofs.YthebilnlljkfeaaGreatDoor.Rg
variable {P:Program} {cx cx':Cx}
def pv (v:Value):Bool:=softV v&&v.oneCell'
theorem soft_pv {cs:Array Value} {t:TypeId} (h:cs.all pv=true) (ht:hardTy t=false):soft cs t=true:=by
 have h1:cs.all softV=true:=by
  rw [Array.all_eq_true] at h⊢
  intro i hi
  have:=h i hi
  unfold pv at this
  simp only [Bool.and_eq_true] at this
  exact this.1
 unfold hardTy at ht
 obtain ⟨a,b⟩:=Bool.or_eq_false_iff.1 ht
 unfold soft
 rw [h1,a,b,Bool.and_false]
 rfl
def rowsB (sz:Nat) (l:List (List Value)):Prop:= ∀r∈l,r.length=sz
def isOw (cx:Cx) (T sz:Nat) (l:List (List Value)):Pr:=fun w v=>rowsB sz l∧w.ownsRow cx.own T sz v l.length l.flatten∧ ∀b,v.ownBlock=some b→cx.ban b T=false∧ ∀cs t fr,w.heap[b]? =some (.cells cs t fr)→cs.all pv=true
def All2 {α β:Type} (p:α→β→Prop):List α→List β→Prop
 | [],[]=>True
 |x::r,y::s=>p x y∧All2 p r s
 |_,_=>False
theorem All2.imp {α β:Type} {p q:α→β→Prop} (h: ∀x y,p x y→q x y): ∀{l:List α} {m:List β},All2 p l m→All2 q l m:=by
 intro l
 induction l with
 |nil=>intro m hm;cases m<;>exact hm
 |cons x r ih=>
  intro m hm
  cases m with
  |nil=>cases hm
  |cons y s=>exact ⟨h _ _ hm.1,ih hm.2⟩
def isRd (cx:Cx) (o:Bool) (sz:Nat) (l:List (List Value)):Pr:=fun w v=>rowsB sz l∧ ∃A cap,v= .slice A l.length cap∧l.length≤cap∧cap≤maxLen∧(l≠ []→ ∃b off cs t fr,A=some ⟨b,off,none⟩∧w.heap[b]? =some (.cells cs t fr)∧cx.ban b t=false∧(o=true→b<cx.own)∧ ∀(j:Nat) (x:Value),l.flatten[j]? =some x→cs[off+j]? =some x)
def isCl (cx:Cx) (f:Nat) (rows:List (List Value)):Pr:=fun w v=> ∃ps:List Value,v= .func (.func f) #[] ps.toArray∧All2 (fun r p=>isAd cx r w p) rows ps
def isIt (cx:Cx) (s:List UInt8) (pos:Nat):Pr:=fun w v=> ∃b,v= .pointer (some ⟨b,0,none⟩)∧w.heap[b]? =some (.stringIter ⟨⟨s⟩⟩ pos)∧cx.ban b itT=false∧cx.own≤b
def isLs (cx:Cx) (T sz:Nat) (l:List (List Value)):Bool→Pr
 |true=>isOw cx T sz l
 |false=>isRd cx true sz l
theorem stb_Ow {T sz:Nat} {l:List (List Value)}:StbE (eC soft cx) (isOw cx T sz l):=by
 rintro w w' v ⟨h0,⟨h1,h2⟩,h3⟩ g
 rcases h2 with ⟨rfl,h2⟩|⟨k,cap,cur,rfl,hb,hk,hn,hm,hs,ht⟩
 ·exact ⟨h0,⟨h1, .inl ⟨rfl,h2⟩⟩,fun b hb=>by cases hb⟩
 ·obtain ⟨h4,h5⟩:=h3 k rfl
  have hk':=free_evo g hk h4
  refine ⟨h0,⟨h1, .inr ⟨k,cap,cur,rfl,hb,hk',hn,hm,hs,ht⟩⟩,fun b hb'=> ?_⟩
  injection hb' with hb'
  subst hb'
  refine ⟨h4,fun cs t fr hc=> ?_⟩
  rw [hk'] at hc
  rw [←hk] at hc
  exact h5 cs t fr hc
theorem stb_Rd {o:Bool} {sz:Nat} {l:List (List Value)}:StbE (eC soft cx) (isRd cx o sz l):=by
 rintro w w' v ⟨h0,A,cap,e,h1,h2,h3⟩ g
 refine ⟨h0,A,cap,e,h1,h2,fun hn=> ?_⟩
 obtain ⟨b,off,cs,t,fr,e2,h4,h5,h6⟩:=h3 hn
 exact ⟨b,off,cs,t,fr,e2,free_evo g h4 h5,h5,h6⟩
theorem stb_Cl {f:Nat} {rows:List (List Value)}:StbE (eC soft cx) (isCl cx f rows):=by
 rintro w w' v ⟨ps,e,h⟩ g
 exact ⟨ps,e,h.imp fun r p hr=>stb_Ad _ _ _ hr g⟩
theorem stb_It {s:List UInt8} {pos:Nat}:StbE (eC soft cx) (isIt cx s pos):=by
 rintro w w' v ⟨b,e,h1,h2,h3⟩ g
 refine ⟨b,e, ?_,h2,h3⟩
 rcases g.block b (Array.getElem?_eq_some_iff.1 h1).1 with k1|⟨o,o',k1,k2,k3,k4⟩
 ·rw [k1];exact h1
 ·rw [h1] at k1
  injection k1 with k1
  subst k1
  have:cx.ban b itT=true:=k3
  rw [h2] at this
  cases this
theorem stb_Ls {T sz:Nat} {l:List (List Value)}: ∀{o:Bool},StbE (eC soft cx) (isLs cx T sz l o)
 |true=>stb_Ow
 |false=>stb_Rd
structure Cx.Le (cx cx':Cx) (m:Nat):Prop where
 ban: ∀b t,b<m→cx.ban b t=false→cx'.ban b t=false
 own:cx'.own≤cx.own
 eq:cx'.own=cx.own∨m≤cx'.own
theorem lt_heap {w:World} {b:Nat} {o:Obj} (h:w.heap[b]? =some o):b<w.heap.size:=(Array.getElem?_eq_some_iff.1 h).1
theorem isOw.mono {T sz:Nat} {l:List (List Value)} {w:World} {v:Value} (hb: ∀b t,b<w.heap.size→cx.ban b t=false→cx'.ban b t=false) (ho:cx'.own≤cx.own) (h:isOw cx T sz l w v):isOw cx' T sz l w v:=by
 obtain ⟨h0,⟨h1,h2⟩,h3⟩:=h
 refine ⟨h0,⟨h1, ?_⟩,fun b e=> ?_⟩
 ·rcases h2 with h2|⟨k,cap,cur,e,hb',hk,hr⟩
  ·exact .inl h2
  ·exact .inr ⟨k,cap,cur,e,Nat.le_trans ho hb',hk,hr⟩
 ·obtain ⟨h4,h5⟩:=h3 b e
  refine ⟨hb b T ?_ h4,h5⟩
  rcases h2 with ⟨rfl,_⟩|⟨k,cap,cur,rfl,_,hk,_⟩
  ·cases e
  ·injection e with e
   subst e
   exact lt_heap hk
theorem isRd.mono {o:Bool} {sz:Nat} {l:List (List Value)} {w:World} {v:Value} (hb: ∀b t,b<w.heap.size→cx.ban b t=false→cx'.ban b t=false) (ho:o=true→cx.own≤cx'.own) (h:isRd cx o sz l w v):isRd cx' o sz l w v:=by
 obtain ⟨h0,A,cap,e,h1,h2,h3⟩:=h
 refine ⟨h0,A,cap,e,h1,h2,fun hn=> ?_⟩
 obtain ⟨b,off,cs,t,fr,e2,h4,h5,h6,h7⟩:=h3 hn
 exact ⟨b,off,cs,t,fr,e2,h4,hb b t (lt_heap h4) h5,fun e=>Nat.lt_of_lt_of_le (h6 e) (ho e),h7⟩
theorem isAd.mono {row:List Value} {w:World} {v:Value} (hb: ∀b t,b<w.heap.size→cx.ban b t=false→cx'.ban b t=false) (h:isAd cx row w v):isAd cx' row w v:=by
 obtain ⟨b,off,cs,t,fr,e,h1,h2,h3⟩:=h
 exact ⟨b,off,cs,t,fr,e,h1,hb b t (lt_heap h1) h2,h3⟩
theorem isCl.mono {f:Nat} {rows:List (List Value)} {w:World} {v:Value} (hb: ∀b t,b<w.heap.size→cx.ban b t=false→cx'.ban b t=false) (h:isCl cx f rows w v):isCl cx' f rows w v:=by
 obtain ⟨ps,e,h⟩:=h
 exact ⟨ps,e,h.imp fun r p hr=>isAd.mono hb hr⟩
theorem isIt.mono {s:List UInt8} {pos:Nat} {w:World} {v:Value} (hb: ∀b t,b<w.heap.size→cx.ban b t=false→cx'.ban b t=false) (ho:cx'.own≤cx.own) (h:isIt cx s pos w v):isIt cx' s pos w v:=by
 obtain ⟨b,e,h1,h2,h3⟩:=h
 exact ⟨b,e,h1,hb b itT (lt_heap h1) h2,Nat.le_trans ho h3⟩
theorem isOw.rd {T sz:Nat} {l:List (List Value)} {w:World} {v:Value} (h:isOw cx T sz l w v):isRd cx false sz l w v:=by
 obtain ⟨h0,⟨h1,h2⟩,h3⟩:=h
 rcases h2 with ⟨rfl,h2⟩|⟨k,cap,cur,rfl,hb,hk,hn,hm,hs,ht⟩
 ·refine ⟨h0,none,0,by rw [h2],by omega,by simp [maxLen],fun hne=>absurd (List.eq_nil_of_length_eq_zero h2) hne⟩
 ·refine ⟨h0,_,cap,rfl,hn,hm,fun _=>⟨k,0,cur,T,(0,0),rfl,hk,(h3 k rfl).1,(fun h=>by cases h),fun j x hj=> ?_⟩⟩
  have hlt:=(List.getElem?_eq_some_iff.1 hj).1
  rw [Nat.zero_add,←Array.getElem?_toList]
  rw [←ht,List.getElem?_take] at hj
  split at hj
  ·exact hj
  ·cases hj
theorem isRd.rd {o:Bool} {sz:Nat} {l:List (List Value)} {w:World} {v:Value} (h:isRd cx o sz l w v):isRd cx false sz l w v:=by
 obtain ⟨h0,A,cap,e,h1,h2,h3⟩:=h
 refine ⟨h0,A,cap,e,h1,h2,fun hn=> ?_⟩
 obtain ⟨b,off,cs,t,fr,e2,h4,h5,h6,h7⟩:=h3 hn
 exact ⟨b,off,cs,t,fr,e2,h4,h5,(fun e=>by cases e),h7⟩
theorem isLs.rd {T sz:Nat} {l:List (List Value)} {w:World} {v:Value}: ∀{o:Bool},isLs cx T sz l o w v→isRd cx false sz l w v
 |true,h=>isOw.rd h
 |false,h=>isRd.rd h
theorem isLs.arg {T sz:Nat} {l:List (List Value)} {w:World} {v:Value} {o:Bool} (hb: ∀b t,b<w.heap.size→cx.ban b t=false→cx'.ban b t=false) (ho:w.heap.size≤cx'.own) (h:isLs cx T sz l o w v):isRd cx' true sz l w v:=by
 obtain ⟨h0,A,cap,e,h1,h2,h3⟩:=h.rd
 refine ⟨h0,A,cap,e,h1,h2,fun hn=> ?_⟩
 obtain ⟨b,off,cs,t,fr,e2,h4,h5,h6,h7⟩:=h3 hn
 exact ⟨b,off,cs,t,fr,e2,h4,hb b t (lt_heap h4) h5,fun _=>Nat.lt_of_lt_of_le (lt_heap h4) ho,h7⟩
def Cx.turn (cx:Cx) (tb:Nat→Bool) (T:Nat):Cx:=⟨fun b t=>cx.ban b t||(Nat.beq t T&&decide (cx.own≤b)&&tb b),cx.own,cx.reg⟩
theorem Cx.turn_ban {tb:Nat→Bool} {T b t:Nat} (h:cx.ban b t=false) (h2:Nat.beq t T=false∨b<cx.own∨tb b=false):(cx.turn tb T).ban b t=false:=by
 show (cx.ban b t||(Nat.beq t T&&decide (cx.own≤b)&&tb b))=false
 rw [h,Bool.false_or]
 rcases h2 with h2|h2|h2
 ·rw [h2];rfl
 ·rw [decide_eq_false (by omega),Bool.and_false];rfl
 ·rw [h2,Bool.and_false]
theorem isLs.turn {tb:Nat→Bool} {T T' sz:Nat} {l:List (List Value)} {w:World} {v:Value}: ∀{o:Bool},((o&&Nat.beq T' T)=false∨ ∀b,v.ownBlock=some b→tb b=false)→isLs cx T' sz l o w v→isLs (cx.turn tb T) T' sz l o w v
 |true,hT,⟨h0,⟨h1,h2⟩,h3⟩=>⟨h0,⟨h1,h2⟩,fun b e=>⟨Cx.turn_ban (h3 b e).1 (hT.elim (fun h=> .inl (by simpa using h)) fun h=> .inr (.inr (h b e))),(h3 b e).2⟩⟩
 |false,_,⟨h0,A,cap,e,h1,h2,h3⟩=>⟨h0,A,cap,e,h1,h2,fun hn=>by
  obtain ⟨b,off,cs,t,fr,e2,h4,h5,h6,h7⟩:=h3 hn
  exact ⟨b,off,cs,t,fr,e2,h4,Cx.turn_ban h5 (.inr (.inl (h6 rfl))),h6,h7⟩⟩
theorem isIt.turn {tb:Nat→Bool} {T:Nat} {s:List UInt8} {pos:Nat} {w:World} {v:Value} (hT:Nat.beq itT T=false) (h:isIt cx s pos w v):isIt (cx.turn tb T) s pos w v:=by
 obtain ⟨b,e,h1,h2,h3⟩:=h
 exact ⟨b,e,h1,Cx.turn_ban h2 (.inl hT),h3⟩
theorem evo_row {tb:Nat→Bool} {w:World} {T b:Nat} {cs cs':Array Value} (h:w.heap[b]? =some (.cells cs T (0,0))) (hb:cx.own≤b) (ht:tb b=true) (h1:soft cs T=true) (h2:soft cs' T=true):EvoE (eC soft (cx.turn tb T)) w (w.setRow b cs'):=by
 have hban:(cx.turn tb T).ban b T=true:=by
  show (cx.ban b T||(Nat.beq T T&&decide (cx.own≤b)&&tb b))=true
  rw [Nat.beq_refl,decide_eq_true hb,ht]
  exact Bool.or_true _
 exact EvoE.set h (by simp only [eC,hban,h1,Bool.and_self]) (by simp only [eC,hban,h2,Bool.and_self])
def apV (u v:Value):Prop:= ∀b,u.ownBlock=some b→v.ownBlock=some b→False
theorem All2.impM {α β:Type} {p q:α→β→Prop}: ∀{l:List α} {m:List β},(∀x∈l,∀y,p x y→q x y)→All2 p l m→All2 q l m:=by
 intro l
 induction l with
 |nil=>intro m _ hm;cases m<;>exact hm
 |cons x r ih=>
  intro m h hm
  cases m with
  |nil=>cases hm
  |cons y s=>exact ⟨h _ (.head _) _ hm.1,ih (fun x hx=>h x (.tail _ hx)) hm.2⟩
theorem All2.app {α β:Type} {p:α→β→Prop}: ∀{l l':List α} {m m':List β},All2 p l m→All2 p l' m'→All2 p (l++l') (m++m'):=by
 intro l
 induction l with
 |nil=>intro l' m m' h h';cases m with
  |nil=>exact h'
  |cons _ _=>cases h
 |cons x r ih=>
  intro l' m m' h h'
  cases m with
  |nil=>cases h
  |cons y s=>exact ⟨h.1,ih h.2 h'⟩
theorem All2.len {α β:Type} {p:α→β→Prop}: ∀{l:List α} {m:List β},All2 p l m→l.length=m.length:=by
 intro l
 induction l with
 |nil=>intro m h;cases m with
  |nil=>rfl
  |cons _ _=>cases h
 |cons x r ih=>
  intro m h
  cases m with
  |nil=>cases h
  |cons y s=>exact congrArg (· +1) (ih h.2)
theorem All2.get {α β:Type} {p:α→β→Prop}: ∀{l:List α} {m:List β} {n:Nat} {x:α} {y:β},All2 p l m→l[n]? =some x→m[n]? =some y→p x y:=by
 intro l
 induction l with
 |nil=>intro m n x y _ h;cases h
 |cons z r ih=>
  intro m n x y h h1 h2
  cases m with
  |nil=>cases h
  |cons u s=>
   cases n with
   |zero=>injection h1 with h1;injection h2 with h2;subst h1 h2;exact h.1
   |succ n=>exact ih h.2 h1 h2
theorem All2.mapL {α β γ:Type} {p:γ→β→Prop} {f:α→γ}: ∀{l:List α} {m:List β},All2 p (l.map f) m↔All2 (fun x y=>p (f x) y) l m:=by
 intro l
 induction l with
 |nil=>intro m;cases m<;>exact Iff.rfl
 |cons x r ih=>
  intro m
  cases m with
  |nil=>exact Iff.rfl
  |cons y s=>exact and_congr Iff.rfl ih
theorem All2.take {α β:Type} {p:α→β→Prop}: ∀{l:List α} {m:List β} {n:Nat},All2 p l m→All2 p (l.take n) (m.take n):=by
 intro l
 induction l with
 |nil=>intro m n h;cases m with
  |nil=>simpa using h
  |cons _ _=>cases h
 |cons x r ih=>
  intro m n h
  cases m with
  |nil=>cases h
  |cons y s=>cases n with
   |zero=>trivial
   |succ n=>exact ⟨h.1,ih h.2⟩
def isLo (cx:Cx) (T sz:Nat) (ps:List Pr) (o:Bool):Pr:=fun w v=> ∃rows,isLs cx T sz rows o w v∧All2 (fun (p:Pr) (r:List Value)=>p w (.agg r.toArray)) ps rows
def isAo (cx:Cx) (sz:Nat) (p:Pr):Pr:=fun w v=> ∃row:List Value,row.length=sz∧isAd cx row w v∧p w (.agg row.toArray)
theorem stb_Lo {T sz:Nat} {ps:List Pr} {o:Bool} (h: ∀p∈ps,StbE (eC soft cx) p):StbE (eC soft cx) (isLo cx T sz ps o):=by
 rintro w w' v ⟨rows,h1,h2⟩ g
 exact ⟨rows,stb_Ls _ _ _ h1 g,h2.impM fun p hp r hr=>h p hp _ _ _ hr g⟩
theorem stb_Ao {sz:Nat} {p:Pr} (h:StbE (eC soft cx) p):StbE (eC soft cx) (isAo cx sz p):=by
 rintro w w' v ⟨row,h0,h1,h2⟩ g
 exact ⟨row,h0,stb_Ad _ _ _ h1 g,h _ _ _ h2 g⟩
theorem flat_get {sz:Nat}: ∀{l:List (List Value)},rowsB sz l→ ∀{n j:Nat} {r:List Value} {x:Value},l[n]? =some r→r[j]? =some x→l.flatten[n*sz+j]? =some x:=by
 intro l
 induction l with
 |nil=>intro _ n j r x h;cases h
 |cons a l ih=>
  intro hl n j r x hn hj
  have ha:a.length=sz:=hl a (.head _)
  rw [List.flatten_cons]
  cases n with
  |zero=>
   simp only [List.getElem?_cons_zero,Option.some.injEq] at hn
   subst hn
   rw [Nat.zero_mul,Nat.zero_add,List.getElem?_append_left (List.getElem?_eq_some_iff.1 hj).1]
   exact hj
  |succ n=>
   have hlt:sz≤(n+1)*sz+j:=by rw [Nat.add_mul];omega
   rw [List.getElem?_append_right (by rw [ha];exact hlt),ha]
   have e:(n+1)*sz+j-sz=n*sz+j:=by rw [Nat.add_mul];omega
   rw [e]
   exact ih (fun r hr=>hl r (.tail _ hr)) (by simpa using hn) hj
theorem flat_len {sz:Nat}: ∀{l:List (List Value)},rowsB sz l→l.flatten.length=l.length*sz:=by
 intro l
 induction l with
 |nil=>intro _;simp
 |cons a l ih=>
  intro hl
  rw [List.flatten_cons,List.length_append,hl a (.head _),ih fun r hr=>hl r (.tail _ hr),List.length_cons,Nat.add_mul]
  omega
end Go.Proofs.YthebilnlljkfeaaGreatDoor.Z
