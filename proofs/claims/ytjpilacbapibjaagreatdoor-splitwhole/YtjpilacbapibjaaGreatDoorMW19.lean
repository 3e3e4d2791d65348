/- Own mathematics and calculus that the laws of this seat lean on, part 19. -/
import Derived.Test.YtjpilacbapibjaaGreatDoorMW18
namespace Go.Proofs.YtjpilacbapibjaaGreatDoor.X
open Go.RowKit Go.Proofs.YtjpilacbapibjaaGreatDoor.Z
open Go.Proofs.YtjpilacbapibjaaGreatDoor.Rg (depI Facts dsts info run_wanted wfV)
def effQ {κ:Type} (tf:FuncId→Bool) (ops:Array Oper) (G:List (Vx κ)) (o:Oper):Bool:=match o.op with
 | .call c=>match c.callee with
  | .builtin .append=>true
  | .value (.func f)=>tf f
  |_=>false
 | .next _ _=>true
 | .store _ (.tmp p) _=> !(hasX G p||(alOf ops).any fun z=>Nat.beq z.2.1 p)
 |_=>false
def effI {κ:Type} (tf:FuncId→Bool) (ops:Array Oper) (G:List (Vx κ)):List Oper→Nat→Option Nat
 | [],_=>none
 |o::r,i=>cond (effQ tf ops G o) (some i) (effI tf ops G r (i+1))
def shH {κ:Type} (m:Nat) (h:Hint κ):Hint κ:=(h.filter fun x=>Nat.ble m x.1).map fun x=>(x.1-m,x.2)
section
variable {P:Program} (E:Env P)
def reS (S:Sx E.κ) (ps:List Prop):Option (Fk E.κ)→Option (Sx E.κ×List Prop)
 |none=>some (S,ps)
 |some (.s k')=>match S.D with
  |(d,k)::r=>some (⟨(d,k')::r,S.G⟩,ps++ [tS E k k'])
  | []=>none
 |_=>none
def gdB {κ:Type} (ops:Array Oper) (m:Nat) (S:Sx κ):Option (Nat×Bool)→Bool
 |some (k,b)=>cond (Nat.ble k m) (match (ops[k]?).bind (·.dst) with
  |some d=>hasD S.D d&&(match lS S.D d with
   | .E (.bool c)=>c==b
   |_=>false)
  |none=>false) true
 |none=>true
def gdA {κ:Type} (ops:Array Oper) (m:Nat) (S:Sx κ):Bool:=(ops.toList.drop (m+1)).all fun o=>gdB ops m S o.guard
def gdM (m:Nat):Option (Nat×Bool)→Bool
 |some (k,_)=>decide (k<m)
 |none=>true
def runR:Nat→Nat→Array Oper→Hint E.κ→Sx E.κ→Option (Sx E.κ×List Prop)
 |0,_,_,_,_=>none
 |f+1,n,ops,h,S=>match effI (fun f=>(findT E.tc f).isSome) ops S.G ops.toList 0 with
  |none=>runReg E false n ops h S
  |some m=>cond (cutB ops m&&wfV n ops) (match runReg E true n (preO ops m) h S,ops[m]? with
   |some (S1,p1),some o=>match cond (gdB ops m S1 o.guard&&gdM m o.guard) (runEfT E n (vaN (vaOf h m)) {o with guard:=none} S1) none with
    |some (S2,p2)=>match reS E S2 p2 (teOf h m) with
     |some (S2',p2')=>match cond (gdA ops m S2') (runR f n (sufO ops (m+1)) (shH (m+1) h) S2') none with
      |some (S3,p3)=>some (S3,p1++(p2'++p3))
      |none=>none
     |none=>none
    |none=>none
   |_,_=>none) none
variable {E}
theorem gdB_ok {n k m:Nat} {b:Bool} {S:Sx E.κ} {wE:World} {kf:Nat→Nat} {a:Act} {w:World} {ops:Array Oper} (hS:SX n S wE kf a w) (h:gdB ops m S (some (k,b))=true) (hk:k≤m): ∃d,(ops[k]?).bind (·.dst)=some d∧a.tmps.getD d undef= .bool b:=by
 simp only [gdB,show Nat.ble k m=true from Nat.ble_eq_true_of_le hk,_root_.cond_true] at h
 split at h
 ·next d hd=>
  simp only [Bool.and_eq_true] at h
  obtain ⟨h1,h2⟩:=h
  have hv:=hS.d h1
  split at h2
  ·next c e=>
   rw [e] at hv
   have ec:c=b:=by simpa using h2
   subst ec
   exact ⟨d,hd,hv⟩
  ·cases h2
 ·cases h
theorem reS_ok {n:Nat} {S S':Sx E.κ} {ps ps':List Prop} {F:Option (Fk E.κ)} {wE:World} {kf:Nat→Nat} {a:Act} {w:World} (h:reS E S ps F=some (S',ps')) (hp:AL ps'):AL ps∧(SX n S wE kf a w→SX n S' wE kf a w):=by
 unfold reS at h
 split at h
 ·injection h with h
  injection h with h1 h2
  subst h1 h2
  exact ⟨hp,id⟩
 ·next k'=>
  split at h
  ·next d k r e=>
   injection h with h
   injection h with h1 h2
   subst h1 h2
   obtain ⟨a1,a2⟩:=AL_app hp
   refine ⟨a1,fun hS=>⟨hS.size,hS.defers,hS.grow,hS.vars,hS.apart, ?_⟩⟩
   intro x hx
   obtain ⟨y,hy,rfl⟩:=List.mem_map.1 hx
   obtain ⟨z,hz,rfl⟩:=List.mem_map.1 hy
   rcases List.mem_cons.1 hz with rfl|hz
   ·exact tS_im E a2.1 _ _ _ _ _ (hS.facts _ (List.mem_map.2 ⟨_,List.mem_map.2 ⟨(d,k),by rw [e];exact .head _,rfl⟩,rfl⟩))
   ·exact hS.facts _ (List.mem_map.2 ⟨_,List.mem_map.2 ⟨z,by rw [e];exact .tail _ hz,rfl⟩,rfl⟩)
  ·cases h
 ·cases h
theorem effI_lt {κ:Type} {tf:FuncId→Bool} {ops:Array Oper} {G:List (Vx κ)}: ∀{l:List Oper} {i m:Nat},effI tf ops G l i=some m→m<i+l.length:=by
 intro l
 induction l with
 |nil=>intro i m h;cases h
 |cons o r ih=>
  intro i m h
  unfold effI at h
  cases hb:effQ tf ops G o with
  |true=>
   rw [hb] at h
   injection h with h
   subst h
   simp
  |false=>
   rw [hb] at h
   have:=ih h
   simp only [List.length_cons]
   omega
theorem runReg_wf {n:Nat} {ops:Array Oper} {mid:Bool} {h:Hint E.κ} {S S':Sx E.κ} {ps:List Prop} (hr:runReg E mid n ops h S=some (S',ps)):wfV n ops=true:=by
 unfold runReg at hr
 split at hr
 ·next fs qs e=>
  cases hc:(regB P n ops (gTy S.G) (vsOf ops) (dFs (E.dk cx0) (fun _=>0) (fun _=>undef) fs) (keepOf fs)&&(stOf ops).all (fun x=>isSF (lF fs x.2.2.1))&& !(dsts ops).contains szSlot&&S.D.all (fun x=>noF x.2)&&S.G.all (fun x=>noF x.k)) with
  |false=>rw [hc] at hr;cases hr
  |true=>
   simp only [Bool.and_eq_true,regB] at hc
   exact hc.1.1.1.1.1.1.1.1.1
 ·cases hr
theorem runR_dr {n:Nat} {wE:World} {Q:Exit→Act→World→Prop}: ∀(f:Nat) (ops:Array Oper) (h:Hint E.κ) (S S':Sx E.κ) (ps:List Prop) (kf:Nat→Nat) (a:Act) (w:World),runR E f n ops h S=some (S',ps)→AL ps→SX n S wE kf a w→wfV n ops=true∧Dr P ops Q a w fun a w=> ∃kf,SX n S' wE kf a w:=by
 intro f
 induction f with
 |zero=>intro ops h S S' ps kf a w hr;cases hr
 |succ f ih=>
  intro ops h S S' ps kf a w hr hp hS
  unfold runR at hr
  split at hr
  ·exact ⟨runReg_wf hr,runReg_dr hr hp hS⟩
  ·next m hm=>
   cases hc:(cutB ops m&&wfV n ops) with
   |false=>rw [hc] at hr;cases hr
   |true=>
    rw [hc] at hr
    simp only [_root_.cond_true] at hr
    simp only [Bool.and_eq_true] at hc
    split at hr
    ·next S1 p1 o e1 e2=>
     split at hr
     ·next S2 p2 e3=>
      split at hr
      ·next S2' p2' e4=>
       split at hr
       ·next S3 p3 e5=>
        injection hr with hr
        injection hr with h1 h2
        subst h1 h2
        obtain ⟨q1,q23⟩:=AL_app hp
        obtain ⟨q2,q3⟩:=AL_app q23
        have hlt:m<ops.size:=by
         have:=effI_lt hm
         simpa using this
        have t3:(gdB ops m S1 o.guard&&gdM m o.guard)=true:=by
         cases hh:(gdB ops m S1 o.guard&&gdM m o.guard) with
         |true=>rfl
         |false=>rw [hh] at e3;cases e3
        rw [t3] at e3
        simp only [Bool.and_eq_true] at t3
        have t5:gdA ops m S2'=true:=by
         cases hh:gdA ops m S2' with
         |true=>rfl
         |false=>rw [hh] at e5;cases e5
        rw [t5] at e5
        refine ⟨hc.2,Dr.cut hc.2 hlt hc.1 (runReg_dr e1 q1 hS) (K:=fun a w=> ∃kf,SX n S2' wE kf a w) (fun a1 w1 ⟨kf1,hS1⟩=> ?_) (fun a2 w2 ⟨kf2,hS2⟩=>(ih _ _ _ _ _ kf2 a2 w2 e5 q3 hS2).2) fun i o' k b hi ho' hg hk a2 w2 ⟨kf2,hS2⟩=> ?_⟩
        ·obtain ⟨r1,r2⟩:=reS_ok (n:=n) (wE:=wE) (kf:=kf1) (a:=a1) (w:=w1) e4 q2
         obtain ⟨g1,g2⟩:=runEfT_ok (Q:=Q) hS1 e3 r1
         have hw:Region.wanted o (yielded ops a1.tmps)=true:=by
          unfold Region.wanted
          cases hg:o.guard with
          |none=>rfl
          |some x=>
           obtain ⟨k,b⟩:=x
           rw [hg] at t3
           have hk:k<m:=of_decide_eq_true t3.2
           obtain ⟨d,d1,d2⟩:=gdB_ok hS1 t3.1 (Nat.le_of_lt hk)
           simp only
           rw [Rg.yields d1 d2]
           simp
         have g2':o.wp P a1 w1 (fun a' w'=> ∃kf,SX n S2 wE kf a' w') Q:=g2
         exact run_wanted e2 hw (Oper.wp_mono (fun a3 w3 ⟨kf3,h3⟩=>⟨kf3,(reS_ok e4 q2).2 h3⟩) g2')
        ·have hin:o'∈ops.toList.drop (m+1):=by
          refine List.mem_of_getElem? (i:=i-(m+1)) ?_
          rw [List.getElem?_drop,show m+1+(i-(m+1))=i by omega,Array.getElem?_toList]
          exact ho'
         have:=List.all_eq_true.1 t5 o' hin
         rw [hg] at this
         exact gdB_ok hS2 this hk
       ·cases hr
      ·cases hr
     ·cases hr
    ·cases hr
theorem runR_ok {n id f:Nat} {ops:Array Oper} {b:Bool} {h:Hint E.κ} {S S':Sx E.κ} {ps:List Prop} {Q:Exit→Act→World→Prop} {wE:World} {kf:Nat→Nat} {a:Act} {w:World} (hm:P.follows .mixedOrders=true) (hr:runR E f n ops h S=some (S',ps)) (hp:AL ps) (hS:SX n S wE kf a w)
  (fin: ∀kf a w,SX n S' wE kf a w→Q .normal a w):(Code.region id ops b).wp P Q a w:=by
 obtain ⟨h1,h2⟩:=runR_dr (Q:=Q) f ops h S S' ps kf a w hr hp hS
 exact RW.code hm (h2.run h1 fun a w ⟨kf,h⟩=>fin kf a w h)
def AN:List Prop→Prop→Prop
 | [],q=>q
 |p::r,q=>p∧AN r q
theorem AN_ok: ∀{ps:List Prop} {q:Prop},AN ps q→AL ps∧q:=by
 intro ps
 induction ps with
 |nil=>intro q h;exact ⟨trivial,h⟩
 |cons p r ih=>intro q h;exact ⟨⟨h.1,(ih h.2).1⟩,(ih h.2).2⟩
def cnd (c:Bool) (p q:Prop):Prop:=match c with
 |true=>p
 |false=>q
def nilK {κ:Type}:Ks κ→Bool
 | .E (.slice none 0 0)=>true
 |_=>false
def apD {κ:Type} (S:Sx κ) (x:Nat×Nat):Bool:=apB (apL S.D) x.1 x.2||(hasD S.D x.1&&nilK (lS S.D x.1))||(hasD S.D x.2&&nilK (lS S.D x.2))
def prjK {κ:Type} (S:Sx κ) (d:Nat):Ks κ→Ks κ
 | .N ds=>cond (ds.all (apD S)) (.N ds) (lS S.D d)
 |_=>lS S.D d
def isNk {κ:Type}:Ks κ→Bool
 | .N _=>true
 |_=>false
def proj {κ:Type} (S S':Sx κ):Sx κ:=⟨S'.D.map fun x=>(x.1,prjK S x.1 x.2),S'.G.map fun x=>⟨x.slot,x.ty,(lG S.G x.slot).k⟩⟩
def presB {κ:Type} (S S':Sx κ):Bool:=S'.D.all (fun x=>isNk x.2||S.D.any fun y=>Nat.beq y.1 x.1)&&S'.G.all fun x=>hasX S.G x.slot&&Nat.beq (lG S.G x.slot).ty x.ty
def Sb {κ:Type} (S S':Sx κ):Prop:=proj S S'=S'∧presB S S'=true
theorem gTy_mem {κ:Type} {G:List (Vx κ)} {p:Nat} (h:hasX G p=true): ∃x∈G,x.slot=p∧x.ty=(lG G p).ty:=by
 induction G with
 |nil=>cases h
 |cons y r ih=>
  cases hb:Nat.beq y.slot p with
  |true=>exact ⟨y, .head _,Nat.eq_of_beq_eq_true hb,by unfold lG;rw [hb];rfl⟩
  |false=>
   unfold hasX at h ih
   simp only [List.any_cons,hb,Bool.false_or] at h
   obtain ⟨x,hx,e1,e2⟩:=ih h
   exact ⟨x, .tail _ hx,e1,by unfold lG;rw [hb];exact e2⟩
theorem Sb.state {n:Nat} {S S':Sx E.κ} {wE:World} {kf:Nat→Nat} {a:Act} {w:World} (h:Sb S S') (hS:SX n S wE kf a w):SX n S' wE kf a w:=by
 obtain ⟨h1,h2⟩:=h
 unfold presB at h2
 simp only [Bool.and_eq_true] at h2
 have hG: ∀x∈S'.G,∃y∈S.G,y.slot=x.slot∧y.ty=x.ty:=fun x hx=>by
  have h:=List.all_eq_true.1 h2.2 x hx
  simp only [Bool.and_eq_true] at h
  obtain ⟨y,hy,e1,e2⟩:=gTy_mem h.1
  exact ⟨y,hy,e1,e2.trans (Nat.eq_of_beq_eq_true h.2)⟩
 have hcx: ∀b t,b<w.heap.size→(cxOf (gTy S.G) kf wE.heap.size).ban b t=false→(cxOf (gTy S'.G) kf wE.heap.size).ban b t=false:=fun b t _ h=>by
  cases hb:(cxOf (gTy S'.G) kf wE.heap.size).ban b t with
  |false=>rfl
  |true=>
   obtain ⟨x,hx,e1,e2⟩:=ban_var hb
   obtain ⟨y,hy,f1,f2⟩:=hG x hx
   have:=var_ban (kf:=kf) (own:=wE.heap.size) hy
   rw [f1,e1,f2,e2,h] at this
   cases this
 refine ⟨hS.size,hS.defers,hS.grow, ?_, ?_, ?_⟩
 ·refine vars_cx fun x hx=> ?_
  have h:=List.all_eq_true.1 h2.2 x hx
  simp only [Bool.and_eq_true] at h
  have ek:x.k=(lG S.G x.slot).k:=by
   have hx':x∈(proj S S').G:=by rw [h1];exact hx
   obtain ⟨z,hz,e⟩:=List.mem_map.1 hx'
   rw [←e]
  obtain ⟨g1,g2,cs,g3,g4,g5⟩:=hS.vars _ (mem_dG h.1)
  have et:(lG S.G x.slot).ty=x.ty:=Nat.eq_of_beq_eq_true h.2
  refine ⟨g1,g2,cs,by rw [←et];exact g3,by rw [←et];exact g4, ?_⟩
  show (dS _ kf (lvOf a) x.k).p w _
  rw [ek]
  exact dS_cx hcx rfl (.inl (Nat.le_refl _)) g5
 ·intro x hx y hy
  obtain ⟨x',hx',rfl⟩:=List.mem_map.1 hx
  obtain ⟨y',hy',rfl⟩:=List.mem_map.1 hy
  obtain ⟨x2,hx2,rfl⟩:=List.mem_map.1 hx'
  obtain ⟨y2,hy2,rfl⟩:=List.mem_map.1 hy'
  obtain ⟨x3,hx3,e1,_⟩:=hG x2 hx2
  obtain ⟨y3,hy3,f1,_⟩:=hG y2 hy2
  intro hne
  have:=ap_of hS hx3 hy3 (by rw [e1,f1];exact hne)
  rw [e1,f1] at this
  exact this
 ·intro x hx
  obtain ⟨y,hy,rfl⟩:=List.mem_map.1 hx
  obtain ⟨z,hz,rfl⟩:=List.mem_map.1 hy
  have h:=List.all_eq_true.1 h2.1 z hz
  have rest: ∀{d:Nat},(dS (E.dk (cxOf (gTy S'.G) kf wE.heap.size)) kf (lvOf a) (lS S.D d)).p w (a.tmps.getD d undef):=fun {d}=>by
   cases hd:hasD S.D d with
   |true=>exact dS_cx hcx rfl (.inl (Nat.le_refl _)) (hS.d hd)
   |false=>rw [lS_none hd];trivial
  have hz':z∈(proj S S').D:=by rw [h1];exact hz
  obtain ⟨u,hu,e⟩:=List.mem_map.1 hz'
  subst e
  show (dS _ kf (lvOf a) (prjK S u.1 u.2)).p w (a.tmps.getD u.1 undef)
  unfold prjK
  split
  ·next ds e=>
   cases hb:ds.all (apD S) with
   |true=>
    intro x hx
    have:=List.all_eq_true.1 hb x hx
    unfold apD at this
    simp only [Bool.or_eq_true,Bool.and_eq_true] at this
    have nl: ∀{d:Nat},hasD S.D d=true→nilK (lS S.D d)=true→(lvOf a d).ownBlock=none:=fun {d} g1 g2=>by
     have g3:=hS.d g1
     unfold nilK at g2
     split at g2
     ·next e=>
      rw [e] at g3
      have g3':a.tmps.getD d undef= .slice none 0 0:=g3
      show (a.tmps.getD d undef).ownBlock=none
      rw [g3']
      rfl
     ·cases g2
    rcases this with (this|this)|this
    ·exact apB_ok hS this
    ·intro b hb1 _;rw [nl this.1 this.2] at hb1;cases hb1
    ·intro b _ hb2;rw [nl this.1 this.2] at hb2;cases hb2
   |false=>exact rest
  ·exact rest
def JL {κ γ:Type} (C:γ→Prop) (μ:γ→Nat) (I:γ→Sx κ) (g:γ) (S':Sx κ):Prop:= ∃g',C g'∧μ g'<μ g∧Sb S' (I g')
def late {κ:Type}:Hint κ→Bool
 | [(_,v,_)]=>Nat.beq v 999999
 |_=>false
variable (E) in
def lateR (n:Nat) (ops:Array Oper) (h:Hint E.κ) (S:Sx E.κ) (N:Sx E.κ→Prop):Prop:=match runR E 8 n ops h S with
 |some (S',ps)=>AN ps (N S')
 |none=>False
variable (E) in
def vc (n:Nat):Code→(Nat→Hint E.κ)→Sx E.κ→(Sx E.κ→Prop)→(Sx E.κ→Prop)→(Nat→Sx E.κ→Prop)→Prop
 | .skip,_,S,N,_,_=>N S
 | .region id ops _,hs,S,N,_,_=>cond (late (hs id)) (∃h,lateR E n ops h S N) (lateR E n ops (hs id) S N)
 | .seq a b,hs,S,N,R,X=>vc n a hs S (fun S'=>vc n b hs S' N R X) R X
 | .cond (.tmp c) a b,hs,S,N,R,X=>cond (S.D.any fun y=>Nat.beq y.1 c) (match lS S.D c with
  | .E (.bool c)=>cnd c (vc n a hs S N R X) (vc n b hs S N R X)
  |_=>False) False
 | .block i c,hs,S,N,R,X=>vc n c hs S N R fun j S'=>cond (Nat.beq j i) (N S') (X j S')
 | .loop c,_,S,_,R,X=> ∃(γ:Type) (C:γ→Prop) (μ:γ→Nat) (I:γ→Sx E.κ) (g:γ),C g∧Sb S (I g)∧ ∀g,C g→ ∃hs,vc n c hs (I g) (JL C μ I g) R X
 | .exit i,_,S,_,_,X=>X i S
 | .ret,_,S,_,R,_=>R S
 |_,_,_,_,_,_=>False
theorem vc_ok {n:Nat} {wE:World} (hm:P.follows .mixedOrders=true): ∀(c:Code) (hs:Nat→Hint E.κ) (S:Sx E.κ) (N R:Sx E.κ→Prop) (X:Nat→Sx E.κ→Prop) (Q:Exit→Act→World→Prop) (kf:Nat→Nat) (a:Act) (w:World),vc E n c hs S N R X→
  (∀S kf a w,N S→SX n S wE kf a w→Q .normal a w)→(∀S kf a w,R S→SX n S wE kf a w→Q .ret a w)→(∀i S kf a w,X i S→SX n S wE kf a w→Q (.exit i) a w)→SX n S wE kf a w→c.wp P Q a w:=by
 intro c
 induction c with
 |skip=>intro hs S N R X Q kf a w h hN _ _ hS;exact wp_skip (hN S kf a w h hS)
 |region id ops b=>
  intro hs S N R X Q kf a w h hN _ _ hS
  have key: ∀hh:Hint E.κ,lateR E n ops hh S N→(Code.region id ops b).wp P Q a w:=fun hh h=>by
   unfold lateR at h
   split at h
   ·next S' ps e=>
    obtain ⟨h1,h2⟩:=AN_ok h
    exact runR_ok hm e h1 hS fun kf' a' w' h'=>hN S' kf' a' w' h2 h'
   ·cases h
  simp only [vc] at h
  cases hl:late (hs id) with
  |true=>
   rw [hl] at h
   obtain ⟨hh,h⟩:=h
   exact key hh h
  |false=>
   rw [hl] at h
   exact key _ h
 |seq x y ihx ihy=>
  intro hs S N R X Q kf a w h hN hR hX hS
  refine wp_seq (ihx hs S _ R X _ kf a w h (fun S' kf' a' w' h' hS'=> ?_) (fun S' kf' a' w' h' hS'=>hR S' kf' a' w' h' hS') (fun i S' kf' a' w' h' hS'=>hX i S' kf' a' w' h' hS') hS)
  exact ihy hs S' N R X Q kf' a' w' h' hN hR hX hS'
 |cond o x y ihx ihy=>
  intro hs S N R X Q kf a w h hN hR hX hS
  cases o with
  |tmp c=>
   simp only [vc] at h
   cases hb:(S.D.any fun y=>Nat.beq y.1 c) with
   |false=>rw [hb] at h;cases h
   |true=>
    rw [hb] at h
    simp only [_root_.cond_true] at h
    split at h
    ·next v e=>
     have hmem:(c,(dS (E.dk (cxOf (gTy S.G) kf wE.heap.size)) kf (lvOf a) (lS S.D c)).p)∈dv (dD (E.dk (cxOf (gTy S.G) kf wE.heap.size)) kf (lvOf a) S.D):=by
      rw [←lk_dD]
      exact List.mem_map.2 ⟨_,lkD_mem (has_dD hb),rfl⟩
     rw [e] at hmem
     cases v with
     |true=>exact Z.cond_true hS hmem (fun _ _ h=>h) (ihx hs S N R X Q kf a w h hN hR hX hS)
     |false=>exact Z.cond_false hS hmem (fun _ _ h=>h) (ihy hs S N R X Q kf a w h hN hR hX hS)
    ·cases h
  |_=>simp only [vc] at h
 |block i x ih=>
  intro hs S N R X Q kf a w h hN hR hX hS
  refine wp_block (ih hs S N R _ _ kf a w h (fun S' kf' a' w' h' hS'=>hN S' kf' a' w' h' hS') (fun S' kf' a' w' h' hS'=>hR S' kf' a' w' h' hS') (fun j S' kf' a' w' h' hS'=> ?_) hS)
  show if j=i then Q .normal a' w' else Q (.exit j) a' w'
  cases hb:Nat.beq j i with
  |true=>
   rw [hb] at h'
   rw [if_pos (Nat.eq_of_beq_eq_true hb)]
   exact hN S' kf' a' w' h' hS'
  |false=>
   rw [hb] at h'
   rw [if_neg (fun e=>by rw [e,Nat.beq_refl] at hb;cases hb)]
   exact hX j S' kf' a' w' h' hS'
 |loop x ih=>
  intro hs S N R X Q kf a w h hN hR hX hS
  obtain ⟨γ,C,μ,I,g,h0,h1,hr⟩:=h
  refine wp_loop_ghost (fun m a w=> ∃g kf,C g∧μ g=m∧SX n (I g) wE kf a w) (μ g) ⟨g,kf,h0,rfl,h1.state hS⟩ ?_
  rintro m a w ⟨g,kf,hC,rfl,hS⟩
  obtain ⟨hs',hr⟩:=hr g hC
  refine ih hs' (I g) _ R X _ kf a w hr (fun S' kf' a' w' h' hS'=> ?_) (fun S' kf' a' w' h' hS'=>hR S' kf' a' w' h' hS') (fun i S' kf' a' w' h' hS'=>hX i S' kf' a' w' h' hS') hS
  obtain ⟨g',hC',hlt,hs'⟩:=h'
  exact ⟨μ g',hlt,g',kf',hC',rfl,hs'.state hS'⟩
 |exit i=>intro hs S N R X Q kf a w h _ _ hX hS;exact wp_exit (hX i S kf a w h hS)
 |ret=>intro hs S N R X Q kf a w h _ hR _ hS;exact wp_ret (hR S kf a w h hS)
 |_=>intros;rename_i h _ _ _ _;simp only [vc] at h
end
end Go.Proofs.YtjpilacbapibjaaGreatDoor.X
