/- One text out of: Xd. -/
import Derived.Test.YthebilnlljkfeaaGreatDoorBXg
namespace Go.Proofs.YthebilnlljkfeaaGreatDoor.X
open Go.RowKit Go.Proofs.YthebilnlljkfeaaGreatDoor.Z
open Go.Proofs.YthebilnlljkfeaaGreatDoor.Rg (info)
section
variable {P:Program} {E:Env P}
def resK {κ:Type} (S:Sx κ):ResultVar→Option (Ks κ)
 | .tmp u=>cond (S.D.any fun y=>Nat.beq y.1 u) (some (lS S.D u)) none
 | .cell p t=>cond (hasX S.G p&&Nat.beq (lG S.G p).ty t) (some (lG S.G p).k) none
def resF {κ:Type} (fn:Func) (S:Sx κ):Option (Fk κ):=match fn.results.toList with
 | [x]=>(resK S x).map .s
 | [x,y]=>match resK S x,resK S y with
  |some a,some b=>some (.t [a,b])
  |_,_=>none
 | [x,y,z]=>match resK S x,resK S y,resK S z with
  |some a,some b,some c=>some (.t [a,b,c])
  |_,_,_=>none
 |_=>none
def resRun (tmps:Array Value) (r:ResultVar):Sem Value:=match r with
 | .tmp t=>pure (tmps.getD t undef)
 | .cell b t=>do loadVar t (←asAddr (tmps.getD b undef))
theorem results_eq (fn:Func) (tmps:Array Value):results fn tmps=(do
  let vs ←fn.results.mapM (resRun tmps)
  pure (if h:vs.size=1 then vs[0] else .tuple vs)):=rfl
theorem resK_ok {n:Nat} {S:Sx E.κ} {wE:World} {kf:Nat→Nat} {a:Act} {w:World} (hS:SX n S wE kf a w) {r:ResultVar} {k:Ks E.κ} (h:resK S r=some k):
  ∃v,(resRun a.tmps r).run P w= .ok v w∧(dS (E.dk (cxOf (gTy S.G) kf wE.heap.size)) kf (lvOf a) k).p w v:=by
 cases r with
 |tmp u=>
  simp only [resK] at h
  cases hb:(S.D.any fun y=>Nat.beq y.1 u) with
  |false=>rw [hb] at h;cases h
  |true=>
   rw [hb] at h
   injection h with h
   subst h
   exact ⟨a.tmps.getD u undef,by simp [resRun],hS.d hb⟩
 |cell p t=>
  simp only [resK] at h
  cases hb:(hasX S.G p&&Nat.beq (lG S.G p).ty t) with
  |false=>rw [hb] at h;cases h
  |true=>
   rw [hb] at h
   injection h with h
   subst h
   simp only [Bool.and_eq_true] at hb
   have e:(lG S.G p).ty=t:=Nat.eq_of_beq_eq_true hb.2
   subst e
   obtain ⟨ad,v,h1,h2,hq⟩:=res_cell hS (mem_dG hb.1)
   exact ⟨v,by simp only [resRun,Sem.run_bind,h1,Result.andThen_ok,h2],hq⟩
theorem resF_ok {fn:Func} {n:Nat} {S:Sx E.κ} {wE:World} {kf:Nat→Nat} {a:Act} {w:World} (hS:SX n S wE kf a w) {F:Fk E.κ} (h:resF fn S=some F): ∃v,(results fn a.tmps).run P w= .ok v w∧(dF (E.dk (cxOf (gTy S.G) kf wE.heap.size)) kf (lvOf a) F).p w v:=by
 unfold resF at h
 obtain ⟨l,hl⟩: ∃l,fn.results=Array.mk l:=⟨fn.results.toList,rfl⟩
 rw [hl] at h
 simp only at h
 rw [results_eq,hl]
 split at h
 ·next x=>
  obtain ⟨k,e,h⟩:=Option.map_eq_some_iff.1 h
  subst h
  obtain ⟨v,h1,h2⟩:=resK_ok hS e
  exact ⟨v,by simp [h1],h2⟩
 ·next x y=>
  split at h
  ·next p q e1 e2=>
   injection h with h
   subst h
   obtain ⟨v1,a1,b1⟩:=resK_ok hS e1
   obtain ⟨v2,a2,b2⟩:=resK_ok hS e2
   exact ⟨.tuple #[v1,v2],by simp [a1,a2],[v1,v2],rfl,b1,b2,trivial⟩
  ·cases h
 ·next x y z=>
  split at h
  ·next p q r e1 e2 e3=>
   injection h with h
   subst h
   obtain ⟨v1,a1,b1⟩:=resK_ok hS e1
   obtain ⟨v2,a2,b2⟩:=resK_ok hS e2
   obtain ⟨v3,a3,b3⟩:=resK_ok hS e3
   exact ⟨.tuple #[v1,v2,v3],by simp [a1,a2,a3],[v1,v2,v3],rfl,b1,b2,b3,trivial⟩
  ·cases h
 ·cases h
variable (E) in
def rets (fn:Func) (Res:Fk E.κ) (S:Sx E.κ):Prop:=match resF fn S with
 |some F=>te E F Res
 |none=>False
def oneV:Value→Bool
 | .int _ _=>true
 | .bool _=>true
 | .string _=>true
 |_=>false
theorem oneV_ok {v:Value} (h:oneV v=true):v.cells= #[v]:=by
 cases v<;>first|rfl|cases h
def acOf (P:Program) {κ:Type} (D:DL κ) (o:Oper):Option Ac:=match o.dst,o.op,o.guard with
 |some p, .box t (.tmp y),none=>cond (aggB P t) (some (.box p t y)) (match lS D y with
  | .E v=>cond (oneV v) (some (.bx p t y v)) none
  |_=>none)
 |some p, .alloc t,none=>some (.al p t)
 |some p, .assign (.const v),none=>some (.cn p v)
 |_,_,_=>none
def acD1 {κ:Type} (D:DL κ):Ac→DL κ
 | .cn p v=>(p, .E v)::D
 | .bx p _ _ v=>(p, .A [v])::D
 |_=>D
theorem acOf_ok {D:DL E.κ} {o:Oper} {x:Ac} (h:acOf P D o=some x):(o.dst,o.op,o.guard)=x.op∧ ∀p t y v,x= .bx p t y v→lS D y= .E v∧oneV v=true:=by
 unfold acOf at h
 split at h
 ·next p t y e1 e2 e3=>
  cases ha:aggB P t with
  |true=>rw [ha] at h;injection h with h;subst h;exact ⟨by rw [e1,e2,e3];rfl,fun _ _ _ _ e=>by cases e⟩
  |false=>
   rw [ha] at h
   simp only [_root_.cond_false] at h
   split at h
   ·next v ev=>
    cases hv:oneV v with
    |false=>rw [hv] at h;cases h
    |true=>
     rw [hv] at h
     injection h with h
     subst h
     exact ⟨by rw [e1,e2,e3];rfl,fun p' t' y' v' e=>by injection e with _ _ g3 g4;subst g3 g4;exact ⟨ev,hv⟩⟩
   ·cases h
 ·next e1 e2 e3=>injection h with h;subst h;exact ⟨by rw [e1,e2,e3];rfl,fun _ _ _ _ e=>by cases e⟩
 ·next e1 e2 e3=>injection h with h;subst h;exact ⟨by rw [e1,e2,e3];rfl,fun _ _ _ _ e=>by cases e⟩
 ·cases h
def acsOf (P:Program) {κ:Type}:DL κ→List Oper→Option (List Ac)
 |_,[]=>some []
 |D,o::r=>match acOf P D o with
  |some x=>(acsOf P (acD1 D x) r).map (x:: ·)
  |none=>none
theorem acsOf_ok {ops:Array Oper} {cx:Cx} {kf:Nat→Nat} {lv:Nat→Value}: ∀(r:List Oper) (D:DL E.κ) (l:List Ac) (m:Nat),acsOf P D r=some l→ops.toList.drop m=r→l.length=r.length∧acI ops l m∧acV l (dD (E.dk cx) kf lv D):=by
 intro r
 induction r with
 |nil=>intro D l m h _;injection h with h;subst h;exact ⟨rfl,trivial,trivial⟩
 |cons o r ih=>
  intro D l m h hl
  have hlt:m<ops.toList.length:=by
   rcases Nat.lt_or_ge m ops.toList.length with h1|h1
   ·exact h1
   ·rw [List.drop_eq_nil_of_le h1] at hl;cases hl
  have hd:=List.drop_eq_getElem_cons hlt
  rw [hd] at hl
  injection hl with h1 h2
  simp only [acsOf] at h
  split at h
  ·next x e1=>
   obtain ⟨l',e2,h⟩:=Option.map_eq_some_iff.1 h
   subst h
   obtain ⟨i1,i2,i3⟩:=ih (acD1 D x) l' (m+1) e2 h2
   obtain ⟨k1,k2⟩:=acOf_ok e1
   refine ⟨by simp [i1],⟨?_,i2⟩, ?_⟩
   ·have hget:ops[m]? =some o:=by rw [←Array.getElem?_toList,List.getElem?_eq_getElem hlt,h1]
    rw [info_of hget]
    exact congrArg some k1
   ·cases x with
    |box p t y=>exact i3
    |al p t=>exact i3
    |cn p v=>exact i3
    |bx p t y v=>
     obtain ⟨q1,q2⟩:=k2 p t y v rfl
     refine ⟨⟨fun w u hu=> ?_,oneV_ok q2⟩,i3⟩
     rw [lk_dD,q1] at hu
     exact hu
  ·cases h
def acS {κ:Type}:List Ac→Sx κ→Sx κ
 | [],S=>S
 | .box p t y::r,S=>acS r ⟨S.D,⟨p,t,lS S.D y⟩::S.G⟩
 | .al p t::r,S=>acS r ⟨S.D,⟨p,t, .X⟩::S.G⟩
 | .cn p v::r,S=>acS r ⟨(p, .E v)::S.D,S.G⟩
 | .bx p _ _ v::r,S=>acS r ⟨(p, .A [v])::S.D,S.G⟩
theorem acS_ok {cx:Cx} {kf:Nat→Nat} {lv:Nat→Value}: ∀(l:List Ac) (S:Sx E.κ),acG l (dG (E.dk cx) kf lv S.G) (dD (E.dk cx) kf lv S.D)=dG (E.dk cx) kf lv (acS l S).G∧acD l (dD (E.dk cx) kf lv S.D)=dD (E.dk cx) kf lv (acS l S).D:=by
 intro l
 induction l with
 |nil=>intro S;exact ⟨rfl,rfl⟩
 |cons x r ih=>
  intro S
  cases x with
  |box p t y=>
   have:=ih ⟨S.D,⟨p,t,lS S.D y⟩::S.G⟩
   refine ⟨?_,this.2⟩
   show acG r (⟨p,t,lk (dD (E.dk cx) kf lv S.D) y⟩::dG (E.dk cx) kf lv S.G) (dD (E.dk cx) kf lv S.D)=_
   rw [lk_dD]
   exact this.1
  |al p t=>exact ih ⟨S.D,⟨p,t, .X⟩::S.G⟩
  |cn p v=>exact ih ⟨(p, .E v)::S.D,S.G⟩
  |bx p t y v=>exact ih ⟨(p, .A [v])::S.D,S.G⟩
def ops0 (fn:Func):Array Oper:=match fn.body with
 |some (.seq (.region _ ops false) _)=>ops
 |_=> #[]
def rest (fn:Func):Code:=match fn.body with
 |some (.seq (.region _ _ false) c)=>c
 |_=> .skip
def npA {κ:Type}:Ks κ→Bool
 | .P _ _=>false
 | .V _=>false
 | .Q _ _ _=>false
 | .N _=>false
 |_=>true
def noL {κ:Type}:Fd κ→Bool
 | .l _ _ _=>false
 |_=>true
def npK {κ:Type}:Ks κ→Bool
 | .X=>true
 | .E _=>true
 | .O _=>true
 | .L _ _ _ o=>o
 | .M _ _ _ 1=>true
 | .S fs=>fs.all noL
 |_=>false
def npF {κ:Type}:Fk κ→Bool
 | .s k=>npK k
 | .t ks=>ks.all npK
 |_=>false
theorem npA_eq {cx:Cx} {kf kf':Nat→Nat} {lv lv':Nat→Value} {k:Ks E.κ} (h:npA k=true):dS (E.dk cx) kf lv k=dS (E.dk cx) kf' lv' k:=by
 cases k with
 |M T sz os o=>rcases o with _|_|o<;>rfl
 |_=>first|rfl|cases h
theorem npK_A {κ:Type} {k:Ks κ} (h:npK k=true):npA k=true:=by
 cases k<;>first|rfl|cases h
theorem npK_F {κ:Type} {k:Ks κ} (h:npK k=true):noF k=true:=by
 cases k with
 |M T sz os o=>rcases o with _|_|o<;>first|rfl|cases h
 |_=>first|rfl|cases h
theorem npK_go {cx cx':Cx} {kf kf':Nat→Nat} {lv lv':Nat→Value} {w:World} {v:Value} {k:Ks E.κ} (hn:npK k=true) (hb: ∀b t,b<w.heap.size→cx.ban b t=false→cx'.ban b t=false) (ho:cx'.own=cx.own) (h:(dS (E.dk cx) kf lv k).p w v):(dS (E.dk cx') kf' lv' k).p w v:=by
 rw [npA_eq (npK_A hn) (kf':=kf) (lv':=lv)]
 exact dS_cx hb ho (.inr (npK_F hn)) h
theorem npL_go {cx cx':Cx} {kf kf':Nat→Nat} {lv lv':Nat→Value} {w:World} (hb: ∀b t,b<w.heap.size→cx.ban b t=false→cx'.ban b t=false) (ho:cx'.own=cx.own): ∀{ks:List (Ks E.κ)} {vs:List Value},ks.all npK=true→allK w (ks.map (dS (E.dk cx) kf lv)) vs→allK w (ks.map (dS (E.dk cx') kf' lv')) vs:=by
 intro ks
 induction ks with
 |nil=>
  intro vs _ h
  cases vs with
  |nil=>trivial
  |cons v vs=>cases h
 |cons k r ih=>
  intro vs hn h
  simp only [List.all_cons,Bool.and_eq_true] at hn
  cases vs with
  |nil=>cases h
  |cons v vs=>exact ⟨npK_go hn.1 hb ho h.1,ih hn.2 h.2⟩
theorem npF_go {cx cx':Cx} {kf kf':Nat→Nat} {lv lv':Nat→Value} {w:World} {v:Value} {F:Fk E.κ} (hn:npF F=true) (hb: ∀b t,b<w.heap.size→cx.ban b t=false→cx'.ban b t=false) (ho:cx'.own=cx.own) (h:(dF (E.dk cx) kf lv F).p w v):(dF (E.dk cx') kf' lv' F).p w v:=by
 cases F with
 |s k=>exact npK_go hn hb ho h
 |t ks=>
  obtain ⟨vs,e,h⟩:=h
  exact ⟨vs,e,npL_go hb ho hn h⟩
 |_=>cases hn
def entB (P:Program) (E:Env P) (fn:Func) (na:Nat) (D0:DL E.κ):Bool:=match fn.body with
 |some (.seq (.region _ ops false) _)=>match acsOf P D0 ops.toList with
  |some l=>acB P fn.ntmps ops l 0 [] (dD (E.dk cx0) (fun _=>0) (fun _=>undef) D0)&&decide (na≤fn.ntmps)&&D0.all fun x=>npA x.2&&(decide (x.1<na)||decide (fn.ntmps≤x.1))
  |none=>false
 |_=>false
def ent {κ:Type} (P:Program) (fn:Func) (D0:DL κ):Sx κ:=acS ((acsOf P D0 (ops0 fn).toList).getD []) ⟨D0,[]⟩
def dsc (E:Env P) (n:Nat):List Nat→List (Nat→Hint E.κ)→Code→List (Sx E.κ→Prop)→(Sx E.κ→Prop)→(Sx E.κ→Prop)→(Nat→Sx E.κ→Prop)→Sx E.κ→Prop
 | [],h::_,c,_,N,R,X,S=>vc E n c h S N R X
 |0::p,h::H, .seq a b,J,N,R,X,S=>dsc E n p (h::H) a J (fun S'=>vc E n b h S' N R X) R X S
 |1::p,H, .seq _ b,J,N,R,X,S=>dsc E n p H b J N R X S
 |0::p,H, .cond _ a _,J,N,R,X,S=>dsc E n p H a J N R X S
 |1::p,H, .cond _ _ b,J,N,R,X,S=>dsc E n p H b J N R X S
 |0::p,H, .block i c,J,N,R,X,S=>dsc E n p H c J N R (fun j S'=>cond (Nat.beq j i) (N S') (X j S')) S
 |2::p,_::H, .loop c,j::J,_,R,X,S=>dsc E n p H c J j R X S
 |_,_,_,_,_,_,_,_=>False
def dscL (E:Env P) (n:Nat):List Nat→List (Nat→Hint E.κ)→Code→List (Sx E.κ→Prop)→(Sx E.κ→Prop)→(Sx E.κ→Prop)→(Nat→Sx E.κ→Prop)→Sx E.κ→Hint E.κ→Prop
 | [],_, .region _ ops _,_,N,_,_,S,h'=>lateR E n ops h' S N
 |0::p,h::H, .seq a b,J,N,R,X,S,h'=>dscL E n p (h::H) a J (fun S'=>vc E n b h S' N R X) R X S h'
 |1::p,H, .seq _ b,J,N,R,X,S,h'=>dscL E n p H b J N R X S h'
 |0::p,H, .cond _ a _,J,N,R,X,S,h'=>dscL E n p H a J N R X S h'
 |1::p,H, .cond _ _ b,J,N,R,X,S,h'=>dscL E n p H b J N R X S h'
 |0::p,H, .block i c,J,N,R,X,S,h'=>dscL E n p H c J N R (fun j S'=>cond (Nat.beq j i) (N S') (X j S')) S h'
 |2::p,_::H, .loop c,j::J,_,R,X,S,h'=>dscL E n p H c J j R X S h'
 |_,_,_,_,_,_,_,_,_=>False
theorem ltR {V:Prop} {κ:Type} (B:Hint κ→Prop) (h:Hint κ) (p:Prop) (hp:p) (e1:V= ∃h,B h:=by kernel_rfl) (e2:B h=p:=by kernel_rfl):V:=e1.mpr ⟨h,e2.mpr hp⟩
theorem lpI {V:Prop} {κ:Type} (B:(Nat→Hint κ)→Sx κ→(Sx κ→Prop)→Prop) {γ:Type} (C:γ→Prop) (μ:γ→Nat) (I:γ→Sx κ) (g0:γ) (S:Sx κ) (h0:C g0) (hb: ∀g,C g→ ∀J:Sx κ→Prop,(∀g' S',C g'→μ g'<μ g→Sb S' (I g')→J S')→ ∃h,B h (I g) J)
  (hs1:proj S (I g0)=I g0:=by kernel_rfl) (hs2:presB S (I g0)=true:=by kernel_rfl)
  (e:V=(∃(γ:Type) (C:γ→Prop) (μ:γ→Nat) (I:γ→Sx κ) (g:γ),C g∧Sb S (I g)∧ ∀g,C g→ ∃hs,B hs (I g) (JL C μ I g)):=by kernel_rfl):V:=
 e.mpr ⟨γ,C,μ,I,g0,h0,⟨hs1,hs2⟩,fun g hC=>hb g hC _ fun g' _ h1 h2 h3=>⟨g',h1,h2,h3⟩⟩
theorem vcP {V:Prop} (p:Prop) (h:p) (e:V=p:=by kernel_rfl):V:=e.mpr h
def rs (E:Env P) (fn:Func) (hs:Nat→Hint E.κ) (r:Nat) (S:Sx E.κ):Sx E.κ:=match runR E fn.ntmps (Go.Proofs.YthebilnlljkfeaaGreatDoor.Rg.regionOps fn r) (hs r) S with
 |some (S',_)=>S'
 |none=>S
theorem cnd_t {c:Bool} {p q:Prop} (h:c=true) (hp:p):cnd c p q:=by subst h;exact hp
theorem cnd_f {c:Bool} {p q:Prop} (h:c=false) (hq:q):cnd c p q:=by subst h;exact hq
theorem lk_ty {cx cx':Cx} {kf kf':Nat→Nat} {lv lv':Nat→Value} {D:DL E.κ} {y:Nat}:(lk (dD (E.dk cx) kf lv D) y).ty=(lk (dD (E.dk cx') kf' lv' D) y).ty:=by
 rw [lk_dD,lk_dD]
 exact dF_ty (.s (lS D y))
theorem acB_cx {n:Nat} {ops:Array Oper} {cx cx':Cx} {kf kf':Nat→Nat} {lv lv':Nat→Value}: ∀(l:List Ac) (m:Nat) (S:Sx E.κ),acB P n ops l m (dG (E.dk cx) kf lv S.G) (dD (E.dk cx) kf lv S.D)=acB P n ops l m (dG (E.dk cx') kf' lv' S.G) (dD (E.dk cx') kf' lv' S.D):=by
 intro l
 induction l with
 |nil=>intro m S;rfl
 |cons x r ih=>
  intro m S
  have e1: ∀p:Nat→Bool,(dG (E.dk cx) kf lv S.G).all (fun y=>p y.slot)=(dG (E.dk cx') kf' lv' S.G).all (fun y=>p y.slot):=fun p=>by
   unfold dG
   rw [List.all_map,List.all_map]
   rfl
  have e2: ∀p:Nat→Bool,(dD (E.dk cx) kf lv S.D).all (fun y=>p y.1)=(dD (E.dk cx') kf' lv' S.D).all (fun y=>p y.1):=fun p=>by
   unfold dD
   rw [List.all_map,List.all_map]
   rfl
  have e3: ∀p:Nat→Bool,(dD (E.dk cx) kf lv S.D).any (fun y=>p y.1)=(dD (E.dk cx') kf' lv' S.D).any (fun y=>p y.1):=fun p=>by
   unfold dD
   rw [List.any_map,List.any_map]
   rfl
  unfold acB
  rw [e1 (fun y=> !Nat.beq y x.dst),e2 (fun y=> !Nat.beq y x.dst)]
  congr 1
  cases x with
  |box p t y=>
   simp only
   rw [e3 (fun z=>Nat.beq z y),lk_ty (cx':=cx') (kf':=kf') (lv':=lv')]
   congr 1
   have:=ih (m+1) ⟨S.D,⟨p,t,lS S.D y⟩::S.G⟩
   rw [lk_dD,lk_dD]
   exact this
  |al p t=>
   simp only
   congr 1
   exact ih (m+1) ⟨S.D,⟨p,t, .X⟩::S.G⟩
  |cn p v=>exact ih (m+1) ⟨(p, .E v)::S.D,S.G⟩
  |bx p t y v=>
   simp only
   rw [e3 (fun z=>Nat.beq z y)]
   congr 1
   exact ih (m+1) ⟨(p, .A [v])::S.D,S.G⟩
theorem acS_np: ∀(l:List Ac) (S:Sx E.κ),S.D.all (fun x=>npA x.2)=true→S.G.all (fun x=>npA x.k)=true→(acS l S).D.all (fun x=>npA x.2)=true∧(acS l S).G.all (fun x=>npA x.k)=true:=by
 intro l
 induction l with
 |nil=>intro S h1 h2;exact ⟨h1,h2⟩
 |cons x r ih=>
  intro S h1 h2
  cases x with
  |box p t y=>
   refine ih _ h1 ?_
   simp only [List.all_cons,h2,Bool.and_true]
   have: ∀D:DL E.κ,D.all (fun x=>npA x.2)=true→npA (lS D y)=true:=fun D=>by
    induction D with
    |nil=>intro _;rfl
    |cons z r ih=>
     intro h
     simp only [List.all_cons,Bool.and_eq_true] at h
     show npA (cond (Nat.beq z.1 y) z.2 (lS r y))=true
     cases Nat.beq z.1 y with
     |true=>exact h.1
     |false=>exact ih h.2
   exact this _ h1
  |al p t=>exact ih _ h1 (by simp only [List.all_cons,h2,Bool.and_true];rfl)
  |cn p v=>exact ih _ (by simp only [List.all_cons,h1,Bool.and_true];rfl) h2
  |bx p t y v=>exact ih _ (by simp only [List.all_cons,h1,Bool.and_true];rfl) h2
theorem fnW {fn:Func} {args:Array Value} {w:World} {Q:Exit→Act→World→Prop} (D0:DL E.κ) (hD:AllL (fun x:Nat×Ks E.κ=>(dS (E.dk (cxA w)) (fun _=>0) (fun _=>undef) x.2).p w (args.getD x.1 undef)) D0) (hB:entB P E fn args.size D0=true)
  (hc: ∀kf a w',SX fn.ntmps (ent P fn D0) w kf a w'→(rest fn).wp P Q a w'): ∃c,fn.body=some c∧c.wp P Q {tmps:=args++Array.replicate (fn.ntmps-args.size) undef,defers:= []} w:=by
 unfold entB at hB
 split at hB
 ·next id ops c hb=>
  split at hB
  ·next l hl=>
   simp only [Bool.and_eq_true,decide_eq_true_eq] at hB
   obtain ⟨⟨h1,h2⟩,h3⟩:=hB
   let N:Cx:=⟨fun b t=>decide (w.heap.size≤b)&&aggB P t,w.heap.size,0⟩
   obtain ⟨k1,k2,k3⟩:=acsOf_ok (E:=E) (cx:=N) (kf:=fun _=>0) (lv:=fun _=>undef) ops.toList D0 l 0 hl rfl
   have e0:ops0 fn=ops:=by unfold ops0;rw [hb]
   have e1:rest fn=c:=by unfold rest;rw [hb]
   have e2:ent P fn D0=acS l ⟨D0,[]⟩:=by unfold ent;rw [e0,hl];rfl
   rw [e1,e2] at hc
   refine ⟨_,hb, ?_⟩
   obtain ⟨kf,a,ha,hS⟩: ∃kf a,a=({tmps:=args++Array.replicate (fn.ntmps-args.size) undef,defers:= []}:Act)∧St soft P fn.ntmps [] (dv (dD (E.dk N) (fun _=>0) (fun _=>undef) D0)) w kf a w:=by
    refine ⟨fun _=>0,_,rfl,entSt rfl h2 _ (all_of fun x hx=> ?_)⟩
    obtain ⟨y,hy,rfl⟩:=List.mem_map.1 hx
    obtain ⟨z,hz,rfl⟩:=List.mem_map.1 hy
    have:=List.all_eq_true.1 h3 z hz
    simp only [Bool.and_eq_true,Bool.or_eq_true,decide_eq_true_eq] at this
    exact ⟨this.2,dS_cx (cx:=cxA w) (cx':=N) (fun b t hb _=>by show (decide (w.heap.size≤b)&&aggB P t)=false;rw [decide_eq_false (by omega)];rfl) rfl (.inl (Nat.le_refl _)) (hD.mem z hz)⟩
   rw [←ha]
   ·have hsz:ops.size=l.length:=by rw [k1];simp
    refine plain_seq hsz (acs (fun t ht b=>by show (decide (w.heap.size≤b)&&aggB P t)=false;rw [ht,Bool.and_false]) l 0 [] (dD (E.dk N) (fun _=>0) (fun _=>undef) D0) kf a w hS (by
     have:=acB_cx (P:=P) (E:=E) (n:=fn.ntmps) (ops:=ops) (cx:=cx0) (cx':=N) (kf:=fun _=>0) (kf':=fun _=>0) (lv:=fun _=>undef) (lv':=fun _=>undef) l 0 ⟨D0,[]⟩
     exact this▸h1) k3 k2 fun kf' a' w' hS'=> ?_)
    obtain ⟨g1,g2⟩:=acS_ok (E:=E) (cx:=N) (kf:=fun _=>0) (lv:=fun _=>undef) l ⟨D0,[]⟩
    have hS1:S2 P fn.ntmps (dG (E.dk N) (fun _=>0) (fun _=>undef) (acS l ⟨D0,[]⟩).G) (dD (E.dk N) (fun _=>0) (fun _=>undef) (acS l ⟨D0,[]⟩).D) w kf' a' w':=by
     rw [←g1,←g2]
     exact hS'
    obtain ⟨np1,np2⟩:=acS_np (E:=E) l ⟨D0,[]⟩ (List.all_eq_true.2 fun x hx=>by
     have:=List.all_eq_true.1 h3 x hx
     simp only [Bool.and_eq_true] at this
     exact this.1) rfl
    have hcx: ∀b t,b<w'.heap.size→N.ban b t=false→(cxOf (gTy (acS l ⟨D0,[]⟩).G) kf' w.heap.size).ban b t=false:=fun b t _ hN=>by
     cases hb:(cxOf (gTy (acS l ⟨D0,[]⟩).G) kf' w.heap.size).ban b t with
     |false=>rfl
     |true=>
      obtain ⟨x,hx,e,e'⟩:=ban_var hb
      obtain ⟨_,q,_,_,hfit,_⟩:=hS1.vars _ (List.mem_map.2 ⟨_,List.mem_map.2 ⟨x,hx,rfl⟩,rfl⟩)
      have q':w.heap.size≤kf' x.slot:=q
      have hN':(decide (w.heap.size≤b)&&aggB P t)=false:=hN
      have hag:aggB P t=true:=by rw [←e'];exact hfit.agg
      rw [hag,Bool.and_true] at hN'
      have:=of_decide_eq_false hN'
      omega
    have hS2:SX fn.ntmps (acS l ⟨D0,[]⟩) w kf' a' w':=by
     refine ⟨hS1.size,hS1.defers,hS1.grow, ?_, ?_, ?_⟩
     ·refine vars_cx fun x hx=> ?_
      obtain ⟨q1,q2,cs,q3,q4,q5⟩:=hS1.vars _ (List.mem_map.2 ⟨_,List.mem_map.2 ⟨x,hx,rfl⟩,rfl⟩)
      refine ⟨q1,q2,cs,q3,q4, ?_⟩
      have q5':(dS (E.dk N) (fun _=>0) (fun _=>undef) x.k).p w' (.agg cs):=q5
      rw [npA_eq (List.all_eq_true.1 np2 x hx) (kf':=kf') (lv':=lvOf a')] at q5'
      exact dS_cx hcx rfl (.inl (Nat.le_refl _)) q5'
     ·intro x hx y hy
      obtain ⟨x',hx',rfl⟩:=List.mem_map.1 hx
      obtain ⟨y',hy',rfl⟩:=List.mem_map.1 hy
      obtain ⟨x2,hx2,rfl⟩:=List.mem_map.1 hx'
      obtain ⟨y2,hy2,rfl⟩:=List.mem_map.1 hy'
      exact fun hne=>ap_of hS1 hx2 hy2 hne
     ·intro x hx
      obtain ⟨y,hy,rfl⟩:=List.mem_map.1 hx
      obtain ⟨z,hz,rfl⟩:=List.mem_map.1 hy
      have q:=hS1.facts _ (List.mem_map.2 ⟨_,List.mem_map.2 ⟨z,hz,rfl⟩,rfl⟩)
      have q':(dS (E.dk N) (fun _=>0) (fun _=>undef) z.2).p w' (a'.tmps.getD z.1 undef):=q
      rw [npA_eq (List.all_eq_true.1 np1 z hz) (kf':=kf') (lv':=lvOf a')] at q'
      exact dS_cx hcx rfl (.inl (Nat.le_refl _)) q'
    exact hc kf' a' w' hS2
  ·cases hB
 ·cases hB
theorem fnX {f:FuncId} {fn:Func} {args:Array Value} {w:World} (hf:P.funcs[f]? =some fn) (hm:P.follows .mixedOrders=true) (hs:Nat→Hint E.κ) (D0:DL E.κ) (Res:Fk E.κ) (hn:npF Res=true) (hD:AllL (fun x:Nat×Ks E.κ=>(dS (E.dk (cxA w)) (fun _=>0) (fun _=>undef) x.2).p w (args.getD x.1 undef)) D0)
  (hv:vc E fn.ntmps (rest fn) hs (ent P fn D0) (fun _=>False) (rets E fn Res) (fun _ _=>False)) (hB:entB P E fn args.size D0=true):Calls P f args w (Ret w fun v w'=>(dF (E.dk (cxA w)) (fun _=>0) (fun _=>undef) Res).p w' v):=by
 obtain ⟨c,hb,hw⟩:=fnW (Q:=bodyPost P fn (Ret w fun v w'=>(dF (E.dk (cxA w)) (fun _=>0) (fun _=>undef) Res).p w' v)) D0 hD hB fun kf' a' w' hS2=>by
  refine vc_ok hm _ hs _ _ _ _ _ kf' a' w' hv (fun _ _ _ _ h _=>by cases h) (fun S kf2 a2 w2 hR hS3=> ?_) (fun _ _ _ _ _ h _=>by cases h) hS2
  unfold rets at hR
  split at hR
  ·next F hF=>
   obtain ⟨v,r1,r2⟩:=resF_ok hS3 hF
   exact ⟨hS3.defers,v,r1,v,rfl,npF_go (cx:=cxOf (gTy S.G) kf2 w.heap.size) (kf:=kf2) (lv:=lvOf a2) hn (fun _ _ _ _=>rfl) rfl (te_im E hR _ _ _ w2 v r2),hS3.grow⟩
  ·cases hR
 exact calls_of_wp hf hb hw
end
end Go.Proofs.YthebilnlljkfeaaGreatDoor.X
