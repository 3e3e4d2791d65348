/- One text out of: Xa. -/
import Derived.Test.YthebilnlljkfeaaGreatDoorBK
import Derived.Test.YthebilnlljkfeaaGreatDoorBZq
namespace Go.Proofs.YthebilnlljkfeaaGreatDoor.X
open Go.RowKit Go.Proofs.YthebilnlljkfeaaGreatDoor.Z
open Go.Proofs.YthebilnlljkfeaaGreatDoor.Rg (depI Facts)
inductive Fd (κ:Type)
 |v (x:Value)
 |l (T sz:Nat) (rows:List (List Value))
 |o (k:κ) (t n:Nat)
inductive Ks (κ:Type)
 |X
 |E (v:Value)
 |O (o:κ)
 |P (q off:Nat)
 |V (d:Nat)
 |Q (d k sz:Nat)
 |L (T sz:Nat) (l:List (List Value)) (o:Bool)
 |A (row:List Value)
 |I (s:List UInt8) (pos:Nat)
 |C (f:Nat) (rows:List (List Value))
 |F (T sz:Nat) (l:List (List Value))
 |M (T sz:Nat) (os:List κ) (o:Nat)
 |B (sz:Nat) (o:κ)
 |S (fs:List (Fd κ))
 |N (ds:List (Nat×Nat))
inductive Fk (κ:Type)
 |s (k:Ks κ)
 |t (ks:List (Ks κ))
 |u
 |m (c:Bool) (F:Fk κ)
def eaddr:Value→Nat→Value
 | .slice (some a) _ _,k=> .pointer (some ⟨a.block,a.off+k,a.spot⟩)
 |_,_=>undef
def AL:List Prop→Prop
 | []=>True
 |p::r=>p∧AL r
theorem AL_app: ∀{a b:List Prop},AL (a++b)→AL a∧AL b:=by
 intro a
 induction a with
 |nil=>intro b h;exact ⟨trivial,h⟩
 |cons p r ih=>intro b h;exact ⟨⟨h.1,(ih h.2).1⟩,(ih h.2).2⟩
abbrev DL (κ:Type):=List (Nat×Ks κ)
abbrev FX (κ:Type):=List (Nat×Fk κ)
structure Vx (κ:Type) where
 slot:Nat
 ty:TypeId
 k:Ks κ
def lS {κ:Type}:DL κ→Nat→Ks κ
 | [],_=> .X
 |x::r,d=>cond (Nat.beq x.1 d) x.2 (lS r d)
def lF {κ:Type}:FX κ→Nat→Fk κ
 | [],_=> .s .X
 |x::r,d=>cond (Nat.beq x.1 d) x.2 (lF r d)
def lG {κ:Type}:List (Vx κ)→Nat→Vx κ
 | [],_=>⟨0,0, .X⟩
 |x::r,d=>cond (Nat.beq x.slot d) x (lG r d)
def hasX {κ:Type} (G:List (Vx κ)) (p:Nat):Bool:=G.any fun x=>Nat.beq x.slot p
def keyF {κ:Type} (fs:FX κ) (d:Nat):Bool:=fs.any fun x=>Nat.beq x.1 d
abbrev cxN (cx:Cx):Cx:=⟨cx.ban,max cx.own cx.reg,cx.reg⟩
theorem ow_n {cx:Cx} {T sz:Nat} {l:List (List Value)} {w:World} {v:Value} (h:isOw (cxN cx) T sz l w v):isOw cx T sz l w v:=isOw.mono (cx:=cxN cx) (fun _ _ _ h=>h) (Nat.le_max_left _ _) h
section
variable {P:Program} {κ:Type} {cx:Cx} (dk:κ→Kd P cx)
def flds (w:World):List (Fd κ)→List Value→Prop
 | [],vs=>vs= []
 | .v x::r,vs=> ∃us,vs=x::us∧flds w r us
 | .l _ sz rows::r,vs=> ∃u us,vs=u::us∧isRd cx true sz rows w u∧flds w r us
 | .o k _ n::r,vs=> ∃us us',vs=us++us'∧us.length=n∧(dk k).p w (.agg us.toArray)∧flds w r us'
def isSf (fs:List (Fd κ)):Pr:=fun w v=> ∃vs:List Value,v= .agg vs.toArray∧flds dk w fs vs
def fdB:List (Fd κ)→Option Nat
 | []=>some 0
 | .v x::r=>cond (pv x) ((fdB r).map (· +1)) none
 | .l _ _ _::r=>(fdB r).map (· +1)
 | .o k t n::r=>cond ((dk k).ty t&&((P.info? t).map (·.size)).any (fun m=>Nat.beq m n)) ((fdB r).map (n+ ·)) none
def stB (t:TypeId) (fs:List (Fd κ)):Bool:=aggB P t&&(match fdB dk fs with
 |some n=>((P.info? t).map (·.size)).any (fun m=>Nat.beq m n)&& !(decide (2≤n)&&natTy t)&& !intTy t
 |none=>false)
variable {dk}
theorem stb_fl {w w':World} (g:EvoE (eC soft cx) w w'): ∀{fs:List (Fd κ)} {vs:List Value},flds dk w fs vs→flds dk w' fs vs:=by
 intro fs
 induction fs with
 |nil=>intro vs h;exact h
 |cons f r ih=>
  intro vs h
  cases f with
  |v x=>obtain ⟨us,e,h⟩:=h;exact ⟨us,e,ih h⟩
  |l T sz rows=>obtain ⟨u,us,e,h1,h⟩:=h;exact ⟨u,us,e,stb_Rd _ _ _ h1 g,ih h⟩
  |o k t n=>obtain ⟨us,us',e,h0,h1,h⟩:=h;exact ⟨us,us',e,h0,(dk k).st _ _ _ h1 g,ih h⟩
theorem stb_St {fs:List (Fd κ)}:StbE (eC soft cx) (isSf dk fs):=fun _ _ _ ⟨vs,e,h⟩ g=>⟨vs,e,stb_fl g h⟩
theorem fd_ok {w:World}: ∀{fs:List (Fd κ)} {vs:List Value} {n:Nat},fdB dk fs=some n→flds dk w fs vs→vs.length=n∧ ∀x∈vs,pv x=true:=by
 intro fs
 induction fs with
 |nil=>
  intro vs n h h2
  have h2':vs= []:=h2
  subst h2'
  injection h with h
  exact ⟨h,fun x hx=>by cases hx⟩
 |cons f r ih=>
  intro vs n h h2
  cases f with
  |v x=>
   obtain ⟨us,rfl,h2⟩:=h2
   unfold fdB at h
   cases hp:pv x with
   |false=>rw [hp] at h;cases h
   |true=>
    rw [hp] at h
    obtain ⟨m,e,h⟩:=Option.map_eq_some_iff.1 h
    obtain ⟨i1,i2⟩:=ih e h2
    refine ⟨by rw [List.length_cons,i1,h],fun y hy=> ?_⟩
    rcases List.mem_cons.1 hy with rfl|hy
    ·exact hp
    ·exact i2 y hy
  |l T sz rows=>
   obtain ⟨u,us,rfl,⟨_,A,cap,eu,_⟩,h2⟩:=h2
   obtain ⟨m,e,h⟩:=Option.map_eq_some_iff.1 h
   obtain ⟨i1,i2⟩:=ih e h2
   refine ⟨by rw [List.length_cons,i1,h],fun y hy=> ?_⟩
   rcases List.mem_cons.1 hy with rfl|hy
   ·rw [eu];rfl
   ·exact i2 y hy
  |o k t m=>
   obtain ⟨us,us',rfl,hl,hk,h2⟩:=h2
   unfold fdB at h
   cases hp:((dk k).ty t&&((P.info? t).map (·.size)).any (fun x=>Nat.beq x m)) with
   |false=>rw [hp] at h;cases h
   |true=>
    rw [hp] at h
    obtain ⟨m',e,h⟩:=Option.map_eq_some_iff.1 h
    obtain ⟨i1,i2⟩:=ih e h2
    simp only [Bool.and_eq_true] at hp
    obtain ⟨cs,ec,hf⟩:=(dk k).fit t hp.1 w _ hk
    injection ec with ec
    subst ec
    refine ⟨by rw [List.length_append,hl,i1,h],fun y hy=> ?_⟩
    rcases List.mem_append.1 hy with hy|hy
    ·have a1:=Array.all_eq_true_iff_forall_mem.1 hf.one y (by simpa using hy)
     have a2:=Array.all_eq_true_iff_forall_mem.1 (soft_all hf.soft) y (by simpa using hy)
     unfold pv
     rw [a1,a2]
     rfl
    ·exact i2 y hy
theorem fit_St {fs:List (Fd κ)} {t:TypeId} (h:stB dk t fs=true) {w:World} {v:Value} (hv:isSf dk fs w v): ∃cs,v= .agg cs∧Fits soft P t cs:=by
 obtain ⟨vs,e,hv⟩:=hv
 unfold stB at h
 simp only [Bool.and_eq_true] at h
 obtain ⟨h1,h2⟩:=h
 split at h2
 ·next n en=>
  simp only [Bool.and_eq_true,Bool.not_eq_true'] at h2
  obtain ⟨⟨h3,h4⟩,h5⟩:=h2
  obtain ⟨i1,i2⟩:=fd_ok en hv
  have hz:(P.info? t).map (·.size)=some vs.length:=by
   cases hi:(P.info? t).map (·.size) with
   |none=>rw [hi] at h3;cases h3
   |some m=>rw [hi] at h3;rw [i1,Nat.eq_of_beq_eq_true h3]
  have hone:vs.toArray.all (·.oneCell')=true:=by
   rw [Array.all_eq_true_iff_forall_mem]
   intro x hx
   have:=i2 x (by simpa using hx)
   unfold pv at this
   simp only [Bool.and_eq_true] at this
   exact this.2
  have hsv:vs.toArray.all softV=true:=by
   rw [Array.all_eq_true_iff_forall_mem]
   intro x hx
   have:=i2 x (by simpa using hx)
   unfold pv at this
   simp only [Bool.and_eq_true] at this
   exact this.1
  refine ⟨vs.toArray,e,h1,by rw [hz];rfl,hone, ?_⟩
  unfold soft
  rw [hsv,h5,List.size_toArray,i1,h4]
  rfl
 ·cases h2
variable (dk) (kf:Nat→Nat) (lv:Nat→Value)
def dS:Ks κ→Kd P cx
 | .X=> .X
 | .E v=> .E v
 | .O o=>dk o
 | .P q off=> .of (fun _ v=>v= .pointer (some ⟨kf q,off,none⟩)) (stb_eq _)
 | .V d=> .of (fun _ v=>v=lv d) (stb_eq _)
 | .Q d k sz=> .of (fun _ v=>v=eaddr (lv d) (k*sz)) (stb_eq _)
 | .L T sz l o=> .ofE (isLs cx T sz l o) stb_Ls
 | .A row=> .ofE (isAd cx row) stb_Ad
 | .I s pos=> .ofE (isIt cx s pos) stb_It
 | .C f rows=> .ofE (isCl cx f rows) stb_Cl
 | .F T sz l=> .ofE (isOw (cxN cx) T sz l) (stb_Ow (cx:=cxN cx))
 | .M T sz os 0=> .ofE (isLo cx T sz (os.map fun o=>(dk o).p) false) (stb_Lo fun p hp=>by obtain ⟨o,_,rfl⟩:=List.mem_map.1 hp;exact (dk o).st)
 | .M T sz os 1=> .ofE (isLo cx T sz (os.map fun o=>(dk o).p) true) (stb_Lo fun p hp=>by obtain ⟨o,_,rfl⟩:=List.mem_map.1 hp;exact (dk o).st)
 | .M T sz os (_+2)=> .ofE (isLo (cxN cx) T sz (os.map fun o=>(dk o).p) true) (stb_Lo (cx:=cxN cx) fun p hp=>by obtain ⟨o,_,rfl⟩:=List.mem_map.1 hp;exact (dk o).st)
 | .B sz o=> .ofE (isAo cx sz (dk o).p) (stb_Ao (dk o).st)
 | .S fs=>⟨isSf dk fs,stb_St,fun t=>stB dk t fs,fun _ h _ _ hv=>fit_St h hv⟩
 | .N ds=> .of (fun _ _=> ∀x∈ds,apV (lv x.1) (lv x.2)) (stb_prop _)
def dF:Fk κ→Kd P cx
 | .s k=>dS dk kf lv k
 | .t ks=> .T (ks.map (dS dk kf lv))
 | .u=> .E undef
 | .m c F=>cond c (dF F) (.E undef)
def dD (D:DL κ):FL P cx:=D.map fun x=>(x.1,dS dk kf lv x.2)
def dG (G:List (Vx κ)):List (Vk P cx):=G.map fun x=>⟨x.slot,x.ty,dS dk kf lv x.k⟩
def dFs (fs:FX κ):FL P cx:=fs.map fun x=>(x.1,dF dk kf lv x.2)
variable {dk} {kf} {lv}
theorem lk_dD: ∀{D:DL κ} {d:Nat},lk (dD dk kf lv D) d=dS dk kf lv (lS D d):=by
 intro D d
 induction D with
 |nil=>rfl
 |cons x r ih=>
  show cond (Nat.beq x.1 d) (dS dk kf lv x.2) (lk (dD dk kf lv r) d)=dS dk kf lv (cond (Nat.beq x.1 d) x.2 (lS r d))
  cases Nat.beq x.1 d with
  |true=>rfl
  |false=>exact ih
theorem lk_dFs: ∀{fs:FX κ} {d:Nat},lk (dFs dk kf lv fs) d=dF dk kf lv (lF fs d):=by
 intro fs d
 induction fs with
 |nil=>rfl
 |cons x r ih=>
  show cond (Nat.beq x.1 d) (dF dk kf lv x.2) (lk (dFs dk kf lv r) d)=dF dk kf lv (cond (Nat.beq x.1 d) x.2 (lF r d))
  cases Nat.beq x.1 d with
  |true=>rfl
  |false=>exact ih
theorem lkG_dG: ∀{G:List (Vx κ)} {d:Nat},lkG (dG dk kf lv G) d=⟨(lG G d).slot,(lG G d).ty,dS dk kf lv (lG G d).k⟩:=by
 intro G d
 induction G with
 |nil=>rfl
 |cons x r ih=>
  show cond (Nat.beq x.slot d) (⟨x.slot,x.ty,dS dk kf lv x.k⟩:Vk P cx) (lkG (dG dk kf lv r) d)=_
  cases hb:Nat.beq x.slot d with
  |true=>simp only [lG,hb,_root_.cond_true]
  |false=>simp only [lG,hb,_root_.cond_false];exact ih
theorem has_dD {D:DL κ} {d:Nat} (h:D.any (fun y=>Nat.beq y.1 d)=true):(dD dk kf lv D).any (fun y=>Nat.beq y.1 d)=true:=by
 unfold dD
 rw [List.any_map]
 exact h
theorem has_dG {G:List (Vx κ)} {p:Nat} (h:hasX G p=true):hasG (dG dk kf lv G) p=true:=by
 unfold dG hasG
 rw [List.any_map]
 exact h
theorem mem_dG {G:List (Vx κ)} {p:Nat} (h:hasX G p=true):(⟨p,(lG G p).ty,(dS dk kf lv (lG G p).k).p⟩:Vr)∈gv (dG dk kf lv G):=by
 have:=hasG_mem (has_dG (dk:=dk) (kf:=kf) (lv:=lv) h)
 rwa [lkG_dG] at this
def Ext (acc fin:FX κ):Prop:= ∀d,keyF acc d=true→lF fin d=lF acc d
variable (dk) (kf) (lv) in
def ExtS (acc fin:FX κ):Prop:= ∀d,keyF acc d=true→ ∀w v,(dF dk kf lv (lF fin d)).p w v→(dF dk kf lv (lF acc d)).p w v
theorem Ext.sem {acc fin:FX κ} (he:Ext acc fin):ExtS dk kf lv acc fin:=fun d hd w v h=>by rw [←he d hd];exact h
theorem lF_none: ∀{acc:FX κ} {d:Nat},keyF acc d=false→lF acc d= .s .X:=by
 intro acc
 induction acc with
 |nil=>intro d _;rfl
 |cons x r ih=>
  intro d h
  unfold keyF at h
  simp only [List.any_cons,Bool.or_eq_false_iff] at h
  unfold lF
  rw [h.1]
  exact ih h.2
def hasD (D:DL κ) (x:Nat):Bool:=D.any fun y=>Nat.beq y.1 x
def opF (ops:Array Oper) (i:Nat) (acc:FX κ) (D:DL κ):Operand→Option (Fk κ)
 | .tmp x=>cond (depI ops i x) (some (lF acc x)) (cond (hasD D x&&readS ops i x) (some (.s (lS D x))) none)
 | .const v=>some (.s (.E v))
 | .func f=>some (.s (.E (.func (.func f) #[] #[])))
 |_=>none
def rsv (ops:Array Oper) (i:Nat) (D:DL κ):Fk κ→Fk κ
 | .s (.V d)=>cond (hasD D d&&readS ops i d) (.s (lS D d)) (.s (.V d))
 | .s (.F T sz l)=> .s (.L T sz l true)
 | .s (.M T sz os (_+2))=> .s (.M T sz os 1)
 |F=>F
def opR (ops:Array Oper) (i:Nat) (acc:FX κ) (D:DL κ) (x:Operand):Option (Fk κ):=(opF ops i acc D x).map (rsv ops i D)
def szSlot:Nat:=2000000
def D2 (lv:Nat→Value) (fr:World→Prop) (D:DL κ):List (Nat×Pr):=(szSlot,fun w _=>fr w)::D.map fun x=>(x.1,fun _ v=>v=lv x.1)
theorem hasD_mem {D:DL κ} {d:Nat} (h:hasD D d=true): ∃k,(d,k)∈D:=by
 obtain ⟨x,hx,e⟩:=List.any_eq_true.1 h
 have:=Nat.eq_of_beq_eq_true e
 exact ⟨x.2,by rw [←this];exact hx⟩
section
variable {ops:Array Oper} {Q:Exit→Act→World→Prop} {acc fin:FX κ} {G:List Vr} {D:DL κ} {V:VS} {i:Nat} {fr:World→Prop}
theorem opF_ok (he:ExtS dk kf lv acc fin) {x:Operand} {F:Fk κ} (h:opF ops i acc D x=some F):Arg soft P ops (fv (dFs dk kf lv fin)) G (dv (dD dk kf lv D)++D2 lv fr D) V kf i x (dF dk kf lv F).p:=by
 cases x with
 |tmp x=>
  simp only [opF] at h
  cases hd:depI ops i x with
  |true=>
   rw [hd] at h
   injection h with h
   subst h
   intro a w c
   cases hk:keyF acc x with
   |true=>
    have:(lk (dFs dk kf lv fin) x).p w _:=c.dep x hd
    rw [lk_dFs] at this
    exact he x hk w _ this
   |false=>
    rw [lF_none hk]
    trivial
  |false=>
   rw [hd] at h
   simp only [_root_.cond_false] at h
   cases hr:(hasD D x&&readS ops i x) with
   |false=>rw [hr] at h;cases h
   |true=>
    rw [hr] at h
    injection h with h
    subst h
    simp only [Bool.and_eq_true] at hr
    intro a w c
    show (dS dk kf lv (lS D x)).p w _
    rw [←lk_dD]
    exact c.old (x,(lk (dD dk kf lv D) x).p) (List.mem_append.2 (.inl (List.mem_map.2 ⟨_,lkD_mem (has_dD hr.1),rfl⟩))) hr.2
 |const v=>
  injection h with h
  subst h
  exact fun _ _ _=>rfl
 |func f=>
  injection h with h
  subst h
  exact fun _ _ _=>rfl
 |_=>cases h
theorem rsv_ok {x:Operand} {F:Fk κ} (h:Arg soft P ops (fv (dFs dk kf lv fin)) G (dv (dD dk kf lv D)++D2 lv fr D) V kf i x (dF dk kf lv F).p):Arg soft P ops (fv (dFs dk kf lv fin)) G (dv (dD dk kf lv D)++D2 lv fr D) V kf i x (dF dk kf lv (rsv ops i D F)).p:=by
 unfold rsv
 split
 ·next d=>
  cases hr:(hasD D d&&readS ops i d) with
  |false=>exact h
  |true=>
   simp only [Bool.and_eq_true] at hr
   intro a w c
   have e1:a.eval x=lv d:=h a w c
   obtain ⟨k,hk⟩:=hasD_mem hr.1
   have e2:a.tmps.getD d undef=lv d:=c.old (d,fun _ v=>v=lv d) (List.mem_append.2 (.inr (.tail _ (List.mem_map.2 ⟨_,hk,rfl⟩)))) hr.2
   show (dS dk kf lv (lS D d)).p w (a.eval x)
   rw [e1,←e2,←lk_dD]
   exact c.old (d,(lk (dD dk kf lv D) d).p) (List.mem_append.2 (.inl (List.mem_map.2 ⟨_,lkD_mem (has_dD hr.1),rfl⟩))) hr.2
 ·exact fun a w c=>ow_n (h a w c)
 ·intro a w c
  obtain ⟨rows,h1,h2⟩:=h a w c
  exact ⟨rows,ow_n h1,h2⟩
 ·exact h
theorem opR_ok (he:ExtS dk kf lv acc fin) {x:Operand} {F:Fk κ} (h:opR ops i acc D x=some F):Arg soft P ops (fv (dFs dk kf lv fin)) G (dv (dD dk kf lv D)++D2 lv fr D) V kf i x (dF dk kf lv F).p:=by
 obtain ⟨F',e,h⟩:=Option.map_eq_some_iff.1 h
 subst h
 exact rsv_ok (opF_ok he e)
end
end
abbrev Hd (κ:Type):=(TypeId→Bool)→Nat→(Operand→Option (Fk κ))→Op→Option (Fk κ×List Prop)
section
variable {P:Program} {κ:Type}
def Fr (cx:Cx) (ft:TypeId→Bool) (w:World):Prop:=max cx.own cx.reg≤w.heap.size∧ ∀t,ft t=true→ ∀b,w.heap.size≤b→cx.ban b t=false
def HOk (dk: ∀cx,κ→Kd P cx) (h:Hd κ):Prop:= ∀{cx:Cx} {lv:Nat→Value} {ops:Array Oper} {Q:Exit→Act→World→Prop} {Fc:Facts} {G:List Vr} {D:List (Nat×Pr)} {V:VS} {kf0:Nat→Nat} {i d:Nat} (ft:TypeId→Bool) (va:Nat) (ev:Operand→Option (Fk κ)),(∀a w,Ctx soft P ops Fc G D V kf0 i a w→Fr cx ft w)→(∀x F,ev x=some F→Arg soft P ops Fc G D V kf0 i x (dF (dk cx) kf0 lv F).p)→
 ∀op F ps,h ft va ev op=some (F,ps)→AL ps→(∀w v,(dF (dk cx) kf0 lv F).p w v→Fc d w v)→Owes soft P ops Q Fc G D V kf0 i (some d) op
variable {dk: ∀cx,κ→Kd P cx}
def hOr (a b:Hd κ):Hd κ:=fun ft va ev op=>match a ft va ev op with
 |some r=>some r
 |none=>b ft va ev op
theorem hOr_ok {a b:Hd κ} (ha:HOk dk a) (hb:HOk dk b):HOk dk (hOr a b):=by
 intro cx lv ops Q Fc G D V kf0 i d ft va ev hfr hev op F ps h hp hF
 unfold hOr at h
 cases e:a ft va ev op with
 |some r=>rw [e] at h;exact ha ft va ev hfr hev op F ps (e.trans h) hp hF
 |none=>rw [e] at h;exact hb ft va ev hfr hev op F ps h hp hF
def hCore:Hd κ:=fun _ _ ev op=>match op with
 | .move x=>(ev x).map fun F=>(F,[])
 | .assign x=>(ev x).map fun F=>(F,[])
 | .pick c x y=>match ev c with
  |some (.s (.E (.bool true)))=>(ev x).map fun F=>(F,[])
  |some (.s (.E (.bool false)))=>(ev y).map fun F=>(F,[])
  |_=>none
 | .extract x j=>match ev x with
  |some (.t ks)=>(ks[j]?).map fun k=>(.s k,[])
  |some (.s (.E (.tuple ⟨vs⟩)))=>(vs[j]?).map fun v=>(.s (.E v),[])
  |_=>none
 |_=>none
theorem hCore_ok:HOk dk (hCore:Hd κ):=by
 intro cx lv ops Q Fc G D V kf0 i d ft va ev hfr hev op F ps h hp hF
 unfold hCore at h
 split at h
 ·next x=>
  obtain ⟨F',e,h⟩:=Option.map_eq_some_iff.1 h
  injection h with h1 h2
  subst h1
  exact Z.move (hev _ _ e) hF
 ·next x=>
  obtain ⟨F',e,h⟩:=Option.map_eq_some_iff.1 h
  injection h with h1 h2
  subst h1
  exact Z.assign (hev _ _ e) hF
 ·next c x y=>
  split at h
  ·next ec=>
   obtain ⟨F',e,h⟩:=Option.map_eq_some_iff.1 h
   injection h with h1 h2
   subst h1
   exact pickT (hev _ _ ec) (hev _ _ e) hF
  ·next ec=>
   obtain ⟨F',e,h⟩:=Option.map_eq_some_iff.1 h
   injection h with h1 h2
   subst h1
   exact pickF (hev _ _ ec) (hev _ _ e) hF
  ·cases h
 ·next x j=>
  split at h
  ·next ks ec=>
   obtain ⟨k,e,h⟩:=Option.map_eq_some_iff.1 h
   injection h with h1 h2
   subst h1
   refine val (fun o a w ho c=> ?_) rfl
   have hv:(dF (dk cx) kf0 lv (.t ks)).p w (a.eval x):=hev _ _ ec a w c
   obtain ⟨vs,ev',ha⟩:=hv
   obtain ⟨hl,hg⟩:=allK_get ha
   have hj:(ks.map (dS (dk cx) kf0 lv))[j]? =some (dS (dk cx) kf0 lv k):=by rw [List.getElem?_map,e];rfl
   have hlt:j<vs.length:=by rw [←hl];exact (List.getElem?_eq_some_iff.1 hj).1
   refine ⟨vs.getD j undef, ?_,hF _ _ (hg j _ hj)⟩
   unfold execOp
   simp only [ho,ev']
   simp [Instr.extract,hlt]
  ·next vs ec=>
   obtain ⟨v,e,h⟩:=Option.map_eq_some_iff.1 h
   injection h with h1 h2
   subst h1
   refine val (fun o a w ho c=>⟨v, ?_,hF _ _ rfl⟩) rfl
   have hv:a.eval x= .tuple ⟨vs⟩:=hev _ _ ec a w c
   unfold execOp
   simp only [ho,hv]
   simp [Instr.extract,e]
  ·cases h
 ·cases h
end
end Go.Proofs.YthebilnlljkfeaaGreatDoor.X
