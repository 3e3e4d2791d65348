/- One text out of: Xb. -/
import Derived.Test.YthebilnlljkfeaaGreatDoorBXa
namespace Go.Proofs.YthebilnlljkfeaaGreatDoor.X
open Go.RowKit Go.Proofs.YthebilnlljkfeaaGreatDoor.Z
open Go.Proofs.YthebilnlljkfeaaGreatDoor.Rg (depI Facts dsts info run_wanted mem_dsts)
abbrev cxZ:Cx:=⟨fun _ _=>false,0,0⟩
structure Tt {P:Program} {κ:Type} (dk: ∀cx,κ→Kd P cx) where
 f:FuncId
 en:Enters P f
 T:Nat
 sz:Nat
 ans:Bool
 run:List (List Value)→List (Ks κ)→Option (List (List Value)×List Prop)
 ok: ∀l ks l' ps,run l ks=some (l',ps)→AL ps→ ∀w v vs,isOw cxZ T sz l w v→allK w (ks.map (dS (dk (cxA w)) (fun _=>0) (fun _=>undef))) vs→Calls P f (v::vs).toArray w fun e w'=> ∃v',e= .returned (cond ans v' (.tuple #[]))∧isOw cxZ T sz l' w' v'∧w.grownBy w' v.ownBlock∧(∀b,v.ownBlock=some b→ ∃cs,w'.heap[b]? =some (.cells cs T (0,0))∧cs.all pv=true)∧(∀b,v'.ownBlock=some b→v.ownBlock=some b)∧(ans=false→v'=v)
structure Env (P:Program) where
 κ:Type
 dk: ∀cx,κ→Kd P cx
 dcx: ∀o cx cx',(dk cx o).p=(dk cx' o).p∧(dk cx o).ty=(dk cx' o).ty
 hd:Hd κ
 hok:HOk dk hd
 fl:κ→TypeId→Nat→Option (Ks κ)
 fok: ∀o t off k,fl o t off=some k→ ∀cx kf lv,(aggB P t=true→ ∀sz,(P.info? t).map (·.size)=some sz→ ∀w cs,(dk cx o).p w (.agg cs)→(dS (dk cx) kf lv k).p w (.agg (cs.extract off (off+sz))))∧(plainB P t=true→ ∀w cs,(dk cx o).p w (.agg cs)→(dS (dk cx) kf lv k).p w (cs.getD off undef))
 tc:List (Tt dk)
def offOf (P:Program) (t:TypeId) (f:Nat):Option (Nat×Nat):=match P.underlying t with
 |some (.struct fs)=>match fs[f]? with
  |some fd=>(P.info? fd.type).map fun j=>(fd.offset,j.size)
  |none=>none
 |_=>none
def arrB (P:Program) (t:TypeId) (n:Nat):Bool:=match P.underlying t with
 |some (.array len e)=>decide (n<len)&&(match P.info? e with
  |some j=>Nat.beq j.size 1
  |none=>false)
 |_=>false
theorem elemV {P:Program} {s:Array Value→TypeId→Bool} {ops:Array Oper} {Q:Exit→Act→World→Prop} {F:Facts} {G:List Vr} {D:List (Nat×Pr)} {V:VS} {kf0:Nat→Nat} {i d p n:Nat} {t:TypeId} {q:Pr} (hx:(⟨p,t,q⟩:Vr)∈G) (hf:arrB P t n=true) (hF: ∀w v,v= .pointer (some ⟨kf0 p,n,none⟩)→F d w v):Owes s P ops Q F G D V kf0 i (some d) (.indexAddr t (.tmp p) (.const (.int .i64 (.ofNat n)))):=
 val (fun o a w ho c=>by
  refine ⟨.pointer (some ⟨kf0 p,n,none⟩), ?_,hF _ _ rfl⟩
  unfold arrB at hf
  split at hf
  ·next len e hu=>
   simp only [Bool.and_eq_true,decide_eq_true_eq] at hf
   obtain ⟨h1,h2⟩:=hf
   split at h2
   ·next j hj=>
    have e2:=Nat.eq_of_beq_eq_true h2
    have hp:a.eval (.tmp p)= .pointer (some ⟨kf0 p,0,none⟩):=c.ptr _ hx
    unfold execOp
    simp only [Act.eval,Array.getD_eq_getD_getElem?] at hp
    simp [go_sem,ho,hp,Act.eval,Instr.indexAt,Instr.sureAddr,underlying,sizeOf,typeInfo,hu,hj,e2,h1,Addr.add]
    exact fun h=>h.symm
   ·cases h2
  ·cases hf) rfl
abbrev Hint (κ:Type):=List (Nat×Nat×Option (Fk κ))
def vaOf {κ:Type}:Hint κ→Nat→Nat
 | [],_=>0
 |x::r,i=>cond (Nat.beq x.1 i) x.2.1 (vaOf r i)
def teOf {κ:Type}:Hint κ→Nat→Option (Fk κ)
 | [],_=>none
 |x::r,i=>cond (Nat.beq x.1 i) x.2.2 (teOf r i)
section
variable {P:Program} (E:Env P)
def im (F F':Fk E.κ):Prop:= ∀cx kf lv w v,(dF (E.dk cx) kf lv F).p w v→(dF (E.dk cx) kf lv F').p w v
def tS (k k':Ks E.κ):Prop:=match k,k' with
 | .E (.bool c), .E (.bool b)=>c=b
 | .E (.int k m), .E (.int k' m')=>k=k'∧m=m'
 | .L T sz l o, .L T' sz' l' o'=>(T=T'∧sz=sz'∧o=o')∧l=l'
 | .A r, .A r'=>r=r'
 | .I s p, .I s' p'=>s=s'∧p=p'
 | .F T sz l, .F T' sz' l'=>(T=T'∧sz=sz')∧l=l'
 | .M T sz l o, .M T' sz' l' o'=>(T=T'∧sz=sz'∧o=o')∧l=l'
 | .B sz o, .B sz' o'=>sz=sz'∧o=o'
 | .S fs, .S fs'=>fs=fs'
 |k,k'=> ∀cx kf lv w v,(dS (E.dk cx) kf lv k).p w v→(dS (E.dk cx) kf lv k').p w v
theorem tS_im {k k':Ks E.κ} (h:tS E k k'): ∀cx kf lv w v,(dS (E.dk cx) kf lv k).p w v→(dS (E.dk cx) kf lv k').p w v:=by
 unfold tS at h
 split at h
 ·subst h;exact fun _ _ _ _ _ h=>h
 ·obtain ⟨rfl,rfl⟩:=h;exact fun _ _ _ _ _ h=>h
 ·obtain ⟨⟨rfl,rfl,rfl⟩,rfl⟩:=h;exact fun _ _ _ _ _ h=>h
 ·subst h;exact fun _ _ _ _ _ h=>h
 ·obtain ⟨rfl,rfl⟩:=h;exact fun _ _ _ _ _ h=>h
 ·obtain ⟨⟨rfl,rfl⟩,rfl⟩:=h;exact fun _ _ _ _ _ h=>h
 ·obtain ⟨⟨rfl,rfl,rfl⟩,rfl⟩:=h;exact fun _ _ _ _ _ h=>h
 ·obtain ⟨rfl,rfl⟩:=h;exact fun _ _ _ _ _ h=>h
 ·subst h;exact fun _ _ _ _ _ h=>h
 ·exact h
def tL:List (Ks E.κ)→List (Ks E.κ)→Prop
 | [],[]=>True
 |k::r,k'::r'=>tS E k k'∧tL r r'
 |_,_=>False
theorem tL_im {cx:Cx} {kf:Nat→Nat} {lv:Nat→Value}: ∀{ks ks':List (Ks E.κ)},tL E ks ks'→ ∀w vs,allK w (ks.map (dS (E.dk cx) kf lv)) vs→allK w (ks'.map (dS (E.dk cx) kf lv)) vs:=by
 intro ks
 induction ks with
 |nil=>
  intro ks' h w vs hv
  cases ks' with
  |nil=>exact hv
  |cons k' r'=>cases h
 |cons k r ih=>
  intro ks' h w vs hv
  cases ks' with
  |nil=>cases h
  |cons k' r'=>
   cases vs with
   |nil=>cases hv
   |cons v vs=>exact ⟨tS_im E h.1 cx kf lv w v hv.1,ih h.2 w vs hv.2⟩
def te (F F':Fk E.κ):Prop:=match F,F' with
 | .s k, .s k'=>tS E k k'
 | .t ks, .t ks'=>tL E ks ks'
 |F,F'=>im E F F'
theorem te_im {F F':Fk E.κ} (h:te E F F'):im E F F':=by
 unfold te at h
 split at h
 ·exact tS_im E h
 ·exact fun _ _ _ w v ⟨vs,e,hv⟩=>⟨vs,e,tL_im E h w vs hv⟩
 ·exact h
def mayB (va:Nat):Bool:=Nat.ble 777777 va
def vaN (va:Nat):Nat:=cond (mayB va) (va-777777) va
def bOf {κ:Type}:Fk κ→Option (Bool×Option Bool)
 | .s (.E (.bool v))=>some (v,none)
 | .m c (.s (.E (.bool v)))=>some (v,some c)
 |_=>none
def owB (s c:Bool):Option Bool→List Prop
 |none=> []
 |some x=> [s=c→x=true]
def evP {κ:Type} (ev:Operand→Option (Fk κ)) (c x y:Operand):Option (Fk κ×List Prop):=match ev c,ev x,ev y with
 |some (.s (.E (.bool cv))),some fx,some fy=>match bOf fx,bOf fy with
  |some (xv,xo),some (yv,yo)=>some (.s (.E (.bool (cond cv xv yv))),owB cv true xo++owB cv false yo)
  |_,_=>none
 |_,_,_=>none
def fldE (P:Program) (cs:List Value) (t:TypeId) (off:Nat):Option Value:=cond (plainB P t) (cs[off]?) (cond (aggB P t) (match P.info? t with
 |some j=>some (.agg ⟨(cs.drop off).take j.size⟩)
 |none=>none) none)
def fdAt {κ:Type}:List (Fd κ)→Nat→List (Fd κ)
 | [],_=> []
 |f::r,0=>f::r
 | .v _::r,n+1=>fdAt r n
 | .l _ _ _::r,n+1=>fdAt r n
 | .o _ _ m::r,n+1=>cond (Nat.ble m (n+1)) (fdAt r (n+1-m)) []
def fdTake {κ:Type}:List (Fd κ)→Nat→Option (List (Fd κ))
 |_,0=>some []
 | [],_+1=>none
 | .v x::r,n+1=>(fdTake r n).map (.v x:: ·)
 | .l T sz l::r,n+1=>(fdTake r n).map (.l T sz l:: ·)
 | .o k t m::r,n+1=>cond (Nat.ble m (n+1)) ((fdTake r (n+1-m)).map (.o k t m:: ·)) none
def fdV {κ:Type}:List (Fd κ)→Option (List Value)
 | []=>some []
 | .v x::r=>(fdV r).map (x:: ·)
 |_=>none
def fldS {κ:Type} (P:Program) (fs:List (Fd κ)) (t:TypeId) (off:Nat):Option (Ks κ):=cond (plainB P t) (match fdAt fs off with
 | .v x::_=>some (.E x)
 | .l T sz l::_=>some (.L T sz l false)
 |_=>none) (match P.info? t with
 |some j=>match fdTake (fdAt fs off) j.size with
  |some [.o k _ n]=>cond (Nat.beq n j.size) (some (.O k)) none
  |some gs=>match fdV gs with
   |some cs=>some (.E (.agg ⟨cs⟩))
   |none=>some (.S gs)
  |none=>none
 |none=>none)
section
variable {κ:Type} {cx:Cx} {dk:κ→Kd P cx} {w:World}
theorem fdAt_ok: ∀{fs:List (Fd κ)} {vs:List Value} {n:Nat},flds dk w fs vs→fdAt fs n= []∨flds dk w (fdAt fs n) (vs.drop n):=by
 intro fs
 induction fs with
 |nil=>intro vs n h;exact .inl (by unfold fdAt;rfl)
 |cons f r ih=>
  intro vs n h
  cases n with
  |zero=>right;unfold fdAt;exact h
  |succ n=>
   cases f with
   |v x=>
    obtain ⟨us,rfl,h⟩:=h
    exact ih h
   |l T sz l=>
    obtain ⟨u,us,rfl,_,h⟩:=h
    exact ih h
   |o k t m=>
    obtain ⟨us,us',rfl,hl,_,h⟩:=h
    show cond (Nat.ble m (n+1)) (fdAt r (n+1-m)) []= []∨flds dk w (cond (Nat.ble m (n+1)) (fdAt r (n+1-m)) []) _
    cases hb:Nat.ble m (n+1) with
    |false=>exact .inl rfl
    |true=>
     have hle:=Nat.le_of_ble_eq_true hb
     have e:(us++us').drop (n+1)=us'.drop (n+1-m):=by rw [List.drop_append,List.drop_eq_nil_of_le (by omega),List.nil_append,hl]
     rw [e]
     exact ih h
theorem fdTake_ok: ∀{fs gs:List (Fd κ)} {vs:List Value} {n:Nat},fdTake fs n=some gs→flds dk w fs vs→flds dk w gs (vs.take n):=by
 intro fs
 induction fs with
 |nil=>
  intro gs vs n h hv
  cases n with
  |zero=>injection h with h;subst h;rfl
  |succ n=>cases h
 |cons f r ih=>
  intro gs vs n h hv
  cases n with
  |zero=>unfold fdTake at h;injection h with h;subst h;rfl
  |succ n=>
   cases f with
   |v x=>
    obtain ⟨us,rfl,hv⟩:=hv
    obtain ⟨g,e,rfl⟩:=Option.map_eq_some_iff.1 h
    exact ⟨_,rfl,ih e hv⟩
   |l T sz l=>
    obtain ⟨u,us,rfl,h1,hv⟩:=hv
    obtain ⟨g,e,rfl⟩:=Option.map_eq_some_iff.1 h
    exact ⟨_,_,rfl,h1,ih e hv⟩
   |o k t m=>
    obtain ⟨us,us',rfl,hl,h1,hv⟩:=hv
    unfold fdTake at h
    cases hb:Nat.ble m (n+1) with
    |false=>rw [hb] at h;cases h
    |true=>
     rw [hb] at h
     have hle:=Nat.le_of_ble_eq_true hb
     obtain ⟨g,e,rfl⟩:=Option.map_eq_some_iff.1 h
     exact ⟨us,us'.take (n+1-m),by rw [List.take_append,List.take_of_length_le (by omega),hl],hl,h1,ih e hv⟩
theorem fdV_ok: ∀{fs:List (Fd κ)} {vs cs:List Value},fdV fs=some cs→flds dk w fs vs→vs=cs:=by
 intro fs
 induction fs with
 |nil=>intro vs cs h hv;injection h with h;subst h;exact hv
 |cons f r ih=>
  intro vs cs h hv
  cases f with
  |v x=>
   obtain ⟨us,rfl,hv⟩:=hv
   obtain ⟨g,e,rfl⟩:=Option.map_eq_some_iff.1 h
   rw [ih e hv]
  |_=>cases h
theorem fldS_ok {fs:List (Fd κ)} {t:TypeId} {off:Nat} {k:Ks κ} {kf:Nat→Nat} {lv:Nat→Value} (h:fldS P fs t off=some k) {cs:Array Value} (hv:isSf dk fs w (.agg cs)):(aggB P t=true→ ∀sz,(P.info? t).map (·.size)=some sz→(dS dk kf lv k).p w (.agg (cs.extract off (off+sz))))∧(plainB P t=true→(dS dk kf lv k).p w (cs.getD off undef)):=by
 obtain ⟨vs,e,hv⟩:=hv
 injection e with e
 subst e
 have hat:=fdAt_ok (n:=off) hv
 unfold fldS at h
 cases hpl:plainB P t with
 |true=>
  rw [hpl] at h
  simp only [_root_.cond_true] at h
  refine ⟨fun ha=> ?_,fun _=> ?_⟩
  ·exfalso
   unfold plainB at hpl
   unfold aggB at ha
   cases hu:P.underlying t with
   |none=>rw [hu] at ha;cases ha
   |some ds=>rw [hu] at ha hpl;cases ds<;>first|(cases hpl;done)|(cases ha;done)
  ·have hd: ∀{u:Value} {us:List Value},vs.drop off=u::us→vs.toArray.getD off undef=u:=fun {u us} e=>by
    have:vs[off]? =some u:=by
     have h2:(vs.drop off)[0]? =some u:=by rw [e];rfl
     rwa [List.getElem?_drop,Nat.add_zero] at h2
    rw [Array.getD_eq_getD_getElem?,List.getElem?_toArray,this]
    rfl
   split at h
   ·next x r e=>
    injection h with h
    subst h
    rw [e] at hat
    rcases hat with hat|⟨us,e2,_⟩
    ·cases hat
    ·exact hd e2
   ·next T sz l r e=>
    injection h with h
    subst h
    rw [e] at hat
    rcases hat with hat|⟨u,us,e2,h1,_⟩
    ·cases hat
    ·rw [hd e2];exact h1
   ·cases h
 |false=>
  rw [hpl] at h
  simp only [_root_.cond_false] at h
  refine ⟨fun ha sz hsz=> ?_,fun h=>by cases h⟩
  split at h
  ·next j hj=>
   rw [hj] at hsz
   injection hsz with hsz
   have hsz':j.size=sz:=hsz
   rw [hsz'] at h
   have hex:vs.toArray.extract off (off+sz)=((vs.drop off).take sz).toArray:=by
    apply Array.ext'
    rw [Array.toList_extract]
    simp [List.extract_eq_take_drop]
   rw [hex]
   have htk: ∀{gs:List (Fd κ)},fdTake (fdAt fs off) sz=some gs→flds dk w gs ((vs.drop off).take sz):=fun {gs} e=>by
    rcases hat with hat|hat
    ·rw [hat] at e
     cases hs:sz with
     |zero=>rw [hs] at e;injection e with e;subst e;rfl
     |succ n=>rw [hs] at e;cases e
    ·exact fdTake_ok e hat
   split at h
   ·next k' t' n e=>
    cases hb:Nat.beq n sz with
    |false=>rw [hb] at h;cases h
    |true=>
     rw [hb] at h
     injection h with h
     subst h
     obtain ⟨us,us',e2,hl,h1,h2⟩:=htk e
     have h2':us'= []:=h2
     subst h2'
     rw [List.append_nil] at e2
     show (dk k').p w (.agg ((vs.drop off).take sz).toArray)
     rw [e2]
     exact h1
   ·next gs _ e=>
    split at h
    ·next cs e2=>
     injection h with h
     subst h
     rw [fdV_ok e2 (htk e)]
     rfl
    ·injection h with h
     subst h
     exact ⟨_,rfl,htk e⟩
   ·cases h
  ·cases h
end
def evOp (ft:TypeId→Bool) (ops:Array Oper) (V:VS) (D:DL E.κ) (G:List (Vx E.κ)) (va i:Nat) (acc:FX E.κ) (op:Op):Option (Fk E.κ×List Prop):=match op with
 | .load t (.tmp p)=>cond (hasX G p) (cond (Nat.beq (lG G p).ty t&&readB ops V i p) (some (.s (lG G p).k,[])) none) (match opF ops i acc D (.tmp p) with
  |some (.s (.P q off))=>match (lG G q).k with
   | .O o=>match E.fl o t off with
    |some k=>cond (hasX G q&&readB ops V i q&&((aggB P t&&((P.info? t).map (·.size)).any (fun sz=>((P.info? (lG G q).ty).map (·.size)).any fun m=>decide (off+sz≤m)))||(plainB P t&&((P.info? (lG G q).ty).map (·.size)).any fun m=>decide (off<m)))) (some (.s k,[])) none
    |none=>none
   | .E (.agg ⟨cs⟩)=>match fldE P cs t off with
    |some v=>cond (hasX G q&&readB ops V i q&&((aggB P t&&((P.info? t).map (·.size)).any (fun sz=>((P.info? (lG G q).ty).map (·.size)).any fun m=>decide (off+sz≤m)))||(plainB P t&&((P.info? (lG G q).ty).map (·.size)).any fun m=>decide (off<m)))) (some (.s (.E v),[])) none
    |none=>none
   | .S fs=>match fldS P fs t off with
    |some k=>cond (hasX G q&&readB ops V i q&&((aggB P t&&((P.info? t).map (·.size)).any (fun sz=>((P.info? (lG G q).ty).map (·.size)).any fun m=>decide (off+sz≤m)))||(plainB P t&&((P.info? (lG G q).ty).map (·.size)).any fun m=>decide (off<m)))) (some (.s k,[])) none
    |none=>none
   |_=>none
  |_=>E.hd ft (vaN va) (opR ops i acc D) op)
 | .fieldAddr t (.tmp p) f=>match offOf P t f with
  |some (off,sz)=>cond (fieldB P t f off sz) (cond (hasX G p) (cond (Nat.beq (lG G p).ty t) (some (.s (.P p off),[])) none) (match opF ops i acc D (.tmp p) with
   |some (.s (.P q o0))=>some (.s (.P q (o0+off)),[])
   |some (.s (.A row))=>some (.s (.A (row.drop off)),[])
   |_=>none)) none
  |none=>none
 | .indexAddr t (.tmp p) y=>cond (hasX G p) (match y with
  | .const (.int .i64 (.ofNat n))=>cond (Nat.beq (lG G p).ty t&&arrB P t n) (some (.s (.P p n),[])) none
  |_=>none) (cond (Nat.beq (vaN va) 7) (match opF ops i acc D (.tmp p),opR ops i acc D (.tmp p),opR ops i acc D y with
   |some (.s (.V d)),some (.s (.L T sz l true)),some (.s (.E (.int .i64 (.ofNat n))))=>cond (eltB P t T sz) (some (.s (.Q d n sz),[n<l.length])) none
   |_,_,_=>none) (E.hd ft (vaN va) (opR ops i acc D) op))
 | .move (.tmp x)=>match opF ops i acc D (.tmp x) with
  |some (.s (.V d))=>some (.s (.V d),[])
  |some (.s (.L _ _ _ _))=>cond (hasD D x&&readS ops i x&& !depI ops i x) (some (.s (.V x),[])) (E.hd ft (vaN va) (opR ops i acc D) op)
  |some (.s (.M T sz os o))=>cond (hasD D x&&readS ops i x&& !depI ops i x) (some (.s (.V x),[])) (some (.s (.M T sz os o),[]))
  |some (.s (.F T sz l))=>some (.s (.F T sz l),[])
  |_=>E.hd ft (vaN va) (opR ops i acc D) op
 | .assign (.tmp x)=>match opF ops i acc D (.tmp x) with
  |some (.s (.L _ _ _ _))=>cond (hasD D x&&readS ops i x&& !depI ops i x) (some (.s (.V x),[])) (E.hd ft (vaN va) (opR ops i acc D) op)
  |some (.s (.M T sz os o))=>cond (hasD D x&&readS ops i x&& !depI ops i x) (some (.s (.V x),[])) (some (.s (.M T sz os o),[]))
  |some (.s (.F T sz l))=>some (.s (.F T sz l),[])
  |_=>E.hd ft (vaN va) (opR ops i acc D) op
 | .pick c x y=>cond (mayB va) (evP (opR ops i acc D) c x y) (E.hd ft (vaN va) (opR ops i acc D) (.pick c x y))
 |op=>E.hd ft (vaN va) (opR ops i acc D) op
def evTe (ft:TypeId→Bool) (ops:Array Oper) (V:VS) (D:DL E.κ) (G:List (Vx E.κ)) (h:Hint E.κ) (i:Nat) (acc:FX E.κ) (op:Op):Option (Fk E.κ×List Prop):=match evOp E ft ops V D G (vaOf h i) i acc op with
 |some (F,ps)=>match teOf h i with
  |some F'=>some (F',ps++ [te E F F'])
  |none=>some (F,ps)
 |none=>none
def gOf {κ:Type} (b:Bool):Fk κ→Option Bool
 | .s (.E (.bool c))=>some (c==b)
 | .m c1 (.s (.E (.bool c)))=>some (c1&&(c==b))
 |_=>none
def tmpsOf:Op→List Nat
 | .pick (.tmp c) _ _=> [c]
 |op=>(Op.operands op).toList.filterMap fun| .tmp x=>some x|_=>none
def un1 {κ:Type} (b:Bool):Fk κ→Fk κ
 | .m c F=>cond b F (.m c F)
 |F=>F
def unM {κ:Type} (sl:List Nat):FX κ→FX κ
 | []=> []
 |x::r=>(x.1,un1 (sl.contains x.1) x.2)::unM sl r
def owM {κ:Type} (cc:Bool) (sl:List Nat):FX κ→List Prop
 | []=> []
 |x::r=>match x.2 with
  | .m c _=>cond (sl.contains x.1) ((cc=true→c=true)::owM cc sl r) (owM cc sl r)
  |_=>owM cc sl r
def ifs (cc:Bool) (ps:List Prop):List Prop:=ps.map fun p=>cc=true→p
def evG (ft:TypeId→Bool) (ops:Array Oper) (V:VS) (D:DL E.κ) (G:List (Vx E.κ)) (h:Hint E.κ) (i:Nat) (acc:FX E.κ) (o:Oper):Option (Fk E.κ×List Prop):=match o.guard with
 |none=>evTe E ft ops V D G h i acc o.op
 |some (j,b)=>match (ops[j]?).bind (·.dst) with
  |some dj=>cond (depI ops i dj&&keyF acc dj) (cond (mayB (vaOf h i)) (match gOf b (lF acc dj) with
   |some cc=>match evTe E ft ops V D G h i (unM (tmpsOf o.op) acc) o.op with
    |some (F,ps)=>some (.m cc F,ifs cc ps++owM cc (tmpsOf o.op) acc)
    |none=>none
   |none=>none) (match lF acc dj with
   | .s (.E (.bool c))=>cond (c==b) (evTe E ft ops V D G h i acc o.op) (some (.u,[]))
   | .u=>some (.u,[])
   |_=>none)) none
  |none=>none
def go (ft:TypeId→Bool) (ops:Array Oper) (V:VS) (D:DL E.κ) (G:List (Vx E.κ)) (h:Hint E.κ):List Oper→Nat→FX E.κ→Option (FX E.κ×List Prop)
 | [],_,acc=>some (acc,[])
 |o::r,i,acc=>cond (isAl V i||isSt V i||isNop o) (go ft ops V D G h r (i+1) acc) (match o.dst with
  |none=>none
  |some d=>cond (keyF acc d) none (match evG E ft ops V D G h i acc o with
   |none=>none
   |some (F,ps)=>match go ft ops V D G h r (i+1) ((d,F)::acc) with
    |none=>none
    |some (fs,qs)=>some (fs,ps++qs)))
variable {E}
section
variable {cx:Cx} {lv:Nat→Value} {ft:TypeId→Bool} {ops:Array Oper} {Q:Exit→Act→World→Prop} {V:VS} {D:DL E.κ} {G:List (Vx E.κ)} {h:Hint E.κ} {kf0:Nat→Nat} {i:Nat} {acc fin:FX E.κ}
theorem readS_of {d:Nat} (h:(dsts ops).contains d=false):readS ops i d=true:=by
 unfold readS
 rw [List.all_eq_true]
 rintro ⟨o,j⟩ hx
 rw [List.mem_zipIdx_iff_getElem?,Array.getElem?_toList] at hx
 have:o.dst≠some d:=fun e=>by
  have h2:=mem_dsts hx e
  rw [List.contains_eq_mem] at h
  simp [h2] at h
 simp [this]
theorem fr_of (h:(dsts ops).contains szSlot=false) {F:Facts} {G:List Vr} {D1:List (Nat×Pr)}: ∀a w,Ctx soft P ops F G (D1++D2 lv (Fr cx ft) D) V kf0 i a w→Fr cx ft w:=fun _ _ c=>
 c.old (szSlot,fun w _=>Fr cx ft w) (List.mem_append.2 (.inr (.head _))) (readS_of h)
theorem evOp_ok {va d:Nat} {op:Op} {F:Fk E.κ} {ps:List Prop} (hsz:(dsts ops).contains szSlot=false) (he:ExtS (E.dk cx) kf0 lv acc fin) (h:evOp E ft ops V D G va i acc op=some (F,ps)) (hp:AL ps) {Fc:Facts} (hFc:Fc=fv (dFs (E.dk cx) kf0 lv fin)) (hF: ∀w v,(dF (E.dk cx) kf0 lv F).p w v→Fc d w v):
  Owes soft P ops Q Fc (gv (dG (E.dk cx) kf0 lv G)) (dv (dD (E.dk cx) kf0 lv D)++D2 lv (Fr cx ft) D) V kf0 i (some d) op:=by
 have gen:E.hd ft (vaN va) (opR ops i acc D) op=some (F,ps)→Owes soft P ops Q Fc (gv (dG (E.dk cx) kf0 lv G)) (dv (dD (E.dk cx) kf0 lv D)++D2 lv (Fr cx ft) D) V kf0 i (some d) op:=fun e=>
  E.hok (cx:=cx) (lv:=lv) ft (vaN va) _ (fr_of hsz) (fun x F' hx=>by rw [hFc];exact opR_ok he hx) op F ps e hp hF
 have arg: ∀{x:Operand} {F':Fk E.κ},opF ops i acc D x=some F'→Arg soft P ops Fc (gv (dG (E.dk cx) kf0 lv G)) (dv (dD (E.dk cx) kf0 lv D)++D2 lv (Fr cx ft) D) V kf0 i x (dF (E.dk cx) kf0 lv F').p:=fun e=>by rw [hFc];exact opF_ok he e
 have argR: ∀{x:Operand} {F':Fk E.κ},opR ops i acc D x=some F'→Arg soft P ops Fc (gv (dG (E.dk cx) kf0 lv G)) (dv (dD (E.dk cx) kf0 lv D)++D2 lv (Fr cx ft) D) V kf0 i x (dF (E.dk cx) kf0 lv F').p:=fun e=>by rw [hFc];exact opR_ok he e
 unfold evOp at h
 split at h
 ·next t p=>
  cases hg:hasX G p with
  |true=>
   rw [hg] at h
   simp only [_root_.cond_true] at h
   cases hc:(Nat.beq (lG G p).ty t&&readB ops V i p) with
   |false=>rw [hc] at h;cases h
   |true=>
    rw [hc] at h
    injection h with h
    injection h with h1 h2
    subst h1
    simp only [Bool.and_eq_true] at hc
    have e:(lG G p).ty=t:=Nat.eq_of_beq_eq_true hc.1
    subst e
    exact loadV (mem_dG hg) hc.2 hF
  |false=>
   rw [hg] at h
   simp only [_root_.cond_false] at h
   split at h
   ·next q off ho=>
    have hx:Arg soft P ops Fc (gv (dG (E.dk cx) kf0 lv G)) (dv (dD (E.dk cx) kf0 lv D)++D2 lv (Fr cx ft) D) V kf0 i (.tmp p) (fun _ v=>v= .pointer (some ⟨kf0 q,off,none⟩)):=arg ho
    split at h
    ·next o hk=>
     split at h
     ·next k hfl=>
      obtain ⟨f1,f2⟩:=E.fok o t off k hfl cx kf0 lv
      cases hc:(hasX G q&&readB ops V i q&&((aggB P t&&((P.info? t).map (·.size)).any (fun sz=>((P.info? (lG G q).ty).map (·.size)).any fun m=>decide (off+sz≤m)))||(plainB P t&&((P.info? (lG G q).ty).map (·.size)).any fun m=>decide (off<m)))) with
      |false=>rw [hc] at h;cases h
      |true=>
       rw [hc] at h
       injection h with h
       injection h with h1 h2
       subst h1
       simp only [Bool.and_eq_true,Bool.or_eq_true] at hc
       obtain ⟨⟨hq,hr⟩,hc⟩:=hc
       have hm:(⟨q,(lG G q).ty,(E.dk cx o).p⟩:Vr)∈gv (dG (E.dk cx) kf0 lv G):=by
        have:=mem_dG (dk:=E.dk cx) (kf:=kf0) (lv:=lv) hq
        rwa [hk] at this
       rcases hc with ⟨ha,hs⟩|⟨ha,hs⟩
       ·cases hi:(P.info? t).map (·.size) with
        |none=>rw [hi] at hs;cases hs
        |some sz=>
         rw [hi] at hs
         exact loadF hx hm hr ha hi hs (f1 ha sz hi) hF
       ·exact loadP hx hm hr ha hs (f2 ha) hF
     ·cases h
    ·next cs hk=>
     split at h
     ·next v hfl=>
      cases hc:(hasX G q&&readB ops V i q&&((aggB P t&&((P.info? t).map (·.size)).any (fun sz=>((P.info? (lG G q).ty).map (·.size)).any fun m=>decide (off+sz≤m)))||(plainB P t&&((P.info? (lG G q).ty).map (·.size)).any fun m=>decide (off<m)))) with
      |false=>rw [hc] at h;cases h
      |true=>
       rw [hc] at h
       injection h with h
       injection h with h1 h2
       subst h1
       simp only [Bool.and_eq_true,Bool.or_eq_true] at hc
       obtain ⟨⟨hq,hr⟩,hc⟩:=hc
       have hm:(⟨q,(lG G q).ty,fun _ v=>v= .agg ⟨cs⟩⟩:Vr)∈gv (dG (E.dk cx) kf0 lv G):=by
        have:=mem_dG (dk:=E.dk cx) (kf:=kf0) (lv:=lv) hq
        rwa [hk] at this
       unfold fldE at hfl
       cases hpl:plainB P t with
       |true=>
        rw [hpl] at hfl
        simp only [_root_.cond_true] at hfl
        rcases hc with ⟨ha,hs⟩|⟨ha,hs⟩
        ·exfalso
         unfold plainB at hpl
         unfold aggB at ha
         cases hu:P.underlying t with
         |none=>rw [hu] at ha;cases ha
         |some ds=>rw [hu] at ha hpl;cases ds<;>first|(cases hpl;done)|(cases ha;done)
        ·refine loadP hx hm hr hpl hs (fun w cs' e=> ?_) hF
         injection e with e
         subst e
         show (⟨cs⟩:Array Value).getD off undef=v
         rw [Array.getD_eq_getD_getElem?]
         have:(⟨cs⟩:Array Value)[off]? =cs[off]? :=by simp
         rw [this,hfl]
         rfl
       |false=>
        rw [hpl] at hfl
        simp only [_root_.cond_false] at hfl
        cases hag:aggB P t with
        |false=>rw [hag] at hfl;cases hfl
        |true=>
         rw [hag] at hfl
         simp only [_root_.cond_true] at hfl
         split at hfl
         ·next j hj=>
          injection hfl with hfl
          subst hfl
          rcases hc with ⟨ha,hs⟩|⟨ha,hs⟩
          ·rw [hj] at hs
           refine loadF hx hm hr ha (by rw [hj];rfl) hs (fun w cs' e=> ?_) hF
           injection e with e
           subst e
           show Value.agg _=Value.agg _
           congr 1
           apply Array.ext'
           rw [Array.toList_extract]
           simp [List.extract_eq_take_drop]
          ·rw [hpl] at ha;cases ha
         ·cases hfl
     ·cases h
    ·next fs hk=>
     split at h
     ·next k hfl=>
      cases hc:(hasX G q&&readB ops V i q&&((aggB P t&&((P.info? t).map (·.size)).any (fun sz=>((P.info? (lG G q).ty).map (·.size)).any fun m=>decide (off+sz≤m)))||(plainB P t&&((P.info? (lG G q).ty).map (·.size)).any fun m=>decide (off<m)))) with
      |false=>rw [hc] at h;cases h
      |true=>
       rw [hc] at h
       injection h with h
       injection h with h1 h2
       subst h1
       simp only [Bool.and_eq_true,Bool.or_eq_true] at hc
       obtain ⟨⟨hq,hr⟩,hc⟩:=hc
       have hm:(⟨q,(lG G q).ty,isSf (E.dk cx) fs⟩:Vr)∈gv (dG (E.dk cx) kf0 lv G):=by
        have:=mem_dG (dk:=E.dk cx) (kf:=kf0) (lv:=lv) hq
        rwa [hk] at this
       rcases hc with ⟨ha,hs⟩|⟨ha,hs⟩
       ·cases hi:(P.info? t).map (·.size) with
        |none=>rw [hi] at hs;cases hs
        |some sz=>
         rw [hi] at hs
         exact loadF hx hm hr ha hi hs (fun w cs hv=>(fldS_ok (kf:=kf0) (lv:=lv) hfl hv).1 ha sz hi) hF
       ·exact loadP hx hm hr ha hs (fun w cs hv=>(fldS_ok (kf:=kf0) (lv:=lv) hfl hv).2 ha) hF
     ·cases h
    ·cases h
   ·exact gen h
 ·next t p f=>
  split at h
  ·next off sz _=>
   cases hf:fieldB P t f off sz with
   |false=>rw [hf] at h;cases h
   |true=>
    rw [hf] at h
    simp only [_root_.cond_true] at h
    cases hg:hasX G p with
    |true=>
     rw [hg] at h
     simp only [_root_.cond_true] at h
     cases hc:Nat.beq (lG G p).ty t with
     |false=>rw [hc] at h;cases h
     |true=>
      rw [hc] at h
      injection h with h
      injection h with h1 h2
      subst h1
      have e:(lG G p).ty=t:=Nat.eq_of_beq_eq_true hc
      subst e
      exact fieldV (mem_dG hg) hf hF
    |false=>
     rw [hg] at h
     simp only [_root_.cond_false] at h
     split at h
     ·next q o0 ho=>
      injection h with h
      injection h with h1 h2
      subst h1
      exact fieldA (arg ho) hf hF
     ·next row ho=>
      injection h with h
      injection h with h1 h2
      subst h1
      exact fieldAd (arg ho) hf hF
     ·cases h
  ·cases h
 ·next t p y=>
  cases hg:hasX G p with
  |true=>
   rw [hg] at h
   simp only [_root_.cond_true] at h
   split at h
   ·next n=>
    cases hc:(Nat.beq (lG G p).ty t&&arrB P t n) with
    |false=>rw [hc] at h;cases h
    |true=>
     rw [hc] at h
     injection h with h
     injection h with h1 h2
     subst h1
     simp only [Bool.and_eq_true] at hc
     have e:(lG G p).ty=t:=Nat.eq_of_beq_eq_true hc.1
     subst e
     exact elemV (mem_dG hg) hc.2 hF
   ·cases h
  |false=>
   rw [hg] at h
   simp only [_root_.cond_false] at h
   cases h7:Nat.beq (vaN va) 7 with
   |false=>rw [h7] at h;exact gen h
   |true=>
    rw [h7] at h
    simp only [_root_.cond_true] at h
    split at h
    ·next d' T sz l n e1 e2 e3=>
     cases hc:eltB P t T sz with
     |false=>rw [hc] at h;cases h
     |true=>
      rw [hc] at h
      injection h with h
      injection h with h1 h2
      subst h1 h2
      refine idxQ (cx:=cx) hc (argR e2) (arg e1) (argR e3) hp.1 fun w v ⟨b,c,hu,hv⟩=>hF w v ?_
      show v=eaddr (lv d') (n*sz)
      rw [hu,hv]
      simp [eaddr]
    ·cases h
 ·next x=>
  split at h
  ·next d' e1=>
   injection h with h
   injection h with h1 h2
   subst h1
   exact Z.move (arg e1) hF
  ·next e1=>
   cases hc:(hasD D x&&readS ops i x&& !depI ops i x) with
   |false=>rw [hc] at h;exact gen h
   |true=>
    rw [hc] at h
    injection h with h
    injection h with h1 h2
    subst h1
    simp only [Bool.and_eq_true] at hc
    refine Z.move (p:=fun _ v=>v=lv x) (fun a w c=> ?_) hF
    obtain ⟨k,hk⟩:=hasD_mem hc.1.1
    exact c.old (x,fun _ v=>v=lv x) (List.mem_append.2 (.inr (.tail _ (List.mem_map.2 ⟨_,hk,rfl⟩)))) hc.1.2
  ·next T sz os o e1=>
   cases hc:(hasD D x&&readS ops i x&& !depI ops i x) with
   |false=>
    rw [hc] at h
    injection h with h
    injection h with h1 h2
    subst h1
    exact Z.move (arg e1) hF
   |true=>
    rw [hc] at h
    injection h with h
    injection h with h1 h2
    subst h1
    simp only [Bool.and_eq_true] at hc
    refine Z.move (p:=fun _ v=>v=lv x) (fun a w c=> ?_) hF
    obtain ⟨k,hk⟩:=hasD_mem hc.1.1
    exact c.old (x,fun _ v=>v=lv x) (List.mem_append.2 (.inr (.tail _ (List.mem_map.2 ⟨_,hk,rfl⟩)))) hc.1.2
  ·next T sz l e1=>
   injection h with h
   injection h with h1 h2
   subst h1
   exact Z.move (arg e1) hF
  ·exact gen h
 ·next x=>
  split at h
  ·next e1=>
   cases hc:(hasD D x&&readS ops i x&& !depI ops i x) with
   |false=>rw [hc] at h;exact gen h
   |true=>
    rw [hc] at h
    injection h with h
    injection h with h1 h2
    subst h1
    simp only [Bool.and_eq_true] at hc
    refine Z.assign (p:=fun _ v=>v=lv x) (fun a w c=> ?_) hF
    obtain ⟨k,hk⟩:=hasD_mem hc.1.1
    exact c.old (x,fun _ v=>v=lv x) (List.mem_append.2 (.inr (.tail _ (List.mem_map.2 ⟨_,hk,rfl⟩)))) hc.1.2
  ·next T sz os o e1=>
   cases hc:(hasD D x&&readS ops i x&& !depI ops i x) with
   |false=>
    rw [hc] at h
    injection h with h
    injection h with h1 h2
    subst h1
    exact Z.assign (arg e1) hF
   |true=>
    rw [hc] at h
    injection h with h
    injection h with h1 h2
    subst h1
    simp only [Bool.and_eq_true] at hc
    refine Z.assign (p:=fun _ v=>v=lv x) (fun a w c=> ?_) hF
    obtain ⟨k,hk⟩:=hasD_mem hc.1.1
    exact c.old (x,fun _ v=>v=lv x) (List.mem_append.2 (.inr (.tail _ (List.mem_map.2 ⟨_,hk,rfl⟩)))) hc.1.2
  ·next T sz l e1=>
   injection h with h
   injection h with h1 h2
   subst h1
   exact Z.assign (arg e1) hF
  ·exact gen h
 ·next c x y=>
  cases hm:mayB va with
  |false=>rw [hm] at h;exact gen h
  |true=>
   rw [hm] at h
   simp only [_root_.cond_true,evP] at h
   split at h
   ·next cv fx fy ec ex ey=>
    split at h
    ·next xv xo yv yo bx bY=>
     injection h with h
     injection h with h1 h2
     subst h1 h2
     have argB: ∀{z:Operand} {f:Fk E.κ} {v:Bool} {o:Option Bool},opR ops i acc D z=some f→bOf f=some (v,o)→(∀u,o=some u→u=true)→Arg soft P ops Fc (gv (dG (E.dk cx) kf0 lv G)) (dv (dD (E.dk cx) kf0 lv D)++D2 lv (Fr cx ft) D) V kf0 i z (isE (.bool v)):=fun {z f v o} ez eb ho=>by
      have hz:=argR ez
      unfold bOf at eb
      split at eb
      ·injection eb with eb
       injection eb with e1 e2
       subst e1
       exact hz
      ·injection eb with eb
       injection eb with e1 e2
       subst e1
       have:=ho _ e2.symm
       subst this
       exact hz
      ·cases eb
     have hcv:Arg soft P ops Fc (gv (dG (E.dk cx) kf0 lv G)) (dv (dD (E.dk cx) kf0 lv D)++D2 lv (Fr cx ft) D) V kf0 i c (isE (.bool cv)):=argR ec
     obtain ⟨p1,p2⟩:=AL_app hp
     cases cv with
     |true=>
      refine pickT hcv (argB ex bx fun u e=> ?_) hF
      subst e
      exact p1.1 rfl
     |false=>
      refine pickF hcv (argB ey bY fun u e=> ?_) hF
      subst e
      exact p2.1 rfl
    ·cases h
   ·cases h
 ·exact gen h
theorem evTe_ok {d:Nat} {op:Op} {F:Fk E.κ} {ps:List Prop} (hsz:(dsts ops).contains szSlot=false) (he:ExtS (E.dk cx) kf0 lv acc fin) (h':evTe E ft ops V D G h i acc op=some (F,ps)) (hp:AL ps) (hFd: ∀w v,(dF (E.dk cx) kf0 lv F).p w v→(fv (dFs (E.dk cx) kf0 lv fin)) d w v):
  Owes soft P ops Q (fv (dFs (E.dk cx) kf0 lv fin)) (gv (dG (E.dk cx) kf0 lv G)) (dv (dD (E.dk cx) kf0 lv D)++D2 lv (Fr cx ft) D) V kf0 i (some d) op:=by
 unfold evTe at h'
 split at h'
 ·next F1 p1 e1=>
  split at h'
  ·next F2 e2=>
   injection h' with h'
   injection h' with h1 h2
   subst h1 h2
   obtain ⟨a1,a2⟩:=AL_app hp
   exact evOp_ok hsz he e1 a1 rfl fun w v hv=>hFd w v (te_im E a2.1 cx kf0 lv w v hv)
  ·injection h' with h'
   injection h' with h1 h2
   subst h1 h2
   exact evOp_ok hsz he e1 hp rfl hFd
 ·cases h'
theorem keyF_unM {sl:List Nat} {d:Nat}: ∀{acc:FX E.κ},keyF (unM sl acc) d=keyF acc d:=by
 intro acc
 induction acc with
 |nil=>rfl
 |cons x r ih=>
  unfold keyF at ih⊢
  simp only [unM,List.any_cons,ih]
theorem lF_unM {sl:List Nat} {d:Nat}: ∀{acc:FX E.κ},keyF acc d=true→lF (unM sl acc) d=un1 (sl.contains d) (lF acc d):=by
 intro acc
 induction acc with
 |nil=>intro h;cases h
 |cons x r ih=>
  intro h
  show cond (Nat.beq x.1 d) (un1 (sl.contains x.1) x.2) (lF (unM sl r) d)=un1 (sl.contains d) (cond (Nat.beq x.1 d) x.2 (lF r d))
  cases hb:Nat.beq x.1 d with
  |true=>rw [Nat.eq_of_beq_eq_true hb];rfl
  |false=>
   unfold keyF at h
   simp only [List.any_cons,hb,Bool.false_or] at h
   exact ih h
theorem owM_at {cc:Bool} {sl:List Nat} {d:Nat} {c:Bool} {F:Fk E.κ}: ∀{acc:FX E.κ},keyF acc d=true→lF acc d= .m c F→sl.contains d=true→AL (owM cc sl acc)→cc=true→c=true:=by
 intro acc
 induction acc with
 |nil=>intro h;cases h
 |cons x r ih=>
  intro h hl hs hp hc
  unfold owM at hp
  cases hb:Nat.beq x.1 d with
  |true=>
   have e:x.1=d:=Nat.eq_of_beq_eq_true hb
   have hx:x.2= .m c F:=by
    have:lF (x::r) d=x.2:=by unfold lF;rw [hb];rfl
    rw [←this,hl]
   rw [hx,e,hs] at hp
   exact hp.1 hc
  |false=>
   unfold keyF at h
   simp only [List.any_cons,hb,Bool.false_or] at h
   have hl':lF r d= .m c F:=by
    have:lF (x::r) d=lF r d:=by show cond (Nat.beq x.1 d) x.2 (lF r d)=lF r d;rw [hb];rfl
    rw [←this,hl]
   refine ih h hl' hs ?_ hc
   split at hp
   ·cases hs2:sl.contains x.1 with
    |true=>rw [hs2] at hp;exact hp.2
    |false=>rw [hs2] at hp;exact hp
   ·exact hp
theorem AL_ifs {cc:Bool} (hc:cc=true): ∀{ps:List Prop},AL (ifs cc ps)→AL ps:=by
 intro ps
 induction ps with
 |nil=>intro _;trivial
 |cons p r ih=>intro h;exact ⟨h.1 hc,ih h.2⟩
theorem ext_unM {cc:Bool} {sl:List Nat} (he:Ext acc fin) (ho:AL (owM cc sl acc)) (hc:cc=true):ExtS (E.dk cx) kf0 lv (unM sl acc) fin:=fun d hd w v h=>by
 rw [keyF_unM] at hd
 rw [lF_unM hd]
 rw [he d hd] at h
 cases hl:lF acc d with
 |m c F=>
  cases hs:sl.contains d with
  |false=>rw [hl] at h;exact h
  |true=>
   have:=owM_at hd hl hs ho hc
   subst this
   rw [hl] at h
   exact h
 |_=>rw [hl] at h;exact h
theorem info_of {o:Oper} (ho:ops[i]? =some o):info ops i=some (o.dst,o.op,o.guard):=by
 unfold info
 rw [ho]
 rfl
theorem evG_ok (hsz:(dsts ops).contains szSlot=false) {o:Oper} {d:Nat} {F:Fk E.κ} {ps:List Prop} (ho:ops[i]? =some o) (hd:o.dst=some d) (he:Ext acc fin) (h':evG E ft ops V D G h i acc o=some (F,ps)) (hp:AL ps) (hF:lF fin d=F):
  StepAt soft P ops Q (fv (dFs (E.dk cx) kf0 lv fin)) (gv (dG (E.dk cx) kf0 lv G)) (dv (dD (E.dk cx) kf0 lv D)++D2 lv (Fr cx ft) D) V kf0 i:=by
 have hi:=info_of ho
 rw [hd] at hi
 have hun:F= .u→ ∀d',some d=some d'→ ∀w,(fv (dFs (E.dk cx) kf0 lv fin)) d' w undef:=fun e d' ed w=>by
  injection ed with ed
  subst ed
  show (lk (dFs (E.dk cx) kf0 lv fin) d).p w undef
  rw [lk_dFs,hF,e]
  rfl
 have hFd: ∀w v,(dF (E.dk cx) kf0 lv F).p w v→(fv (dFs (E.dk cx) kf0 lv fin)) d w v:=fun w v hv=>by
  show (lk (dFs (E.dk cx) kf0 lv fin) d).p w v
  rw [lk_dFs,hF]
  exact hv
 unfold evG at h'
 split at h'
 ·next hg=>
  rw [hg] at hi
  exact Z.stepN hi (evTe_ok hsz he.sem h' hp hFd)
 ·next j b hg=>
  rw [hg] at hi
  split at h'
  ·next dj hj=>
   cases hc:(depI ops i dj&&keyF acc dj) with
   |false=>rw [hc] at h';cases h'
   |true=>
    rw [hc] at h'
    simp only [_root_.cond_true] at h'
    simp only [Bool.and_eq_true] at hc
    have hfd: ∀w v,(fv (dFs (E.dk cx) kf0 lv fin)) dj w v→(dF (E.dk cx) kf0 lv (lF acc dj)).p w v:=fun w v hv=>by
     have:(lk (dFs (E.dk cx) kf0 lv fin) dj).p w v:=hv
     rwa [lk_dFs,he dj hc.2] at this
    cases hmay:mayB (vaOf h i) with
    |true=>
     rw [hmay] at h'
     simp only [_root_.cond_true] at h'
     split at h'
     ·next cc hg2=>
      split at h'
      ·next F1 p1 e1=>
       injection h' with h'
       injection h' with h1 h2
       subst h1 h2
       obtain ⟨a1,a2⟩:=AL_app hp
       have hno:cc=false→ ∀d',some d=some d'→ ∀w,(fv (dFs (E.dk cx) kf0 lv fin)) d' w undef:=fun e d' ed w=>by
        injection ed with ed
        subst ed
        refine hFd w undef ?_
        rw [e]
        rfl
       have hyes:cc=true→Owes soft P ops Q (fv (dFs (E.dk cx) kf0 lv fin)) (gv (dG (E.dk cx) kf0 lv G)) (dv (dD (E.dk cx) kf0 lv D)++D2 lv (Fr cx ft) D) V kf0 i (some d) o.op:=fun e=>
        evTe_ok hsz (ext_unM he a2 e) e1 (AL_ifs e a1) fun w v hv=>hFd w v (by rw [e];exact hv)
       unfold gOf at hg2
       split at hg2
       ·next c hl=>
        rw [hl] at hfd
        injection hg2 with hg2
        cases hcb:(c==b) with
        |true=>
         have e:c=b:=by simpa using hcb
         subst e
         exact Z.stepG hi hj hc.1 (fun w v hv=>hfd w v hv) (hyes (hg2▸hcb))
        |false=>exact Z.stepS hi hj hc.1 (fun w v hv=>hfd w v hv) hcb (hno (hg2▸hcb))
       ·next c1 c hl=>
        rw [hl] at hfd
        injection hg2 with hg2
        cases c1 with
        |false=>exact Z.stepU hi hj hc.1 (fun w v hv=>hfd w v hv) (hno (by rw [←hg2];rfl))
        |true=>
         cases hcb:(c==b) with
         |true=>
          have e:c=b:=by simpa using hcb
          subst e
          exact Z.stepG hi hj hc.1 (fun w v hv=>hfd w v hv) (hyes (by rw [←hg2,hcb];rfl))
         |false=>exact Z.stepS hi hj hc.1 (fun w v hv=>hfd w v hv) hcb (hno (by rw [←hg2,hcb];rfl))
       ·cases hg2
      ·cases h'
     ·cases h'
    |false=>
    rw [hmay] at h'
    simp only [_root_.cond_false] at h'
    split at h'
    ·next c hl=>
     rw [hl] at hfd
     cases hcb:(c==b) with
     |true=>
      rw [hcb] at h'
      have e:c=b:=by simpa using hcb
      subst e
      exact Z.stepG hi hj hc.1 (fun w v hv=>hfd w v hv) (evTe_ok hsz he.sem h' hp hFd)
     |false=>
      rw [hcb] at h'
      injection h' with h'
      injection h' with h1 h2
      exact Z.stepS hi hj hc.1 (fun w v hv=>hfd w v hv) hcb (hun h1.symm)
    ·next hl=>
     rw [hl] at hfd
     injection h' with h'
     injection h' with h1 h2
     exact Z.stepU hi hj hc.1 (fun w v hv=>hfd w v hv) (hun h1.symm)
    ·cases h'
  ·cases h'
theorem Ext.tail {d:Nat} {F:Fk E.κ} (hk:keyF acc d=false) (he:Ext ((d,F)::acc) fin):Ext acc fin∧lF fin d=F:=by
 refine ⟨fun x hx=> ?_, ?_⟩
 ·have hne:Nat.beq d x=false:=by
   cases hb:Nat.beq d x with
   |false=>rfl
   |true=>rw [Nat.eq_of_beq_eq_true hb] at hk;rw [hk] at hx;cases hx
  have h1:=he x (by unfold keyF at hx⊢;rw [List.any_cons,hx,Bool.or_true])
  rw [h1]
  show cond (Nat.beq d x) F (lF acc x)=lF acc x
  rw [hne]
  rfl
 ·have h1:=he d (by unfold keyF;rw [List.any_cons];simp)
  rw [h1]
  show cond (Nat.beq d d) F (lF acc d)=F
  rw [Nat.beq_refl]
  rfl
theorem isNopS {i:Nat} {o:Oper} {F:Facts} {Gv:List Vr} {Dv:List (Nat×Pr)} (hget:ops[i]? =some o) (hn:isNop o=true):StepAt soft P ops Q F Gv Dv V kf0 i:=by
 intro _ _ o' ho' a w _
 rw [hget] at ho'
 injection ho' with ho'
 subst ho'
 obtain ⟨e1,_,_⟩:=nop_spec hn
 exact nop_in hget hn ⟨undef,by rw [e1];rfl,fun d hd=>(by rw [e1] at hd;cases hd),Grow.refl w⟩
theorem go_ok (hsz:(dsts ops).contains szSlot=false): ∀(l:List Oper) (i:Nat) (acc fin:FX E.κ) (ps:List Prop),go E ft ops V D G h l i acc=some (fin,ps)→ops.toList.drop i=l→AL ps→Ext acc fin∧ ∀j,i≤j→j<ops.size→StepAt soft P ops Q (fv (dFs (E.dk cx) kf0 lv fin)) (gv (dG (E.dk cx) kf0 lv G)) (dv (dD (E.dk cx) kf0 lv D)++D2 lv (Fr cx ft) D) V kf0 j:=by
 intro l
 induction l with
 |nil=>
  intro i acc fin ps hg hl _
  injection hg with hg
  injection hg with h1 h2
  subst h1
  refine ⟨fun _ _=>rfl,fun j hij hj=> ?_⟩
  have:ops.toList.length≤i:=List.drop_eq_nil_iff.1 hl
  simp at this
  omega
 |cons o r ih=>
  intro i acc fin ps hg hl hp
  have hlt:i<ops.toList.length:=by
   rcases Nat.lt_or_ge i ops.toList.length with h1|h1
   ·exact h1
   ·rw [List.drop_eq_nil_of_le h1] at hl;cases hl
  have hget:ops[i]? =some o:=by
   rw [←Array.getElem?_toList,List.getElem?_eq_getElem hlt]
   have:=List.drop_eq_getElem_cons hlt
   rw [this] at hl
   injection hl with h1 _
   rw [h1]
  have hl':ops.toList.drop (i+1)=r:=by
   have:=List.drop_eq_getElem_cons hlt
   rw [this] at hl
   injection hl
  unfold go at hg
  cases hv:(isAl V i||isSt V i||isNop o) with
  |true=>
   rw [hv] at hg
   obtain ⟨e1,e2⟩:=ih (i+1) acc fin ps hg hl' hp
   refine ⟨e1,fun j hij hj=> ?_⟩
   rcases Nat.lt_or_eq_of_le hij with h1|h1
   ·exact e2 j h1 hj
   ·subst h1
    simp only [Bool.or_eq_true] at hv
    rcases hv with (hv|hv)|hv
    ·exact isAlloc hv
    ·exact isStore hv
    ·exact isNopS hget hv
  |false=>
   rw [hv] at hg
   simp only [_root_.cond_false] at hg
   split at hg
   ·cases hg
   ·next d hd=>
    cases hk:keyF acc d with
    |true=>rw [hk] at hg;cases hg
    |false=>
     rw [hk] at hg
     simp only [_root_.cond_false] at hg
     split at hg
     ·cases hg
     ·next F p1 e1=>
      split at hg
      ·cases hg
      ·next fs qs e2=>
       injection hg with hg
       injection hg with h1 h2
       subst h1 h2
       obtain ⟨a1,a2⟩:=AL_app hp
       obtain ⟨x1,x2⟩:=ih (i+1) _ _ _ e2 hl' a2
       obtain ⟨t1,t2⟩:=Ext.tail hk x1
       refine ⟨t1,fun j hij hj=> ?_⟩
       rcases Nat.lt_or_eq_of_le hij with h1|h1
       ·exact x2 j h1 hj
       ·subst h1
        exact evG_ok hsz hget hd t1 e1 a1 t2
end
end
end Go.Proofs.YthebilnlljkfeaaGreatDoor.X
