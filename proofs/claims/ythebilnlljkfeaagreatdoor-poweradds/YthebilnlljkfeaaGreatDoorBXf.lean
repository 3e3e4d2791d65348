/- One text out of: Xf. -/
import Derived.Test.YthebilnlljkfeaaGreatDoorBXc
import Derived.Deep.LoopGhost
namespace Go.Proofs.YthebilnlljkfeaaGreatDoor.X
open Go.RowKit Go.Proofs.YthebilnlljkfeaaGreatDoor.Z
open Go.Proofs.YthebilnlljkfeaaGreatDoor.Rg (depI Facts dsts info run_wanted)
def opS {κ:Type} (S:Sx κ):Operand→Option (Ks κ)
 | .tmp x=>cond (hasD S.D x) (some (match lS S.D x with
  | .V d=>cond (hasD S.D d) (lS S.D d) (.V d)
  |k=>k)) none
 | .const v=>some (.E v)
 |_=>none
def asL {κ:Type} (T sz:Nat):Ks κ→Option (List (List Value)×Bool)
 | .L T' sz' l o=>cond (Nat.beq T' T&&Nat.beq sz' sz) (some (l,o)) none
 | .E (.slice none 0 0)=>some ([],true)
 |_=>none
def asM {κ:Type} (T sz:Nat):Ks κ→Option (List κ×Nat)
 | .M T' sz' os o=>cond (Nat.beq T' T&&Nat.beq sz' sz) (some (os,o)) none
 | .E (.slice none 0 0)=>some ([],1)
 |_=>none
def rootS {κ:Type} (S:Sx κ):Operand→Nat
 | .tmp x=>match lS S.D x with
  | .V d=>d
  |_=>x
 |_=>apSlot
def apB (ds:List (Nat×Nat)) (a b:Nat):Bool:=ds.any fun x=>(Nat.beq x.1 a&&Nat.beq x.2 b)||(Nat.beq x.1 b&&Nat.beq x.2 a)
def ownK {κ:Type}:Ks κ→Bool
 | .L _ _ _ true=>true
 | .M _ _ _ 1=>true
 | .E (.slice none 0 0)=>true
 |_=>false
def apAp {κ:Type} (S:Sx κ) (d r:Nat):List (Nat×Nat):=((apL S.D).filter fun x=> !Nat.beq x.1 d&& !Nat.beq x.2 d)++(apL S.D).flatMap fun x=>
 cond (Nat.beq x.1 r&& !Nat.beq x.2 d&&hasD S.D x.2&&ownK (lS S.D x.2)) [(d,x.2)] (cond (Nat.beq x.2 r&& !Nat.beq x.1 d&&hasD S.D x.1&&ownK (lS S.D x.1)) [(d,x.1)] [])
def elOf (P:Program) (t:TypeId):Option (Nat×Nat×Nat):=match P.underlying t with
 |some (.slice T)=>match P.info? T with
  |some i=>match i.zero with
   |some z=>cond (Nat.beq z.cells.size i.size&&z.cells.all pv&& !hardTy T&& !Nat.beq i.size 0&& !Nat.beq i.bytes 0&& !Nat.beq itT T) (some (T,i.size,i.bytes)) none
   |none=>none
  |none=>none
 |_=>none
def trK {κ:Type} (T d:Nat) (kp:Bool):Ks κ→Ks κ
 | .L T' sz l o=>cond (o&&Nat.beq T' T&& !kp) .X (.L T' sz l o)
 | .M T' sz os 0=> .M T' sz os 0
 | .M T' sz os 1=>cond (Nat.beq T' T&& !kp) .X (.M T' sz os 1)
 | .M _ _ _ (_+2)=> .X
 | .F _ _ _=> .X
 | .B _ _=> .X
 | .N ds=> .N (ds.filter fun x=> !Nat.beq x.1 d&& !Nat.beq x.2 d)
 | .A _=> .X
 | .C _ _=> .X
 | .I s pos=>cond (Nat.beq itT T) .X (.I s pos)
 | .V d'=>cond (Nat.beq d' d) .X (.V d')
 | .Q d' k sz=>cond (Nat.beq d' d) .X (.Q d' k sz)
 |k=>k
def dropT {κ:Type} (T d:Nat) (kp:Nat→Bool) (D:DL κ):DL κ:=(D.filter fun x=> !Nat.beq x.1 d).map fun x=>(x.1,trK T d (kp x.1) x.2)
def noAp {κ:Type} (D:DL κ):DL κ:=D.filter fun x=> !Nat.beq x.1 apSlot
def plain {κ:Type}:Ks κ→Bool
 | .X=>true
 | .S _=>true
 | .E _=>true
 | .O _=>true
 |_=>false
def noT:Nat:=1000001
def rkL {κ:Type} (S:Sx κ) (d T sz:Nat) (l:List (List Value)) (k1:Ks κ) (x:Operand):DL κ:=match k1,x with
 | .L _ _ _ true, .tmp _=>cond (Nat.beq (rootS S x) d||Nat.beq (rootS S x) apSlot) [] [(rootS S x, .L T sz l true)]
 |_,_=> []
def efAp {κ:Type} (P:Program) (n:Nat) (S:Sx κ) (d t t':Nat) (x y:Operand):Option (Sx κ×List Prop):=match elOf P t,opS S x,opS S y with
 |some (T,sz,by'),some k1,some k2=>match asL T sz k1,asL T sz k2 with
  |some (l1,true),some (l2,o2)=>cond (decide (d<n)&& !Nat.beq apSlot d&& !hasX S.G d&&Nat.beq t t'&&S.G.all (fun x=>plain x.k)) (some (⟨(d, .L T sz (l1++l2) true)::(apSlot, .N (apAp S d (rootS S x)))::(rkL S d T sz l1 k1 x++dropT T d (fun e=>apB (apL S.D) (rootS S x) e) (noAp S.D)),S.G⟩,[(l1.length+l2.length)*by'≤140737488355328]++cond o2 [] [∀r∈l2,∀x∈r,pv x=true])) none
  |_,_=>match asM T sz k1,asM T sz k2 with
   |some (l1,1),some (l2,1)=>cond (decide (d<n)&& !Nat.beq apSlot d&& !hasX S.G d&&Nat.beq t t'&&S.G.all (fun x=>plain x.k)) (some (⟨(d, .M T sz (l1++l2) 1)::(apSlot, .N (apAp S d (rootS S x)))::dropT T d (fun e=>apB (apL S.D) (rootS S x) e) (noAp S.D),S.G⟩,[(l1.length+l2.length)*by'≤140737488355328])) none
   |_,_=>none
 |_,_,_=>none
def rune (s:List UInt8) (pos:Nat):Nat:=(Utf8.decode ⟨⟨s⟩⟩ pos).1
def runeW (s:List UInt8) (pos:Nat):Nat:=(Utf8.decode ⟨⟨s⟩⟩ pos).2
def efNx {κ:Type} (n va:Nat) (S:Sx κ) (d it:Nat):Option (Sx κ×List Prop):=match cond (hasD S.D it) (lS S.D it) .X with
 | .I s pos=>cond (decide (d<n)&& !hasX S.G d&& !Nat.beq it d&&S.G.all (fun x=>plain x.k)) (cond (Nat.beq va 1) (some (⟨(d, .E (.tuple ⟨[.bool true, .int .i64 ((pos:Nat):Int), .int .i32 ((rune s pos:Nat):Int)]⟩))::(it, .I s (pos+runeW s pos))::dropT itT d (fun _=>false) (S.D.filter fun x=> !Nat.beq x.1 it),S.G⟩,[pos<s.length]))
   (some (⟨(d, .E (.tuple ⟨[.bool false]⟩))::dropT noT d (fun _=>false) S.D,S.G⟩,[s.length≤pos]))) none
 |_=>none
def efSt {κ:Type} (P:Program) (S:Sx κ) (t p:Nat) (y:Operand):Option (Sx κ×List Prop):=match cond (hasD S.D p) (lS S.D p) .X,opS S y with
 | .P q off,some (.E v)=>match (lG S.G q).k with
  | .E (.agg ⟨cs⟩)=>cond (hasX S.G q&&((P.info? t).map (·.size)).any (fun m=>Nat.beq m v.cells.size)&&v.cells.all (·.oneCell')&&Nat.ble (off+v.cells.size) cs.length&&fitB P (lG S.G q).ty (.agg ⟨cs.take off++v.cells.toList++cs.drop (off+v.cells.toList.length)⟩)&&S.G.all (fun x=>plain x.k))
   (some (⟨S.D,S.G.map fun x=>cond (Nat.beq x.slot q) ⟨x.slot,x.ty, .E (.agg ⟨cs.take off++v.cells.toList++cs.drop (off+v.cells.toList.length)⟩)⟩ x⟩,[])) none
  |_=>none
 | .Q d k sz,some (.E v)=>match cond (hasD S.D d) (lS S.D d) .X with
  | .L T sz' l true=>cond (Nat.beq sz' sz&&Nat.beq t T&&Nat.beq v.cells.size sz&&v.cells.all pv&& !hardTy T&& !Nat.beq itT T&&((P.info? t).map (·.size)).any (fun m=>Nat.beq m v.cells.size)&& !hasX S.G d&& !Nat.beq apSlot d&&S.G.all (fun x=>plain x.k)) (some (⟨(d, .L T sz (l.set k v.cells.toList) true)::(apSlot, .N (apL S.D))::dropT T d (fun e=>apB (apL S.D) d e) (noAp S.D),S.G⟩,[k<l.length])) none
  |_=>none
 |_,_=>none
def runEf {κ:Type} (P:Program) (n va:Nat) (o:Oper) (S:Sx κ):Option (Sx κ×List Prop):=match o.guard,o.op,o.dst with
 |none, .call c,some d=>match c.callee,c.args.toList,c.argTypes.toList with
  | .builtin .append,[x,y],[t,t']=>efAp P n S d t t' x y
  |_,_,_=>none
 |none, .next (.tmp it) true,some d=>efNx n va S d it
 |none, .store t (.tmp p) y,none=>efSt P S t p y
 |_,_,_=>none
def argT {κ:Type}:Ks κ→Ks κ
 | .C f rows=> .C f rows
 | .E v=> .E v
 |_=> .X
def argO {κ:Type} (S:Sx κ):Operand→Option (Ks κ)
 | .func f=>some (.E (.func (.func f) #[] #[]))
 |x=>opS S x
def argsT {κ:Type} (S:Sx κ):List Operand→Option (List (Ks κ))
 | []=>some []
 |x::r=>match argO S x,argsT S r with
  |some k,some ks=>some (argT k::ks)
  |_,_=>none
section
variable {P:Program} {κ:Type} {dk: ∀cx,κ→Kd P cx}
def findT:List (Tt dk)→FuncId→Option (Tt dk)
 | [],_=>none
 |c::r,f=>cond (Nat.beq c.f f) (some c) (findT r f)
theorem findT_ok: ∀{l:List (Tt dk)} {f:FuncId} {c:Tt dk},findT l f=some c→c.f=f:=by
 intro l
 induction l with
 |nil=>intro f c h;cases h
 |cons x r ih=>
  intro f c h
  simp only [findT] at h
  cases hb:Nat.beq x.f f with
  |true=>
   rw [hb] at h
   injection h with h
   subst h
   exact Nat.eq_of_beq_eq_true hb
  |false=>rw [hb] at h;exact ih h
end
def isTmp:Operand→Bool
 | .tmp _=>true
 |_=>false
def forg {κ:Type} (d:Nat) (S:Sx κ):Sx κ:=⟨(d, .X)::dropT noT d (fun _=>false) S.D,S.G⟩
def efTc {P:Program} {κ:Type} {dk: ∀cx,κ→Kd P cx} (n:Nat) (S:Sx κ) (d:Nat) (t:Tt dk) (x:Operand) (xs:List Operand):Option (Sx κ×List Prop):=match opS S x,argsT S xs with
 |some k,some ks=>match asL t.T t.sz k with
  |some (l,true)=>match t.run l ks with
   |some (l',ps)=>cond (decide (d<n)&& !Nat.beq apSlot d&& !hasX S.G d&& !hardTy t.T&& !Nat.beq itT t.T&&S.G.all (fun x=>plain x.k))
    (cond t.ans (some (⟨(d, .L t.T t.sz l' true)::(apSlot, .N (apAp S d (rootS S x)))::dropT t.T d (fun e=>apB (apL S.D) (rootS S x) e) (noAp S.D),S.G⟩,ps))
     (cond (isTmp x&&decide (rootS S x<n)&& !Nat.beq (rootS S x) d&& !Nat.beq apSlot (rootS S x)&& !hasX S.G (rootS S x)) (some (⟨(rootS S x, .L t.T t.sz l' true)::(apSlot, .N (apL (forg d S).D))::dropT t.T (rootS S x) (fun e=>apB (apL (forg d S).D) (rootS S x) e) (noAp (forg d S).D),S.G⟩,ps)) none)) none
   |none=>none
  |_=>none
 |_,_=>none
def runEfT {P:Program} (E:Env P) (n va:Nat) (o:Oper) (S:Sx E.κ):Option (Sx E.κ×List Prop):=match o.guard,o.op,o.dst with
 |none, .call c,some d=>match c.callee,c.args.toList with
  | .value (.func f),x::xs=>match findT E.tc f with
   |some t=>efTc n S d t x xs
   |none=>none
  |_,_=>runEf P n va o S
 |_,_,_=>runEf P n va o S
section
variable {P:Program} {E:Env P} {n:Nat} {S S':Sx E.κ} {wE:World} {kf:Nat→Nat} {a:Act} {w:World}
theorem opS_ok (hS:SX n S wE kf a w) {x:Operand} {k:Ks E.κ} (h:opS S x=some k):(dS (E.dk (cxOf (gTy S.G) kf wE.heap.size)) kf (lvOf a) k).p w (a.eval x):=by
 cases x with
 |tmp x=>
  simp only [opS] at h
  cases hd:hasD S.D x with
  |false=>rw [hd] at h;cases h
  |true=>
   rw [hd] at h
   injection h with h
   have hx:=hS.d hd
   split at h
   ·next d e=>
    cases hd2:hasD S.D d with
    |false=>rw [hd2] at h;subst h;rw [e] at hx;exact hx
    |true=>
     rw [hd2] at h
     subst h
     rw [e] at hx
     have e2:a.tmps.getD x undef=lvOf a d:=hx
     show (dS _ kf (lvOf a) (lS S.D d)).p w (a.tmps.getD x undef)
     rw [e2]
     exact hS.d hd2
   ·subst h;exact hx
 |const v=>injection h with h;subst h;exact rfl
 |_=>cases h
theorem nil_Ow {cx:Cx} {T sz:Nat} {w:World}:isOw cx T sz [] w (.slice none 0 0):=⟨(fun r h=>by cases h),⟨by simp, .inl ⟨rfl,rfl⟩⟩,(fun b e=>by cases e)⟩
theorem asL_ok {cx:Cx} {kf:Nat→Nat} {lv:Nat→Value} {T sz:Nat} {k:Ks E.κ} {l:List (List Value)} {o:Bool} {v:Value} (h:asL T sz k=some (l,o)) (hk:(dS (E.dk cx) kf lv k).p w v):isLs cx T sz l o w v:=by
 unfold asL at h
 split at h
 ·next T' sz' l' o'=>
  cases hc:(Nat.beq T' T&&Nat.beq sz' sz) with
  |false=>rw [hc] at h;cases h
  |true=>
   rw [hc] at h
   simp only [Bool.and_eq_true] at hc
   injection h with h
   injection h with h1 h2
   obtain rfl:=Nat.eq_of_beq_eq_true hc.1
   obtain rfl:=Nat.eq_of_beq_eq_true hc.2
   subst h1 h2
   exact hk
 ·injection h with h
  injection h with h1 h2
  subst h1 h2
  have e:v= .slice none 0 0:=hk
  rw [e]
  exact nil_Ow
 ·cases h
theorem elOf_ok {t T sz by':Nat} (h:elOf P t=some (T,sz,by')):P.underlying t=some (.slice T)∧ ∃i z,P.info? T=some i∧i.zero=some z∧i.size=sz∧i.bytes=by'∧z.cells.size=sz∧z.cells.all pv=true∧hardTy T=false∧0<sz∧0<by'∧Nat.beq itT T=false:=by
 unfold elOf at h
 split at h
 ·next T' hu=>
  split at h
  ·next i hi=>
   split at h
   ·next z hz=>
    cases hc:(Nat.beq z.cells.size i.size&&z.cells.all pv&& !hardTy T'&& !Nat.beq i.size 0&& !Nat.beq i.bytes 0&& !Nat.beq itT T') with
    |false=>rw [hc] at h;cases h
    |true=>
     rw [hc] at h
     injection h with h
     injection h with h1 h2
     injection h2 with h2 h3
     subst h1 h2 h3
     simp only [Bool.and_eq_true,Bool.not_eq_true'] at hc
     obtain ⟨⟨⟨⟨⟨c1,c2⟩,c3⟩,c4⟩,c5⟩,c6⟩:=hc
     have pos: ∀{m:Nat},Nat.beq m 0=false→0<m:=fun {m} h=>Nat.pos_of_ne_zero fun e=>by rw [e] at h;cases h
     exact ⟨hu,i,z,hi,hz,rfl,rfl,Nat.eq_of_beq_eq_true c1,c2,c3,pos c4,pos c5,c6⟩
   ·cases h
  ·cases h
 ·cases h
theorem fl_tr {tb:Nat→Bool} {T:Nat} {cx:Cx} {w':World} (hE:EvoE (eC soft (cx.turn tb T)) w w') {fs:List (Fd E.κ)} {vs:List Value} (h:flds (E.dk cx) w fs vs):flds (E.dk cx) w' fs vs:=by
 have s1: ∀{fs:List (Fd E.κ)} {vs:List Value},flds (E.dk cx) w fs vs→flds (E.dk (cx.turn tb T)) w fs vs:=by
  intro fs
  induction fs with
  |nil=>intro vs h;exact h
  |cons f r ih=>
   intro vs h
   cases f with
   |v x=>obtain ⟨us,e,h⟩:=h;exact ⟨us,e,ih h⟩
   |l T' sz rows=>obtain ⟨u,us,e,h1,h⟩:=h;exact ⟨u,us,e,isLs.turn (T':=T') (o:=false) (.inl rfl) h1,ih h⟩
   |o k t n=>obtain ⟨us,us',e,h0,h1,h⟩:=h;exact ⟨us,us',e,h0,by rw [(E.dcx k (cx.turn tb T) cx).1];exact h1,ih h⟩
 refine fl_cx (cx:=cx.turn tb T) (cx':=cx) (fun b t _ h=> ?_) (Nat.le_refl _) (stb_fl hE (s1 h))
 have:(cx.ban b t||(Nat.beq t T&&decide (cx.own≤b)&&tb b))=false:=h
 exact (Bool.or_eq_false_iff.1 this).1
theorem dS_tr {tb:Nat→Bool} {T d:Nat} {kp:Bool} {lv lv':Nat→Value} {cx:Cx} {w':World} {v:Value} (hE:EvoE (eC soft (cx.turn tb T)) w w') (hlv: ∀d',d'≠d→lv' d'=lv d') (hkp:kp=true→ ∀b,v.ownBlock=some b→tb b=false): ∀{k:Ks E.κ},(dS (E.dk cx) kf lv k).p w v→(dS (E.dk cx) kf lv' (trK T d kp k)).p w' v:=by
 have back: ∀b t,b<w'.heap.size→(cx.turn tb T).ban b t=false→cx.ban b t=false:=fun b t _ h=>by
  have:(cx.ban b t||(Nat.beq t T&&decide (cx.own≤b)&&tb b))=false:=h
  exact (Bool.or_eq_false_iff.1 this).1
 have ne: ∀{d'},Nat.beq d' d=false→d'≠d:=fun {d'} h e=>by rw [e,Nat.beq_refl] at h;cases h
 have ko: ∀{o:E.κ} {u:Value},(E.dk cx o).p w u→(E.dk cx o).p w' u:=fun {o u} h=>by
  rw [(E.dcx o cx (cx.turn tb T)).1]
  refine (E.dk (cx.turn tb T) o).st _ _ _ ?_ hE
  rw [(E.dcx o (cx.turn tb T) cx).1]
  exact h
 have ls: ∀{T' sz:Nat} {l:List (List Value)} {o:Bool},(o&&Nat.beq T' T&& !kp)=false→isLs cx T' sz l o w v→isLs cx T' sz l o w' v:=fun {T' sz l o} hc h=>by
  have hc':(o&&Nat.beq T' T)=false∨ ∀b,v.ownBlock=some b→tb b=false:=by
   cases hk:kp with
   |true=>exact .inr (hkp hk)
   |false=>rw [hk,Bool.not_false,Bool.and_true] at hc;exact .inl hc
  have h2:=stb_Ls _ _ _ (isLs.turn hc' h) hE
  cases o with
  |true=>exact isOw.mono back (Nat.le_refl _) h2
  |false=>exact isRd.mono back (fun _=>Nat.le_refl _) h2
 have lo: ∀{T' sz:Nat} {os:List E.κ} {o:Bool},(o&&Nat.beq T' T&& !kp)=false→isLo cx T' sz (os.map fun x=>(E.dk cx x).p) o w v→isLo cx T' sz (os.map fun x=>(E.dk cx x).p) o w' v:=fun {T' sz os o} hc ⟨rows,h1,h2⟩=>
  ⟨rows,ls hc h1,h2.impM fun p hp r hr=>by obtain ⟨x,_,rfl⟩:=List.mem_map.1 hp;exact ko hr⟩
 intro k h
 cases k with
 |O o=>exact ko h
 |L T' sz l o=>
  show (dS (E.dk cx) kf lv' (cond (o&&Nat.beq T' T&& !kp) .X (.L T' sz l o))).p w' v
  cases hc:(o&&Nat.beq T' T&& !kp) with
  |true=>trivial
  |false=>exact ls hc h
 |M T' sz os o=>
  match o,h with
  |0,h=>exact lo (o:=false) rfl h
  |1,h=>
   show (dS (E.dk cx) kf lv' (cond (Nat.beq T' T&& !kp) .X (.M T' sz os 1))).p w' v
   cases hc:(Nat.beq T' T&& !kp) with
   |true=>trivial
   |false=>exact lo (o:=true) (by rw [Bool.true_and];exact hc) h
  |_+2,h=>trivial
 |F T' sz l=>trivial
 |B sz o=>trivial
 |S fs=>
  obtain ⟨vs,e,h⟩:=h
  exact ⟨vs,e,fl_tr hE h⟩
 |N ds=>
  intro x hx
  obtain ⟨h1,h2⟩:=List.mem_filter.1 hx
  simp only [Bool.and_eq_true,Bool.not_eq_true'] at h2
  rw [hlv _ (ne h2.1),hlv _ (ne h2.2)]
  exact h x h1
 |A row=>trivial
 |C f rows=>trivial
 |I s pos=>
  show (dS (E.dk cx) kf lv' (cond (Nat.beq itT T) .X (.I s pos))).p w' v
  cases hc:Nat.beq itT T with
  |true=>trivial
  |false=>exact isIt.mono back (Nat.le_refl _) (stb_It _ _ _ (isIt.turn hc h) hE)
 |V d'=>
  show (dS (E.dk cx) kf lv' (cond (Nat.beq d' d) .X (.V d'))).p w' v
  cases hc:Nat.beq d' d with
  |true=>trivial
  |false=>show v=lv' d';rw [hlv d' (ne hc)];exact h
 |Q d' k sz=>
  show (dS (E.dk cx) kf lv' (cond (Nat.beq d' d) .X (.Q d' k sz))).p w' v
  cases hc:Nat.beq d' d with
  |true=>trivial
  |false=>show v=eaddr (lv' d') (k*sz);rw [hlv d' (ne hc)];exact h
 |_=>exact h
theorem plain_lv {cx:Cx} {lv lv':Nat→Value} {k:Ks E.κ} (h:plain k=true):dS (E.dk cx) kf lv k=dS (E.dk cx) kf lv' k:=by
 cases k<;>first|rfl|cases h
theorem plain_tr {T d:Nat} {kp:Bool} {k:Ks E.κ} (h:plain k=true):trK T d kp k=k:=by
 cases k<;>first|rfl|cases h
theorem SX.turn (hS:SX n S wE kf a w) {tb:Nat→Bool} {kp:Nat→Bool} (hkp: ∀e,kp e=true→ ∀b,(a.tmps.getD e undef).ownBlock=some b→tb b=false) {T d:Nat} {v:Value} {w':World} {k:Ks E.κ} {D1:DL E.κ} (hd:d<n) (hG:hasX S.G d=false) (hpl:S.G.all (fun x=>plain x.k)=true) (hg:Grow wE w') (hE:EvoE (eC soft ((cxOf (gTy S.G) kf wE.heap.size).turn tb T)) w w') (hV: ∀x∈S.G,w'.heap[kf x.slot]? =w.heap[kf x.slot]?)
  (hk:(dS (E.dk (cxOf (gTy S.G) kf wE.heap.size)) kf (lvOf (a.put (some d) v)) k).p w' v) (h1: ∀x∈D1,x.1≠d∧(dS (E.dk (cxOf (gTy S.G) kf wE.heap.size)) kf (lvOf (a.put (some d) v)) x.2).p w' (a.tmps.getD x.1 undef)) {D2:DL E.κ} (h2: ∀x∈D2,x∈S.D):SX n ⟨(d,k)::(D1++dropT T d kp D2),S.G⟩ wE kf (a.put (some d) v) w':=by
 have hput: ∀{e:Nat},e≠d→(a.put (some d) v).tmps.getD e undef=a.tmps.getD e undef:=fun {e} he=>put_other (fun h=>he (by injection h with h;exact h.symm))
 have hGd: ∀x∈S.G,x.slot≠d:=fun x hx e=>by
  have:hasX S.G d=true:=List.any_eq_true.2 ⟨x,hx,by rw [e];simp⟩
  rw [hG] at this
  cases this
 refine ⟨by rw [put_size];exact hS.size,by rw [put_defers];exact hS.defers,hg, ?_, ?_, ?_⟩
 ·refine vars_cx fun x hx=> ?_
  obtain ⟨g1,g2,cs,g3,g4,g5⟩:=hS.vars _ (List.mem_map.2 ⟨_,List.mem_map.2 ⟨x,hx,rfl⟩,rfl⟩)
  have hp:=List.all_eq_true.1 hpl x hx
  refine ⟨by rw [hput (hGd x hx)];exact g1,g2,cs,by rw [hV x hx];exact g3,g4, ?_⟩
  have:=dS_tr (E:=E) (d:=d) (kp:=false) (lv':=lvOf (a.put (some d) v)) hE (fun d' hd'=>hput hd') (fun h=>by cases h) g5
  rw [plain_tr hp] at this
  exact this
 ·intro x hx y hy
  obtain ⟨x',hx',rfl⟩:=List.mem_map.1 hx
  obtain ⟨y',hy',rfl⟩:=List.mem_map.1 hy
  obtain ⟨x2,hx2,rfl⟩:=List.mem_map.1 hx'
  obtain ⟨y2,hy2,rfl⟩:=List.mem_map.1 hy'
  exact fun hne=>ap_of hS hx2 hy2 hne
 ·intro x hx
  obtain ⟨y,hy,rfl⟩:=List.mem_map.1 hx
  obtain ⟨z,hz,rfl⟩:=List.mem_map.1 hy
  rcases List.mem_cons.1 hz with rfl|hz
  ·show (dS _ kf _ k).p w' ((a.put (some d) v).tmps.getD d undef)
   rw [mem_put (by rw [hS.size];exact hd)]
   exact hk
  ·rcases List.mem_append.1 hz with hz|hz
   ·obtain ⟨e1,e2⟩:=h1 z hz
    show (dS _ kf _ z.2).p w' ((a.put (some d) v).tmps.getD z.1 undef)
    rw [hput e1]
    exact e2
   ·obtain ⟨u,hu,rfl⟩:=List.mem_map.1 hz
    obtain ⟨hu,hne⟩:=List.mem_filter.1 hu
    have hne':u.1≠d:=fun e=>by rw [e] at hne;simp at hne
    show (dS _ kf _ (trK T d (kp u.1) u.2)).p w' ((a.put (some d) v).tmps.getD u.1 undef)
    rw [hput hne']
    exact dS_tr hE (fun d' hd'=>hput hd') (hkp u.1) (hS.facts _ (List.mem_map.2 ⟨_,List.mem_map.2 ⟨u,h2 u hu,rfl⟩,rfl⟩))
theorem grow_by {w':World} {r:Option Nat} (hS:SX n S wE kf a w) (hg:w.grownBy w' r) (hr: ∀b,r=some b→wE.heap.size≤b):Grow wE w':=
 ⟨hg.os.trans hS.grow.os,hg.tape.trans hS.grow.tape,hg.output.trans hS.grow.output,Nat.le_trans hS.grow.size hg.size,fun b hb=>(hg.block b (Nat.lt_of_lt_of_le hb hS.grow.size) (fun e=>by have:=hr b e.symm;omega)).trans (Below.block hS.grow b hb)⟩
variable {Q:Exit→Act→World→Prop}
theorem root_ok (hS:SX n S wE kf a w) {x:Operand} {T sz:Nat} {k:Ks E.κ} (ho:opS S x=some k) (hk:(asL T sz k).isSome=true∨(asM T sz k).isSome=true):(a.eval x).ownBlock=none∨a.eval x=a.tmps.getD (rootS S x) undef:=by
 cases x with
 |tmp x=>
  right
  simp only [opS] at ho
  cases hd:hasD S.D x with
  |false=>rw [hd] at ho;cases ho
  |true=>
   have:=hS.d hd
   show a.tmps.getD x undef=_
   simp only [rootS]
   split
   ·next d e=>rw [e] at this;exact this
   ·rfl
 |const v=>
  left
  injection ho with ho
  subst ho
  have:v= .slice none 0 0:=by
   rcases hk with hk|hk
   ·unfold asL at hk
    split at hk
    ·next e=>cases e
    ·next e=>injection e
    ·cases hk
   ·unfold asM at hk
    split at hk
    ·next e=>cases e
    ·next e=>injection e
    ·cases hk
  show v.ownBlock=none
  rw [this]
  rfl
 |_=>cases ho
theorem apL_ok (hS:SX n S wE kf a w): ∀x∈apL S.D,apV (a.tmps.getD x.1 undef) (a.tmps.getD x.2 undef):=by
 intro x hx
 unfold apL at hx
 split at hx
 ·next ds e=>
  have hd:hasD S.D apSlot=true:=by
   cases hh:hasD S.D apSlot with
   |true=>rfl
   |false=>rw [lS_none hh] at e;cases e
  have:=hS.d hd
  rw [e] at this
  exact this x hx
 ·cases hx
theorem apV_sym {u v:Value} (h:apV u v):apV v u:=fun b h1 h2=>h b h2 h1
theorem apB_ok (hS:SX n S wE kf a w) {r e:Nat} (h:apB (apL S.D) r e=true):apV (a.tmps.getD r undef) (a.tmps.getD e undef):=by
 obtain ⟨x,hx,h⟩:=List.any_eq_true.1 h
 have hp:=apL_ok hS x hx
 simp only [Bool.or_eq_true,Bool.and_eq_true] at h
 rcases h with ⟨h1,h2⟩|⟨h1,h2⟩
 ·rw [←Nat.eq_of_beq_eq_true h1,←Nat.eq_of_beq_eq_true h2];exact hp
 ·rw [←Nat.eq_of_beq_eq_true h1,←Nat.eq_of_beq_eq_true h2];exact apV_sym hp
theorem ownK_lt (hS:SX n S wE kf a w) {e b:Nat} (hd:hasD S.D e=true) (hk:ownK (lS S.D e)=true) (h:(a.tmps.getD e undef).ownBlock=some b):b<w.heap.size:=by
 have hv:=hS.d hd
 unfold ownK at hk
 split at hk
 ·next T sz l ek=>exact own_lt (T:=T) (kf:=kf) (k:=lS S.D e) (by rw [ek];rfl) hv h
 ·next T sz l ek=>exact own_lt (T:=T) (kf:=kf) (k:=lS S.D e) (by rw [ek];rfl) hv h
 ·next ek=>
  rw [ek] at hv
  have hv':a.tmps.getD e undef= .slice none 0 0:=hv
  rw [hv'] at h
  cases h
 ·cases hk
theorem SX.handOn (hS:SX n S wE kf a w) {d T sz:Nat} {x:Operand} {k1:Ks E.κ} (e1:opS S x=some k1) (hk1:(asL T sz k1).isSome=true∨(asM T sz k1).isSome=true) {v':Value} {w':World} {k:Ks E.κ} (c1:d<n) (c5:Nat.beq apSlot d=false) (c2:hasX S.G d=false) (c4:S.G.all (fun x=>plain x.k)=true)
  (r2:w.grownBy w' (a.eval x).ownBlock) (r3:EvoE (eC soft ((cxOf (gTy S.G) kf wE.heap.size).turn (fun b=>decide ((a.eval x).ownBlock=some b)) T)) w w') (r5: ∀b,v'.ownBlock=some b→(a.eval x).ownBlock=some b∨w.heap.size≤b) (r4: ∀b,(a.eval x).ownBlock=some b→(cxOf (gTy S.G) kf wE.heap.size).ban b T=false∧(cxOf (gTy S.G) kf wE.heap.size).own≤b∧ ∃cs,w.heap[b]? =some (.cells cs T (0,0)))
  (hk:(dS (E.dk (cxOf (gTy S.G) kf wE.heap.size)) kf (lvOf (a.put (some d) v')) k).p w' v'):SX n ⟨(d,k)::(apSlot, .N (apAp S d (rootS S x)))::dropT T d (fun e=>apB (apL S.D) (rootS S x) e) (noAp S.D),S.G⟩ wE kf (a.put (some d) v') w':=by
 have hroot:=root_ok hS e1 hk1
 have hne:apSlot≠d:=fun e=>by rw [e,Nat.beq_refl] at c5;cases c5
 have ne: ∀{d'},Nat.beq d' d=false→d'≠d:=fun {d'} h e=>by rw [e,Nat.beq_refl] at h;cases h
 have hput: ∀{e:Nat},e≠d→(a.put (some d) v').tmps.getD e undef=a.tmps.getD e undef:=fun {e} he=>put_other (fun h=>he (by injection h with h;exact h.symm))
 have hself:(a.put (some d) v').tmps.getD d undef=v':=mem_put (by rw [hS.size];exact c1)
 refine hS.turn (tb:=fun b=>decide ((a.eval x).ownBlock=some b)) (kp:=fun e=>apB (apL S.D) (rootS S x) e) (fun e he b hb=> ?_) (D1:= [(apSlot, .N (apAp S d (rootS S x)))]) (k:=k) c1 c2 c4 (grow_by hS r2 fun b e=>(r4 b e).2.1) r3 (fun u hu=> ?_) hk (fun z hz=> ?_) (fun z hz=>(List.mem_filter.1 hz).1)
 ·refine decide_eq_false fun e2=> ?_
  rcases hroot with h|h
  ·rw [h] at e2;cases e2
  ·rw [h] at e2;exact apB_ok hS he b e2 hb
 ·obtain ⟨_,cs,g3,_⟩:=hS.lt hu
  refine r2.block _ (lt_heap g3) fun e=> ?_
  obtain ⟨q1,_,cs',q3⟩:=r4 _ e.symm
  rw [g3] at q3
  injection q3 with q3
  injection q3 with _ q3
  have:=var_ban (kf:=kf) (own:=wE.heap.size) hu
  rw [q3,q1] at this
  cases this
 ·rcases List.mem_cons.1 hz with rfl|hz
  ·refine ⟨hne, ?_⟩
   have new: ∀{e:Nat},e≠d→hasD S.D e=true→ownK (lS S.D e)=true→apV (a.tmps.getD (rootS S x) undef) (a.tmps.getD e undef)→apV ((a.put (some d) v').tmps.getD d undef) ((a.put (some d) v').tmps.getD e undef):=fun {e} he h1 h2 h3 b hb1 hb2=>by
    rw [hself] at hb1
    rw [hput he] at hb2
    rcases r5 b hb1 with r5|r5
    ·rcases hroot with h|h
     ·rw [h] at r5;cases r5
     ·rw [h] at r5;exact h3 b r5 hb2
    ·have:=ownK_lt hS h1 h2 hb2
     omega
   intro p hp
   rcases List.mem_append.1 hp with hp|hp
   ·obtain ⟨h1,h2⟩:=List.mem_filter.1 hp
    simp only [Bool.and_eq_true,Bool.not_eq_true'] at h2
    show apV ((a.put (some d) v').tmps.getD p.1 undef) ((a.put (some d) v').tmps.getD p.2 undef)
    rw [hput (ne h2.1),hput (ne h2.2)]
    exact apL_ok hS p h1
   ·obtain ⟨q,hq,hp⟩:=List.mem_flatMap.1 hp
    have hqa:=apL_ok hS q hq
    cases g1:(Nat.beq q.1 (rootS S x)&& !Nat.beq q.2 d&&hasD S.D q.2&&ownK (lS S.D q.2)) with
    |true=>
     rw [g1] at hp
     obtain rfl:=List.mem_singleton.1 hp
     simp only [Bool.and_eq_true,Bool.not_eq_true'] at g1
     obtain ⟨⟨⟨g1,g2⟩,g3⟩,g4⟩:=g1
     rw [Nat.eq_of_beq_eq_true g1] at hqa
     exact new (ne g2) g3 g4 hqa
    |false=>
     rw [g1] at hp
     simp only [_root_.cond_false] at hp
     cases g5:(Nat.beq q.2 (rootS S x)&& !Nat.beq q.1 d&&hasD S.D q.1&&ownK (lS S.D q.1)) with
     |false=>rw [g5] at hp;cases hp
     |true=>
      rw [g5] at hp
      obtain rfl:=List.mem_singleton.1 hp
      simp only [Bool.and_eq_true,Bool.not_eq_true'] at g5
      obtain ⟨⟨⟨g1,g2⟩,g3⟩,g4⟩:=g5
      rw [Nat.eq_of_beq_eq_true g1] at hqa
      exact new (ne g2) g3 g4 (apV_sym hqa)
  ·cases hz
def isAp (o:Oper):Bool:=match o.op with
 | .call c=>(match c.callee with
  | .builtin .append=>true
  |_=>false)
 |_=>false
theorem opS_tmp (hS:SX n S wE kf a w) {x:Operand} {k:Ks E.κ} (ho:opS S x=some k) (hx:isTmp x=true):a.eval x=a.tmps.getD (rootS S x) undef:=by
 cases x with
 |tmp x=>
  simp only [opS] at ho
  cases hd:hasD S.D x with
  |false=>rw [hd] at ho;cases ho
  |true=>
   have:=hS.d hd
   show a.tmps.getD x undef=_
   simp only [rootS]
   split
   ·next d e=>rw [e] at this;exact this
   ·rfl
 |_=>cases hx
theorem SX.ins {x0 x1:Nat×Ks E.κ} {D rk:DL E.κ} {G:List (Vx E.κ)} (hS:SX n ⟨x0::x1::D,G⟩ wE kf a w) (h: ∀x∈rk,(dS (E.dk (cxOf (gTy G) kf wE.heap.size)) kf (lvOf a) x.2).p w (a.tmps.getD x.1 undef)):SX n ⟨x0::x1::(rk++D),G⟩ wE kf a w:=by
 refine ⟨hS.size,hS.defers,hS.grow,hS.vars,hS.apart,fun x hx=> ?_⟩
 obtain ⟨y,hy,rfl⟩:=List.mem_map.1 hx
 obtain ⟨z,hz,rfl⟩:=List.mem_map.1 hy
 have old:z∈x0::x1::D→(dS (E.dk (cxOf (gTy G) kf wE.heap.size)) kf (lvOf a) z.2).p w (a.tmps.getD z.1 undef):=fun hz=>hS.facts _ (List.mem_map.2 ⟨_,List.mem_map.2 ⟨z,hz,rfl⟩,rfl⟩)
 rcases List.mem_cons.1 hz with e|hz
 ·exact old (e▸List.mem_cons_self)
 ·rcases List.mem_cons.1 hz with e|hz
  ·exact old (e▸List.mem_cons_of_mem _ List.mem_cons_self)
  ·rcases List.mem_append.1 hz with hz|hz
   ·exact h z hz
   ·exact old (List.mem_cons_of_mem _ (List.mem_cons_of_mem _ hz))
theorem app_core {o:Oper} {d t T sz by':Nat} {x y:Operand} {k1:Ks E.κ} (hS:SX n S wE kf a w) (hop:o.op= .call {callee:= .builtin .append,args:= #[x,y],argTypes:= #[t,t]}) (hd:o.dst=some d) (e0:elOf P t=some (T,sz,by')) (e1:opS S x=some k1) (hk1:(asL T sz k1).isSome=true∨(asM T sz k1).isSome=true)
  {l1 l2:List (List Value)} {o2:Bool} (a1:isOw (cxOf (gTy S.G) kf wE.heap.size) T sz l1 w (a.eval x)) (a2:isLs (cxOf (gTy S.G) kf wE.heap.size) T sz l2 o2 w (a.eval y)) (h2:o2=true∨ ∀r∈l2,∀x∈r,pv x=true) (p2:(l1.length+l2.length)*by'≤140737488355328)
  (c1:d<n) (c5:Nat.beq apSlot d=false) (c2:hasX S.G d=false) (c4:S.G.all (fun x=>plain x.k)=true) {k:Ks E.κ} (hk: ∀w' v',EvoE (eC soft ((cxOf (gTy S.G) kf wE.heap.size).turn (fun b=>decide ((a.eval x).ownBlock=some b)) T)) w w'→isOw (cxOf (gTy S.G) kf wE.heap.size) T sz (l1++l2) w' v'→(dS (E.dk (cxOf (gTy S.G) kf wE.heap.size)) kf (lvOf (a.put (some d) v')) k).p w' v'):
  o.wp P a w (fun a' w'=> ∃kf',SX n ⟨(d,k)::(apSlot, .N (apAp S d (rootS S x)))::dropT T d (fun e=>apB (apL S.D) (rootS S x) e) (noAp S.D),S.G⟩ wE kf' a' w'∧KV S.G kf kf'∧JV (fun _=>true) S.G kf w w'∧isOw (cxOf (gTy S.G) kf' wE.heap.size) T sz l1 w' (a.eval x)∧ ∀e,e≠d→a'.tmps.getD e undef=a.tmps.getD e undef) Q:=by
 obtain ⟨ht,i,z,hi,hz,hsi,hby,hzs,hzp,hT,hsz,hby0,hit⟩:=elOf_ok e0
 have hpv: ∀r∈l2,∀x∈r,pv x=true:=by
  rcases h2 with rfl|h2
  ·intro r hr x hx
   obtain ⟨g0,⟨g1,g2⟩,g3⟩:=(show isOw _ T sz l2 w (a.eval y) from a2)
   rcases g2 with ⟨_,g2⟩|⟨k,cap,cur,e,_,hk,_,_,_,htk⟩
   ·rw [List.eq_nil_of_length_eq_zero g2] at hr;cases hr
   ·have hall:=(g3 k (by rw [e];rfl)).2 cur T (0,0) hk
    rw [Array.all_eq_true_iff_forall_mem] at hall
    have hm:x∈l2.flatten:=List.mem_flatten.2 ⟨r,hr,hx⟩
    rw [←htk] at hm
    exact hall x (by simpa using List.mem_of_mem_take hm)
  ·exact h2
 have hml:l1.length+l2.length≤maxLen:=by
  have:l1.length+l2.length≤(l1.length+l2.length)*by':=Nat.le_mul_of_pos_right _ hby0
  simp only [maxLen]
  omega
 obtain ⟨v',w',hr,r1,r2,r3,r5,r4,r6⟩:=run_append_pv (ty:=o.type) ht hi hz hsi hby hzs hzp hT hsz a1 a2.rd hpv p2 hml hS.grow.size (fun b hb=>hS.fr hb)
 unfold Oper.wp execOp
 simp only [hop,resolve,invoke,builtin,Sem.run_bind,Sem.run_pure,Result.andThen_ok,List.map_toArray,List.map_cons,List.map_nil,hr]
 refine ⟨kf, ?_,fun _ _=>rfl,fun z hz _=> ?_,r6,fun e he=>put_other (fun h=>he (by rw [hd] at h;injection h with h;exact h.symm))⟩
 rotate_left
 ·obtain ⟨_,cs,hc,_⟩:=hS.lt hz
  refine r2.block _ (lt_heap hc) fun e=> ?_
  obtain ⟨g1,_,cs',g2⟩:=r4 _ e.symm
  rw [hc] at g2
  injection g2 with g2
  injection g2 with _ g2
  rw [←g2,var_ban hz] at g1
  cases g1
 have hd':(a.put o.dst v')=a.put (some d) v':=by rw [hd]
 show SX n _ wE kf (a.put o.dst v') w'
 rw [hd']
 exact hS.handOn e1 hk1 c1 c5 c2 c4 r2 r3 (fun b hb=>by
  rcases r5 with e|e
  ·exact .inl (by rw [←e];exact hb)
  ·rw [e] at hb;injection hb with hb;exact .inr (by omega)) r4 (hk w' v' r3 r1)
theorem asM_ok {cx:Cx} {kf:Nat→Nat} {lv:Nat→Value} {T sz:Nat} {k:Ks E.κ} {l:List E.κ} {v:Value} (h:asM T sz k=some (l,1)) (hk:(dS (E.dk cx) kf lv k).p w v):isLo cx T sz (l.map fun x=>(E.dk cx x).p) true w v:=by
 unfold asM at h
 split at h
 ·next T' sz' l' o'=>
  cases hc:(Nat.beq T' T&&Nat.beq sz' sz) with
  |false=>rw [hc] at h;cases h
  |true=>
   rw [hc] at h
   simp only [Bool.and_eq_true] at hc
   injection h with h
   injection h with h1 h2
   obtain rfl:=Nat.eq_of_beq_eq_true hc.1
   obtain rfl:=Nat.eq_of_beq_eq_true hc.2
   subst h1 h2
   exact hk
 ·injection h with h
  injection h with h1 h2
  subst h1
  have e:v= .slice none 0 0:=hk
  rw [e]
  exact ⟨[],nil_Ow,trivial⟩
 ·cases h
theorem efAp_ok {o:Oper} {d t t':Nat} {x y:Operand} {ps:List Prop} (hS:SX n S wE kf a w) (hop:o.op= .call {callee:= .builtin .append,args:= #[x,y],argTypes:= #[t,t']}) (hd:o.dst=some d) (h:efAp P n S d t t' x y=some (S',ps)) (hp:AL ps):o.wp P a w (fun a' w'=> ∃kf',SX n S' wE kf' a' w'∧KV S.G kf kf'∧JV (fun _=>true) S.G kf w w') Q:=by
 unfold efAp at h
 split at h
 ·next T sz by' k1 k2 e0 e1 e2=>
  split at h
  ·next l1 l2 o2 f1 f2=>
   cases hc:(decide (d<n)&& !Nat.beq apSlot d&& !hasX S.G d&&Nat.beq t t'&&S.G.all (fun x=>plain x.k)) with
   |false=>rw [hc] at h;cases h
   |true=>
    rw [hc] at h
    injection h with h
    injection h with h1 h2
    subst h1 h2
    simp only [Bool.and_eq_true,decide_eq_true_eq,Bool.not_eq_true'] at hc
    obtain ⟨⟨⟨⟨c1,c5⟩,c2⟩,c3⟩,c4⟩:=hc
    obtain rfl:=Nat.eq_of_beq_eq_true c3
    have h2':o2=true∨ ∀r∈l2,∀x∈r,pv x=true:=by
     cases o2 with
     |true=>exact .inl rfl
     |false=>exact .inr hp.2.1
    refine Oper.wp_mono (fun a' w' h9=> ?_) (app_core (k:= .L T sz (l1++l2) true) hS hop hd e0 e1 (.inl (by rw [f1];rfl)) (asL_ok f1 (opS_ok hS e1)) (asL_ok f2 (opS_ok hS e2)) h2' hp.1 c1 c5 c2 c4 fun w' v' _ h=>h)
    obtain ⟨kf',g1,g2,g3,g4,g5⟩:=h9
    refine ⟨kf',SX.ins g1 (fun z hz=> ?_),g2,g3⟩
    unfold rkL at hz
    split at hz
    ·next q1 q2 q3 q4=>
     cases hq:(Nat.beq (rootS S (.tmp q4)) d||Nat.beq (rootS S (.tmp q4)) apSlot) with
     |true=>rw [hq] at hz;cases hz
     |false=>
      rw [hq] at hz
      rcases List.mem_cons.1 hz with rfl|hz
      ·simp only [Bool.or_eq_false_iff] at hq
       have hne:rootS S (.tmp q4)≠d:=fun e=>by rw [e,Nat.beq_refl] at hq;cases hq.1
       show isOw _ T sz l1 w' (a'.tmps.getD (rootS S (.tmp q4)) undef)
       rw [g5 _ hne,←opS_tmp hS e1 rfl]
       exact g4
      ·cases hz
    ·cases hz
  ·split at h
   ·next l1 l2 f1 f2=>
    cases hc:(decide (d<n)&& !Nat.beq apSlot d&& !hasX S.G d&&Nat.beq t t'&&S.G.all (fun x=>plain x.k)) with
    |false=>rw [hc] at h;cases h
    |true=>
     rw [hc] at h
     injection h with h
     injection h with h1 h2
     subst h1 h2
     simp only [Bool.and_eq_true,decide_eq_true_eq,Bool.not_eq_true'] at hc
     obtain ⟨⟨⟨⟨c1,c5⟩,c2⟩,c3⟩,c4⟩:=hc
     obtain rfl:=Nat.eq_of_beq_eq_true c3
     obtain ⟨r1,a1,b1⟩:=asM_ok f1 (opS_ok hS e1)
     obtain ⟨r2,a2,b2⟩:=asM_ok f2 (opS_ok hS e2)
     have q1:=b1.len
     have q2:=b2.len
     rw [List.length_map] at q1 q2
     have p2:(l1.length+l2.length)*by'≤140737488355328:=hp.1
     refine Oper.wp_mono (fun a' w' ⟨kf',g1,g2,g3,_⟩=>⟨kf',g1,g2,g3⟩) (app_core hS hop hd e0 e1 (.inr (by rw [f1];rfl)) a1 a2 (.inl rfl) (by rw [←q1,←q2];exact p2) c1 c5 c2 c4 fun w' v' hE h=> ?_)
     refine ⟨r1++r2,h, ?_⟩
     rw [List.map_append]
     have ko: ∀{z:E.κ} {u:Value},(E.dk (cxOf (gTy S.G) kf wE.heap.size) z).p w u→(E.dk (cxOf (gTy S.G) kf wE.heap.size) z).p w' u:=fun {z u} h=>by
      rw [(E.dcx z _ ((cxOf (gTy S.G) kf wE.heap.size).turn (fun b=>decide ((a.eval x).ownBlock=some b)) T)).1] at h⊢
      exact (E.dk _ z).st _ _ _ h hE
     exact All2.app (b1.impM fun p hp r hr=>by obtain ⟨z,_,rfl⟩:=List.mem_map.1 hp;exact ko hr) (b2.impM fun p hp r hr=>by obtain ⟨z,_,rfl⟩:=List.mem_map.1 hp;exact ko hr)
   ·cases h
 ·cases h
theorem efNx_ok {o:Oper} {d it va:Nat} {ps:List Prop} (hS:SX n S wE kf a w) (hop:o.op= .next (.tmp it) true) (hd:o.dst=some d) (h:efNx n va S d it=some (S',ps)) (hp:AL ps):o.wp P a w (fun a' w'=> ∃kf,SX n S' wE kf a' w') Q:=by
 unfold efNx at h
 split at h
 ·next s pos e=>
  have hI:isIt (cxOf (gTy S.G) kf wE.heap.size) s pos w (a.tmps.getD it undef):=by
   cases hd2:hasD S.D it with
   |false=>rw [hd2] at e;cases e
   |true=>
    rw [hd2] at e
    have:=hS.d hd2
    rw [show lS S.D it= .I s pos from e] at this
    exact this
  obtain ⟨b,ev,hb,hban,hown⟩:=hI
  cases hc:(decide (d<n)&& !hasX S.G d&& !Nat.beq it d&&S.G.all (fun x=>plain x.k)) with
  |false=>rw [hc] at h;cases h
  |true=>
   rw [hc] at h
   simp only [_root_.cond_true] at h
   simp only [Bool.and_eq_true,decide_eq_true_eq,Bool.not_eq_true'] at hc
   obtain ⟨⟨⟨c1,c2⟩,c3⟩,c4⟩:=hc
   have hne:it≠d:=fun e=>by rw [e,Nat.beq_refl] at c3;cases c3
   have hev:a.eval (.tmp it)= .pointer (some ⟨b,0,none⟩):=ev
   have hput: ∀v,a.put o.dst v=a.put (some d) v:=fun v=>by rw [hd]
   cases hv:Nat.beq va 1 with
   |true=>
    rw [hv] at h
    injection h with h
    injection h with h1 h2
    subst h1 h2
    have hlt:pos<(⟨⟨s⟩⟩:ByteArray).size:=hp.1
    have hr:=run_next_at (P:=P) (ty:=o.type) hb hlt
    unfold Oper.wp execOp
    simp only [hop,hev,Sem.run_bind,hr,Result.andThen_ok]
    refine ⟨kf, ?_⟩
    show SX n _ wE kf (a.put o.dst _) _
    rw [hput]
    refine hS.turn (kp:=fun _=>false) (fun _ h=>by cases h) (k:= .E (.tuple ⟨[.bool true, .int .i64 ((pos:Nat):Int), .int .i32 ((rune s pos:Nat):Int)]⟩)) (D1:= [(it, .I s (pos+runeW s pos))]) (D2:=S.D.filter fun x=> !Nat.beq x.1 it) c1 c2 c4 ?_ (evo_iter hb hown) (fun x hx=> ?_) rfl (fun x hx=> ?_) (fun x hx=>(List.mem_filter.1 hx).1)
    ·refine ⟨hS.grow.os,hS.grow.tape,hS.grow.output, ?_,fun k hk=> ?_⟩
     ·show wE.heap.size≤(w.heap.setIfInBounds b _).size
      rw [Array.size_setIfInBounds]
      exact hS.grow.size
     ·have hown':wE.heap.size≤b:=hown
      rw [iter_other (by omega)]
      exact Below.block hS.grow k hk
    ·refine iter_other fun e=> ?_
     obtain ⟨_,cs,g3,_⟩:=hS.lt hx
     rw [e,hb] at g3
     cases g3
    ·rcases List.mem_cons.1 hx with rfl|hx
     ·exact ⟨hne,b,ev,iter_at hb,hban,hown⟩
     ·cases hx
   |false=>
    rw [hv] at h
    injection h with h
    injection h with h1 h2
    subst h1 h2
    have hge: ¬pos<(⟨⟨s⟩⟩:ByteArray).size:=Nat.not_lt.2 hp.1
    have hr:=run_next_none (P:=P) (ty:=o.type) hb hge
    unfold Oper.wp execOp
    simp only [hop,hev,Sem.run_bind,hr,Result.andThen_ok]
    refine ⟨kf, ?_⟩
    show SX n _ wE kf (a.put o.dst _) _
    rw [hput]
    exact hS.turn (kp:=fun _=>false) (tb:=fun _=>true) (fun _ h=>by cases h) (k:= .E (.tuple ⟨[.bool false]⟩)) (D1:= []) c1 c2 c4 hS.grow (EvoE.refl _) (fun _ _=>rfl) rfl (fun _ h=>by cases h) (fun _ h=>h)
 ·cases h
theorem flat_split {sz k:Nat} {l:List (List Value)} (hl:rowsB sz l) (hk:k≤l.length):l.flatten.take (k*sz)=(l.take k).flatten∧l.flatten.drop (k*sz)=(l.drop k).flatten:=by
 have e:l.flatten=(l.take k).flatten++(l.drop k).flatten:=by rw [←List.flatten_append,List.take_append_drop]
 have hlen:(l.take k).flatten.length=k*sz:=by rw [flat_len (fun r hr=>hl r (List.mem_of_mem_take hr)),List.length_take];congr 1;omega
 exact ⟨by rw [e];exact List.take_left' hlen,by rw [e];exact List.drop_left' hlen⟩
theorem flat_set {sz k:Nat} {row:List Value} {l:List (List Value)} (hl:rowsB sz l) (hk:k<l.length):(l.set k row).flatten=l.flatten.take (k*sz)++row++l.flatten.drop (k*sz+sz):=by
 have h1:=(flat_split hl (Nat.le_of_lt hk)).1
 have h2:=(flat_split hl (show k+1≤l.length from hk)).2
 rw [Nat.add_mul,Nat.one_mul] at h2
 rw [h1,h2,List.set_eq_take_append_cons_drop,if_pos hk,List.flatten_append,List.flatten_cons,List.append_assoc]
theorem put_same {a:Act} {d:Nat}:a.put (some d) (a.tmps.getD d undef)=a:=by
 have:a.tmps.setIfInBounds d (a.tmps.getD d undef)=a.tmps:=by
  apply Array.ext_getElem?
  intro i
  rw [Array.getElem?_setIfInBounds]
  by_cases h:d=i
  ·subst h
   by_cases h2:d<a.tmps.size
   ·rw [if_pos rfl,if_pos h2,Array.getD_eq_getD_getElem?,Array.getElem?_eq_getElem h2,Option.getD_some]
   ·rw [if_pos rfl,if_neg h2,Array.getElem?_eq_none (by omega)]
  ·rw [if_neg h]
 unfold Act.put
 simp only [this]
theorem efSt_ok {o:Oper} {t p:Nat} {y:Operand} {ps:List Prop} (hS:SX n S wE kf a w) (hop:o.op= .store t (.tmp p) y) (hd:o.dst=none) (h:efSt P S t p y=some (S',ps)) (hp:AL ps):o.wp P a w (fun a' w'=> ∃kf,SX n S' wE kf a' w') Q:=by
 have hput:a.put o.dst undef=a:=by rw [hd];rfl
 have plc: ∀{k:Ks E.κ},cond (hasD S.D p) (lS S.D p) .X=k→(dS (E.dk (cxOf (gTy S.G) kf wE.heap.size)) kf (lvOf a) k).p w (a.eval (.tmp p)):=fun {k} e=>by
  cases hh:hasD S.D p with
  |false=>rw [hh] at e;subst e;trivial
  |true=>
   rw [hh] at e
   have e':lS S.D p=k:=e
   rw [←e']
   exact hS.d hh
 unfold efSt at h
 split at h
 ·next q off v ep ey=>
  have ev:a.eval y=v:=opS_ok hS ey
  have eP:a.eval (.tmp p)= .pointer (some ⟨kf q,off,none⟩):=plc ep
  split at h
  ·next cs hk=>
   cases hc:(hasX S.G q&&((P.info? t).map (·.size)).any (fun m=>Nat.beq m v.cells.size)&&v.cells.all (·.oneCell')&&Nat.ble (off+v.cells.size) cs.length&&fitB P (lG S.G q).ty (.agg ⟨cs.take off++v.cells.toList++cs.drop (off+v.cells.toList.length)⟩)&&S.G.all (fun x=>plain x.k)) with
   |false=>rw [hc] at h;cases h
   |true=>
    rw [hc] at h
    injection h with h
    injection h with h1 h2
    subst h1
    simp only [Bool.and_eq_true] at hc
    obtain ⟨⟨⟨⟨⟨c1,c2⟩,c3⟩,c4⟩,c5⟩,c6⟩:=hc
    obtain ⟨g1,g2,cur,g3,g4,g5⟩:=hS.vars _ (mem_dG c1)
    simp only at g1 g2 g3 g4 g5
    have g5':Value.agg cur= .agg ⟨cs⟩:=by rw [hk] at g5;exact g5
    injection g5' with g5'
    subst g5'
    have hz:(P.info? t).map (·.size)=some v.cells.size:=by
     cases hi:(P.info? t).map (·.size) with
     |none=>rw [hi] at c2;cases c2
     |some m=>rw [hi] at c2;rw [Nat.eq_of_beq_eq_true c2]
    have hr:=run_storeAt (P:=P) (o:=o) (ρ:=a.eval) hop eP ev g3 hz (fun u hu=>(Array.all_eq_true_iff_forall_mem.1 c3) u (by simpa using hu)) (by
     have:=Nat.le_of_ble_eq_true c4
     rw [Array.length_toList]
     simpa using this)
    unfold Oper.wp
    rw [hr,Oper.upon_skip]
    refine ⟨kf, ?_⟩
    rw [hput]
    obtain ⟨cs',e',hfit⟩:=fitB_ok c5
    injection e' with e'
    subst e'
    have hE:EvoE (eC soft (cxOf (gTy S.G) kf wE.heap.size)) w (w.setRow (kf q) (cs.take off++v.cells.toList++cs.drop (off+v.cells.toList.length)).toArray):=by
     have hb:(cxOf (gTy S.G) kf wE.heap.size).ban (kf q) (lG S.G q).ty=true:=by
      obtain ⟨x,hx,e⟩:=List.mem_map.1 (mem_dG (dk:=E.dk cx0) (kf:=kf) (lv:=lvOf a) c1)
      obtain ⟨u,hu,rfl⟩:=List.mem_map.1 hx
      injection e with e1 e2 e3
      have:=var_ban (kf:=kf) (own:=wE.heap.size) hu
      have e1':u.slot=q:=e1
      have e2':u.ty=(lG S.G q).ty:=e2
      rw [e1',e2'] at this
      exact this
     exact EvoE.set g3 (by simp only [eC,hb,g4.soft,Bool.and_self]) (by simp only [eC,hb,hfit.soft,Bool.and_self])
    have hg:gTy (S.G.map fun x=>cond (Nat.beq x.slot q) ⟨x.slot,x.ty, .E (.agg ⟨cs.take off++v.cells.toList++cs.drop (off+v.cells.toList.length)⟩)⟩ x)=gTy S.G:=by
     unfold gTy
     rw [List.map_map]
     refine List.map_congr_left fun x _=> ?_
     show ((cond (Nat.beq x.slot q) (⟨x.slot,x.ty,_⟩:Vx E.κ) x).slot,(cond (Nat.beq x.slot q) (⟨x.slot,x.ty,_⟩:Vx E.κ) x).ty)=_
     cases Nat.beq x.slot q<;>rfl
    show St soft P n (gv (dG (E.dk (cxOf (gTy _) kf wE.heap.size)) kf (lvOf a) _)) (dv (dD (E.dk (cxOf (gTy _) kf wE.heap.size)) kf (lvOf a) S.D)) wE kf a _
    rw [hg]
    refine ⟨hS.size,hS.defers,grow_set hS.grow g2 _, ?_, ?_, ?_⟩
    ·refine vars_cx fun x hx=> ?_
     obtain ⟨z,hz',rfl⟩:=List.mem_map.1 hx
     obtain ⟨k1,k2,cz,k3,k4,k5⟩:=hS.vars _ (List.mem_map.2 ⟨_,List.mem_map.2 ⟨z,hz',rfl⟩,rfl⟩)
     cases hb:Nat.beq z.slot q with
     |true=>
      have e:z.slot=q:=Nat.eq_of_beq_eq_true hb
      have ety:z.ty=(lG S.G q).ty:=by
       have k3':w.heap[kf z.slot]? =some (.cells cz z.ty (0,0)):=k3
       rw [e,g3] at k3'
       injection k3' with k3'
       injection k3' with _ k3'
       exact k3'.symm
      refine ⟨k1,k2,(cs.take off++v.cells.toList++cs.drop (off+v.cells.toList.length)).toArray, ?_, ?_,rfl⟩
      ·show (w.setRow (kf q) _).heap[kf z.slot]? =some (.cells _ z.ty (0,0))
       rw [e,ety]
       exact setRow_heap w (kf q) _ _ _ _ g3
      ·show Fits soft P z.ty _
       rw [ety]
       exact hfit
     |false=>
      refine ⟨k1,k2,cz, ?_,k4,(dS (E.dk (cxOf (gTy S.G) kf wE.heap.size)) kf (lvOf a) z.k).st _ _ _ k5 hE⟩
      have hne:kf z.slot≠kf q:=by
       obtain ⟨x,hx,e⟩:=List.mem_map.1 (mem_dG (dk:=E.dk cx0) (kf:=kf) (lv:=lvOf a) c1)
       obtain ⟨u,hu,rfl⟩:=List.mem_map.1 hx
       injection e with e1 e2 e3
       have e1':u.slot=q:=e1
       rw [←e1']
       exact ap_of hS hz' hu fun e=>by rw [e,e1',Nat.beq_refl] at hb;cases hb
      exact (setRow_other w (kf q) _ _ hne).trans k3
    ·intro x hx y hy
     obtain ⟨x',hx',rfl⟩:=List.mem_map.1 hx
     obtain ⟨y',hy',rfl⟩:=List.mem_map.1 hy
     obtain ⟨x2,hx2,rfl⟩:=List.mem_map.1 hx'
     obtain ⟨y2,hy2,rfl⟩:=List.mem_map.1 hy'
     obtain ⟨x3,hx3,rfl⟩:=List.mem_map.1 hx2
     obtain ⟨y3,hy3,rfl⟩:=List.mem_map.1 hy2
     have sl: ∀u:Vx E.κ,(cond (Nat.beq u.slot q) (⟨u.slot,u.ty, .E (.agg ⟨cs.take off++v.cells.toList++cs.drop (off+v.cells.toList.length)⟩)⟩:Vx E.κ) u).slot=u.slot:=fun u=>by cases Nat.beq u.slot q<;>rfl
     intro hne
     show kf (cond _ _ x3:Vx E.κ).slot≠kf (cond _ _ y3:Vx E.κ).slot
     have hne':(cond _ _ x3:Vx E.κ).slot≠(cond _ _ y3:Vx E.κ).slot:=hne
     rw [sl,sl] at hne'⊢
     exact ap_of hS hx3 hy3 hne'
    ·intro x hx
     obtain ⟨y,hy,rfl⟩:=List.mem_map.1 hx
     obtain ⟨z,hz,rfl⟩:=List.mem_map.1 hy
     exact (dS (E.dk (cxOf (gTy S.G) kf wE.heap.size)) kf (lvOf a) z.2).st _ _ _ (hS.facts _ (List.mem_map.2 ⟨_,List.mem_map.2 ⟨z,hz,rfl⟩,rfl⟩)) hE
  ·cases h
 ·next d k sz v ep ey=>
  have ev:a.eval y=v:=opS_ok hS ey
  have eQ:a.eval (.tmp p)=eaddr (a.tmps.getD d undef) (k*sz):=plc ep
  split at h
  ·next T sz' l el=>
   cases hc:(Nat.beq sz' sz&&Nat.beq t T&&Nat.beq v.cells.size sz&&v.cells.all pv&& !hardTy T&& !Nat.beq itT T&&((P.info? t).map (·.size)).any (fun m=>Nat.beq m v.cells.size)&& !hasX S.G d&& !Nat.beq apSlot d&&S.G.all (fun x=>plain x.k)) with
   |false=>rw [hc] at h;cases h
   |true=>
    rw [hc] at h
    injection h with h
    injection h with h1 h2
    subst h1 h2
    simp only [Bool.and_eq_true,Bool.not_eq_true'] at hc
    obtain ⟨⟨⟨⟨⟨⟨⟨⟨⟨c1,c2⟩,c3⟩,c4⟩,c5⟩,c6⟩,c7⟩,c8⟩,c10⟩,c9⟩:=hc
    obtain rfl:=Nat.eq_of_beq_eq_true c1
    obtain rfl:=Nat.eq_of_beq_eq_true c2
    have hk:k<l.length:=hp.1
    have hrow:v.cells.toList.length=sz':=by rw [Array.length_toList];exact Nat.eq_of_beq_eq_true c3
    have hdD:hasD S.D d=true:=by
     cases hh:hasD S.D d with
     |true=>rfl
     |false=>rw [hh] at el;cases el
    rw [hdD] at el
    have hL:isOw (cxOf (gTy S.G) kf wE.heap.size) t sz' l w (a.tmps.getD d undef):=by
     have:=hS.d hdD
     rw [show lS S.D d= .L t sz' l true from el] at this
     exact this
    obtain ⟨g0,⟨g1,g2⟩,g3⟩:=hL
    rcases g2 with ⟨_,g2⟩|⟨g,cap,cur,e,hbg,hg,hnc,hcm,hcs,htk⟩
    ·omega
    ·obtain ⟨q1,q2⟩:=g3 g (by rw [e];rfl)
     have hpc:=q2 cur t (0,0) hg
     have eP:a.eval (.tmp p)= .pointer (some ⟨g,k*sz',none⟩):=by
      rw [eQ,e]
      simp [eaddr]
     have hz:(P.info? t).map (·.size)=some v.cells.size:=by
      cases hi:(P.info? t).map (·.size) with
      |none=>rw [hi] at c7;cases c7
      |some m=>rw [hi] at c7;rw [Nat.eq_of_beq_eq_true c7]
     have hmul:k*sz'+sz'≤l.length*sz':=by
      have:=Nat.mul_le_mul_right sz' (show k+1≤l.length from hk)
      rw [Nat.add_mul,Nat.one_mul] at this
      exact this
     have hle:k*sz'+v.cells.toList.length≤cur.size:=by
      rw [hrow,hcs]
      exact Nat.le_trans hmul (Nat.mul_le_mul_right _ hnc)
     have hr:=run_storeAt (P:=P) (o:=o) (ρ:=a.eval) hop eP ev hg hz (fun u hu=>pv_one ((Array.all_eq_true_iff_forall_mem.1 c4) u (by simpa using hu))) hle
     have hpn:(cur.toList.take (k*sz')++v.cells.toList++cur.toList.drop (k*sz'+v.cells.toList.length)).toArray.all pv=true:=by
      rw [Array.all_eq_true_iff_forall_mem] at hpc c4⊢
      intro x hx
      rw [←Array.mem_toList_iff] at hx
      simp only [List.mem_append] at hx
      rcases hx with (hx|hx)|hx
      ·exact hpc x (by simpa using List.mem_of_mem_take hx)
      ·exact c4 x (by simpa using hx)
      ·exact hpc x (by simpa using List.mem_of_mem_drop hx)
     unfold Oper.wp
     rw [hr,Oper.upon_skip]
     refine ⟨kf, ?_⟩
     rw [hput]
     have hlt:d<n:=by
      rcases Nat.lt_or_ge d n with h|h
      ·exact h
      ·rw [Array.getD_eq_getD_getElem?,Array.getElem?_eq_none (by rw [hS.size];exact h)] at e
       cases e
     have key:=hS.turn (tb:=fun b=>decide ((a.tmps.getD d undef).ownBlock=some b)) (kp:=fun e=>apB (apL S.D) d e) (fun u hu b hb=>decide_eq_false fun e2=>apB_ok hS hu b e2 hb) (v:=a.tmps.getD d undef) (k:= .L t sz' (l.set k v.cells.toList) true) (D1:= [(apSlot, .N (apL S.D))]) (D2:=noAp S.D) (w':=w.setRow g (cur.toList.take (k*sz')++v.cells.toList++cur.toList.drop (k*sz'+v.cells.toList.length)).toArray) hlt c8 c9 (grow_set hS.grow hbg _) (evo_row hg hbg (decide_eq_true (by rw [e];rfl)) (soft_pv hpc c5) (soft_pv hpn c5)) (fun u hu=>by
      obtain ⟨_,cs,k3,_⟩:=hS.lt hu
      refine setRow_other w g _ _ fun e'=> ?_
      rw [e',hg] at k3
      injection k3 with k3
      injection k3 with _ k3
      have:=var_ban (kf:=kf) (own:=wE.heap.size) hu
      rw [e',←k3,q1] at this
      cases this) (by
      refine ⟨fun r hr=> ?_,⟨?_, .inr ⟨g,cap,_,by rw [e,List.length_set],hbg,setRow_heap w g cur _ t _ hg,by rw [List.length_set];exact hnc,hcm, ?_, ?_⟩⟩,fun b hb=> ?_⟩
      ·rcases List.mem_or_eq_of_mem_set hr with hr|rfl
       ·exact g0 r hr
       ·exact hrow
      ·rw [flat_len (sz:=sz') fun r hr=>(List.mem_or_eq_of_mem_set hr).elim (g0 r) fun e=>by rw [e];exact hrow]
      ·simp only [List.size_toArray,List.length_append,List.length_take,List.length_drop,Array.length_toList]
       rw [Array.length_toList] at hle hrow
       omega
      ·rw [List.length_set,flat_set g0 hk,←htk]
       have hl1:(cur.toList.take (k*sz')).length=k*sz':=by rw [List.length_take,Array.length_toList];omega
       have ex: ∀(A B C:List Value) (m1 m2:Nat),A.length=m1→B.length=m2→m1+m2≤l.length*sz'→(A++B++C).take (l.length*sz')=A++B++C.take (l.length*sz'-(m1+m2)):=fun A B C m1 m2 h1 h2 h3=>by
        rw [List.take_append,List.take_of_length_le (by rw [List.length_append];omega),List.length_append,h1,h2]
       rw [ex _ _ _ (k*sz') sz' hl1 hrow hmul,List.take_take,List.drop_take,hrow]
       congr 2
       rw [Nat.min_eq_left (by omega)]
      ·rw [e] at hb
       injection hb with hb
       subst hb
       refine ⟨q1,fun cs t' fr hc'=> ?_⟩
       rw [setRow_heap w g cur _ t _ hg] at hc'
       injection hc' with hc'
       injection hc' with e1
       subst e1
       exact hpn) (fun u hu=>by
      obtain rfl:=List.mem_singleton.1 hu
      refine ⟨fun e=> ?_,fun p hp=> ?_⟩
      ·rw [show apSlot=d from e,Nat.beq_refl] at c10;cases c10
      ·rw [put_same];exact apL_ok hS p hp) (fun u hu=>(List.mem_filter.1 hu).1)
     rw [put_same] at key
     exact key
  ·cases h
 ·cases h
theorem runEf_ok {o:Oper} {va:Nat} {ps:List Prop} (hS:SX n S wE kf a w) (h:runEf P n va o S=some (S',ps)) (hp:AL ps):o.guard=none∧o.wp P a w (fun a' w'=> ∃kf',SX n S' wE kf' a' w'∧(isAp o=true→KV S.G kf kf'∧JV (fun _=>true) S.G kf w w')) Q:=by
 unfold runEf at h
 split at h
 ·next c d hg hop hd=>
  split at h
  ·next x y t t' ec ea et=>
   refine ⟨hg,Oper.wp_mono (fun a' w' ⟨kf',h1,h2,h3⟩=>⟨kf',h1,fun _=>⟨h2,h3⟩⟩) (efAp_ok hS (x:=x) (y:=y) (t:=t) (t':=t') ?_ hd h hp)⟩
   rw [hop]
   cases c with
   |mk ce ar ty=>
    simp only at ec ea et
    subst ec
    congr 1
    congr 1
    ·apply Array.ext';rw [ea]
    ·apply Array.ext';rw [et]
  ·cases h
 ·next it d hg hop hd=>exact ⟨hg,Oper.wp_mono (fun a' w' ⟨kf',h1⟩=>⟨kf',h1,fun e=>by unfold isAp at e;rw [hop] at e;cases e⟩) (efNx_ok hS hop hd h hp)⟩
 ·next t p y hg hop hd=>exact ⟨hg,Oper.wp_mono (fun a' w' ⟨kf',h1⟩=>⟨kf',h1,fun e=>by unfold isAp at e;rw [hop] at e;cases e⟩) (efSt_ok hS hop hd h hp)⟩
 ·cases h
theorem c_u {α:Type} {a:Bool} {x:Option α} {r:α} (h:cond a x none=some r):a=true∧x=some r:=by
 cases a with
 |true=>exact ⟨rfl,h⟩
 |false=>cases h
theorem argsT_ok (hS:SX n S wE kf a w): ∀{l:List Operand} {ks:List (Ks E.κ)},argsT S l=some ks→allK w (ks.map (dS (E.dk (cxA w)) (fun _=>0) (fun _=>undef))) (l.map a.eval):=by
 intro l
 induction l with
 |nil=>intro ks h;injection h with h;subst h;trivial
 |cons x r ih=>
  intro ks h
  unfold argsT at h
  split at h
  ·next k ks' e1 e2=>
   injection h with h
   subst h
   refine ⟨?_,ih e2⟩
   have hk:(dS (E.dk (cxOf (gTy S.G) kf wE.heap.size)) kf (lvOf a) k).p w (a.eval x):=by
    cases x with
    |func f=>injection e1 with e1;subst e1;rfl
    |_=>exact opS_ok hS e1
   cases k with
   |E v=>exact hk
   |C f rows=>exact isCl.mono (fun _ _ _ _=>rfl) hk
   |_=>trivial
  ·cases h
theorem own_z {cx:Cx} {T sz:Nat} {l:List (List Value)} {v:Value} (h:isOw cx T sz l w v):isOw cxZ T sz l w v:=isOw.mono (fun _ _ _ _=>rfl) (Nat.zero_le _) h
theorem own_blk {cx:Cx} {T sz:Nat} {l:List (List Value)} {v:Value} (h:isOw cx T sz l w v): ∀b,v.ownBlock=some b→cx.ban b T=false∧cx.own≤b∧ ∃cs,w.heap[b]? =some (.cells cs T (0,0))∧cs.all pv=true:=by
 intro b hb
 obtain ⟨h0,⟨h1,h2⟩,h3⟩:=h
 rcases h2 with ⟨rfl,_⟩|⟨g,cap,cur,rfl,hg,hk,_⟩
 ·cases hb
 ·have e:g=b:=by injection hb
  subst e
  obtain ⟨q1,q2⟩:=h3 g rfl
  exact ⟨q1,hg,cur,hk,q2 _ _ _ hk⟩
theorem own_of {cx:Cx} {T sz:Nat} {l:List (List Value)} {v:Value} (h:isOw cxZ T sz l w v) (hb: ∀b,v.ownBlock=some b→cx.ban b T=false∧cx.own≤b):isOw cx T sz l w v:=by
 obtain ⟨h0,⟨h1,h2⟩,h3⟩:=h
 refine ⟨h0,⟨h1, ?_⟩,fun b e=>⟨(hb b e).1,(h3 b e).2⟩⟩
 rcases h2 with h2|⟨g,cap,cur,rfl,_,hr⟩
 ·exact .inl h2
 ·exact .inr ⟨g,cap,cur,rfl,(hb g rfl).2,hr⟩
theorem evo_by {cx:Cx} {T:Nat} {r:Option Nat} {w':World} (hT:hardTy T=false) (hg:w.grownBy w' r) (h1: ∀b,r=some b→cx.own≤b∧ ∃cs,w.heap[b]? =some (.cells cs T (0,0))∧cs.all pv=true) (h2: ∀b,r=some b→ ∃cs,w'.heap[b]? =some (.cells cs T (0,0))∧cs.all pv=true):EvoE (eC soft (cx.turn (fun b=>decide (r=some b)) T)) w w':=by
 refine ⟨hg.size,fun b hb=> ?_⟩
 by_cases e:some b=r
 ·obtain ⟨ho,cs,c1,c2⟩:=h1 b e.symm
  obtain ⟨cs',c3,c4⟩:=h2 b e.symm
  have hban:(cx.turn (fun b=>decide (r=some b)) T).ban b T=true:=by
   show (cx.ban b T||(Nat.beq T T&&decide (cx.own≤b)&&decide (r=some b)))=true
   rw [Nat.beq_refl,decide_eq_true ho,decide_eq_true e.symm]
   exact Bool.or_true _
  exact .inr ⟨_,_,c1,c3,by simp only [eC,hban,soft_pv c2 hT,Bool.and_self],by simp only [eC,hban,soft_pv c4 hT,Bool.and_self]⟩
 ·exact .inl (hg.block b hb e)
theorem efTc_ok {o:Oper} {d:Nat} {t:Tt E.dk} {x:Operand} {xs:List Operand} {ts:Array TypeId} {ps:List Prop} (hS:SX n S wE kf a w) (hop:o.op= .call {callee:= .value (.func t.f),args:=(x::xs).toArray,argTypes:=ts}) (hd:o.dst=some d) (h:efTc n S d t x xs=some (S',ps)) (hp:AL ps):o.wp P a w (fun a' w'=> ∃kf,SX n S' wE kf a' w') Q:=by
 unfold efTc at h
 split at h
 ·next k ks e1 e2=>
  split at h
  ·next l e3=>
   split at h
   ·next l' ps' e4=>
    cases hc:(decide (d<n)&& !Nat.beq apSlot d&& !hasX S.G d&& !hardTy t.T&& !Nat.beq itT t.T&&S.G.all (fun x=>plain x.k)) with
    |false=>rw [hc] at h;cases h
    |true=>
     rw [hc] at h
     simp only [_root_.cond_true] at h
     simp only [Bool.and_eq_true,decide_eq_true_eq,Bool.not_eq_true'] at hc
     obtain ⟨⟨⟨⟨⟨c1,c2⟩,c3⟩,c4⟩,c5⟩,c6⟩:=hc
     have hL:isOw (cxOf (gTy S.G) kf wE.heap.size) t.T t.sz l w (a.eval x):=asL_ok e3 (opS_ok hS e1)
     have hpz:AL ps':=by
      cases ha:t.ans with
      |true=>rw [ha] at h;injection h with h;injection h with h1 h2;subst h2;exact hp
      |false=>
       rw [ha] at h
       obtain ⟨_,h⟩:=c_u h
       injection h with h
       injection h with h1 h2
       subst h2
       exact hp
     have hcall:=t.ok l ks l' ps' e4 hpz w (a.eval x) (xs.map a.eval) (own_z hL) (argsT_ok hS e2)
     have hrun:(execOp a.eval o).run P w= .ok (.enter t.f ((x::xs).toArray.map a.eval)) w:=by
      simp only [execOp,hop,resolve,Deferred.ofValue,Act.eval,Sem.run_bind,Sem.run_pure,Result.andThen_ok,invoke,Array.append_empty,Array.empty_append]
      exact t.en _ _
     unfold Oper.wp
     rw [hrun]
     have eargs:(x::xs).toArray.map a.eval=(a.eval x::xs.map a.eval).toArray:=by simp
     rw [eargs]
     refine hcall.mono fun e w' hq=> ?_
     obtain ⟨v',ee,q1,q2,q3,q4,q5⟩:=hq
     have hb:=own_blk hL
     have hE:=evo_by (cx:=cxOf (gTy S.G) kf wE.heap.size) c4 q2 (fun b e=>⟨(hb b e).2.1,(hb b e).2.2⟩) q3
     have hOw:isOw (cxOf (gTy S.G) kf wE.heap.size) t.T t.sz l' w' v':=own_of q1 fun b e=>⟨(hb b (q4 b e)).1,(hb b (q4 b e)).2.1⟩
     cases ha:t.ans with
     |true=>
      rw [ha] at h ee
      injection h with h
      injection h with h1 h2
      subst h1
      subst ee
      refine ⟨kf, ?_⟩
      have hd':(a.put o.dst v')=a.put (some d) v':=by rw [hd]
      show SX n _ wE kf (a.put o.dst v') w'
      rw [hd']
      exact hS.handOn e1 (.inl (by rw [e3];rfl)) c1 c2 c3 c6 q2 hE (fun b e=> .inl (q4 b e)) (fun b e=>⟨(hb b e).1,(hb b e).2.1,(hb b e).2.2.imp fun cs h=>h.1⟩) hOw
     |false=>
      rw [ha] at h ee
      obtain ⟨hr,h⟩:=c_u h
      injection h with h
      injection h with h1 h2
      subst h1
      simp only [Bool.and_eq_true,decide_eq_true_eq,Bool.not_eq_true'] at hr
      obtain ⟨⟨⟨⟨r1,r2⟩,r3⟩,r4⟩,r5⟩:=hr
      obtain rfl:=q5 ha
      subst ee
      refine ⟨kf, ?_⟩
      have hd':(a.put o.dst (.tuple #[]))=a.put (some d) (.tuple #[]):=by rw [hd]
      show SX n _ wE kf (a.put o.dst (.tuple #[])) w'
      rw [hd']
      have ex:=opS_tmp hS e1 r1
      have hrd:rootS S x≠d:=fun e=>by rw [e,Nat.beq_refl] at r3;cases r3
      have hS1:SX n (forg d S) wE kf (a.put (some d) (.tuple #[])) w:=hS.turn (kp:=fun _=>false) (tb:=fun _=>true) (fun _ h=>by cases h) (k:= .X) (D1:= []) (T:=noT) (w':=w) c1 c3 c6 hS.grow (EvoE.refl _) (fun _ _=>rfl) trivial (fun _ h=>by cases h) (fun _ h=>h)
      have er:(a.put (some d) (.tuple #[])).tmps.getD (rootS S x) undef=a.eval x:=by
       rw [ex]
       exact put_other fun h=>hrd (by injection h with h;exact h.symm)
      have hne:apSlot≠rootS S x:=fun e=>by rw [e,Nat.beq_refl] at r4;cases r4
      have key:=hS1.turn (tb:=fun b=>decide ((a.eval x).ownBlock=some b)) (kp:=fun e=>apB (apL (forg d S).D) (rootS S x) e) (fun u hu b hb=>decide_eq_false fun e2=>apB_ok hS1 hu b (by rw [er];exact e2) hb) (v:=(a.put (some d) (.tuple #[])).tmps.getD (rootS S x) undef) (k:= .L t.T t.sz l' true) (D1:= [(apSlot, .N (apL (forg d S).D))]) (D2:=noAp (forg d S).D) (w':=w') r2 r5 c6 (grow_by hS q2 fun b e=>(hb b e).2.1) hE (fun u hu=> ?_) (by rw [er];exact hOw) (fun u hu=> ?_) (fun u hu=>(List.mem_filter.1 hu).1)
      ·rw [put_same] at key
       exact key
      ·obtain ⟨_,cs,g3,_⟩:=hS.lt hu
       refine q2.block _ (lt_heap g3) fun e=> ?_
       obtain ⟨p1,_,cs',p3,_⟩:=hb _ e.symm
       rw [g3] at p3
       injection p3 with p3
       injection p3 with _ p3
       have:=var_ban (G:=S.G) (kf:=kf) (own:=wE.heap.size) hu
       rw [p3,p1] at this
       cases this
      ·obtain rfl:=List.mem_singleton.1 hu
       refine ⟨hne,fun p hp=> ?_⟩
       rw [put_same]
       exact apL_ok hS1 p hp
   ·cases h
  ·cases h
 ·cases h
theorem runEfT_ok {o:Oper} {va:Nat} {ps:List Prop} (hS:SX n S wE kf a w) (h:runEfT E n va o S=some (S',ps)) (hp:AL ps):o.guard=none∧o.wp P a w (fun a' w'=> ∃kf',SX n S' wE kf' a' w'∧(isAp o=true→KV S.G kf kf'∧JV (fun _=>true) S.G kf w w')) Q:=by
 unfold runEfT at h
 split at h
 ·next c d hg hop hd=>
  split at h
  ·next f x xs ec ea=>
   split at h
   ·next t et=>
    refine ⟨hg, ?_⟩
    have ef:=findT_ok et
    refine Oper.wp_mono (fun a' w' ⟨kf',h1⟩=>⟨kf',h1,fun e=>by unfold isAp at e;rw [hop] at e;simp only [ec] at e;cases e⟩) (efTc_ok hS (t:=t) (ts:=c.argTypes) ?_ hd h hp)
    rw [hop]
    cases c with
    |mk ce ar ty=>
     simp only at ec ea
     subst ec
     rw [ef]
     congr 2
     apply Array.ext'
     rw [ea]
   ·cases h
  ·exact runEf_ok hS h hp
 ·exact runEf_ok hS h hp
end
end Go.Proofs.YthebilnlljkfeaaGreatDoor.X
