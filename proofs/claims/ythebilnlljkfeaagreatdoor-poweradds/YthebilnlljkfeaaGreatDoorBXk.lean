/- One text out of: Xk, Xv. -/
import Derived.Test.YthebilnlljkfeaaGreatDoorBX
import Derived.Test.YthebilnlljkfeaaGreatDoorBK
import Derived.Lib.LaidTab
import Derived.Lib.ItoaNum
namespace Go.Proofs.YthebilnlljkfeaaGreatDoor.X
open Go.RowKit Go.Proofs.YthebilnlljkfeaaGreatDoor.Z
def isB0:Pr:=fun w _=>IntB w 0∧ ∃m,w.cell? ⟨0,0,none⟩=some (.int .i64 m)
theorem stb_B0:Stb soft isB0:=fun _ _ _ ⟨hb,m,h⟩ g=>⟨intB_keep hb g,m,cell_int hb h g⟩
variable {cx:Cx} in
abbrev kB0:Kd Tryz.prog cx:= .of isB0 stb_B0
def isTb:Pr:=fun w _=> ∀x∈tabs,∃fr,w.heap[x.1]? =some (.cells (cellsT x.2.2).toArray x.2.1 fr)
def isTA (x:Value):Pr:=fun w v=> ∃b j cs t fr,v= .pointer (some ⟨b,j,none⟩)∧w.heap[b]? =some (.cells cs t fr)∧tabTy t=true∧cs[j]? =some x
theorem tab_evo {w w':World} {b t:Nat} {cs:Array Value} {fr:Nat×Nat} (ht:tabTy t=true) (h:w.heap[b]? =some (.cells cs t fr)) (g:Evo soft w w'):w'.heap[b]? =some (.cells cs t fr):=by
 rcases g.block b (Array.getElem?_eq_some_iff.1 h).1 with h1|⟨ob,_,h1,_,h3,_⟩
 ·rw [h1];exact h
 ·rw [h] at h1
  injection h1 with h1
  subst h1
  unfold softO at h3
  split at h3
  ·next e=>
   injection e with e1 e2
   subst e2
   exact (soft_ty (by unfold intTy;rw [ht,Bool.or_true]) h3).elim
  ·next e=>cases e
  ·cases h3
theorem tabs_ty: ∀x∈tabs,tabTy x.2.1=true:=by
 have h:(tabs.all fun x=>tabTy x.2.1)=true:=by kernel_rfl
 exact List.all_eq_true.1 h
noncomputable def tabB (x:Nat×Nat×Tbl):Bool:=match Tryz.prog.underlying x.2.1 with
 |some (.array n e)=>Nat.beq n (cellsT x.2.2).length&&((Tryz.prog.info? e).map (·.size)).any (fun m=>Nat.beq m 1)
 |_=>false
theorem tabs_ok: ∀x∈tabs,tabB x=true:=by
 have h:(tabs.all tabB)=true:=by kernel_rfl
 exact List.all_eq_true.1 h
theorem stb_Tb:Stb soft isTb:=fun _ _ _ h g x hx=>by
 obtain ⟨fr,e⟩:=h x hx
 exact ⟨fr,tab_evo (tabs_ty x hx) e g⟩
theorem stb_TA (x:Value):Stb soft (isTA x):=fun _ _ _ ⟨b,j,cs,t,fr,e,h,ht,hc⟩ g=>⟨b,j,cs,t,fr,e,tab_evo ht h g,ht,hc⟩
variable {cx:Cx} in
abbrev kTb:Kd Tryz.prog cx:= .of isTb stb_Tb
variable {cx:Cx} in
abbrev kTA (x:Value):Kd Tryz.prog cx:= .of (isTA x) (stb_TA x)
inductive K
 |N (n k:Nat)
 |W (z:Int) (k:Nat)
 |D (n k:Nat)
 |V (z:Int) (k:Nat)
 |S (l:List Nat)
 |A (x:Int)
 |F (z:Int) (n k:Nat)
 |Q (q:Rat) (k:Nat)
 |G (z:Int) (n k:Nat)
 |R (q:Rat) (k:Nat)
 |M (a b:List Nat) (m:Bool)
 |U (x:Nat)
 |I (l:List Int)
 |Ns (l:List Nat) (k:Nat)
 |AN (n k:Nat)
 |C (z s:Int) (k:Nat)
 |E7 (z s:Int) (k:Nat)
 |P (l:List Nat) (b:Bool) (s:Int)
 |I2 (m n:Int)
 |B0
 |Tb
 |TA (k:IntKind) (x:Int)
 |TS (l:List UInt8)
def dk (cx:Cx):K→Kd Tryz.prog cx
 | .N n k=>kN n k
 | .W z k=>kW z k
 | .D n k=>kD n k
 | .V z k=>kV z k
 | .S l=>kS l
 | .A x=>kA x
 | .F z n k=>kF z n k
 | .Q q k=>kQ q k
 | .G z n k=>kG z n k
 | .R q k=>kR q k
 | .M _ _ _=> .X
 | .U x=>kU x
 | .I l=>kI l
 | .Ns l k=>kNs l k
 | .AN n k=>kAN n k
 | .C _ _ _=> .X
 | .E7 _ _ _=> .X
 | .P _ _ _=> .X
 | .I2 _ _=> .X
 | .B0=>kB0
 | .Tb=>kTb
 | .TA k x=>kTA (.int k x)
 | .TS l=>kTA (.string (str l))
def c2 (t off T1 o1 T2 o2:Nat) (x y:Ks K):Option (Ks K):=cond (Nat.beq t T1&&Nat.beq off o1) (some x) (cond (Nat.beq t T2&&Nat.beq off o2) (some y) none)
set_option linter.unusedVariables false in
def fl (o:K) (t:TypeId) (off:Nat):Option (Ks K):=match o with
 | .W z k=>c2 t off 24 0 4 1 (.O (.N z.natAbs k)) (.E (.bool (decide (z<0))))
 | .F z n k=>c2 t off 26 0 24 2 (.O (.W z k)) (.O (.N n k))
 | .Q q k=>c2 t off 26 0 26 0 (.O (.W q.num k)) (.O (.W q.num k))
 | .V z k=>c2 t off 29 0 4 1 (.O (.D z.natAbs k)) (.E (.bool (decide (z<0))))
 | .G z n k=>c2 t off 31 0 29 2 (.O (.V z k)) (.O (.D n k))
 | .R q k=>match c2 t off 31 0 29 2 (.O (.V q.num k)) (.O (.D q.den k)) with
  |some r=>some r
  |none=>c2 t off 29 0 4 1 (.O (.D q.num.natAbs k)) (.E (.bool (decide (q.num<0))))
 |_=>none
theorem dk_cx (o:K) (cx cx':Cx):(dk cx o).p=(dk cx' o).p∧(dk cx o).ty=(dk cx' o).ty:=by
 cases o<;>exact ⟨rfl,rfl⟩
def FOk (o:K) (t:TypeId) (off:Nat) (k:Ks K):Prop:= ∀cx kf lv,(aggB Tryz.prog t=true→ ∀sz,(Tryz.prog.info? t).map (·.size)=some sz→ ∀w cs,(dk cx o).p w (.agg cs)→(dS (dk cx) kf lv k).p w (.agg (cs.extract off (off+sz))))∧(plainB Tryz.prog t=true→ ∀w cs,(dk cx o).p w (.agg cs)→(dS (dk cx) kf lv k).p w (cs.getD off undef))
theorem fAgg {o:K} {t T:TypeId} {off off' sz:Nat} {k:Ks K} (h:(Nat.beq t T&&Nat.beq off off')=true) (hp:plainB Tryz.prog T=false) (hs:(Tryz.prog.info? T).map (·.size)=some sz) (hx: ∀{cx kf lv} w cs,(dk cx o).p w (.agg cs)→(dS (dk cx) kf lv k).p w (.agg (cs.extract off' (off'+sz)))):FOk o t off k:=by
 simp only [Bool.and_eq_true] at h
 obtain rfl:=Nat.eq_of_beq_eq_true h.1
 obtain rfl:=Nat.eq_of_beq_eq_true h.2
 intro cx kf lv
 refine ⟨fun _ s hs'=> ?_,fun h=>absurd (hp.symm.trans h) (by decide)⟩
 rw [hs] at hs'
 injection hs' with e
 subst e
 exact hx
theorem fPl {o:K} {t T:TypeId} {off off':Nat} {k:Ks K} (h:(Nat.beq t T&&Nat.beq off off')=true) (hp:aggB Tryz.prog T=false) (hx: ∀{cx kf lv} w cs,(dk cx o).p w (.agg cs)→(dS (dk cx) kf lv k).p w (cs.getD off' undef)):FOk o t off k:=by
 simp only [Bool.and_eq_true] at h
 obtain rfl:=Nat.eq_of_beq_eq_true h.1
 obtain rfl:=Nat.eq_of_beq_eq_true h.2
 exact fun cx kf lv=>⟨fun h=>absurd (hp.symm.trans h) (by decide),fun _=>hx⟩
theorem two {t off T1 o1 T2 o2:Nat} {x y r:Ks K} (h:c2 t off T1 o1 T2 o2 x y=some r):((Nat.beq t T1&&Nat.beq off o1)=true∧x=r)∨((Nat.beq t T2&&Nat.beq off o2)=true∧y=r):=by
 unfold c2 at h
 cases ha:(Nat.beq t T1&&Nat.beq off o1) with
 |true=>rw [ha] at h;injection h with h;exact .inl ⟨rfl,h⟩
 |false=>
  rw [ha] at h
  cases hb:(Nat.beq t T2&&Nat.beq off o2) with
  |true=>rw [hb] at h;injection h with h;exact .inr ⟨rfl,h⟩
  |false=>rw [hb] at h;cases h
theorem fldRD1 {q:Rat} {k:Nat}: ∀w cs,isR q k w (.agg cs)→isD q.num.natAbs k w (cs.getD 0 undef):=fun w cs ⟨A,l,c,A',l',c',e,h1,_⟩=>by
 injection e with e
 subst e
 exact h1
theorem fldRB1 {q:Rat} {k:Nat}: ∀w cs,isR q k w (.agg cs)→isE (.bool (decide (q.num<0))) w (cs.getD 1 undef):=fun w cs ⟨A,l,c,A',l',c',e,_⟩=>by
 injection e with e
 subst e
 rfl
theorem fl_ok: ∀o t off k,fl o t off=some k→FOk o t off k:=by
 intro o t off k h
 cases o with
 |W z n=>
  rcases two h with ⟨e,rfl⟩|⟨e,rfl⟩
  ·exact fAgg e (by kernel_rfl) sizeN fldWN
  ·exact fPl e (by kernel_rfl) fldWB
 |F z n k=>
  rcases two h with ⟨e,rfl⟩|⟨e,rfl⟩
  ·exact fAgg e (by kernel_rfl) sizeW fldFW
  ·exact fAgg e (by kernel_rfl) sizeN fldFN
 |Q q k=>
  rcases two h with ⟨e,rfl⟩|⟨e,rfl⟩
  ·exact fAgg e (by kernel_rfl) sizeW fldQW
  ·exact fAgg e (by kernel_rfl) sizeW fldQW
 |V z n=>
  rcases two h with ⟨e,rfl⟩|⟨e,rfl⟩
  ·exact fPl e (by kernel_rfl) fldVD
  ·exact fPl e (by kernel_rfl) fldVB
 |G z n k=>
  rcases two h with ⟨e,rfl⟩|⟨e,rfl⟩
  ·exact fAgg e (by kernel_rfl) sizeV fldGV
  ·exact fPl e (by kernel_rfl) fldGD
 |R q k=>
  simp only [fl] at h
  split at h
  ·next r e=>
   injection h with h
   subst h
   rcases two e with ⟨e1,rfl⟩|⟨e1,rfl⟩
   ·exact fAgg e1 (by kernel_rfl) sizeV fldRV
   ·exact fPl e1 (by kernel_rfl) fldRD
  ·rcases two h with ⟨e,rfl⟩|⟨e,rfl⟩
   ·exact fPl e (by kernel_rfl) fldRD1
   ·exact fPl e (by kernel_rfl) fldRB1
 |_=>cases h
theorem arr_of {α:Type} {x:Array α} {l:List α} (h:x.toList=l):x=l.toArray:=by
 cases x
 simp at h
 rw [h]
def hBld:Hd K:=fun _ _ ev op=>match op with
 | .build t ps=>cond (Nat.beq t 26) (match ps.toList with
  | []=>some (.s (.O (.W 0 0)),[])
  | [(0, .tmp x),(1, .tmp y)]=>match ev (.tmp x),ev (.tmp y) with
   |some (.s (.O (.N n k))),some (.s (.E (.bool b)))=>some (.s (.O (.W (signed n b) k)),[b=true→n≠0])
   |_,_=>none
  |_=>none) none
 | .binOp b t x y t2=>cond (Nat.beq t 4&&Nat.beq t2 4) (match ev x,ev y with
  |some (.s (.E (.bool m))),some (.s (.E (.bool n)))=>match b with
   | .eql=>some (.s (.E (.bool (m==n))),[])
   | .neq=>some (.s (.E (.bool (!(m==n)))),[])
   |_=>none
  |_,_=>none) none
 | .convert s t x=>cond (Nat.beq s 3&&Nat.beq t 76) (match ev x with
  |some (.s (.E (.int .i64 m)))=>some (.s (.E (.int .u64 (IntKind.u64.wrap m))),[])
  |_=>none) none
 | .buildSlice t 1 ps=>cond (Nat.beq t 22) (match ps.toList with
  | [(0, .const (.int .u64 (.ofNat x)))]=>some (.s (.O (.S [x])),[x<Mx.B])
  | [(0, .tmp z)]=>match ev (.tmp z) with
   |some (.s (.E (.int .u64 (.ofNat x))))=>some (.s (.O (.S [x])),[x<Mx.B])
   |_=>none
  |_=>none) none
 |_=>none
theorem hBld_ok:HOk dk hBld:=by
 intro cx lv ops Q Fc G D V kf0 i d ft va ev hfr hev op F ps h hp hF
 unfold hBld at h
 split at h
 ·next t qs=>
  obtain ⟨e,h⟩:=c_t h
  obtain rfl:=Nat.eq_of_beq_eq_true e
  split at h
  ·next el=>
   rw [arr_of el]
   injection h with h
   injection h with h1 h2
   subst h1 h2
   exact buildW0 hF
  ·next x y el=>
   rw [arr_of el]
   split at h
   ·next n k b e1 e2=>
    injection h with h
    injection h with h1 h2
    subst h1 h2
    exact buildW2 (hev _ _ e1) (hev _ _ e2) hp.1 hF
   ·cases h
  ·cases h
 ·next b t x y t2=>
  obtain ⟨e,h⟩:=c_t h
  simp only [Bool.and_eq_true] at e
  obtain rfl:=Nat.eq_of_beq_eq_true e.1
  obtain rfl:=Nat.eq_of_beq_eq_true e.2
  split at h
  ·next m n e1 e2=>
   split at h
   ·injection h with h
    injection h with h1 h2
    subst h1 h2
    exact eqlBz (hev _ _ e1) (hev _ _ e2) rfl hF
   ·injection h with h
    injection h with h1 h2
    subst h1 h2
    exact neqBz (hev _ _ e1) (hev _ _ e2) rfl hF
   ·cases h
  ·cases h
 ·next s t x=>
  obtain ⟨e,h⟩:=c_t h
  simp only [Bool.and_eq_true] at e
  obtain rfl:=Nat.eq_of_beq_eq_true e.1
  obtain rfl:=Nat.eq_of_beq_eq_true e.2
  split at h
  ·next m e1=>
   injection h with h
   injection h with h1 h2
   subst h1 h2
   exact cvU (hev _ _ e1) rfl hF
  ·cases h
 ·next t qs=>
  obtain ⟨e,h⟩:=c_t h
  obtain rfl:=Nat.eq_of_beq_eq_true e
  split at h
  ·next x el=>
   rw [arr_of el]
   injection h with h
   injection h with h1 h2
   subst h1 h2
   exact buildOneZ hp.1 hF
  ·next z el=>
   rw [arr_of el]
   split at h
   ·next x e1=>
    injection h with h
    injection h with h1 h2
    subst h1 h2
    exact buildOneT (hev _ _ e1) hp.1 hF
   ·cases h
  ·cases h
 ·cases h
set_option linter.unusedVariables false in
def hBl2:Hd K:=fun _ _ ev op=>match op with
 | .build t ps=>match ps.toList with
  | []=>cond (Nat.beq t 28) (some (.s (.O (.F 0 0 1)),[])) none
  | [(0, .tmp x),(1, .tmp y)]=>match ev (.tmp x),ev (.tmp y) with
   |some (.s (.O (.W z k))),some (.s (.O (.N n j)))=>cond (Nat.beq t 28) (some (.s (.O (.F z n (max k j))),[])) none
   |some (.s (.O (.D n k))),some (.s (.E (.bool b)))=>cond (Nat.beq t 31) (some (.s (.O (.V (signed n b) k)),[b=true→n≠0])) none
   |some (.s (.O (.V z k))),some (.s (.O (.D n j)))=>cond (Nat.beq t 33) (some (.s (.O (.G z n (max k j))),[])) none
   |some .u,_=>none
   |_,_=>none
  |_=>none
 |_=>none
theorem hBl2_ok:HOk dk hBl2:=by
 intro cx lv ops Q Fc G D V kf0 i d ft va ev hfr hev op F ps h hp hF
 unfold hBl2 at h
 split at h
 ·next t qs=>
  split at h
  ·next el=>
   rw [arr_of el]
   obtain ⟨e,h⟩:=c_t h
   obtain rfl:=Nat.eq_of_beq_eq_true e
   injection h with h
   injection h with h1 h2
   subst h1 h2
   exact buildF0 hF
  ·next x y el=>
   rw [arr_of el]
   split at h
   ·next z k n j e1 e2=>
    obtain ⟨e,h⟩:=c_t h
    obtain rfl:=Nat.eq_of_beq_eq_true e
    injection h with h
    injection h with h1 h2
    subst h1 h2
    exact buildF (hev _ _ e1) (hev _ _ e2) (Nat.le_max_left _ _) (Nat.le_max_right _ _) hF
   ·next n k b e1 e2=>
    obtain ⟨e,h⟩:=c_t h
    obtain rfl:=Nat.eq_of_beq_eq_true e
    injection h with h
    injection h with h1 h2
    subst h1 h2
    exact buildV2 (hev _ _ e1) (hev _ _ e2) hp.1 hF
   ·next z k n j e1 e2=>
    obtain ⟨e,h⟩:=c_t h
    obtain rfl:=Nat.eq_of_beq_eq_true e
    injection h with h
    injection h with h1 h2
    subst h1 h2
    exact buildG (hev _ _ e1) (hev _ _ e2) (Nat.le_max_left _ _) (Nat.le_max_right _ _) hF
   ·cases h
   ·cases h
  ·cases h
 ·cases h
set_option linter.unusedVariables false in
def hSl:Hd K:=fun _ _ ev op=>match op with
 | .slice t x none (some y) none=>cond (Nat.beq t 22) (match ev x,ev y with
  |some (.s (.O (.S l))),some (.s (.E (.int .i64 (.ofNat n))))=>some (.s (.O (.S (l.take n))),[n≤l.length])
  |_,_=>none) none
 | .buildSlice t 1 ps=>cond (Nat.beq t 29) (match ps.toList with
  | [(0, .const (.int .i64 (.ofNat x)))]=>some (.s (.O (.D x 1)),[x≠0,x<10000])
  |_=>none) none
 | .buildSlice t 2 ps=>cond (Nat.beq t 29) (match ps.toList with
  | [(0, .tmp x),(1, .tmp y)]=>match ev (.tmp x),ev (.tmp y) with
   |some (.s (.E (.int .i64 m))),some (.s (.E (.int .i64 n)))=>some (.s (.O (.I [m,n])),[])
   |_,_=>none
  |_=>none) none
 | .buildSlice t 3 ps=>cond (Nat.beq t 105) (match ps.toList with
  | [(0, .tmp x),(1, .tmp y),(2, .tmp z)]=>match ev (.tmp x),ev (.tmp y),ev (.tmp z) with
   |some (.s (.O (.N n k))),some (.s (.O (.N m j))),some (.s (.O (.N o i)))=>some (.s (.O (.Ns [n,m,o] (max (max k j) i))),[])
   |_,_,_=>none
  |_=>none) none
 |_=>none
theorem hSl_ok:HOk dk hSl:=by
 intro cx lv ops Q Fc G D V kf0 i d ft va ev hfr hev op F ps h hp hF
 unfold hSl at h
 split at h
 ·next t x y=>
  obtain ⟨e,h⟩:=c_t h
  obtain rfl:=Nat.eq_of_beq_eq_true e
  split at h
  ·next l n e1 e2=>
   injection h with h
   injection h with h1 h2
   subst h1 h2
   exact upS (hev _ _ e1) (hev _ _ e2) hp.1 hF
  ·cases h
 ·next t qs=>
  obtain ⟨e,h⟩:=c_t h
  obtain rfl:=Nat.eq_of_beq_eq_true e
  split at h
  ·next x el=>
   rw [arr_of el]
   injection h with h
   injection h with h1 h2
   subst h1 h2
   exact buildDone hp.1 hp.2.1 hF
  ·cases h
 ·next t qs=>
  obtain ⟨e,h⟩:=c_t h
  obtain rfl:=Nat.eq_of_beq_eq_true e
  split at h
  ·next x y el=>
   rw [arr_of el]
   split at h
   ·next m n e1 e2=>
    injection h with h
    injection h with h1 h2
    subst h1 h2
    exact buildI2 (hev _ _ e1) (hev _ _ e2) hF
   ·cases h
  ·cases h
 ·next t qs=>
  obtain ⟨e,h⟩:=c_t h
  obtain rfl:=Nat.eq_of_beq_eq_true e
  split at h
  ·next x y z el=>
   rw [arr_of el]
   split at h
   ·next e1 e2 e3=>
    injection h with h
    injection h with h1 h2
    subst h1 h2
    exact buildNs3 (hev _ _ e1) (hev _ _ e2) (hev _ _ e3) (by omega) (by omega) (by omega) hF
   ·cases h
  ·cases h
 ·cases h
def hLen:Hd K:=fun _ _ ev op=>match op with
 | .call ⟨.builtin .len,xs,ts⟩=>match xs.toList,ts.toList with
  | [x],[t]=>match ev x with
   |some (.s (.O (.S l)))=>cond (Nat.beq t 22) (some (.s (.E (.int .i64 ((l.length:Nat):Int))),[])) none
   |some (.s (.O (.D n _)))=>cond (Nat.beq t 29) (some (.s (.E (.int .i64 ((Dx.len n:Nat):Int))),[])) none
   |some (.s (.O (.I l)))=>cond (Nat.beq t 29) (some (.s (.E (.int .i64 ((l.length:Nat):Int))),[])) none
   |some (.s (.O (.Ns l _)))=>cond (Nat.beq t 105) (some (.s (.E (.int .i64 ((l.length:Nat):Int))),[])) none
   |_=>none
  |_,_=>none
 | .call ⟨.builtin .min,xs,_⟩=>match xs.toList with
  | [x,y]=>match ev x,ev y with
   |some (.s (.E (.int .i64 m))),some (.s (.E (.int .i64 n)))=>some (.s (.E (.int .i64 (min m n))),[])
   |_,_=>none
  |_=>none
 | .call ⟨.builtin .max,xs,_⟩=>match xs.toList with
  | [x,y]=>match ev x,ev y with
   |some (.s (.E (.int .i64 m))),some (.s (.E (.int .i64 n)))=>some (.s (.E (.int .i64 (max m n))),[])
   |_,_=>none
  |_=>none
 |_=>none
theorem hLen_ok:HOk dk hLen:=by
 intro cx lv ops Q Fc G D V kf0 i d ft va ev hfr hev op F ps h hp hF
 unfold hLen at h
 split at h
 ·next xs ts=>
  split at h
  ·next x t ex et=>
   rw [arr_of ex,arr_of et]
   split at h
   ·next l e1=>
    obtain ⟨e,h⟩:=c_t h
    obtain rfl:=Nat.eq_of_beq_eq_true e
    injection h with h
    injection h with h1 h2
    subst h1 h2
    exact lenS (hev _ _ e1) rfl hF
   ·next e1=>
    obtain ⟨e,h⟩:=c_t h
    obtain rfl:=Nat.eq_of_beq_eq_true e
    injection h with h
    injection h with h1 h2
    subst h1 h2
    exact lenD (hev _ _ e1) rfl hF
   ·next l e1=>
    obtain ⟨e,h⟩:=c_t h
    obtain rfl:=Nat.eq_of_beq_eq_true e
    injection h with h
    injection h with h1 h2
    subst h1 h2
    refine lenC (e:=3) (by kernel_rfl) (hev _ _ e1) rfl ?_
    rw [show (ints l).length=l.length by simp [ints]]
    exact hF
   ·next l _ e1=>
    obtain ⟨e,h⟩:=c_t h
    obtain rfl:=Nat.eq_of_beq_eq_true e
    injection h with h
    injection h with h1 h2
    subst h1 h2
    exact lenNs (hev _ _ e1) rfl hF
   ·cases h
  ·cases h
 ·next xs ts=>
  split at h
  ·next x y ex=>
   rw [arr_of ex]
   split at h
   ·next m n e1 e2=>
    injection h with h
    injection h with h1 h2
    subst h1 h2
    exact minI (hev _ _ e1) (hev _ _ e2) rfl hF
   ·cases h
  ·cases h
 ·next xs ts=>
  split at h
  ·next x y ex=>
   rw [arr_of ex]
   split at h
   ·next m n e1 e2=>
    injection h with h
    injection h with h1 h2
    subst h1 h2
    exact maxI (hev _ _ e1) (hev _ _ e2) rfl hF
   ·cases h
  ·cases h
 ·cases h
theorem get_at {α:Type} {l:List α} {n:Nat} {x:α} (h:n<l.length):l[n]? =some (l.getD n x):=by
 rw [List.getD_eq_getElem?_getD,List.getElem?_eq_getElem h]
 rfl
def hIx:Hd K:=fun _ _ ev op=>match op with
 | .indexAddr t x y=>match ev x with
   |some (.s (.O (.S l)))=>match y with
    | .const (.int .i64 (.ofNat 0))=>cond (Nat.beq t 22) (some (.s (.O (.U (l.getD 0 0))),[0<l.length])) none
    |_=>none
   |some (.s (.O (.D n _)))=>match y with
    | .const (.int .i64 (.ofNat 0))=>cond (Nat.beq t 29) (some (.s (.O (.A ((n:Nat):Int))),[Dx.len n=1])) none
    |_=>none
   |some (.s (.O (.I l)))=>match ev y with
    |some (.s (.E (.int .i64 (.ofNat n))))=>cond (Nat.beq t 29) (some (.s (.O (.A (l.getD n 0))),[n<l.length])) none
    |_=>none
   |some (.s (.O (.Ns l k)))=>match ev y with
    |some (.s (.E (.int .i64 (.ofNat n))))=>cond (Nat.beq t 105) (some (.s (.O (.AN (l.getD n 0) k)),[n<l.length])) none
    |_=>none
   |_=>none
 | .load t x=>match ev x with
  |some (.s (.O (.A z)))=>cond (Nat.beq t 3) (some (.s (.E (.int .i64 z)),[])) none
  |some (.s (.O (.U n)))=>cond (Nat.beq t 76) (some (.s (.E (.int .u64 ((n:Nat):Int))),[])) none
  |some (.s (.O (.AN n k)))=>cond (Nat.beq t 24) (some (.s (.O (.N n k)),[])) none
  |_=>none
 | .binOp .and _ x y _=>match ev x,ev y with
  |some (.s (.E (.int .u64 (.ofNat m)))),some (.s (.E (.int .u64 (.ofNat 1))))=>some (.s (.E (.int .u64 ((m%2:Nat):Int))),[m<18446744073709551616])
  |_,_=>none
 |_=>none
theorem hIx_ok:HOk dk hIx:=by
 intro cx lv ops Q Fc G D V kf0 i d ft va ev hfr hev op F ps h hp hF
 unfold hIx at h
 split at h
 ·next t x y=>
  ·split at h
   ·next l e1=>
    split at h
    ·obtain ⟨e,h⟩:=c_t h
     obtain rfl:=Nat.eq_of_beq_eq_true e
     injection h with h
     injection h with h1 h2
     subst h1 h2
     exact idxS0 (hev _ _ e1) hp.1 hF
    ·cases h
   ·next n _ e1=>
    split at h
    ·obtain ⟨e,h⟩:=c_t h
     obtain rfl:=Nat.eq_of_beq_eq_true e
     injection h with h
     injection h with h1 h2
     subst h1 h2
     exact idxD (hev _ _ e1) hp.1 hF
    ·cases h
   ·next l e1=>
    split at h
    ·next n e2=>
     obtain ⟨e,h⟩:=c_t h
     obtain rfl:=Nat.eq_of_beq_eq_true e
     injection h with h
     injection h with h1 h2
     subst h1 h2
     exact idxI (hev _ _ e1) (hev _ _ e2) (get_at hp.1) hF
    ·cases h
   ·next l k e1=>
    split at h
    ·next n e2=>
     obtain ⟨e,h⟩:=c_t h
     obtain rfl:=Nat.eq_of_beq_eq_true e
     injection h with h
     injection h with h1 h2
     subst h1 h2
     exact idxNs (hev _ _ e1) (hev _ _ e2) (get_at hp.1) hF
    ·cases h
   ·cases h
 ·next t x=>
  split at h
  ·next z e1=>
   obtain ⟨e,h⟩:=c_t h
   obtain rfl:=Nat.eq_of_beq_eq_true e
   injection h with h
   injection h with h1 h2
   subst h1 h2
   exact loadA (hev _ _ e1) hF
  ·next n e1=>
   obtain ⟨e,h⟩:=c_t h
   obtain rfl:=Nat.eq_of_beq_eq_true e
   injection h with h
   injection h with h1 h2
   subst h1 h2
   exact loadU (hev _ _ e1) hF
  ·next n k e1=>
   obtain ⟨e,h⟩:=c_t h
   obtain rfl:=Nat.eq_of_beq_eq_true e
   injection h with h
   injection h with h1 h2
   subst h1 h2
   exact loadAN (hev _ _ e1) hF
  ·cases h
 ·next t x y t2=>
  split at h
  ·next m e1 e2=>
   injection h with h
   injection h with h1 h2
   subst h1 h2
   have a1:Arg soft Tryz.prog ops Fc G D V kf0 i x (isE (.int .u64 (m:Int))):=hev _ _ e1
   have a2:Arg soft Tryz.prog ops Fc G D V kf0 i y (isE (.int .u64 1)):=hev _ _ e2
   exact bin a1 a2 guardI (fun w=>by
    have h:=and_one m hp.1
    simp [binOp,go_sem,h]) hF
  ·cases h
 ·cases h
noncomputable def hDc:Hd K:=fun _ _ ev op=>match op with
 | .index t x y=>cond (Nat.beq t 9) (match ev x,ev y with
  |some (.s (.E (.string ⟨⟨l⟩⟩))),some (.s (.E (.int .i64 (.ofNat n))))=>some (.s (.E (.int .u8 (((l.getD n 0).toNat:Nat):Int))),[n<l.length])
  |_,_=>none) none
 | .slice t x none (some y) none=>cond (Nat.beq t 9) (match ev x,ev y with
  |some (.s (.E (.string ⟨⟨l⟩⟩))),some (.s (.E (.int .i64 (.ofNat n))))=>some (.s (.E (.string (str (l.take n)))),[n≤l.length])
  |_,_=>none) none
 | .slice t x (some y) none none=>cond (Nat.beq t 9) (match ev x,ev y with
  |some (.s (.E (.string ⟨⟨l⟩⟩))),some (.s (.E (.int .i64 (.ofNat n))))=>some (.s (.E (.string (str (l.drop n)))),[n≤l.length])
  |_,_=>none) none
 | .slice t x (some u) (some y) none=>cond (Nat.beq t 9) (match ev x,ev u,ev y with
  |some (.s (.E (.string ⟨⟨l⟩⟩))),some (.s (.E (.int .i64 (.ofNat m)))),some (.s (.E (.int .i64 (.ofNat n))))=>some (.s (.E (.string (str ((l.take n).drop m)))),[m≤n,n≤l.length])
  |_,_,_=>none) none
 | .convert s t x=>match ev x with
  |some (.s (.E (.int _ m)))=>match Tryz.prog.underlying s,Tryz.prog.underlying t with
   |some _,some (.int k')=>some (.s (.E (.int k' (k'.wrap m))),[])
   |_,_=>none
  |_=>none
 | .call ⟨.builtin .len,xs,ts⟩=>match xs.toList,ts.toList with
  | [x],[t]=>match ev x with
   |some (.s (.E (.string ⟨⟨l⟩⟩)))=>cond (Nat.beq t 9) (some (.s (.E (.int .i64 ((l.length:Nat):Int))),[])) none
   |_=>none
  |_,_=>none
 |_=>none
theorem hDc_ok:HOk dk hDc:=by
 intro cx lv ops Q Fc G D V kf0 i d ft va ev hfr hev op F ps h hp hF
 unfold hDc at h
 split at h
 ·next t x y=>
  obtain ⟨e,h⟩:=c_t h
  obtain rfl:=Nat.eq_of_beq_eq_true e
  split at h
  ·next l n e1 e2=>
   injection h with h
   injection h with h1 h2
   subst h1 h2
   exact idxTx (hev _ _ e1) (hev _ _ e2) hp.1 hF
  ·cases h
 ·next t x y=>
  obtain ⟨e,h⟩:=c_t h
  obtain rfl:=Nat.eq_of_beq_eq_true e
  split at h
  ·next l n e1 e2=>
   injection h with h
   injection h with h1 h2
   subst h1 h2
   exact upTx (hev _ _ e1) (hev _ _ e2) hp.1 hF
  ·cases h
 ·next t x y=>
  obtain ⟨e,h⟩:=c_t h
  obtain rfl:=Nat.eq_of_beq_eq_true e
  split at h
  ·next l n e1 e2=>
   injection h with h
   injection h with h1 h2
   subst h1 h2
   exact dnTx (hev _ _ e1) (hev _ _ e2) hp.1 hF
  ·cases h
 ·next t x u y=>
  obtain ⟨e,h⟩:=c_t h
  obtain rfl:=Nat.eq_of_beq_eq_true e
  split at h
  ·next l m n e1 e2 e3=>
   injection h with h
   injection h with h1 h2
   subst h1 h2
   exact mdTx (hev _ _ e1) (hev _ _ e2) (hev _ _ e3) hp.1 hp.2.1 hF
  ·cases h
 ·next s t x=>
  split at h
  ·next k m e1=>
   split at h
   ·next ds k' e2 e3=>
    injection h with h
    injection h with h1 h2
    subst h1 h2
    exact cvK e2 e3 (hev _ _ e1) hF
   ·cases h
  ·cases h
 ·next xs ts=>
  split at h
  ·next x t ex et=>
   rw [arr_of ex,arr_of et]
   split at h
   ·next l e1=>
    obtain ⟨e,h⟩:=c_t h
    obtain rfl:=Nat.eq_of_beq_eq_true e
    injection h with h
    injection h with h1 h2
    subst h1 h2
    exact lenTx (t:=9) (by kernel_rfl) (hev _ _ e1) rfl hF
   ·cases h
  ·cases h
 ·cases h
def hDr:Hd K:=fun _ _ _ _=>none
theorem hDr_ok:HOk dk hDr:=by
 intro cx lv ops Q Fc G D V kf0 i d ft va ev hfr hev op F ps h hp hF
 cases h
def lookT (g t:Nat):List (Nat×Nat×Tbl)→Option Tbl
 | []=>none
 |x::r=>cond (Nat.beq x.1 g&&Nat.beq x.2.1 t) (some x.2.2) (lookT g t r)
theorem lookT_ok {g t:Nat} {l:Tbl}: ∀{r:List (Nat×Nat×Tbl)},lookT g t r=some l→(g,t,l)∈r:=by
 intro r
 induction r with
 |nil=>intro h;cases h
 |cons x r ih=>
  intro h
  unfold lookT at h
  cases hb:(Nat.beq x.1 g&&Nat.beq x.2.1 t) with
  |true=>
   rw [hb] at h
   injection h with h
   simp only [Bool.and_eq_true] at hb
   obtain ⟨x1,x2,x3⟩:=x
   obtain rfl:=Nat.eq_of_beq_eq_true hb.1
   obtain rfl:=Nat.eq_of_beq_eq_true hb.2
   subst h
   exact .head _
  |false=>
   rw [hb] at h
   exact .tail _ (ih h)
section
variable {ops:Array Oper} {Q:Exit→Act→World→Prop} {F:Go.Proofs.YthebilnlljkfeaaGreatDoor.Rg.Facts} {G:List Vr} {D:List (Nat×Pr)} {V:VS} {kf0:Nat→Nat} {i d:Nat}
theorem tabAt {g t n:Nat} {l:Tbl} {y:Operand} {v:Value} (hl:lookT g t tabs=some l) (h1:Arg soft Tryz.prog ops F G D V kf0 i (.tmp wSlot) isTb) (h2:Arg soft Tryz.prog ops F G D V kf0 i y (fun _ v=>v= .int .i64 (n:Int))) (hv:(cellsT l)[n]? =some v) (hF: ∀w u,isTA v w u→F d w u):Owes soft Tryz.prog ops Q F G D V kf0 i (some d) (.indexAddr t (.global g) y):=
 val (fun o a w ho c=>by
  have hm:=lookT_ok hl
  obtain ⟨fr,h3⟩:=(show isTb w (a.eval (.tmp wSlot)) from h1 a w c) _ hm
  have e3:a.eval y= .int .i64 (n:Int):=h2 a w c
  have hn:n<(cellsT l).length:=(List.getElem?_eq_some_iff.1 hv).1
  have hB:=tabs_ok _ hm
  unfold tabB at hB
  split at hB
  ·next m e hu=>
   simp only [Bool.and_eq_true] at hB
   have hl:=Nat.eq_of_beq_eq_true hB.1
   obtain ⟨j,hj,hz⟩:=Option.map_eq_some_iff.1 (show (Tryz.prog.info? e).map (·.size)=some 1 by
    cases hx:(Tryz.prog.info? e).map (·.size) with
    |none=>rw [hx] at hB;exact absurd hB.2 (by simp)
    |some s=>rw [hx] at hB;rw [Nat.eq_of_beq_eq_true (show Nat.beq s 1=true by simpa using hB.2)])
   refine ⟨.pointer (some ⟨g,n,none⟩), ?_,hF _ _ ⟨g,n,_,t,fr,rfl,h3,tabs_ty _ hm, ?_⟩⟩
   ·unfold execOp
    simp only [ho,e3]
    have hu':Tryz.prog.underlying t=some (.array m e):=hu
    have hnm:n<m:=by rw [hl];exact hn
    simp [go_sem,Instr.indexAt,Act.eval,Instr.sureAddr,underlying,sizeOf,typeInfo,hu',hj,hz,hnm]
   ·simpa using hv
  ·cases hB) rfl
theorem tabLd {t:Nat} {x:Operand} {v:Value} (hpl:plainB Tryz.prog t=true) (hx:Arg soft Tryz.prog ops F G D V kf0 i x (isTA v)) (hF: ∀w u,u=v→F d w u):Owes soft Tryz.prog ops Q F G D V kf0 i (some d) (.load t x):=
 val (fun o a w ho c=>by
  obtain ⟨b,j,cs,t',fr,e3,h3,_,h4⟩:=hx a w c
  refine ⟨v, ?_,hF _ _ rfl⟩
  have hc:w.cell? ⟨b,j,none⟩=some v:=by
   simp only [World.cell?,h3,Option.isSome_none,Bool.false_eq_true,if_false]
   exact h4
  have: ∃ds,Tryz.prog.underlying t=some ds∧aggD ds=false:=by
   unfold plainB at hpl
   split at hpl
   ·cases hpl
   ·cases hpl
   ·next ds h1 h2 e=>exact ⟨ds,e,by cases ds<;>first|rfl|exact (h1 _ rfl).elim|exact (h2 _ _ rfl).elim⟩
   ·cases hpl
  obtain ⟨ds,hu,hd⟩:=this
  unfold execOp
  simp only [ho,e3,Instr.loadAt,Instr.sureAddr,Sem.run_bind,Sem.run_pure,Result.andThen_ok,run_loadCell hc hu hd]) rfl
end
theorem cells_i {k:IntKind} {zs:List Int} {n:Nat} (h:n<zs.length):(cellsT (.inl (k,zs)))[n]? =some (.int k (zs.getD n 0)):=by
 show (zs.map (Value.int k))[n]? =_
 rw [List.getElem?_map,List.getElem?_eq_getElem h,List.getD_eq_getElem?_getD,List.getElem?_eq_getElem h]
 rfl
theorem cells_s {zs:List (List UInt8)} {n:Nat} (h:n<zs.length):(cellsT (.inr zs))[n]? =some (.string (str (zs.getD n []))):=by
 show (zs.map fun z=>Value.string ⟨⟨z⟩⟩)[n]? =_
 rw [List.getElem?_map,List.getElem?_eq_getElem h,List.getD_eq_getElem?_getD,List.getElem?_eq_getElem h]
 rfl
noncomputable def hTb:Hd K:=fun _ _ ev op=>match op with
 | .indexAddr t (.global g) y=>match lookT g t tabs with
  |some (.inl (k,zs))=>match ev (.tmp wSlot),ev y with
   |some (.s (.O .Tb)),some (.s (.E (.int .i64 (.ofNat n))))=>some (.s (.O (.TA k (zs.getD n 0))),[n<zs.length])
   |_,_=>none
  |some (.inr zs)=>match ev (.tmp wSlot),ev y with
   |some (.s (.O .Tb)),some (.s (.E (.int .i64 (.ofNat n))))=>some (.s (.O (.TS (zs.getD n []))),[n<zs.length])
   |_,_=>none
  |none=>none
 | .load t x=>cond (plainB Tryz.prog t) (match ev x with
  |some (.s (.O (.TA k z)))=>some (.s (.E (.int k z)),[])
  |some (.s (.O (.TS l)))=>some (.s (.E (.string (str l))),[])
  |_=>none) none
 |_=>none
theorem hTb_ok:HOk dk hTb:=by
 intro cx lv ops Q Fc G D V kf0 i d ft va ev hfr hev op F ps h hp hF
 unfold hTb at h
 split at h
 ·next t g y=>
  split at h
  ·next k zs hl=>
   split at h
   ·next n e1 e2=>
    injection h with h
    injection h with h1 h2
    subst h1 h2
    exact tabAt hl (hev _ _ e1) (hev _ _ e2) (cells_i hp.1) hF
   ·cases h
  ·next zs hl=>
   split at h
   ·next n e1 e2=>
    injection h with h
    injection h with h1 h2
    subst h1 h2
    exact tabAt hl (hev _ _ e1) (hev _ _ e2) (cells_s hp.1) hF
   ·cases h
  ·cases h
 ·next t x=>
  obtain ⟨hpl,h⟩:=c_t h
  split at h
  ·next k z e1=>
   injection h with h
   injection h with h1 h2
   subst h1 h2
   exact tabLd hpl (hev _ _ e1) hF
  ·next l e1=>
   injection h with h
   injection h with h1 h2
   subst h1 h2
   exact tabLd hpl (hev _ _ e1) hF
  ·cases h
 ·cases h
theorem hd_ok (cts:List (Ct dk)):HOk dk (hOr (hOr (hOr (hOr hCore hBin) (hOr (hCall cts) hIx)) (hOr (hOr hLen hBld) (hOr hSl hBl2))) (hOr (hOr (hOr hDc hTb) hDr) (hOr (hLs Tryz.prog) (hMo Tryz.prog .B0 fun o t=>(dk cx0 o).ty t)))):=hOr_ok (hOr_ok (hOr_ok (hOr_ok hCore_ok hBin_ok) (hOr_ok (hCall_ok (fun o cx cx'=>(dk_cx o cx cx').1) cts) hIx_ok)) (hOr_ok (hOr_ok hLen_ok hBld_ok) (hOr_ok hSl_ok hBl2_ok))) (hOr_ok (hOr_ok (hOr_ok hDc_ok hTb_ok) hDr_ok) (hOr_ok hLs_ok (hMo_ok fun o t h cx=>by rw [←(dk_cx o cx0 cx).2];exact h)))
noncomputable def En (cts:List (Ct dk)) (tcs:List (Tt dk):= []):Env Tryz.prog:=⟨K,dk,dk_cx,_,hd_ok cts,fl,fl_ok,tcs⟩
end Go.Proofs.YthebilnlljkfeaaGreatDoor.X
namespace Go.Proofs.YthebilnlljkfeaaGreatDoor.X
open Go.RowKit Go.Proofs.YthebilnlljkfeaaGreatDoor.Z
def tK (k k':Ks K):Prop:= ∀cx kf lv w v,(dS (dk cx) kf lv k).p w v→(dS (dk cx) kf lv k').p w v
noncomputable abbrev k0 (w:World) (k:Ks K):Kd Tryz.prog (cxA w):=dS (dk (cxA w)) (fun _=>0) (fun _=>undef) k
noncomputable abbrev f0 (w:World) (F:Fk K):Kd Tryz.prog (cxA w):=dF (dk (cxA w)) (fun _=>0) (fun _=>undef) F
abbrev tI (m n:Int):Prop:=IntKind.i64=IntKind.i64∧m=n
abbrev tU (m n:Int):Prop:=IntKind.u64=IntKind.u64∧m=n
abbrev tB (m n:Int):Prop:=IntKind.u8=IntKind.u8∧m=n
abbrev tH (m n:Int):Prop:=IntKind.u16=IntKind.u16∧m=n
abbrev tR (m n:Int):Prop:=IntKind.i32=IntKind.i32∧m=n
abbrev tLs (T sz:Nat) (o:Bool) (l l':List (List Value)):Prop:=(T=T∧sz=sz∧o=o)∧l=l'
abbrev tLn (T sz:Nat) (l l':List (List Value)):Prop:=(T=T∧sz=sz)∧l=l'
abbrev tMo (T sz:Nat) (o:Nat) (l l':List K):Prop:=(T=T∧sz=sz∧o=o)∧l=l'
abbrev tBo (sz:Nat) (o o':K):Prop:=sz=sz∧o=o'
theorem nil_L {T sz:Nat} {l:List (List Value)} (h:l= []):tK (.E (.slice none 0 0)) (.L T sz l true):=by
 subst h
 intro cx kf lv w v hv
 have e:v= .slice none 0 0:=hv
 subst e
 exact nil_Ow
abbrev eI (x:Int):Ks K:= .E (.int .i64 x)
abbrev eB (x:Bool):Ks K:= .E (.bool x)
abbrev eD (x y z:Int):Ks K:= .E (.agg ⟨[.int .i64 x, .int .i64 y, .int .i64 z]⟩)
abbrev oS (k:Ks K):Option (Fk K):=some (.s k)
abbrev wp (x:Int):Prop:=IntKind.i64.wrap x=x
theorem wi {x:Int} (h: -9223372036854775808≤x∧x≤9223372036854775807):wp x:=i64_in h.1 h.2
abbrev im2 (a:Bool):Prop:=a=true→a=true
theorem deT {p:Prop} [Decidable p] (h:p):decide p=true:=decide_eq_true h
theorem deF {p:Prop} [Decidable p] (h: ¬p):decide p=false:=decide_eq_false h
def hnX:List (Nat×Hint K)→Nat→Hint K
 | [],_=> []
 |x::r,i=>cond (Nat.beq x.1 i) x.2 (hnX r i)
def rlX (f:Nat→Sx K→Sx K):List Nat→Sx K→Sx K
 | [],S=>S
 |r::l,S=>f r (rlX f l S)
structure Vw (α:Type) where
 get:Ks K→Option α
 pr:α→Pr
 ok: ∀k a,get k=some a→ ∀w v,(k0 w k).p w v→pr a w v
def vN:Vw (Nat×Nat):=⟨fun| .O (.N n k)=>some (n,k)|_=>none,fun a=>isN a.1 a.2,fun k a h w v hv=>by split at h<;>cases h;exact hv⟩
def vW:Vw (Int×Nat):=⟨fun| .O (.W n k)=>some (n,k)|_=>none,fun a=>isW a.1 a.2,fun k a h w v hv=>by split at h<;>cases h;exact hv⟩
def vD:Vw (Nat×Nat):=⟨fun| .O (.D n k)=>some (n,k)|_=>none,fun a=>isD a.1 a.2,fun k a h w v hv=>by split at h<;>cases h;exact hv⟩
def vS:Vw (List Nat):=⟨fun| .O (.S l)=>some l|_=>none,fun a=>Z.isS a,fun k a h w v hv=>by split at h<;>cases h;exact hv⟩
def vS1:Vw Nat:=⟨fun| .O (.S [x])=>some x|_=>none,fun a=>Z.isS [a],fun k a h w v hv=>by split at h<;>cases h;exact hv⟩
def vV:Vw (Int×Nat):=⟨fun| .O (.V n k)=>some (n,k)|_=>none,fun a w v=>(k0 w (.O (.V a.1 a.2))).p w v,fun k a h w v hv=>by split at h<;>cases h;exact hv⟩
def vQ:Vw (Rat×Nat):=⟨fun| .O (.Q n k)=>some (n,k)|_=>none,fun a w v=>(k0 w (.O (.Q a.1 a.2))).p w v,fun k a h w v hv=>by split at h<;>cases h;exact hv⟩
def vR:Vw (Rat×Nat):=⟨fun| .O (.R n k)=>some (n,k)|_=>none,fun a w v=>(k0 w (.O (.R a.1 a.2))).p w v,fun k a h w v hv=>by split at h<;>cases h;exact hv⟩
def vM:Vw (List Nat×List Nat×Bool):=⟨fun| .O (.M a b m)=>some (a,b,m)|_=>none,fun a w v=>(k0 w (.O (.M a.1 a.2.1 a.2.2))).p w v,fun k a h w v hv=>by split at h<;>cases h;exact hv⟩
def vC:Vw (Int×Int×Nat):=⟨fun| .O (.C a b m)=>some (a,b,m)|_=>none,fun a w v=>(k0 w (.O (.C a.1 a.2.1 a.2.2))).p w v,fun k a h w v hv=>by split at h<;>cases h;exact hv⟩
def vE7:Vw (Int×Int×Nat):=⟨fun| .O (.E7 a b m)=>some (a,b,m)|_=>none,fun a w v=>(k0 w (.O (.E7 a.1 a.2.1 a.2.2))).p w v,fun k a h w v hv=>by split at h<;>cases h;exact hv⟩
def vP:Vw (List Nat×Bool×Int):=⟨fun| .O (.P a b m)=>some (a,b,m)|_=>none,fun a w v=>(k0 w (.O (.P a.1 a.2.1 a.2.2))).p w v,fun k a h w v hv=>by split at h<;>cases h;exact hv⟩
def vIn:Vw Nat:=⟨fun| .E (.int .i64 (.ofNat n))=>some n|_=>none,fun a=>isE (.int .i64 ((a:Nat):Int)),fun k a h w v hv=>by split at h<;>cases h;exact hv⟩
def vI:Vw Int:=⟨fun| .E (.int .i64 m)=>some m|_=>none,fun a=>isE (.int .i64 a),fun k a h w v hv=>by split at h<;>cases h;exact hv⟩
def vB:Vw Bool:=⟨fun| .E (.bool m)=>some m|_=>none,fun a=>isE (.bool a),fun k a h w v hv=>by split at h<;>cases h;exact hv⟩
def vT:Vw (List UInt8):=⟨fun| .E (.string ⟨⟨l⟩⟩)=>some l|_=>none,fun a=>isT a,fun k a h w v hv=>by split at h<;>cases h;exact hv⟩
def isTbk:Ks K→Bool
 | .O .Tb=>true
 |_=>false
theorem isTbk_ok (k:Ks K) (h:isTbk k=true):k= .O .Tb:=by
 unfold isTbk at h
 split at h
 ·rfl
 ·cases h
def vA1:Vw Int:=⟨fun| .A [.int .i64 m]=>some m|_=>none,fun a w v=>(k0 w (.A [.int .i64 a])).p w v,fun k a h w v hv=>by split at h<;>cases h;exact hv⟩
def vA3:Vw (Int×Int×Int):=⟨fun| .A [.int .i64 a, .int .i64 b, .int .i64 c]=>some (a,b,c)|_=>none,fun a w v=>(k0 w (.A [.int .i64 a.1, .int .i64 a.2.1, .int .i64 a.2.2])).p w v,fun k a h w v hv=>by split at h<;>cases h;exact hv⟩
def vCl:Vw (Nat×Int):=⟨fun| .C f [[.int .i64 m]]=>some (f,m)|_=>none,fun a w v=>(k0 w (.C a.1 [[.int .i64 a.2]])).p w v,fun k a h w v hv=>by split at h<;>cases h;exact hv⟩
def vL (sz:Nat):Vw (List (List Value)):=⟨fun| .L _ sz' l false=>cond (Nat.beq sz' sz) (some l) none| .E (.slice none 0 0)=>some []|_=>none,fun l w v=>isRd (cxA w) true sz l w v,fun k a h w v hv=>by
 split at h
 ·next T sz' l=>
  have e:=Nat.eq_of_beq_eq_true (c_t h).1
  have h':=(c_t h).2
  clear h
  injection h' with h'
  subst e h'
  exact hv
 ·injection h with h
  subst h
  have e:v= .slice none 0 0:=hv
  subst e
  exact ⟨(fun r h=>by cases h),none,0,rfl,Nat.le_refl _,by decide,fun hn=>absurd rfl hn⟩
 ·cases h⟩
def vMo (sz:Nat):Vw (List K):=⟨fun| .M _ sz' os 0=>cond (Nat.beq sz' sz) (some os) none| .E (.slice none 0 0)=>some []|_=>none,fun os w v=>(k0 w (.M 0 sz os 0)).p w v,fun k a h w v hv=>by
 split at h
 ·next T sz' os=>
  have e:=Nat.eq_of_beq_eq_true (c_t h).1
  have h':=(c_t h).2
  clear h
  injection h' with h'
  subst e h'
  exact hv
 ·injection h with h
  subst h
  have e:v= .slice none 0 0:=hv
  subst e
  exact ⟨[],⟨(fun r h=>by cases h),none,0,rfl,Nat.le_refl _,by decide,fun hn=>absurd rfl hn⟩,trivial⟩
 ·cases h⟩
def vFn:Vw Nat:=⟨fun| .E (.func (.func f) ⟨[]⟩ ⟨[]⟩)=>some f|_=>none,fun f=>isE (.func (.func f) #[] #[]),fun k a h w v hv=>by split at h<;>cases h;exact hv⟩
def vRu:Vw Int:=⟨fun| .E (.int .i32 m)=>some m|_=>none,fun a=>isE (.int .i32 a),fun k a h w v hv=>by split at h<;>cases h;exact hv⟩
def vT1:Vw UInt8:=⟨fun| .E (.string ⟨⟨[c]⟩⟩)=>some c|_=>none,fun a=>isT [a],fun k a h w v hv=>by split at h<;>cases h;exact hv⟩
def vU8:Vw Int:=⟨fun| .E (.int .u8 m)=>some m|_=>none,fun a=>isE (.int .u8 a),fun k a h w v hv=>by split at h<;>cases h;exact hv⟩
section
variable {α β γ δ:Type}
abbrev Cl (f:FuncId) (vs:List Value) (w:World) (F:Fk K):Prop:=Calls Tryz.prog f vs.toArray w (Ret w fun v w'=>(f0 w F).p w' v)
def ct1 (f va:Nat) (en:Enters Tryz.prog f) (a:Vw α) (res:α→Fk K) (pre:α→List Prop) (ok: ∀x,AL (pre x)→ ∀w v,a.pr x w v→Cl f [v] w (res x)):Ct dk:=⟨f,va,en,fun ks _=>match ks with
 | [k]=>match a.get k with
  |some x=>some (res x,pre x)
  |none=>none
 |_=>none,by
 intro ks kw F ps h hp w vs u ha _
 split at h
 ·next k=>
  split at h
  ·next x e=>
   injection h with h
   injection h with h1 h2
   subst h1 h2
   match vs,ha with
   | [v],⟨h1,_⟩=>exact ok x hp w v (a.ok k x e w _ h1)
  ·cases h
 ·cases h⟩
def ct2 (f va:Nat) (en:Enters Tryz.prog f) (a:Vw α) (b:Vw β) (res:α→β→Fk K) (pre:α→β→List Prop) (ok: ∀x y,AL (pre x y)→ ∀w v u,a.pr x w v→b.pr y w u→Cl f [v,u] w (res x y)):Ct dk:=⟨f,va,en,fun ks _=>match ks with
 | [k,l]=>match a.get k,b.get l with
  |some x,some y=>some (res x y,pre x y)
  |_,_=>none
 |_=>none,by
 intro ks kw F ps h hp w vs u ha _
 split at h
 ·next k l=>
  split at h
  ·next x y e1 e2=>
   injection h with h
   injection h with h1 h2
   subst h1 h2
   match vs,ha with
   | [v,u],⟨h1,h2,_⟩=>exact ok x y hp w v u (a.ok k x e1 w _ h1) (b.ok l y e2 w _ h2)
  ·cases h
 ·cases h⟩
def ct3 (f va:Nat) (en:Enters Tryz.prog f) (a:Vw α) (b:Vw β) (c:Vw γ) (res:α→β→γ→Fk K) (pre:α→β→γ→List Prop) (ok: ∀x y z,AL (pre x y z)→ ∀w v u t,a.pr x w v→b.pr y w u→c.pr z w t→Cl f [v,u,t] w (res x y z)):Ct dk:=⟨f,va,en,fun ks _=>match ks with
 | [k,l,m]=>match a.get k,b.get l,c.get m with
  |some x,some y,some z=>some (res x y z,pre x y z)
  |_,_,_=>none
 |_=>none,by
 intro ks kw F ps h hp w vs u ha _
 split at h
 ·next k l m=>
  split at h
  ·next x y z e1 e2 e3=>
   injection h with h
   injection h with h1 h2
   subst h1 h2
   match vs,ha with
   | [v,u,t],⟨h1,h2,h3,_⟩=>exact ok x y z hp w v u t (a.ok k x e1 w _ h1) (b.ok l y e2 w _ h2) (c.ok m z e3 w _ h3)
  ·cases h
 ·cases h⟩
def ct4 (f va:Nat) (en:Enters Tryz.prog f) (a:Vw α) (b:Vw β) (c:Vw γ) (d:Vw δ) (res:α→β→γ→δ→Fk K) (pre:α→β→γ→δ→List Prop) (ok: ∀x y z u,AL (pre x y z u)→ ∀w v1 v2 v3 v4,a.pr x w v1→b.pr y w v2→c.pr z w v3→d.pr u w v4→Cl f [v1,v2,v3,v4] w (res x y z u)):Ct dk:=⟨f,va,en,fun ks _=>match ks with
 | [k,l,m,o]=>match a.get k,b.get l,c.get m,d.get o with
  |some x,some y,some z,some u=>some (res x y z u,pre x y z u)
  |_,_,_,_=>none
 |_=>none,by
 intro ks kw F ps h hp w vs u ha _
 split at h
 ·next k l m o=>
  split at h
  ·next x y z u e1 e2 e3 e4=>
   injection h with h
   injection h with h1 h2
   subst h1 h2
   match vs,ha with
   | [v1,v2,v3,v4],⟨h1,h2,h3,h4,_⟩=>exact ok x y z u hp w v1 v2 v3 v4 (a.ok k x e1 w _ h1) (b.ok l y e2 w _ h2) (c.ok m z e3 w _ h3) (d.ok o u e4 w _ h4)
  ·cases h
 ·cases h⟩
def ct1w (f va:Nat) (en:Enters Tryz.prog f) (a:Vw α) (kw:Ks K) (gw:Ks K→Bool) (hgw: ∀k,gw k=true→k=kw) (res:α→Fk K) (pre:α→List Prop) (ok: ∀x,AL (pre x)→ ∀w v u,a.pr x w v→(k0 w kw).p w u→Cl f [v] w (res x)):Ct dk:=⟨f,va,en,fun ks kw'=>match ks with
 | [k]=>match a.get k with
  |some x=>cond (gw kw') (some (res x,pre x)) none
  |none=>none
 |_=>none,by
 intro ks kw' F ps h hp w vs u ha hu
 split at h
 ·next k=>
  split at h
  ·next x e=>
   obtain ⟨hn,h⟩:=c_t h
   injection h with h
   injection h with h1 h2
   subst h1 h2
   rw [hgw _ hn] at hu
   match vs,ha with
   | [v],⟨h1,_⟩=>exact ok x hp w v u (a.ok k x e w _ h1) hu
  ·cases h
 ·cases h⟩
def ct2w (f va:Nat) (en:Enters Tryz.prog f) (a:Vw α) (b:Vw β) (kw:Ks K) (gw:Ks K→Bool) (hgw: ∀k,gw k=true→k=kw) (res:α→β→Fk K) (pre:α→β→List Prop) (ok: ∀x y,AL (pre x y)→ ∀w v t u,a.pr x w v→b.pr y w t→(k0 w kw).p w u→Cl f [v,t] w (res x y)):Ct dk:=⟨f,va,en,fun ks kw'=>match ks with
 | [k,l]=>match a.get k,b.get l with
  |some x,some y=>cond (gw kw') (some (res x y,pre x y)) none
  |_,_=>none
 |_=>none,by
 intro ks kw' F ps h hp w vs u ha hu
 split at h
 ·next k l=>
  split at h
  ·next x y e1 e2=>
   obtain ⟨hn,h⟩:=c_t h
   injection h with h
   injection h with h1 h2
   subst h1 h2
   rw [hgw _ hn] at hu
   match vs,ha with
   | [v,t],⟨h1,h2,_⟩=>exact ok x y hp w v t u (a.ok k x e1 w _ h1) (b.ok l y e2 w _ h2) hu
  ·cases h
 ·cases h⟩
noncomputable def ct3w (f va:Nat) (en:Enters Tryz.prog f) (a:Vw α) (b:Vw β) (c:Vw γ) (kw:Ks K) (gw:Ks K→Bool) (hgw: ∀k,gw k=true→k=kw) (res:α→β→γ→Fk K) (pre:α→β→γ→List Prop) (ok: ∀x y z,AL (pre x y z)→ ∀w v u t q,a.pr x w v→b.pr y w u→c.pr z w t→(k0 w kw).p w q→Cl f [v,u,t] w (res x y z)):Ct dk:=⟨f,va,en,fun ks kw'=>match ks with
 | [k,l,m]=>match a.get k,b.get l,c.get m with
  |some x,some y,some z=>cond (gw kw') (some (res x y z,pre x y z)) none
  |_,_,_=>none
 |_=>none,by
 intro ks kw' F ps h hp w vs u ha hu
 split at h
 ·next k l m=>
  split at h
  ·next x y z e1 e2 e3=>
   obtain ⟨hn,h⟩:=c_t h
   injection h with h
   injection h with h1 h2
   subst h1 h2
   rw [hgw _ hn] at hu
   match vs,ha with
   | [v,u',t],⟨h1,h2,h3,_⟩=>exact ok x y z hp w v u' t u (a.ok k x e1 w _ h1) (b.ok l y e2 w _ h2) (c.ok m z e3 w _ h3) hu
  ·cases h
 ·cases h⟩
def ct0w (f va:Nat) (en:Enters Tryz.prog f) (kw:Ks K) (gw:Ks K→Bool) (hgw: ∀k,gw k=true→k=kw) (res:Fk K) (ok: ∀w u,(k0 w kw).p w u→Cl f [] w res):Ct dk:=⟨f,va,en,fun ks kw'=>match ks with
 | []=>cond (gw kw') (some (res,[])) none
 |_=>none,by
 intro ks kw' F ps h hp w vs u ha hu
 split at h
 ·obtain ⟨hn,h⟩:=c_t h
  injection h with h
  injection h with h1 h2
  subst h1 h2
  rw [hgw _ hn] at hu
  match vs,ha with
  | [],_=>exact ok w u hu
 ·cases h⟩
noncomputable abbrev dX (cs:List (Ct dk)) (fn:Func) (Res:Fk K) (p:List Nat) (H:List (Nat→Hint K)) (J:List (Sx K→Prop)) (S:Sx K):Prop:=dsc (En cs) fn.ntmps p H (rest fn) J (fun _=>False) (rets (En cs) fn Res) (fun _ _=>False) S
noncomputable abbrev dL (cs:List (Ct dk)) (fn:Func) (Res:Fk K) (p:List Nat) (H:List (Nat→Hint K)) (J:List (Sx K→Prop)) (S:Sx K) (h:Hint K):Prop:=dscL (En cs) fn.ntmps p H (rest fn) J (fun _=>False) (rets (En cs) fn Res) (fun _ _=>False) S h
noncomputable abbrev rX (cs:List (Ct dk)) (fn:Func) (h:Nat→Hint K) (r:Nat) (S:Sx K):Sx K:=rs (En cs) fn h r S
theorem fx (cs:List (Ct dk)) {f:FuncId} {fn:Func} {args:Array Value} {w:World} (hf:Tryz.prog.funcs[f]? =some fn) (hs:Nat→Hint K) (D0:DL K) (Res:Fk K) (hD:AllL (fun x:Nat×Ks K=>(k0 w x.2).p w (args.getD x.1 undef)) D0) (p:Prop) (h:p)
  (e:vc (En cs) fn.ntmps (rest fn) hs (ent Tryz.prog fn D0) (fun _=>False) (rets (En cs) fn Res) (fun _ _=>False)=p:=by kernel_rfl) (hB:entB Tryz.prog (En cs) fn args.size D0=true:=by kernel_rfl) (hn:npF Res=true:=by kernel_rfl):Calls Tryz.prog f args w (Ret w fun v w'=>(f0 w Res).p w' v):=
 fnX (E:=En cs) hf (by kernel_rfl) hs D0 Res hn hD (e.mpr h) hB
end
end Go.Proofs.YthebilnlljkfeaaGreatDoor.X
