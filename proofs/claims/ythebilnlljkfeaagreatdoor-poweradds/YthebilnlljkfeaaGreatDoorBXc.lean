/- One text out of: Xc. -/
import Derived.Test.YthebilnlljkfeaaGreatDoorBXb
import Derived.Test.YthebilnlljkfeaaGreatDoorBZq
namespace Go.Proofs.YthebilnlljkfeaaGreatDoor.X
open Go.RowKit Go.Proofs.YthebilnlljkfeaaGreatDoor.Z
open Go.Proofs.YthebilnlljkfeaaGreatDoor.Rg (depI Facts dsts info run_wanted)
structure Sx (κ:Type) where
 D:DL κ
 G:List (Vx κ)
def alOf (ops:Array Oper):List (Nat×Nat×TypeId):=ops.toList.zipIdx.filterMap fun x=>match x.1.dst,x.1.op with
 |some p, .alloc t=>some (x.2,p,t)
 |_,_=>none
def stOf (ops:Array Oper):List (Nat×Nat×Nat×TypeId):=ops.toList.zipIdx.filterMap fun x=>match x.1.op with
 | .store t (.tmp p) (.tmp y)=>some (x.2,p,y,t)
 |_=>none
def vsOf (ops:Array Oper):VS:=⟨alOf ops,stOf ops⟩
def isSF {κ:Type}:Fk κ→Bool
 | .s _=>true
 |_=>false
def unS {κ:Type}:Fk κ→Ks κ
 | .s k=>k
 |_=> .X
def plK {κ:Type}:Ks κ→Ks κ
 | .P _ _=> .X
 | .V _=> .X
 | .Q _ _ _=> .X
 | .N _=> .X
 | .F T sz l=> .L T sz l true
 | .M T sz os (_+2)=> .M T sz os 1
 |k=>k
def noF {κ:Type}:Ks κ→Bool
 | .F _ _ _=>false
 | .M _ _ _ (_+2)=>false
 |_=>true
def stK {κ:Type} (mid:Bool) (ds:List Nat) (al:List (Nat×Nat×TypeId)) (D:DL κ):Ks κ→Ks κ
 | .P q off=>cond (mid&&al.all fun z=> !Nat.beq z.2.1 q) (.P q off) .X
 | .V d=>cond (mid&& !ds.contains d) (.V d) (cond (hasD D d) (plK (lS D d)) .X)
 | .Q d k sz=>cond (mid&& !ds.contains d) (.Q d k sz) .X
 | .N _=> .X
 | .F T sz l=> .L T sz l true
 | .M T sz os (_+2)=> .M T sz os 1
 |k=>k
def apSlot:Nat:=3000000
def apL {κ:Type} (D:DL κ):List (Nat×Nat):=match lS D apSlot with
 | .N ds=>ds
 |_=> []
def holds {κ:Type} (ds:List Nat) (fs:FX κ) (a:Nat):List Nat:=cond (ds.contains a) [] [a]++ds.filter fun x=>match lF fs x with
 | .s (.V d)=>Nat.beq d a
 |_=>false
def frT {κ:Type}:Fk κ→Option Nat
 | .s (.F T _ _)=>some T
 | .s (.M T _ _ (_+2))=>some T
 |_=>none
def ownT {κ:Type}:Ks κ→Option Nat
 | .L T _ _ true=>some T
 | .M T _ _ 1=>some T
 |_=>none
def apNew {κ:Type} (D:DL κ) (ds:List Nat) (fs:FX κ):List (Nat×Nat):=
 ((apL D).flatMap fun x=>(holds ds fs x.1).flatMap fun a=>(holds ds fs x.2).map fun b=>(a,b))++
 ds.flatMap fun x=>match frT (lF fs x) with
  |some T=>D.flatMap fun y=>cond ((ownT y.2).any (Nat.beq T)) ((holds ds fs y.1).map fun b=>(x,b)) []
  |none=> []
def nV {κ:Type} (V:VS) (fs:FX κ) (x:Vx κ):Vx κ:=match srcOf V x.slot with
 |some y=>⟨x.slot,x.ty,unS (lF fs y.1)⟩
 |none=>x
def zK {κ:Type} (h:Hint κ) (z:Nat×Nat×TypeId):Ks κ:=match teOf h z.1 with
 |some (.s (.O o))=> .O o
 |some (.s (.E v))=> .E v
 |_=> .X
def nG0 {κ:Type} (G:List (Vx κ)) (V:VS) (fs:FX κ) (h:Hint κ):List (Vx κ):=G.map (nV V fs)++V.al.map fun z=>nV V fs ⟨z.2.1,z.2.2,zK h z⟩
def nG {κ:Type} (G:List (Vx κ)) (V:VS) (fs:FX κ) (h:Hint κ):List (Vx κ):=(nG0 G V fs h).map fun x=>⟨x.slot,x.ty,plK x.k⟩
def keepOf {κ:Type} (fs:FX κ):List Nat:=(fs.map (·.1)).filter fun d=>isSF (lF fs d)
def nD0 {κ:Type} (D:DL κ) (ds:List Nat) (fs:FX κ):DL κ:=D.filter (fun x=> !ds.contains x.1)++(keepOf fs).map fun d=>(d,unS (lF fs d))
def nD {κ:Type} (mid:Bool) (D:DL κ) (ds:List Nat) (al:List (Nat×Nat×TypeId)) (fs:FX κ):DL κ:=(apSlot, .N (apNew D ds fs))::((nD0 D ds fs).filter fun x=> !Nat.beq x.1 apSlot).map fun x=>(x.1,stK mid ds al D x.2)
def gTy {κ:Type} (G:List (Vx κ)):List (Nat×TypeId):=G.map fun x=>(x.slot,x.ty)
def cxOf (G:List (Nat×TypeId)) (kf:Nat→Nat) (own:Nat):Cx:=⟨fun b t=>G.any fun x=>Nat.beq (kf x.1) b&&Nat.beq x.2 t,own,0⟩
def cxR (G:List (Nat×TypeId)) (ks:KS) (m:Nat) (kf:Nat→Nat) (own:Nat):Cx:=⟨fun b t=>(G.any fun x=>Nat.beq (kf x.1) b&&Nat.beq x.2 t)||ks.any (fun z=>Nat.beq z.1 b&&Nat.beq z.2 t),own,m⟩
def lvOf (a:Act):Nat→Value:=fun d=>a.tmps.getD d undef
def cx0:Cx:=⟨fun _ _=>false,0,0⟩
section
variable {P:Program} (E:Env P)
def zP (h:Hint E.κ) (al:List (Nat×Nat×TypeId)):List Prop:=al.flatMap fun z=>match teOf h z.1 with
 |some (.s (.O o))=> [tS E (.E (.agg (zeroOf P z.2.2))) (.O o)]
 |some (.s (.E v))=> [tS E (.E (.agg (zeroOf P z.2.2))) (.E v)]
 |_=> []
def runReg (mid:Bool) (n:Nat) (ops:Array Oper) (h:Hint E.κ) (S:Sx E.κ):Option (Sx E.κ×List Prop):=match go E (fun _=>true) ops (vsOf ops) S.D S.G h ops.toList 0 [] with
 |some (fs,ps)=>cond (regB P n ops (gTy S.G) (vsOf ops) (dFs (E.dk cx0) (fun _=>0) (fun _=>undef) fs) (keepOf fs)&&(stOf ops).all (fun x=>isSF (lF fs x.2.2.1))&& !(dsts ops).contains szSlot&&S.D.all (fun x=>noF x.2)&&S.G.all (fun x=>noF x.k)) (some (⟨nD mid S.D (dsts ops) (alOf ops) fs,nG S.G (vsOf ops) fs h⟩,ps++zP E h (alOf ops))) none
 |none=>none
variable {E}
theorem fdB_cx {cx cx':Cx}: ∀{fs:List (Fd E.κ)},fdB (E.dk cx) fs=fdB (E.dk cx') fs:=by
 intro fs
 induction fs with
 |nil=>rfl
 |cons f r ih=>
  cases f with
  |v x=>unfold fdB;rw [ih]
  |l T sz l=>unfold fdB;rw [ih]
  |o k t n=>unfold fdB;rw [ih,(E.dcx k cx cx').2]
theorem dF_ty {cx cx':Cx} {kf kf':Nat→Nat} {lv lv':Nat→Value} (F:Fk E.κ):(dF (E.dk cx) kf lv F).ty=(dF (E.dk cx') kf' lv' F).ty:=by
 induction F with
 |m c F ih=>cases c<;>first|rfl|exact ih
 |s k=>
  cases k with
  |O o=>exact (E.dcx o cx cx').2
  |M T sz os o=>rcases o with _|_|o<;>rfl
  |S fs=>
   show (fun t=>stB (E.dk cx) t fs)=fun t=>stB (E.dk cx') t fs
   unfold stB
   rw [fdB_cx]
  |_=>rfl
 |_=>rfl
theorem all_key {cx:Cx} {kf:Nat→Nat} {lv:Nat→Value} {fs:FX E.κ} (p:Nat→Bool):(dFs (E.dk cx) kf lv fs).all (fun x=>p x.1)=fs.all (fun x=>p x.1):=by
 unfold dFs
 rw [List.all_map]
 rfl
theorem regB_kf {n:Nat} {ops:Array Oper} {G:List (Nat×TypeId)} {V:VS} {fs:FX E.κ} {keep:List Nat} {cx cx':Cx} {kf kf':Nat→Nat} {lv lv':Nat→Value}:regB P n ops G V (dFs (E.dk cx) kf lv fs) keep=regB P n ops G V (dFs (E.dk cx') kf' lv' fs) keep:=by
 unfold regB
 have e1: ∀z:Nat×Nat×TypeId,(dFs (E.dk cx) kf lv fs).all (fun x=> !Nat.beq x.1 z.2.1)=(dFs (E.dk cx') kf' lv' fs).all (fun x=> !Nat.beq x.1 z.2.1):=fun z=>by
  rw [all_key (fun y=> !Nat.beq y z.2.1),all_key (fun y=> !Nat.beq y z.2.1)]
 have e2: ∀x:Nat×Nat×Nat×TypeId,(lk (dFs (E.dk cx) kf lv fs) x.2.2.1).ty x.2.2.2=(lk (dFs (E.dk cx') kf' lv' fs) x.2.2.1).ty x.2.2.2:=fun x=>by
  rw [lk_dFs,lk_dFs,dF_ty]
 simp only [e1,e2]
theorem dF_unS {cx:Cx} {kf:Nat→Nat} {lv:Nat→Value} {F:Fk E.κ} (h:isSF F=true):dF (E.dk cx) kf lv F=dS (E.dk cx) kf lv (unS F):=by
 cases F with
 |s k=>rfl
 |_=>cases h
theorem AL_mem: ∀{ps:List Prop} {p:Prop},AL ps→p∈ps→p:=by
 intro ps
 induction ps with
 |nil=>intro p _ h;cases h
 |cons q r ih=>
  intro p h hp
  rcases List.mem_cons.1 hp with rfl|hp
  ·exact h.1
  ·exact ih h.2 hp
theorem zP_ok {h:Hint E.κ} {al:List (Nat×Nat×TypeId)} (hp:AL (zP E h al)) {cx:Cx} {kf:Nat→Nat} {lv:Nat→Value}: ∀z∈al,∀w,(dS (E.dk cx) kf lv (zK h z)).p w (.agg (zeroOf P z.2.2)):=by
 intro z hz w
 have hm: ∀{q:Prop},(q∈match teOf h z.1 with
   |some (.s (.O o))=> [tS E (.E (.agg (zeroOf P z.2.2))) (.O o)]
   |some (.s (.E v))=> [tS E (.E (.agg (zeroOf P z.2.2))) (.E v)]
   |_=> [])→q:=fun {q} hq=>AL_mem hp (List.mem_flatMap.2 ⟨z,hz,hq⟩)
 unfold zK
 split
 ·next o e=>
  rw [e] at hm
  exact tS_im E (hm (List.mem_singleton.2 rfl)) cx kf lv w _ rfl
 ·next v e=>
  rw [e] at hm
  exact tS_im E (hm (List.mem_singleton.2 rfl)) cx kf lv w _ rfl
 ·trivial
theorem newG_dG {cx:Cx} {kf:Nat→Nat} {lv:Nat→Value} {G:List (Vx E.κ)} {V:VS} {fs:FX E.κ} {hh:Hint E.κ} (h:V.st.all (fun x=>isSF (lF fs x.2.2.1))=true):newG (dG (E.dk cx) kf lv G) V (dFs (E.dk cx) kf lv fs) (fun z=>dS (E.dk cx) kf lv (zK hh z))=dG (E.dk cx) kf lv (nG0 G V fs hh):=by
 have hv: ∀x:Vx E.κ,newV V (dFs (E.dk cx) kf lv fs) ⟨x.slot,x.ty,dS (E.dk cx) kf lv x.k⟩=⟨(nV V fs x).slot,(nV V fs x).ty,dS (E.dk cx) kf lv (nV V fs x).k⟩:=fun x=>by
  unfold newV nV
  cases hs:srcOf V x.slot with
  |none=>rfl
  |some y=>
   obtain ⟨j,hj⟩:=srcOf_some hs
   have:=List.all_eq_true.1 h _ hj
   simp only
   rw [lk_dFs,dF_unS this]
 unfold newG nG0 dG
 rw [List.map_append,List.map_map,List.map_map,List.map_map]
 congr 1
 ·exact List.map_congr_left fun x _=>hv x
 ·exact List.map_congr_left fun z _=>hv ⟨z.2.1,z.2.2,zK hh z⟩
theorem newD_dD {cx:Cx} {kf:Nat→Nat} {lv:Nat→Value} {D:DL E.κ} {ds:List Nat} {fs:FX E.κ}:newD (dD (E.dk cx) kf lv D) ds (dFs (E.dk cx) kf lv fs) (keepOf fs)=dD (E.dk cx) kf lv (nD0 D ds fs):=by
 unfold newD nD0 dD
 rw [List.map_append,List.map_map,List.filter_map]
 congr 1
 refine List.map_congr_left fun d hd=> ?_
 have:=(List.mem_filter.1 hd).2
 show (d,lk (dFs (E.dk cx) kf lv fs) d)=(d,dS (E.dk cx) kf lv (unS (lF fs d)))
 rw [lk_dFs,dF_unS this]
theorem lo_cx {cx cx':Cx} {w:World} {v:Value} {T sz:Nat} {os:List E.κ}: ∀{o:Bool},(hb: ∀b t,b<w.heap.size→cx.ban b t=false→cx'.ban b t=false)→(ho:cx'.own≤cx.own)→(hr:o=true∨cx.own≤cx'.own)→ ∀{cy cy':Cx},isLo cx T sz (os.map fun x=>(E.dk cy x).p) o w v→isLo cx' T sz (os.map fun x=>(E.dk cy' x).p) o w v:=by
 intro o hb ho hr cy cy' ⟨rows,h1,h2⟩
 refine ⟨rows, ?_,by rwa [show (os.map fun x=>(E.dk cy' x).p)=os.map fun x=>(E.dk cy x).p from List.map_congr_left fun x _=>(E.dcx x cy' cy).1]⟩
 cases o with
 |true=>exact isOw.mono hb ho h1
 |false=>exact isRd.mono hb (fun _=>hr.elim (fun e=>by cases e) id) h1
theorem fl_cx {cx cx':Cx} {w:World} (hb: ∀b t,b<w.heap.size→cx.ban b t=false→cx'.ban b t=false) (ho:cx.own≤cx'.own): ∀{fs:List (Fd E.κ)} {vs:List Value},flds (E.dk cx) w fs vs→flds (E.dk cx') w fs vs:=by
 intro fs
 induction fs with
 |nil=>intro vs h;exact h
 |cons f r ih=>
  intro vs h
  cases f with
  |v x=>obtain ⟨us,e,h⟩:=h;exact ⟨us,e,ih h⟩
  |l T sz rows=>obtain ⟨u,us,e,h1,h⟩:=h;exact ⟨u,us,e,isRd.mono hb (fun _=>ho) h1,ih h⟩
  |o k t n=>obtain ⟨us,us',e,h0,h1,h⟩:=h;exact ⟨us,us',e,h0,by rw [(E.dcx k cx' cx).1];exact h1,ih h⟩
theorem dS_cx {cx cx':Cx} {kf:Nat→Nat} {lv:Nat→Value} {w:World} {v:Value} (hb: ∀b t,b<w.heap.size→cx.ban b t=false→cx'.ban b t=false) (ho:cx'.own=cx.own): ∀{k:Ks E.κ},(cx'.reg≤cx.reg∨noF k=true)→(dS (E.dk cx) kf lv k).p w v→(dS (E.dk cx') kf lv k).p w v:=by
 intro k hn h
 have hm:cx'.reg≤cx.reg→max cx'.own cx'.reg≤max cx.own cx.reg:=fun h=>by rw [ho];omega
 cases k with
 |F T sz l=>exact isOw.mono (cx:=cxN cx) (cx':=cxN cx') hb (hn.elim hm fun e=>by cases e) h
 |M T sz os o=>
  match o,hn,h with
  |0,_,h=>exact lo_cx hb (Nat.le_of_eq ho) (.inr (Nat.le_of_eq ho.symm)) h
  |1,_,h=>exact lo_cx hb (Nat.le_of_eq ho) (.inl rfl) h
  |_+2,hn,h=>exact lo_cx (cx:=cxN cx) (cx':=cxN cx') hb (hn.elim hm fun e=>by cases e) (.inl rfl) h
 |B sz o=>
  obtain ⟨row,h0,h1,h2⟩:=h
  exact ⟨row,h0,isAd.mono hb h1,by rw [(E.dcx o cx' cx).1];exact h2⟩
 |S fs=>
  obtain ⟨vs,e,h⟩:=h
  exact ⟨vs,e,fl_cx hb (Nat.le_of_eq ho.symm) h⟩
 |O o=>
  show (E.dk cx' o).p w v
  rw [(E.dcx o cx' cx).1]
  exact h
 |L T sz l o=>
  cases o with
  |true=>exact isOw.mono hb (Nat.le_of_eq ho) h
  |false=>exact isRd.mono hb (fun _=>Nat.le_of_eq ho.symm) h
 |A row=>exact isAd.mono hb h
 |I s pos=>exact isIt.mono hb (Nat.le_of_eq ho) h
 |C f rows=>exact isCl.mono hb h
 |_=>exact h
theorem dS_pl {cx:Cx} {kf kf':Nat→Nat} {lv lv':Nat→Value} {w:World} {v:Value}: ∀{k:Ks E.κ},(dS (E.dk cx) kf lv k).p w v→(dS (E.dk cx) kf' lv' (plK k)).p w v:=by
 intro k h
 cases k with
 |P _ _=>trivial
 |V _=>trivial
 |Q _ _ _=>trivial
 |N _=>trivial
 |F T sz l=>exact ow_n h
 |M T sz os o=>
  match o,h with
  |0,h=>exact h
  |1,h=>exact h
  |_+2,⟨rows,h1,h2⟩=>exact ⟨rows,ow_n h1,h2⟩
 |_=>exact h
theorem dS_st {cx:Cx} {kf kf':Nat→Nat} {lv lv':Nat→Value} {w:World} {v:Value} {mid:Bool} {ds:List Nat} {al:List (Nat×Nat×TypeId)} {D:DL E.κ} (hP: ∀q,(∀z∈al,z.2.1≠q)→kf' q=kf q) (hV: ∀d,ds.contains d=false→lv' d=lv d) (hD: ∀d,hasD D d=true→(dS (E.dk cx) kf lv (lS D d)).p w (lv d)):
  ∀{k:Ks E.κ},(dS (E.dk cx) kf lv k).p w v→(dS (E.dk cx) kf' lv' (stK mid ds al D k)).p w v:=by
 intro k h
 cases k with
 |P q off=>
  show (dS (E.dk cx) kf' lv' (cond (mid&&al.all fun z=> !Nat.beq z.2.1 q) (.P q off) .X)).p w v
  cases hc:(mid&&al.all fun z=> !Nat.beq z.2.1 q) with
  |false=>trivial
  |true=>
   simp only [Bool.and_eq_true] at hc
   show v= .pointer (some ⟨kf' q,off,none⟩)
   rw [hP q fun z hz e=>by
    have:=List.all_eq_true.1 hc.2 z hz
    rw [e] at this
    simp at this]
   exact h
 |V d=>
  show (dS (E.dk cx) kf' lv' (cond (mid&& !ds.contains d) (.V d) (cond (hasD D d) (plK (lS D d)) .X))).p w v
  cases hc:(mid&& !ds.contains d) with
  |true=>
   simp only [Bool.and_eq_true,Bool.not_eq_true'] at hc
   show v=lv' d
   rw [hV d hc.2]
   exact h
  |false=>
   cases hd:hasD D d with
   |false=>trivial
   |true=>
    have e:v=lv d:=h
    rw [e]
    exact dS_pl (hD d hd)
 |Q d k sz=>
  show (dS (E.dk cx) kf' lv' (cond (mid&& !ds.contains d) (.Q d k sz) .X)).p w v
  cases hc:(mid&& !ds.contains d) with
  |true=>
   simp only [Bool.and_eq_true,Bool.not_eq_true'] at hc
   show v=eaddr (lv' d) (k*sz)
   rw [hV d hc.2]
   exact h
  |false=>trivial
 |N _=>trivial
 |F T sz l=>exact ow_n h
 |M T sz os o=>
  match o,h with
  |0,h=>exact h
  |1,h=>exact h
  |_+2,⟨rows,h1,h2⟩=>exact ⟨rows,ow_n h1,h2⟩
 |_=>exact h
abbrev SX (n:Nat) (S:Sx E.κ) (wE:World) (kf:Nat→Nat) (a:Act) (w:World):Prop:=S2 P (cx:=cxOf (gTy S.G) kf wE.heap.size) n (dG (E.dk (cxOf (gTy S.G) kf wE.heap.size)) kf (lvOf a) S.G) (dD (E.dk (cxOf (gTy S.G) kf wE.heap.size)) kf (lvOf a) S.D) wE kf a w
section
variable {n:Nat} {S S':Sx E.κ} {wE:World} {kf:Nat→Nat} {a:Act} {w:World}
theorem SX.d (hS:SX n S wE kf a w) {d:Nat} (h:hasD S.D d=true):(dS (E.dk (cxOf (gTy S.G) kf wE.heap.size)) kf (lvOf a) (lS S.D d)).p w (a.tmps.getD d undef):=by
 rw [←lk_dD]
 exact hS.facts _ (List.mem_map.2 ⟨_,lkD_mem (has_dD h),rfl⟩)
theorem SX.lt (hS:SX n S wE kf a w) {x:Vx E.κ} (hx:x∈S.G):wE.heap.size≤kf x.slot∧ ∃cs,w.heap[kf x.slot]? =some (.cells cs x.ty (0,0))∧Fits soft P x.ty cs:=by
 obtain ⟨_,h2,cs,h3,h4,_⟩:=hS.vars _ (List.mem_map.2 ⟨_,List.mem_map.2 ⟨x,hx,rfl⟩,rfl⟩)
 exact ⟨h2,cs,h3,h4⟩
theorem ban_var {b t own:Nat} {G:List (Vx E.κ)} (h:(cxOf (gTy G) kf own).ban b t=true): ∃x∈G,kf x.slot=b∧x.ty=t:=by
 obtain ⟨y,hy,h⟩:=List.any_eq_true.1 h
 obtain ⟨x,hx,rfl⟩:=List.mem_map.1 hy
 simp only [Bool.and_eq_true] at h
 exact ⟨x,hx,Nat.eq_of_beq_eq_true h.1,Nat.eq_of_beq_eq_true h.2⟩
theorem var_ban {own:Nat} {G:List (Vx E.κ)} {x:Vx E.κ} (hx:x∈G):(cxOf (gTy G) kf own).ban (kf x.slot) x.ty=true:=List.any_eq_true.2 ⟨_,List.mem_map.2 ⟨x,hx,rfl⟩,by simp⟩
theorem SX.fr (hS:SX n S wE kf a w) {b t:Nat} (hb:w.heap.size≤b):(cxOf (gTy S.G) kf wE.heap.size).ban b t=false:=by
 cases h:(cxOf (gTy S.G) kf wE.heap.size).ban b t with
 |false=>rfl
 |true=>
  obtain ⟨x,hx,e,_⟩:=ban_var h
  obtain ⟨_,cs,h3,_⟩:=hS.lt hx
  have:=lt_heap h3
  omega
theorem slk_dG {cx:Cx} {lv:Nat→Value} {G:List (Vx E.κ)}:slk (dG (E.dk cx) kf lv G)=gTy G:=by
 unfold slk dG gTy
 rw [List.map_map]
 rfl
theorem vars_cx {cx:Cx} {lv:Nat→Value} {G:List (Vx E.κ)} {Q:Vr→Prop} (h: ∀x∈G,Q ⟨x.slot,x.ty,(dS (E.dk cx) kf lv x.k).p⟩): ∀x∈gv (dG (E.dk cx) kf lv G),Q x:=by
 intro x hx
 obtain ⟨y,hy,rfl⟩:=List.mem_map.1 hx
 obtain ⟨z,hz,rfl⟩:=List.mem_map.1 hy
 exact h z hz
theorem ap_of {cx:Cx} {kf':Nat→Nat} {lv:Nat→Value} {G:List (Vx E.κ)} {D:List (Nat×Pr)} (h:St soft P n (gv (dG (E.dk cx) kf lv G)) D wE kf' a w) {x y:Vx E.κ} (hx:x∈G) (hy:y∈G) (hxy:x.slot≠y.slot):kf' x.slot≠kf' y.slot:=
 h.apart ⟨x.slot,x.ty,(dS (E.dk cx) kf lv x.k).p⟩ (List.mem_map.2 ⟨_,List.mem_map.2 ⟨x,hx,rfl⟩,rfl⟩) ⟨y.slot,y.ty,(dS (E.dk cx) kf lv y.k).p⟩ (List.mem_map.2 ⟨_,List.mem_map.2 ⟨y,hy,rfl⟩,rfl⟩) hxy
theorem R_var {G:List (Nat×TypeId)} {ks:KS} {m own:Nat} {x:Nat×TypeId} (hx:x∈G):(cxR G ks m kf own).ban (kf x.1) x.2=true:=
 Bool.or_eq_true_iff.2 (.inl (List.any_eq_true.2 ⟨x,hx,by simp⟩))
theorem R_new {G:List (Nat×TypeId)} {ks:KS} {m own:Nat} {z:Nat×TypeId} (hz:z∈ks):(cxR G ks m kf own).ban z.1 z.2=true:=
 Bool.or_eq_true_iff.2 (.inr (List.any_eq_true.2 ⟨z,hz,by simp⟩))
theorem R_not {G:List (Nat×TypeId)} {ks:KS} {m own b t k:Nat} (h:(cxOf G kf k).ban b t=false) (hb: ∀x∈ks,x.1≠b):(cxR G ks m kf own).ban b t=false:=by
 show ((G.any fun x=>Nat.beq (kf x.1) b&&Nat.beq x.2 t)||ks.any (fun z=>Nat.beq z.1 b&&Nat.beq z.2 t))=false
 rw [show (G.any fun x=>Nat.beq (kf x.1) b&&Nat.beq x.2 t)=false from h,Bool.false_or]
 cases h2:ks.any (fun z=>Nat.beq z.1 b&&Nat.beq z.2 t) with
 |false=>rfl
 |true=>
  obtain ⟨z,hz,e⟩:=List.any_eq_true.1 h2
  simp only [Bool.and_eq_true] at e
  exact absurd (Nat.eq_of_beq_eq_true e.1) (hb z hz)
theorem R_cons {G:List (Nat×TypeId)} {ks:KS} {m own b t:Nat} {x:Nat×TypeId} (hb:b≠x.1) (h:(cxR G ks m kf own).ban b t=false):(cxR G (x::ks) m kf own).ban b t=false:=by
 have h':((G.any fun x=>Nat.beq (kf x.1) b&&Nat.beq x.2 t)||ks.any (fun z=>Nat.beq z.1 b&&Nat.beq z.2 t))=false:=h
 show ((G.any fun x=>Nat.beq (kf x.1) b&&Nat.beq x.2 t)||(x::ks).any (fun z=>Nat.beq z.1 b&&Nat.beq z.2 t))=false
 rw [Bool.or_eq_false_iff] at h'
 rw [h'.1,Bool.false_or,List.any_cons,h'.2,Bool.or_false]
 cases e:Nat.beq x.1 b with
 |false=>rfl
 |true=>exact absurd (Nat.eq_of_beq_eq_true e).symm hb
theorem all_cx {cx cx':Cx} {lv:Nat→Value} {w:World} (hb: ∀b t,b<w.heap.size→cx.ban b t=false→cx'.ban b t=false) (ho:cx'.own=cx.own) (hr:cx'.reg≤cx.reg): ∀{ks:List (Ks E.κ)} {vs:List Value},allK w (ks.map (dS (E.dk cx) kf lv)) vs→allK w (ks.map (dS (E.dk cx') kf lv)) vs:=by
 intro ks
 induction ks with
 |nil=>intro vs h;cases vs<;>exact h
 |cons k r ih=>
  intro vs h
  cases vs with
  |nil=>cases h
  |cons v vs=>exact ⟨dS_cx hb ho (.inl hr) h.1,ih h.2⟩
theorem dF_cx {cx cx':Cx} {lv:Nat→Value} {w:World} (hb: ∀b t,b<w.heap.size→cx.ban b t=false→cx'.ban b t=false) (ho:cx'.own=cx.own) (hr:cx'.reg≤cx.reg): ∀{F:Fk E.κ} {v:Value},(dF (E.dk cx) kf lv F).p w v→(dF (E.dk cx') kf lv F).p w v:=by
 intro F
 induction F with
 |s k=>intro v h;exact dS_cx hb ho (.inl hr) h
 |t ks=>
  rintro v ⟨vs,e,h⟩
  exact ⟨vs,e,all_cx hb ho hr h⟩
 |u=>intro v h;exact h
 |m c F ih=>
  intro v h
  cases c with
  |true=>exact ih h
  |false=>exact h
theorem noF_lS: ∀{D:DL E.κ} {d:Nat},D.all (fun x=>noF x.2)=true→noF (lS D d)=true:=by
 intro D
 induction D with
 |nil=>intro d _;rfl
 |cons x r ih=>
  intro d h
  simp only [List.all_cons,Bool.and_eq_true] at h
  show noF (cond (Nat.beq x.1 d) x.2 (lS r d))=true
  cases Nat.beq x.1 d with
  |true=>exact h.1
  |false=>exact ih h.2
theorem lS_none: ∀{D:DL E.κ} {d:Nat},hasD D d=false→lS D d= .X:=by
 intro D
 induction D with
 |nil=>intro d _;rfl
 |cons x r ih=>
  intro d h
  unfold hasD at h
  simp only [List.any_cons,Bool.or_eq_false_iff] at h
  show cond (Nat.beq x.1 d) x.2 (lS r d)= .X
  rw [h.1]
  exact ih h.2
theorem mem_nD0 {D:DL E.κ} {ds:List Nat} {fs:FX E.κ} {d:Nat} (h:isSF (lF fs d)=true∧keyF fs d=true):(d,unS (lF fs d))∈nD0 D ds fs:=by
 refine List.mem_append.2 (.inr (List.mem_map.2 ⟨d,List.mem_filter.2 ⟨?_,h.1⟩,rfl⟩))
 obtain ⟨x,hx,e⟩:=List.any_eq_true.1 h.2
 exact List.mem_map.2 ⟨x,hx,Nat.eq_of_beq_eq_true e⟩
theorem own_lt {cx:Cx} {lv:Nat→Value} {k:Ks E.κ} {T b:Nat} {v:Value} (h:ownT k=some T) (hk:(dS (E.dk cx) kf lv k).p w v) (e:v.ownBlock=some b):b<w.heap.size:=by
 have key: ∀{T sz:Nat} {l:List (List Value)},isOw cx T sz l w v→b<w.heap.size:=fun {T sz l} ⟨_,⟨_,h2⟩,_⟩=>by
  rcases h2 with ⟨rfl,_⟩|⟨g,cap,cur,rfl,_,hg,_⟩
  ·cases e
  ·injection e with e
   subst e
   exact lt_heap hg
 unfold ownT at h
 split at h
 ·exact key hk
 ·obtain ⟨rows,h1,_⟩:=hk
  exact key h1
 ·cases h
theorem fr_ge {cx:Cx} {lv:Nat→Value} {F:Fk E.κ} {T b:Nat} {v:Value} (h:frT F=some T) (hk:(dS (E.dk cx) kf lv (unS F)).p w v) (e:v.ownBlock=some b):cx.reg≤b:=by
 have key: ∀{T sz:Nat} {l:List (List Value)},isOw (cxN cx) T sz l w v→cx.reg≤b:=fun {T sz l} ⟨_,⟨_,h2⟩,_⟩=>by
  rcases h2 with ⟨rfl,_⟩|⟨g,cap,cur,rfl,hb,_⟩
  ·cases e
  ·injection e with e
   subst e
   exact Nat.le_trans (Nat.le_max_right _ _) hb
 unfold frT at h
 split at h
 ·exact key hk
 ·obtain ⟨rows,h1,_⟩:=hk
  exact key h1
 ·cases h
theorem hold_ok {ds:List Nat} {fs:FX E.κ} {p x:Nat} {lv lv':Nat→Value} (h3: ∀d,ds.contains d=false→lv' d=lv d) (h:x∈holds ds fs p):lv' x=lv p∨(lF fs x= .s (.V p)):=by
 unfold holds at h
 rcases List.mem_append.1 h with h|h
 ·cases hc:ds.contains p with
  |true=>rw [hc] at h;cases h
  |false=>
   rw [hc] at h
   obtain rfl:=List.mem_singleton.1 h
   exact .inl (h3 _ hc)
 ·obtain ⟨_,h⟩:=List.mem_filter.1 h
  split at h
  ·next d e=>rw [e,Nat.eq_of_beq_eq_true h];exact .inr rfl
  ·cases h
theorem key_of {fs:FX E.κ} {d:Nat} {F:Fk E.κ} (h:lF fs d=F) (hF:F≠ .s .X):keyF fs d=true:=by
 cases hk:keyF fs d with
 |true=>rfl
 |false=>rw [lF_none hk] at h;exact absurd h.symm hF
theorem ap_ok {D:DL E.κ} {ds:List Nat} {fs:FX E.κ} {lv lv':Nat→Value} {cx:Cx} {w':World} {m:Nat} (h3: ∀d,ds.contains d=false→lv' d=lv d) (hf: ∀d,isSF (lF fs d)=true∧keyF fs d=true→(dS (E.dk cx) kf lv (unS (lF fs d))).p w' (lv' d)) (hlt: ∀y T,y∈D→ownT y.2=some T→ ∀b,(lv y.1).ownBlock=some b→b<m)
  (hge: ∀x T,(dS (E.dk cx) kf lv (unS (lF fs x))).p w' (lv' x)→frT (lF fs x)=some T→ ∀b,(lv' x).ownBlock=some b→m≤b) (hap: ∀x∈apL D,apV (lv x.1) (lv x.2)): ∀x∈apNew D ds fs,apV (lv' x.1) (lv' x.2):=by
 have hold: ∀{p x:Nat},x∈holds ds fs p→lv' x=lv p:=fun {p x} h=>by
  rcases hold_ok h3 h with h|h
  ·exact h
  ·have:=hf x ⟨by rw [h];rfl,key_of h (by intro e;cases e)⟩
   rw [h] at this
   exact this
 intro x hx
 rcases List.mem_append.1 hx with hx|hx
 ·obtain ⟨y,hy,hx⟩:=List.mem_flatMap.1 hx
  obtain ⟨a,ha,hx⟩:=List.mem_flatMap.1 hx
  obtain ⟨b,hb,rfl⟩:=List.mem_map.1 hx
  show apV (lv' a) (lv' b)
  rw [hold ha,hold hb]
  exact hap y hy
 ·obtain ⟨z,hz,hx⟩:=List.mem_flatMap.1 hx
  split at hx
  ·next T e=>
   obtain ⟨y,hy,hx⟩:=List.mem_flatMap.1 hx
   cases hc:(ownT y.2).any (Nat.beq T) with
   |false=>rw [hc] at hx;cases hx
   |true=>
    rw [hc] at hx
    obtain ⟨b,hb,rfl⟩:=List.mem_map.1 hx
    cases ho:ownT y.2 with
    |none=>rw [ho] at hc;cases hc
    |some T'=>
     intro g h1 h2
     have h2':(lv' b).ownBlock=some g:=h2
     rw [hold hb] at h2'
     have a1:=hlt y T' hy ho g h2'
     have hk:isSF (lF fs z)=true∧keyF fs z=true:=by
      refine ⟨?_,key_of rfl ?_⟩
      ·unfold frT at e
       split at e
       ·next e2=>rw [e2];rfl
       ·next e2=>rw [e2];rfl
       ·cases e
      ·intro e2
       rw [e2] at e
       cases e
     have a2:=hge z T (hf z hk) e g h1
     omega
  ·cases hx
def unst (ops:Array Oper) (p:Nat):Bool:=(stOf ops).all fun s=> !Nat.beq s.2.1 p
def JV (b:Nat→Bool) (G:List (Vx E.κ)) (kf:Nat→Nat) (w0 w:World):Prop:= ∀x∈G,b x.slot=true→w.heap[kf x.slot]? =w0.heap[kf x.slot]?
def KV (G:List (Vx E.κ)) (kf kf':Nat→Nat):Prop:= ∀x∈G,kf' x.slot=kf x.slot
def JS (ops:Array Oper) (kf:Nat→Nat) (w0 w:World):Prop:= ∀b,b<w0.heap.size→(∀j p y t,(j,p,y,t)∈stOf ops→(∀z∈alOf ops,z.2.1≠p)→kf p≠b)→w.heap[b]? =w0.heap[b]?
theorem runReg_drB {ops:Array Oper} {mid:Bool} {h:Hint E.κ} {ps:List Prop} {Q:Exit→Act→World→Prop} (hr:runReg E mid n ops h S=some (S',ps)) (hp:AL ps) (hS:SX n S wE kf a w):Dr P ops Q a w (fun w1=>JV (unst ops) S.G kf w w1∧JS ops kf w w1) fun a w'=> ∃kf',w.heap.size≤w'.heap.size∧KV S.G kf kf'∧SX n S' wE kf' a w':=by
 unfold runReg at hr
 split at hr
 ·next fs qs e=>
  cases hc:(regB P n ops (gTy S.G) (vsOf ops) (dFs (E.dk cx0) (fun _=>0) (fun _=>undef) fs) (keepOf fs)&&(stOf ops).all (fun x=>isSF (lF fs x.2.2.1))&& !(dsts ops).contains szSlot&&S.D.all (fun x=>noF x.2)&&S.G.all (fun x=>noF x.k)) with
  |false=>rw [hc] at hr;cases hr
  |true=>
   rw [hc] at hr
   injection hr with hr
   injection hr with h1 h2
   subst h1 h2
   obtain ⟨hp,hp2⟩:=AL_app hp
   simp only [Bool.and_eq_true,Bool.not_eq_true'] at hc
   obtain ⟨⟨⟨⟨hB,hst⟩,hsz⟩,hnD⟩,hnG⟩:=hc
   let R:KS→Cx:=fun ks=>cxR (gTy S.G) ks w.heap.size kf wE.heap.size
   have hcx: ∀ks b t,(∀x∈ks,w.heap.size≤x.1)→b<w.heap.size→(cxOf (gTy S.G) kf wE.heap.size).ban b t=false→(R ks).ban b t=false:=fun ks b t hk hb h=>R_not h fun x hx e=>by
    have:=hk x hx
    omega
   have hSR:St soft P n (gv (dG (E.dk (R [])) kf (lvOf a) S.G)) [] wE kf a w:=by
    refine ⟨hS.size,hS.defers,hS.grow, ?_, ?_,fun x hx=>by cases hx⟩
    ·refine vars_cx fun x hx=> ?_
     obtain ⟨g1,g2,cs,g3,g4,g5⟩:=hS.vars _ (List.mem_map.2 ⟨_,List.mem_map.2 ⟨x,hx,rfl⟩,rfl⟩)
     exact ⟨g1,g2,cs,g3,g4,dS_cx (fun b t=>hcx [] b t (fun x hx=>by cases hx)) rfl (.inr (List.all_eq_true.1 hnG x hx)) g5⟩
    ·intro x hx y hy
     obtain ⟨x',hx',rfl⟩:=List.mem_map.1 hx
     obtain ⟨y',hy',rfl⟩:=List.mem_map.1 hy
     obtain ⟨x2,hx2,rfl⟩:=List.mem_map.1 hx'
     obtain ⟨y2,hy2,rfl⟩:=List.mem_map.1 hy'
     exact fun hne=>ap_of hS hx2 hy2 hne
   have hB': ∀ks,regB P n ops (slk (dG (E.dk (R ks)) kf (lvOf a) S.G)) (vsOf ops) (dFs (E.dk (R ks)) kf (lvOf a) fs) (keepOf fs)=true:=fun ks=>by
    rw [slk_dG,regB_kf (cx':=cx0) (kf':=fun _=>0) (lv':=fun _=>undef)]
    exact hB
   have hR: ∀ks,eR (slk (dG (E.dk (R ks)) kf (lvOf a) S.G)) ks kf (R ks):=fun ks=>by
    rw [slk_dG]
    exact ⟨fun x hx=>R_var hx,fun z hz=>R_new hz⟩
   have hmono: ∀(ks:KS) (x:Nat×TypeId) (w:World),w.heap.size≤x.1→ ∀b t,b<w.heap.size→(R ks).ban b t=false→(R (x::ks)).ban b t=false:=fun ks x w hx b t hb h=>R_cons (by omega) h
   have hst2:=fun ks=>(go_ok (Q:=Q) (kf0:=kf) (cx:=R ks) (lv:=lvOf a) hsz _ 0 [] fs qs e rfl hp).2
   obtain ⟨I,i0,i1,i2,i3⟩:=reg (P:=P) (n:=n) (ops:=ops) (Q:=Q) (V:=vsOf ops) (keep:=keepOf fs) (cx:=R) (G:=fun ks=>dG (E.dk (R ks)) kf (lvOf a) S.G) (D:=fun ks=>dD (E.dk (R ks)) kf (lvOf a) S.D) (fs:=fun ks=>dFs (E.dk (R ks)) kf (lvOf a) fs) (D2:=fun ks=>D2 (lvOf a) (Fr (R ks) (fun _=>true)) S.D) (zk:=fun ks z=>dS (E.dk (R ks)) kf (lvOf a) (zK h z)) (fun ks=>zP_ok hp2) hSR hB' hR (fun ks x b t hb=>by
     have hb':((gTy S.G).any (fun x=>Nat.beq (kf x.1) b&&Nat.beq x.2 t)||ks.any (fun z=>Nat.beq z.1 b&&Nat.beq z.2 t))=true:=hb
     show ((gTy S.G).any (fun x=>Nat.beq (kf x.1) b&&Nat.beq x.2 t)||(x::ks).any (fun z=>Nat.beq z.1 b&&Nat.beq z.2 t))=true
     rw [List.any_cons]
     rcases Bool.or_eq_true_iff.1 hb' with h|h<;>rw [h]<;>simp) (fun ks x w d v hx hv=>by
     rw [lk_dFs] at hv⊢
     exact dF_cx (hmono ks x w hx) rfl (Nat.le_refl _) hv) (fun ks x w hx=>vars_cx fun y hy=>⟨_,List.mem_map.2 ⟨_,List.mem_map.2 ⟨y,hy,rfl⟩,rfl⟩,rfl,rfl,fun v hv=>dS_cx (hmono ks x w hx) rfl (.inl (Nat.le_refl _)) hv⟩) (fun ks w1 hK g x hx=>by
     have hsz1:w.heap.size≤w1.heap.size:=g.size
     rcases List.mem_append.1 hx with hx|hx
     ·obtain ⟨y,hy,rfl⟩:=List.mem_map.1 hx
      obtain ⟨z,hz,rfl⟩:=List.mem_map.1 hy
      exact (dS (E.dk (R ks)) kf (lvOf a) z.2).st _ _ _ (dS_cx (fun b t=>hcx ks b t fun x hx=>(hK x hx).1) rfl (.inr (List.all_eq_true.1 hnD z hz)) (hS.facts _ (List.mem_map.2 ⟨_,List.mem_map.2 ⟨z,hz,rfl⟩,rfl⟩))) g
     ·rcases List.mem_cons.1 hx with rfl|hx
      ·refine ⟨Nat.max_le.2 ⟨Nat.le_trans hS.grow.size hsz1,hsz1⟩,fun t _ b hb=>R_not (hS.fr (Nat.le_trans hsz1 hb)) fun x hx e=> ?_⟩
       have:=(hK x hx).2
       omega
      ·obtain ⟨z,hz,rfl⟩:=List.mem_map.1 hx
       rfl) (fun ks i hi=>hst2 ks i (Nat.zero_le _) hi) (J:=fun w1=>JV (unst ops) S.G kf w w1∧JS ops kf w w1) fun w1 hs=>by
     refine ⟨fun x hx hu=> ?_,hs⟩
     have hxl:=(hS.lt hx).2
     obtain ⟨cs,hc,_⟩:=hxl
     refine hs _ (lt_heap hc) fun j p y t hj hal e=> ?_
     have hok:okB soft P ops (gTy S.G) (vsOf ops)=true:=by
      simp only [regB,Bool.and_eq_true] at hB
      exact hB.1.1.1.1.2
     simp only [okB,Bool.and_eq_true] at hok
     have h1:=List.all_eq_true.1 hok.1.1.2 _ hj
     simp only [okS,Bool.and_eq_true,Bool.or_eq_true] at h1
     rcases h1.2 with h2|⟨_,h2⟩
     ·obtain ⟨z,hz,e2⟩:=List.any_eq_true.1 h2
      obtain ⟨x',hx',rfl⟩:=List.mem_map.1 hz
      simp only [Bool.and_eq_true] at e2
      have e3:=Nat.eq_of_beq_eq_true e2.1
      have hne:x'.slot≠x.slot:=fun e4=>by
       have:=List.all_eq_true.1 hu _ hj
       have e3':x'.slot=p:=e3
       rw [←e3',e4] at this
       simp at this
      exact ap_of hS hx' hx hne (by have e3':x'.slot=p:=e3;rw [e3'];exact e)
     ·obtain ⟨z,hz,e2⟩:=List.any_eq_true.1 h2
      simp only [Bool.and_eq_true] at e2
      exact hal z hz (Nat.eq_of_beq_eq_true e2.1)
   refine ⟨I,i0,i1,fun L a' w' hL hI=> ?_,i3⟩
   obtain ⟨kf',ks,k1,k2,hKB,k3,k4,k5⟩:=i2 L a' w' hL hI
   rw [newG_dG hst,newD_dD] at k5
   have halG: ∀x∈S.G,kf' x.slot=kf x.slot:=fun x hx=>k1 _ fun z hz e=>by
    have hok:okB soft P ops (gTy S.G) (vsOf ops)=true:=by
     simp only [regB,Bool.and_eq_true] at hB
     exact hB.1.1.1.1.2
    simp only [okB,Bool.and_eq_true] at hok
    have h1:=List.all_eq_true.1 hok.1.1.1 z hz
    simp only [okA,Bool.and_eq_true] at h1
    have:=List.all_eq_true.1 h1.2 (x.slot,x.ty) (List.mem_map.2 ⟨x,hx,rfl⟩)
    simp only [e] at this
    simp at this
   refine ⟨kf',k4.size,halG, ?_⟩
   have nVs: ∀x:Vx E.κ,(nV (vsOf ops) fs x).slot=x.slot∧(nV (vsOf ops) fs x).ty=x.ty:=fun x=>by
    unfold nV
    split<;>exact ⟨rfl,rfl⟩
   have hcx2: ∀b t,b<w'.heap.size→(R ks).ban b t=false→(cxOf (gTy (nG S.G (vsOf ops) fs h)) kf' wE.heap.size).ban b t=false:=fun b t _ hRb=>by
    cases hb:(cxOf (gTy (nG S.G (vsOf ops) fs h)) kf' wE.heap.size).ban b t with
    |false=>rfl
    |true=>
     exfalso
     obtain ⟨x,hx,e1,e2⟩:=ban_var hb
     obtain ⟨y,hy,rfl⟩:=List.mem_map.1 hx
     simp only at e1 e2
     rcases List.mem_append.1 hy with hy|hy
     ·obtain ⟨z,hz,rfl⟩:=List.mem_map.1 hy
      rw [(nVs z).1,halG z hz] at e1
      rw [(nVs z).2] at e2
      have:(R ks).ban b t=true:=by
       rw [←e1,←e2]
       exact R_var (x:=(z.slot,z.ty)) (List.mem_map.2 ⟨z,hz,rfl⟩)
      rw [this] at hRb
      cases hRb
     ·obtain ⟨z,hz,rfl⟩:=List.mem_map.1 hy
      rw [(nVs _).1] at e1
      rw [(nVs _).2] at e2
      simp only at e1 e2
      have h2:=k2 z hz
      have:(R ks).ban b t=true:=by
       rw [←e2,←e1]
       exact R_new h2
      rw [this] at hRb
      cases hRb
   have hDs: ∀d,hasD S.D d=true→(dS (E.dk (R ks)) kf (lvOf a) (lS S.D d)).p w' (lvOf a d):=fun d hd=>
    (dS (E.dk (R ks)) kf (lvOf a) (lS S.D d)).st _ _ _ (dS_cx (fun b t=>hcx ks b t fun x hx=>(hKB x hx).1) rfl (.inr (noF_lS hnD)) (hS.d hd)) k4
   refine ⟨k5.size,k5.defers,k5.grow, ?_, ?_, ?_⟩
   ·refine vars_cx fun x hx=> ?_
    obtain ⟨y,hy,rfl⟩:=List.mem_map.1 hx
    obtain ⟨g1,g2,cs,g3,g4,g5⟩:=k5.vars _ (List.mem_map.2 ⟨_,List.mem_map.2 ⟨y,hy,rfl⟩,rfl⟩)
    exact ⟨g1,g2,cs,g3,g4,dS_cx hcx2 rfl (.inl (Nat.zero_le _)) (dS_pl g5)⟩
   ·intro x hx y hy
    obtain ⟨x',hx',rfl⟩:=List.mem_map.1 hx
    obtain ⟨y',hy',rfl⟩:=List.mem_map.1 hy
    obtain ⟨x2,hx2,rfl⟩:=List.mem_map.1 hx'
    obtain ⟨y2,hy2,rfl⟩:=List.mem_map.1 hy'
    obtain ⟨x3,hx3,rfl⟩:=List.mem_map.1 hx2
    obtain ⟨y3,hy3,rfl⟩:=List.mem_map.1 hy2
    exact fun hne=>ap_of k5 hx3 hy3 hne
   ·intro x hx
    obtain ⟨y,hy,rfl⟩:=List.mem_map.1 hx
    obtain ⟨z,hz,rfl⟩:=List.mem_map.1 hy
    rcases List.mem_cons.1 hz with rfl|hz
    ·refine ap_ok (kf:=kf) (cx:=R ks) (w':=w') (m:=w.heap.size) (lv:=lvOf a) (lv':=lvOf a') (fun d hd=>k3 d hd) (fun d hd=> ?_) (fun y T hy hT b e=> ?_) (fun x T hx e b hb=> ?_) ?_
     ·exact k5.facts (d,(dS (E.dk (R ks)) kf (lvOf a) (unS (lF fs d))).p) (List.mem_map.2 ⟨_,List.mem_map.2 ⟨_,mem_nD0 hd,rfl⟩,rfl⟩)
     ·exact own_lt hT (hS.facts _ (List.mem_map.2 ⟨_,List.mem_map.2 ⟨y,hy,rfl⟩,rfl⟩)) e
     ·exact fr_ge (cx:=R ks) e hx hb
     ·intro x hx
      have hd:hasD S.D apSlot=true:=by
       unfold apL at hx
       split at hx
       ·next ds e=>
        cases hh:hasD S.D apSlot with
        |true=>rfl
        |false=>rw [lS_none hh] at e;cases e
       ·cases hx
      have:=hS.d hd
      unfold apL at hx
      split at hx
      ·next ds e=>
       rw [e] at this
       exact this x hx
      ·cases hx
    ·obtain ⟨u,hu,rfl⟩:=List.mem_map.1 hz
     exact dS_cx hcx2 rfl (.inl (Nat.zero_le _)) (dS_st (fun q hq=>k1 q hq) (fun d hd=>k3 d hd) hDs (k5.facts _ (List.mem_map.2 ⟨_,List.mem_map.2 ⟨u,(List.mem_filter.1 hu).1,rfl⟩,rfl⟩)))
 ·cases hr
theorem runReg_dr {ops:Array Oper} {mid:Bool} {h:Hint E.κ} {ps:List Prop} {Q:Exit→Act→World→Prop} (hr:runReg E mid n ops h S=some (S',ps)) (hp:AL ps) (hS:SX n S wE kf a w):Dr P ops Q a w (JV (unst ops) S.G kf w) fun a w=> ∃kf',KV S.G kf kf'∧SX n S' wE kf' a w:=by
 obtain ⟨I,i0,i1,i2,i3⟩:=runReg_drB (Q:=Q) hr hp hS
 exact ⟨I,i0,i1,fun L a w hL h=>(i2 L a w hL h).imp fun _ h=>h.2,fun L a w h=>(i3 L a w h).1⟩
end
end
end Go.Proofs.YthebilnlljkfeaaGreatDoor.X
