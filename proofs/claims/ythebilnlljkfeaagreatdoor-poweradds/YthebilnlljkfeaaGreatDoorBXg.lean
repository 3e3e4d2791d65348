/- One text out of: Xg. -/
import Derived.Test.YthebilnlljkfeaaGreatDoorBXf
namespace Go.Proofs.YthebilnlljkfeaaGreatDoor.X
open Go.RowKit Go.Proofs.YthebilnlljkfeaaGreatDoor.Z
open Go.Proofs.YthebilnlljkfeaaGreatDoor.Rg (depI Facts dsts info run_wanted wfV)
def effQ {κ:Type} (tf:FuncId→Bool) (ops:Array Oper) (G:List (Vx κ)) (o:Oper):Bool:=match o.op with
 | .call c=>match c.callee with
  | .builtin .append=>true
  | .value (.func f)=>tf f
  |_=>false
 | .next _ _=>true
 | .store _ (.tmp p) _=> !(hasX G p||(alOf ops).any fun z=>Nat.beq z.2.1 p)
 |_=>false
def effI {κ:Type} (tf:FuncId→Bool) (ops:Array Oper) (G:List (Vx κ)):List Oper→Nat→Option Nat
 | [],_=>none
 |o::r,i=>cond (effQ tf ops G o) (some i) (effI tf ops G r (i+1))
def shH {κ:Type} (m:Nat) (h:Hint κ):Hint κ:=(h.filter fun x=>Nat.ble m x.1).map fun x=>(x.1-m,x.2)
section
variable {P:Program} (E:Env P)
def reS (S:Sx E.κ) (ps:List Prop):Option (Fk E.κ)→Option (Sx E.κ×List Prop)
 |none=>some (S,ps)
 |some (.s k')=>match S.D with
  |(d,k)::r=>some (⟨(d,k')::r,S.G⟩,ps++ [tS E k k'])
  | []=>none
 |_=>none
def gdB {κ:Type} (ops:Array Oper) (m:Nat) (S:Sx κ):Option (Nat×Bool)→Bool
 |some (k,b)=>cond (Nat.ble k m) (match (ops[k]?).bind (·.dst) with
  |some d=>hasD S.D d&&(match lS S.D d with
   | .E (.bool c)=>c==b
   |_=>false)
  |none=>false) true
 |none=>true
def gdA {κ:Type} (ops:Array Oper) (m:Nat) (S:Sx κ):Bool:=(ops.toList.drop (m+1)).all fun o=>gdB ops m S o.guard
def gdM (m:Nat):Option (Nat×Bool)→Bool
 |some (k,_)=>decide (k<m)
 |none=>true
def opOne (o:Oper):Oper:={o with after:= #[],guard:=none}
def hkB {κ:Type} (P:Program) (S:Sx κ) (o:Oper):Option (List Nat):=match o.op with
 | .assign _=>some []
 | .move _=>some []
 | .load t (.tmp p)=>cond (hasX S.G p) (cond (Nat.beq (lG S.G p).ty t) (some [p]) none) (cond (hasD S.D p) (match lS S.D p with
  | .P q off=>cond (hasX S.G q&&(plainB P t&&((P.info? (lG S.G q).ty).map (·.size)).any fun m=>decide (off<m))) (some [q]) none
  |_=>none) none)
 | .fieldAddr t (.tmp p) f=>match offOf P t f with
  |some (off,sz)=>cond (fieldB P t f off sz&&hasX S.G p) (some []) none
  |none=>none
 | .binOp .rem _ (.tmp x) (.const (.int k' n)) _=>cond (hasD S.D x) (match lS S.D x with
  | .E (.int k _)=>cond (decide (k=k')&& !decide (n=0)) (some []) none
  |_=>none) none
 | .convert s t (.tmp x)=>cond (hasD S.D x) (match lS S.D x with
  | .E (.int _ _)=>match P.underlying s,P.underlying t with
   |some _,some (.int _)=>some []
   |_,_=>none
  |_=>none) none
 |_=>none
def scrAt {κ:Type}:Hint κ→Option (Nat×Nat)
 |(i,v,_)::_=>cond (Nat.ble 900000 v&&Nat.ble v 900001) (some (v-900000,i)) none
 | []=>none
def hintAt {κ:Type} (i:Nat) (h:Hint κ):Hint κ:=(h.filter fun x=>Nat.beq x.1 i).map fun x=>(0,x.2)
def midAt (n:Nat) (pv:List Nat) (b:Bool) (m:Nat) (o:Oper) (h:Hint E.κ) (S:Sx E.κ):Option (Sx E.κ×List Prop):=cond b
 (cond (pv.all fun p=>hasX S.G p&&unst #[opOne o] p) (runReg E true n #[opOne o] (hintAt m h) S) none)
 (cond (pv.isEmpty||(isAp o&&pv.all (hasX S.G))) (match runEfT E n (vaN (vaOf h m)) {o with guard:=none} S with
  |some (S2,p2)=>reS E S2 p2 (teOf h m)
  |none=>none) none)
def cutAt (n:Nat) (pv:List Nat) (b:Bool) (m:Nat) (ops:Array Oper) (h:Hint E.κ) (S:Sx E.κ) (rest:Sx E.κ→Option (Sx E.κ×List Prop)):Option (Sx E.κ×List Prop):=
 cond (cutB ops m&&wfV n ops&&decide (m<ops.size)&&pv.all fun p=>hasX S.G p&&unst (preO ops m) p) (match runReg E true n (preO ops m) h S,ops[m]? with
  |some (S1,p1),some o=>match cond (gdB ops m S1 o.guard&&gdM m o.guard) (midAt E n pv b m o h S1) none with
   |some (S2,p2)=>match cond (gdA ops m S2) (rest S2) none with
    |some (S3,p3)=>some (S3,p1++(p2++p3))
    |none=>none
   |none=>none
  |_,_=>none) none
def hoAt (n:Nat) (i:Nat) (ops:Array Oper) (h:Hint E.κ) (S:Sx E.κ) (pv:List Nat) (rest:List Nat→Sx E.κ→Option (Sx E.κ×List Prop)):Option (Sx E.κ×List Prop):=match ops[i]? with
 |some o=>match hkB P S o,o.dst with
  |some pv',some _=>cond (hoistB ops i&&wfV n ops&&(pv'++pv).all (hasX S.G)) (match runReg E true n #[opOne o] (hintAt i h) S with
   |some (S1,p1)=>match rest (pv'++pv) S1 with
    |some (S2,p2)=>some (S2,p1++p2)
    |none=>none
   |none=>none) none
  |_,_=>none
 |none=>none
def runAt (n:Nat):Nat→List Nat→Array Oper→Hint E.κ→Sx E.κ→Option (Sx E.κ×List Prop)
 |0,_,_,_,_=>none
 |f+1,pv,ops,h,S=>match scrAt h with
  |some (k,i)=>cond (Nat.beq k 0) (hoAt E n i ops h.tail S pv fun pv' S1=>runAt n f pv' (hopA ops i) h.tail S1)
    (cutAt E n pv true i ops h.tail S fun S2=>runAt n f pv (sufO ops (i+1)) (shH (i+1) h.tail) S2)
  |none=>match effI (fun f=>(findT E.tc f).isSome) ops S.G ops.toList 0 with
   |none=>cond (pv.all fun p=>hasX S.G p&&unst ops p) (runReg E false n ops h S) none
   |some m=>cutAt E n pv false m ops h S fun S2=>runAt n f pv (sufO ops (m+1)) (shH (m+1) h) S2
def runR (n:Nat) (ops:Array Oper) (h:Hint E.κ) (S:Sx E.κ):Option (Sx E.κ×List Prop):=runAt E n 40 [] ops h S
variable {E}
theorem gdB_ok {n k m:Nat} {b:Bool} {S:Sx E.κ} {wE:World} {kf:Nat→Nat} {a:Act} {w:World} {ops:Array Oper} (hS:SX n S wE kf a w) (h:gdB ops m S (some (k,b))=true) (hk:k≤m): ∃d,(ops[k]?).bind (·.dst)=some d∧a.tmps.getD d undef= .bool b:=by
 simp only [gdB,show Nat.ble k m=true from Nat.ble_eq_true_of_le hk,_root_.cond_true] at h
 split at h
 ·next d hd=>
  simp only [Bool.and_eq_true] at h
  obtain ⟨h1,h2⟩:=h
  have hv:=hS.d h1
  split at h2
  ·next c e=>
   rw [e] at hv
   have ec:c=b:=by simpa using h2
   subst ec
   exact ⟨d,hd,hv⟩
  ·cases h2
 ·cases h
theorem reS_ok {n:Nat} {S S':Sx E.κ} {ps ps':List Prop} {F:Option (Fk E.κ)} {wE:World} {kf:Nat→Nat} {a:Act} {w:World} (h:reS E S ps F=some (S',ps')) (hp:AL ps'):AL ps∧(SX n S wE kf a w→SX n S' wE kf a w):=by
 unfold reS at h
 split at h
 ·injection h with h
  injection h with h1 h2
  subst h1 h2
  exact ⟨hp,id⟩
 ·next k'=>
  split at h
  ·next d k r e=>
   injection h with h
   injection h with h1 h2
   subst h1 h2
   obtain ⟨a1,a2⟩:=AL_app hp
   refine ⟨a1,fun hS=>⟨hS.size,hS.defers,hS.grow,hS.vars,hS.apart, ?_⟩⟩
   intro x hx
   obtain ⟨y,hy,rfl⟩:=List.mem_map.1 hx
   obtain ⟨z,hz,rfl⟩:=List.mem_map.1 hy
   rcases List.mem_cons.1 hz with rfl|hz
   ·exact tS_im E a2.1 _ _ _ _ _ (hS.facts _ (List.mem_map.2 ⟨_,List.mem_map.2 ⟨(d,k),by rw [e];exact .head _,rfl⟩,rfl⟩))
   ·exact hS.facts _ (List.mem_map.2 ⟨_,List.mem_map.2 ⟨z,by rw [e];exact .tail _ hz,rfl⟩,rfl⟩)
  ·cases h
 ·cases h
theorem effI_lt {κ:Type} {tf:FuncId→Bool} {ops:Array Oper} {G:List (Vx κ)}: ∀{l:List Oper} {i m:Nat},effI tf ops G l i=some m→m<i+l.length:=by
 intro l
 induction l with
 |nil=>intro i m h;cases h
 |cons o r ih=>
  intro i m h
  unfold effI at h
  cases hb:effQ tf ops G o with
  |true=>
   rw [hb] at h
   injection h with h
   subst h
   simp
  |false=>
   rw [hb] at h
   have:=ih h
   simp only [List.length_cons]
   omega
theorem runReg_wf {n:Nat} {ops:Array Oper} {mid:Bool} {h:Hint E.κ} {S S':Sx E.κ} {ps:List Prop} (hr:runReg E mid n ops h S=some (S',ps)):wfV n ops=true:=by
 unfold runReg at hr
 split at hr
 ·next fs qs e=>
  cases hc:(regB P n ops (gTy S.G) (vsOf ops) (dFs (E.dk cx0) (fun _=>0) (fun _=>undef) fs) (keepOf fs)&&(stOf ops).all (fun x=>isSF (lF fs x.2.2.1))&& !(dsts ops).contains szSlot&&S.D.all (fun x=>noF x.2)&&S.G.all (fun x=>noF x.k)) with
  |false=>rw [hc] at hr;cases hr
  |true=>
   simp only [Bool.and_eq_true,regB] at hc
   exact hc.1.1.1.1.1.1.1.1.1
 ·cases hr
abbrev Q0:Exit→Act→World→Prop:=fun _ _ _=>False
theorem lets0: ¬LetsOut Q0:=fun ⟨_,_,h⟩=>h
theorem Dr.mono {ops:Array Oper} {Q:Exit→Act→World→Prop} {a:Act} {w:World} {J J':World→Prop} {f f':Act→World→Prop} (h:Dr P ops Q a w J f) (hJ: ∀w,J w→J' w) (hf: ∀a w,f a w→f' a w):Dr P ops Q a w J' f':=by
 obtain ⟨I,i0,i1,i2,i3⟩:=h
 exact ⟨I,i0,i1,fun L a w h1 h2=>hf a w (i2 L a w h1 h2),fun L a w h=>hJ w (i3 L a w h)⟩
theorem wp_q0 {o:Oper} {a:Act} {w:World} {K:Act→World→Prop} {Q:Exit→Act→World→Prop} (h:o.wp P a w K Q0):o.wp P a w K Q:=by
 unfold Oper.wp at*
 generalize (execOp a.eval o).run P w=r at*
 cases r with
 |ok n w'=>
  cases n<;>simp only [Oper.upon] at h⊢ <;>
   first
    |exact h
    |exact Calls.mono h (fun e w'' he=>by cases e<;>first|exact he|exact he.elim|exact (lets0 he).elim)
 |halt x w'=>cases x<;>first|exact h.elim|exact False.elim h|simp only [Oper.upon] at h
theorem Dr.any {ops:Array Oper} {Q:Exit→Act→World→Prop} {a:Act} {w:World} {J:World→Prop} {f:Act→World→Prop} (h:Dr P ops Q0 a w J f):Dr P ops Q a w J f:=by
 obtain ⟨I,i0,i1,i2,i3⟩:=h
 refine ⟨I,i0,fun L i o a w h1 h2 h3 h4 h5=> ?_,i2,i3⟩
 have h6:=i1 L i o a w h1 h2 h3 h4 h5
 unfold wpOp at*
 rw [h2] at h6⊢
 simp only at h6⊢
 split
 ·next hw=>
  rw [if_pos hw] at h6
  rcases h6 with h6|⟨_,h6⟩
  ·exact .inl (wp_q0 h6)
  ·exact (lets0 h6).elim
 ·next hw=>
  rw [if_neg hw] at h6
  exact h6
theorem one_in {o:Oper} {a:Act} {w:World} {Q:Exit→Act→World→Prop} {J:World→Prop} {fin:Act→World→Prop} (h:Dr P #[opOne o] Q a w J fin):wpOp P #[opOne o] Q 0 (fun a' w'=>fin a' w'∧J w') a w:=by
 obtain ⟨I,i0,i1,i2,i3⟩:=h
 refine wpOp_mono (fun a' w' hI=>⟨i2 _ a' w' (fun i hi=> ?_) hI,i3 _ a' w' hI⟩) (i1 (Array.replicate 1 false) 0 (opOne o) a w rfl rfl rfl (fun e he=>by simp [opOne] at he) (i0 w (.inl rfl)))
 have:i=0:=by
  have:i<1:=hi
  omega
 subst this
 rfl
theorem one_at {ops:Array Oper} {m:Nat} {o:Oper} {a:Act} {w:World} {Q:Exit→Act→World→Prop} {K:Act→World→Prop} (ho:ops[m]? =some o) (hw:Region.wanted o (yielded ops a.tmps)=true) (h:wpOp P #[opOne o] Q 0 K a w):wpOp P ops Q m K a w:=by
 unfold wpOp at*
 rw [ho]
 have e1:(#[opOne o]:Array Oper)[0]? =some (opOne o):=rfl
 rw [e1] at h
 have e2: ∀y,Region.wanted (opOne o) y=true:=fun y=>rfl
 simp only [e2,if_true] at h
 simp only [hw,if_true]
 exact h
theorem one_run {o:Oper} {d:Nat} {v:Value} {a:Act} {w:World} {J:World→Prop} {fin:Act→World→Prop} (h:Dr P #[opOne o] Q0 a w J fin) (hd:o.dst=some d) (hr:(execOp a.eval o).run P w= .ok (.value v) w):fin (a.put (some d) v) w:=by
 have h1:=one_in h
 unfold wpOp at h1
 have e1:(#[opOne o]:Array Oper)[0]? =some (opOne o):=rfl
 rw [e1] at h1
 have e2: ∀y,Region.wanted (opOne o) y=true:=fun y=>rfl
 simp only [e2,if_true] at h1
 rcases h1 with h1|⟨_,h1⟩
 ·unfold Oper.wp at h1
  have e3:execOp a.eval (opOne o)=execOp a.eval o:=rfl
  rw [e3,hr] at h1
  have h2:fin (a.put o.dst v) w∧J w:=h1
  rw [hd] at h2
  exact h2.1
 ·exact (lets0 h1).elim
def PJ (pv:List Nat) (kf:Nat→Nat) (w0 w:World):Prop:= ∀p∈pv,w.heap[kf p]? =w0.heap[kf p]?
def PK (pv:List Nat) (kf kf':Nat→Nat):Prop:= ∀p∈pv,kf' p=kf p
theorem hasX_mem {κ:Type} {G:List (Vx κ)} {p:Nat} (h:hasX G p=true): ∃x∈G,x.slot=p:=by
 obtain ⟨x,hx,e⟩:=List.any_eq_true.1 h
 exact ⟨x,hx,Nat.eq_of_beq_eq_true e⟩
theorem PJ_of {pv:List Nat} {b:Nat→Bool} {G:List (Vx E.κ)} {kf:Nat→Nat} {w0 w:World} (hp: ∀p∈pv,hasX G p=true∧b p=true) (h:JV b G kf w0 w):PJ pv kf w0 w:=fun p hm=>by
 obtain ⟨x,hx,rfl⟩:=hasX_mem (hp p hm).1
 exact h x hx (hp _ hm).2
theorem PK_of {pv:List Nat} {G:List (Vx E.κ)} {kf kf':Nat→Nat} (hp: ∀p∈pv,hasX G p=true) (h:KV G kf kf'):PK pv kf kf':=fun p hm=>by
 obtain ⟨x,hx,rfl⟩:=hasX_mem (hp p hm)
 exact h x hx
theorem PJ_tr {pv:List Nat} {kf kf':Nat→Nat} {w0 w1 w2:World} (hk:PK pv kf kf') (h1:PJ pv kf w0 w1) (h2:PJ pv kf' w1 w2):PJ pv kf w0 w2:=fun p hm=>by
 have:=h2 p hm
 rw [hk p hm] at this
 exact this.trans (h1 p hm)
theorem PK_tr {pv:List Nat} {kf k1 k2:Nat→Nat} (h1:PK pv kf k1) (h2:PK pv k1 k2):PK pv kf k2:=fun p hm=>(h2 p hm).trans (h1 p hm)
theorem all2 {pv:List Nat} {f g:Nat→Bool} (h:(pv.all fun p=>f p&&g p)=true): ∀p∈pv,f p=true∧g p=true:=fun p hm=>by
 have:=List.all_eq_true.1 h p hm
 simpa using this
theorem all1 {pv:List Nat} {f:Nat→Bool} (h:pv.all f=true): ∀p∈pv,f p=true:=fun p hm=>List.all_eq_true.1 h p hm
theorem reg_p {n:Nat} {wE:World} {ops:Array Oper} {mid:Bool} {pv:List Nat} {h:Hint E.κ} {S S':Sx E.κ} {ps:List Prop} {Q:Exit→Act→World→Prop} {kf:Nat→Nat} {a:Act} {w:World} (hr:runReg E mid n ops h S=some (S',ps)) (hp:AL ps) (hS:SX n S wE kf a w) (hv: ∀p∈pv,hasX S.G p=true∧unst ops p=true):Dr P ops Q a w (PJ pv kf w) fun a' w'=> ∃kf',PK pv kf kf'∧SX n S' wE kf' a' w':=
 Dr.mono (runReg_dr hr hp hS) (fun _ h=>PJ_of hv h) fun _ _ ⟨kf',h1,h2⟩=>⟨kf',PK_of (fun p hm=>(hv p hm).1) h1,h2⟩
theorem run_field {w:World} {o:Oper} {ρ:Operand→Value} {x:Operand} {k o0 off sz f:Nat} {t:TypeId} (ho:o.op= .fieldAddr t x f) (hp:ρ x= .pointer (some ⟨k,o0,none⟩)) (hf:fieldB P t f off sz=true):(execOp ρ o).run P w= .ok (.value (.pointer (some ⟨k,o0+off,none⟩))) w:=by
 unfold fieldB at hf
 split at hf
 ·next fs hu=>
  split at hf
  ·next fd hfd=>
   simp only [Bool.and_eq_true] at hf
   obtain ⟨h1,h2⟩:=hf
   split at h2
   ·next j hj=>
    simp only [Bool.and_eq_true,Bool.not_eq_true'] at h2
    have e1:fd.offset=off:=Nat.eq_of_beq_eq_true h1
    have e2:=Nat.eq_of_beq_eq_true h2.1
    have e3:sz≠0:=fun e=>by rw [e] at h2;cases h2.2
    subst e1
    unfold execOp
    simp only [ho,hp]
    simp [go_sem,Instr.fieldAt,Instr.sureAddr,underlying,fieldPlace,sizeOf,typeInfo,hu,hfd,hj,e2,e3]
   ·cases h2
  ·cases hf
 ·cases hf
theorem run_load1 {w:World} {o:Oper} {ρ:Operand→Value} {x:Operand} {k off:Nat} {t t':TypeId} {cs:Array Value} (ho:o.op= .load t' x) (hp:ρ x= .pointer (some ⟨k,off,none⟩)) (hk:w.heap[k]? =some (.cells cs t (0,0))) (ha:plainB P t'=true) (hm:off<cs.size):(execOp ρ o).run P w= .ok (.value (cs.getD off undef)) w:=by
 have hc:w.cell? ⟨k,off,none⟩=some (cs.getD off undef):=by simp [World.cell?,hk,hm]
 have: ∃ds,P.underlying t'=some ds∧aggD ds=false:=by
  unfold plainB at ha
  split at ha
  ·cases ha
  ·cases ha
  ·next ds h1 h2 e=>exact ⟨ds,e,by cases ds<;>first|rfl|exact (h1 _ rfl).elim|exact (h2 _ _ rfl).elim⟩
  ·cases ha
 obtain ⟨ds,hu,hd⟩:=this
 unfold execOp
 simp only [ho,hp,Instr.loadAt,Instr.sureAddr,Sem.run_bind,Sem.run_pure,Result.andThen_ok,run_loadCell hc hu hd]
theorem hk_run {n:Nat} {wE:World} {S:Sx E.κ} {o:Oper} {pv:List Nat} {kf:Nat→Nat} {a:Act} {w:World} (hk:hkB P S o=some pv) (hS:SX n S wE kf a w): ∃v,∀w',PJ pv kf w w'→(execOp a.eval o).run P w'= .ok (.value v) w':=by
 unfold hkB at hk
 split at hk
 ·next x e=>exact ⟨a.eval x,fun w' _=>by unfold execOp;simp only [e];rfl⟩
 ·next x e=>exact ⟨a.eval x,fun w' _=>by unfold execOp;simp only [e];rfl⟩
 ·next t p e=>
  cases hx:hasX S.G p with
  |true=>
   rw [hx] at hk
   simp only [_root_.cond_true] at hk
   cases ht:Nat.beq (lG S.G p).ty t with
   |false=>rw [ht] at hk;cases hk
   |true=>
    rw [ht] at hk
    injection hk with hk
    subst hk
    obtain ⟨g1,_,cs,g3,g4,_⟩:=hS.vars _ (mem_dG hx)
    have et:=Nat.eq_of_beq_eq_true ht
    simp only [et] at g3 g4
    exact ⟨.agg cs,fun w' hJ=>Z.run_load e g1 ((hJ p (.head _)).trans g3) g4⟩
  |false=>
   rw [hx] at hk
   simp only [_root_.cond_false] at hk
   cases hd:hasD S.D p with
   |false=>rw [hd] at hk;cases hk
   |true=>
    rw [hd] at hk
    simp only [_root_.cond_true] at hk
    have hv:=hS.d hd
    split at hk
    ·next q off eq=>
     cases hc:(hasX S.G q&&(plainB P t&&((P.info? (lG S.G q).ty).map (·.size)).any fun m=>decide (off<m))) with
     |false=>rw [hc] at hk;cases hk
     |true=>
      rw [hc] at hk
      injection hk with hk
      subst hk
      simp only [Bool.and_eq_true] at hc
      rw [eq] at hv
      have hv':a.tmps.getD p undef= .pointer (some ⟨kf q,off,none⟩):=hv
      obtain ⟨_,_,cs,g3,g4,_⟩:=hS.vars _ (mem_dG hc.1)
      have hm:off<cs.size:=by
       have:=hc.2.2
       rw [g4.size] at this
       simpa using this
      exact ⟨cs.getD off undef,fun w' hJ=>run_load1 e hv' ((hJ q (.head _)).trans g3) hc.2.1 hm⟩
    ·cases hk
 ·next t p f e=>
  split at hk
  ·next off sz eo=>
   cases hc:(fieldB P t f off sz&&hasX S.G p) with
   |false=>rw [hc] at hk;cases hk
   |true=>
    rw [hc] at hk
    injection hk with hk
    subst hk
    simp only [Bool.and_eq_true] at hc
    obtain ⟨g1,_⟩:=hS.vars _ (mem_dG hc.2)
    exact ⟨_,fun w' _=>run_field e g1 hc.1⟩
  ·cases hk
 ·next t x k' n t2 e=>
  cases hd:hasD S.D x with
  |false=>rw [hd] at hk;cases hk
  |true=>
   rw [hd] at hk
   simp only [_root_.cond_true] at hk
   have hv:=hS.d hd
   split at hk
   ·next k m eq=>
    cases hc:(decide (k=k')&& !decide (n=0)) with
    |false=>rw [hc] at hk;cases hk
    |true=>
     rw [hc] at hk
     injection hk with hk
     subst hk
     simp only [Bool.and_eq_true,decide_eq_true_eq,Bool.not_eq_true',decide_eq_false_iff_not] at hc
     obtain ⟨rfl,hn⟩:=hc
     rw [eq] at hv
     have e1:a.eval (.tmp x)= .int k m:=hv
     have e2:a.eval (.const (.int k n))= .int k n:=rfl
     refine ⟨.int k (m.tmod n),fun w' _=> ?_⟩
     unfold execOp
     simp only [e,e1,e2,Sem.run_bind,guardI,Result.andThen_ok]
     simp [binOp,go_sem,hn]
   ·cases hk
 ·next s t x e=>
  cases hd:hasD S.D x with
  |false=>rw [hd] at hk;cases hk
  |true=>
   rw [hd] at hk
   simp only [_root_.cond_true] at hk
   have hv:=hS.d hd
   split at hk
   ·next k m eq=>
    split at hk
    ·next ds k' hs ht=>
     injection hk with hk
     subst hk
     rw [eq] at hv
     have e1:a.eval (.tmp x)= .int k m:=hv
     refine ⟨.int k' (k'.wrap m),fun w' _=> ?_⟩
     unfold execOp
     simp only [e,e1]
     simp [go_sem,convert,Conv.intToInt,underlying,hs,ht]
    ·cases hk
   ·cases hk
 ·cases hk
theorem mid_ok {n:Nat} {wE:World} {pv:List Nat} {b:Bool} {m:Nat} {ops:Array Oper} {o:Oper} {h:Hint E.κ} {S S':Sx E.κ} {ps:List Prop} {kf:Nat→Nat} {a:Act} {w:World} (hr:midAt E n pv b m o h S=some (S',ps)) (hp:AL ps) (hS:SX n S wE kf a w) (ho:ops[m]? =some o) (hw:Region.wanted o (yielded ops a.tmps)=true):
  wpOp P ops Q0 m (fun a' w'=> ∃kf',SX n S' wE kf' a' w'∧PK pv kf kf'∧PJ pv kf w w') a w:=by
 unfold midAt at hr
 cases b with
 |true=>
  simp only [_root_.cond_true] at hr
  cases hc:(pv.all fun p=>hasX S.G p&&unst #[opOne o] p) with
  |false=>rw [hc] at hr;cases hr
  |true=>
   rw [hc] at hr
   exact one_at ho hw (wpOp_mono (fun _ _ ⟨⟨kf',h1,h2⟩,h3⟩=>⟨kf',h2,h1,h3⟩) (one_in (reg_p hr hp hS (all2 hc))))
 |false=>
  simp only [_root_.cond_false] at hr
  cases hc:(pv.isEmpty||(isAp o&&pv.all (hasX S.G))) with
  |false=>rw [hc] at hr;cases hr
  |true=>
   rw [hc] at hr
   simp only [_root_.cond_true] at hr
   split at hr
   ·next S2 p2 e3=>
    obtain ⟨r1,r2⟩:=reS_ok (n:=n) (wE:=wE) (kf:=kf) (a:=a) (w:=w) hr hp
    obtain ⟨g1,g2⟩:=runEfT_ok (Q:=Q0) hS e3 r1
    have g2':o.wp P a w (fun a' w'=> ∃kf',SX n S2 wE kf' a' w'∧(isAp o=true→KV S.G kf kf'∧JV (fun _=>true) S.G kf w w')) Q0:=g2
    refine run_wanted ho hw (Oper.wp_mono (fun a3 w3 ⟨kf3,h3,h4⟩=>⟨kf3,(reS_ok hr hp).2 h3, ?_⟩) g2')
    simp only [Bool.or_eq_true,Bool.and_eq_true] at hc
    rcases hc with hc|⟨hc1,hc2⟩
    ·have:pv= []:=by simpa using hc
     subst this
     exact ⟨fun p hm=>(by cases hm),fun p hm=>(by cases hm)⟩
    ·obtain ⟨h5,h6⟩:=h4 hc1
     exact ⟨PK_of (all1 hc2) h5,PJ_of (fun p hm=>⟨all1 hc2 p hm,rfl⟩) h6⟩
   ·cases hr
theorem cut_ok {n:Nat} {wE:World} {pv:List Nat} {b:Bool} {m:Nat} {ops:Array Oper} {h:Hint E.κ} {S S':Sx E.κ} {ps:List Prop} {kf:Nat→Nat} {a:Act} {w:World} {rest:Sx E.κ→Option (Sx E.κ×List Prop)} (hr:cutAt E n pv b m ops h S rest=some (S',ps)) (hp:AL ps) (hS:SX n S wE kf a w)
  (hrest: ∀S2 p3 kf2 a2 w2,rest S2=some (S',p3)→AL p3→SX n S2 wE kf2 a2 w2→Dr P (sufO ops (m+1)) Q0 a2 w2 (PJ pv kf2 w2) fun a' w'=> ∃kf',PK pv kf2 kf'∧SX n S' wE kf' a' w'):wfV n ops=true∧Dr P ops Q0 a w (PJ pv kf w) fun a' w'=> ∃kf',PK pv kf kf'∧SX n S' wE kf' a' w':=by
 unfold cutAt at hr
 cases hc:(cutB ops m&&wfV n ops&&decide (m<ops.size)&&pv.all fun p=>hasX S.G p&&unst (preO ops m) p) with
 |false=>rw [hc] at hr;cases hr
 |true=>
  rw [hc] at hr
  simp only [_root_.cond_true] at hr
  simp only [Bool.and_eq_true,decide_eq_true_eq] at hc
  obtain ⟨⟨⟨hcB,hwf⟩,hlt⟩,hpv⟩:=hc
  split at hr
  ·next S1 p1 o e1 e2=>
   split at hr
   ·next S2 p2 e3=>
    split at hr
    ·next S3 p3 e5=>
     injection hr with hr
     injection hr with h1 h2
     subst h1 h2
     obtain ⟨q1,q23⟩:=AL_app hp
     obtain ⟨q2,q3⟩:=AL_app q23
     have t3:(gdB ops m S1 o.guard&&gdM m o.guard)=true:=by
      cases hh:(gdB ops m S1 o.guard&&gdM m o.guard) with
      |true=>rfl
      |false=>rw [hh] at e3;cases e3
     rw [t3] at e3
     simp only [_root_.cond_true] at e3
     simp only [Bool.and_eq_true] at t3
     have t5:gdA ops m S2=true:=by
      cases hh:gdA ops m S2 with
      |true=>rfl
      |false=>rw [hh] at e5;cases e5
     rw [t5] at e5
     simp only [_root_.cond_true] at e5
     refine ⟨hwf,Dr.cut hwf hlt hcB (reg_p e1 q1 hS (all2 hpv)) (K:=fun a2 w2=> ∃kf2,SX n S2 wE kf2 a2 w2∧PK pv kf kf2∧PJ pv kf w w2) (fun a1 w1 ⟨kf1,hk1,hS1⟩ hJ1=> ?_) (fun a2 w2 ⟨kf2,hS2,hk2,hJ2⟩=>Dr.mono (hrest _ _ kf2 a2 w2 e5 q3 hS2) (fun _ h=>PJ_tr hk2 hJ2 h) fun _ _ ⟨kf',h1,h2⟩=>⟨kf',PK_tr hk2 h1,h2⟩) fun i o' k b hi ho' hg hk a2 w2 ⟨kf2,hS2,_⟩=> ?_⟩
     ·have hw:Region.wanted o (yielded ops a1.tmps)=true:=by
       unfold Region.wanted
       cases hg:o.guard with
       |none=>rfl
       |some x=>
        obtain ⟨k,b⟩:=x
        rw [hg] at t3
        have hk:k<m:=of_decide_eq_true t3.2
        obtain ⟨d,d1,d2⟩:=gdB_ok hS1 t3.1 (Nat.le_of_lt hk)
        simp only
        rw [Rg.yields d1 d2]
        simp
      exact wpOp_mono (fun a3 w3 ⟨kf3,g1,g2,g3⟩=>⟨kf3,g1,PK_tr hk1 g2,PJ_tr hk1 hJ1 g3⟩) (mid_ok e3 q2 hS1 e2 hw)
     ·have hin:o'∈ops.toList.drop (m+1):=by
       refine List.mem_of_getElem? (i:=i-(m+1)) ?_
       rw [List.getElem?_drop,show m+1+(i-(m+1))=i by omega,Array.getElem?_toList]
       exact ho'
      have:=List.all_eq_true.1 t5 o' hin
      rw [hg] at this
      exact gdB_ok hS2 this hk
    ·cases hr
   ·cases hr
  ·cases hr
theorem ho_ok {n:Nat} {wE:World} {pv:List Nat} {i:Nat} {ops:Array Oper} {h:Hint E.κ} {S S':Sx E.κ} {ps:List Prop} {kf:Nat→Nat} {a:Act} {w:World} {rest:List Nat→Sx E.κ→Option (Sx E.κ×List Prop)} (hr:hoAt E n i ops h S pv rest=some (S',ps)) (hp:AL ps) (hS:SX n S wE kf a w)
  (hrest: ∀pv2 S2 p3 kf2 a2 w2,rest pv2 S2=some (S',p3)→AL p3→SX n S2 wE kf2 a2 w2→Dr P (hopA ops i) Q0 a2 w2 (PJ pv2 kf2 w2) fun a' w'=> ∃kf',PK pv2 kf2 kf'∧SX n S' wE kf' a' w'):wfV n ops=true∧Dr P ops Q0 a w (PJ pv kf w) fun a' w'=> ∃kf',PK pv kf kf'∧SX n S' wE kf' a' w':=by
 unfold hoAt at hr
 split at hr
 ·next o ho=>
  split at hr
  ·next pv' d hk hd=>
   cases hc:(hoistB ops i&&wfV n ops&&(pv'++pv).all (hasX S.G)) with
   |false=>rw [hc] at hr;cases hr
   |true=>
    rw [hc] at hr
    simp only [_root_.cond_true] at hr
    simp only [Bool.and_eq_true] at hc
    obtain ⟨⟨hB,hwf⟩,hpv⟩:=hc
    split at hr
    ·next S1 p1 e1=>
     split at hr
     ·next S2 p2 e2=>
      injection hr with hr
      injection hr with h1 h2
      subst h1 h2
      obtain ⟨q1,q2⟩:=AL_app hp
      obtain ⟨v,hv⟩:=hk_run hk hS
      obtain ⟨kf1,hk1,hS1⟩:=one_run (runReg_dr (Q:=Q0) e1 q1 hS) hd (hv w fun _ _=>rfl)
      have hk1':PK (pv'++pv) kf kf1:=PK_of (all1 hpv) hk1
      have hD:=hrest _ _ _ kf1 _ _ e2 q2 hS1
      have hD2:Dr P ops Q0 a w (PJ (pv'++pv) kf w) fun a' w'=> ∃kf',PK (pv'++pv) kf kf'∧SX n S2 wE kf' a' w':=Dr.hoist ho hd hB (fun w' hJ=>hv w' fun p hm=>hJ p (List.mem_append_left _ hm)) (fun _ _ _ _ h=>h) (Dr.mono hD (fun w' hJ=>PJ_tr hk1' (fun _ _=>rfl) hJ) fun _ _ ⟨kf',g1,g2⟩=>⟨kf',PK_tr hk1' g1,g2⟩)
      exact ⟨hwf,Dr.mono hD2 (fun w' hJ p hm=>hJ p (List.mem_append_right _ hm)) fun _ _ ⟨kf',g1,g2⟩=>⟨kf',fun p hm=>g1 p (List.mem_append_right _ hm),g2⟩⟩
     ·cases hr
    ·cases hr
  ·cases hr
 ·cases hr
theorem runAt_dr {n:Nat} {wE:World}: ∀(f:Nat) (pv:List Nat) (ops:Array Oper) (h:Hint E.κ) (S S':Sx E.κ) (ps:List Prop) (kf:Nat→Nat) (a:Act) (w:World),runAt E n f pv ops h S=some (S',ps)→AL ps→SX n S wE kf a w→wfV n ops=true∧Dr P ops Q0 a w (PJ pv kf w) fun a' w'=> ∃kf',PK pv kf kf'∧SX n S' wE kf' a' w':=by
 intro f
 induction f with
 |zero=>intro pv ops h S S' ps kf a w hr;cases hr
 |succ f ih=>
  intro pv ops h S S' ps kf a w hr hp hS
  unfold runAt at hr
  split at hr
  ·next k i e=>
   cases hk:Nat.beq k 0 with
   |true=>
    rw [hk] at hr
    simp only [_root_.cond_true] at hr
    exact ho_ok hr hp hS fun pv2 S2 p3 kf2 a2 w2 g1 g2 g3=>(ih _ _ _ _ _ _ kf2 a2 w2 g1 g2 g3).2
   |false=>
    rw [hk] at hr
    simp only [_root_.cond_false] at hr
    exact cut_ok hr hp hS fun S2 p3 kf2 a2 w2 g1 g2 g3=>(ih _ _ _ _ _ _ kf2 a2 w2 g1 g2 g3).2
  ·split at hr
   ·cases hc:(pv.all fun p=>hasX S.G p&&unst ops p) with
    |false=>rw [hc] at hr;cases hr
    |true=>
     rw [hc] at hr
     exact ⟨runReg_wf hr,reg_p hr hp hS (all2 hc)⟩
   ·exact cut_ok hr hp hS fun S2 p3 kf2 a2 w2 g1 g2 g3=>(ih _ _ _ _ _ _ kf2 a2 w2 g1 g2 g3).2
theorem runR_dr {n:Nat} {wE:World} {Q:Exit→Act→World→Prop} {ops:Array Oper} {h:Hint E.κ} {S S':Sx E.κ} {ps:List Prop} {kf:Nat→Nat} {a:Act} {w:World} (hr:runR E n ops h S=some (S',ps)) (hp:AL ps) (hS:SX n S wE kf a w):wfV n ops=true∧Dr P ops Q a w (fun _=>True) fun a w=> ∃kf,SX n S' wE kf a w:=by
 obtain ⟨h1,h2⟩:=runAt_dr 40 [] ops h S S' ps kf a w hr hp hS
 exact ⟨h1,Dr.any (Dr.mono h2 (fun _ _=>trivial) fun _ _ ⟨kf',_,h⟩=>⟨kf',h⟩)⟩
theorem runR_ok {n id:Nat} {ops:Array Oper} {b:Bool} {h:Hint E.κ} {S S':Sx E.κ} {ps:List Prop} {Q:Exit→Act→World→Prop} {wE:World} {kf:Nat→Nat} {a:Act} {w:World} (hm:P.follows .mixedOrders=true) (hr:runR E n ops h S=some (S',ps)) (hp:AL ps) (hS:SX n S wE kf a w)
  (fin: ∀kf a w,SX n S' wE kf a w→Q .normal a w):(Code.region id ops b).wp P Q a w:=by
 obtain ⟨h1,h2⟩:=runR_dr (Q:=Q) hr hp hS
 exact RW.code hm (h2.run h1 fun a w ⟨kf,h⟩=>fin kf a w h)
def AN:List Prop→Prop→Prop
 | [],q=>q
 |p::r,q=>p∧AN r q
theorem AN_ok: ∀{ps:List Prop} {q:Prop},AN ps q→AL ps∧q:=by
 intro ps
 induction ps with
 |nil=>intro q h;exact ⟨trivial,h⟩
 |cons p r ih=>intro q h;exact ⟨⟨h.1,(ih h.2).1⟩,(ih h.2).2⟩
def cnd (c:Bool) (p q:Prop):Prop:=match c with
 |true=>p
 |false=>q
theorem cnd_i {c:Bool} {p q:Prop} (h1:c=true→p) (h2:c=false→q):cnd c p q:=by
 cases c with
 |true=>exact h1 rfl
 |false=>exact h2 rfl
def nilK {κ:Type}:Ks κ→Bool
 | .E (.slice none 0 0)=>true
 |_=>false
def apD {κ:Type} (S:Sx κ) (x:Nat×Nat):Bool:=apB (apL S.D) x.1 x.2||(hasD S.D x.1&&nilK (lS S.D x.1))||(hasD S.D x.2&&nilK (lS S.D x.2))
def prjK {κ:Type} (S:Sx κ) (d:Nat):Ks κ→Ks κ
 | .N ds=>cond (ds.all (apD S)) (.N ds) (lS S.D d)
 |_=>lS S.D d
def isNk {κ:Type}:Ks κ→Bool
 | .N _=>true
 |_=>false
def proj {κ:Type} (S S':Sx κ):Sx κ:=⟨S'.D.map fun x=>(x.1,prjK S x.1 x.2),S'.G.map fun x=>⟨x.slot,x.ty,(lG S.G x.slot).k⟩⟩
def presB {κ:Type} (S S':Sx κ):Bool:=S'.D.all (fun x=>isNk x.2||S.D.any fun y=>Nat.beq y.1 x.1)&&S'.G.all fun x=>hasX S.G x.slot&&Nat.beq (lG S.G x.slot).ty x.ty
def Sb {κ:Type} (S S':Sx κ):Prop:=proj S S'=S'∧presB S S'=true
theorem gTy_mem {κ:Type} {G:List (Vx κ)} {p:Nat} (h:hasX G p=true): ∃x∈G,x.slot=p∧x.ty=(lG G p).ty:=by
 induction G with
 |nil=>cases h
 |cons y r ih=>
  cases hb:Nat.beq y.slot p with
  |true=>exact ⟨y, .head _,Nat.eq_of_beq_eq_true hb,by unfold lG;rw [hb];rfl⟩
  |false=>
   unfold hasX at h ih
   simp only [List.any_cons,hb,Bool.false_or] at h
   obtain ⟨x,hx,e1,e2⟩:=ih h
   exact ⟨x, .tail _ hx,e1,by unfold lG;rw [hb];exact e2⟩
theorem Sb.state {n:Nat} {S S':Sx E.κ} {wE:World} {kf:Nat→Nat} {a:Act} {w:World} (h:Sb S S') (hS:SX n S wE kf a w):SX n S' wE kf a w:=by
 obtain ⟨h1,h2⟩:=h
 unfold presB at h2
 simp only [Bool.and_eq_true] at h2
 have hG: ∀x∈S'.G,∃y∈S.G,y.slot=x.slot∧y.ty=x.ty:=fun x hx=>by
  have h:=List.all_eq_true.1 h2.2 x hx
  simp only [Bool.and_eq_true] at h
  obtain ⟨y,hy,e1,e2⟩:=gTy_mem h.1
  exact ⟨y,hy,e1,e2.trans (Nat.eq_of_beq_eq_true h.2)⟩
 have hcx: ∀b t,b<w.heap.size→(cxOf (gTy S.G) kf wE.heap.size).ban b t=false→(cxOf (gTy S'.G) kf wE.heap.size).ban b t=false:=fun b t _ h=>by
  cases hb:(cxOf (gTy S'.G) kf wE.heap.size).ban b t with
  |false=>rfl
  |true=>
   obtain ⟨x,hx,e1,e2⟩:=ban_var hb
   obtain ⟨y,hy,f1,f2⟩:=hG x hx
   have:=var_ban (kf:=kf) (own:=wE.heap.size) hy
   rw [f1,e1,f2,e2,h] at this
   cases this
 refine ⟨hS.size,hS.defers,hS.grow, ?_, ?_, ?_⟩
 ·refine vars_cx fun x hx=> ?_
  have h:=List.all_eq_true.1 h2.2 x hx
  simp only [Bool.and_eq_true] at h
  have ek:x.k=(lG S.G x.slot).k:=by
   have hx':x∈(proj S S').G:=by rw [h1];exact hx
   obtain ⟨z,hz,e⟩:=List.mem_map.1 hx'
   rw [←e]
  obtain ⟨g1,g2,cs,g3,g4,g5⟩:=hS.vars _ (mem_dG h.1)
  have et:(lG S.G x.slot).ty=x.ty:=Nat.eq_of_beq_eq_true h.2
  refine ⟨g1,g2,cs,by rw [←et];exact g3,by rw [←et];exact g4, ?_⟩
  show (dS _ kf (lvOf a) x.k).p w _
  rw [ek]
  exact dS_cx hcx rfl (.inl (Nat.le_refl _)) g5
 ·intro x hx y hy
  obtain ⟨x',hx',rfl⟩:=List.mem_map.1 hx
  obtain ⟨y',hy',rfl⟩:=List.mem_map.1 hy
  obtain ⟨x2,hx2,rfl⟩:=List.mem_map.1 hx'
  obtain ⟨y2,hy2,rfl⟩:=List.mem_map.1 hy'
  obtain ⟨x3,hx3,e1,_⟩:=hG x2 hx2
  obtain ⟨y3,hy3,f1,_⟩:=hG y2 hy2
  intro hne
  have:=ap_of hS hx3 hy3 (by rw [e1,f1];exact hne)
  rw [e1,f1] at this
  exact this
 ·intro x hx
  obtain ⟨y,hy,rfl⟩:=List.mem_map.1 hx
  obtain ⟨z,hz,rfl⟩:=List.mem_map.1 hy
  have h:=List.all_eq_true.1 h2.1 z hz
  have rest: ∀{d:Nat},(dS (E.dk (cxOf (gTy S'.G) kf wE.heap.size)) kf (lvOf a) (lS S.D d)).p w (a.tmps.getD d undef):=fun {d}=>by
   cases hd:hasD S.D d with
   |true=>exact dS_cx hcx rfl (.inl (Nat.le_refl _)) (hS.d hd)
   |false=>rw [lS_none hd];trivial
  have hz':z∈(proj S S').D:=by rw [h1];exact hz
  obtain ⟨u,hu,e⟩:=List.mem_map.1 hz'
  subst e
  show (dS _ kf (lvOf a) (prjK S u.1 u.2)).p w (a.tmps.getD u.1 undef)
  unfold prjK
  split
  ·next ds e=>
   cases hb:ds.all (apD S) with
   |true=>
    intro x hx
    have:=List.all_eq_true.1 hb x hx
    unfold apD at this
    simp only [Bool.or_eq_true,Bool.and_eq_true] at this
    have nl: ∀{d:Nat},hasD S.D d=true→nilK (lS S.D d)=true→(lvOf a d).ownBlock=none:=fun {d} g1 g2=>by
     have g3:=hS.d g1
     unfold nilK at g2
     split at g2
     ·next e=>
      rw [e] at g3
      have g3':a.tmps.getD d undef= .slice none 0 0:=g3
      show (a.tmps.getD d undef).ownBlock=none
      rw [g3']
      rfl
     ·cases g2
    rcases this with (this|this)|this
    ·exact apB_ok hS this
    ·intro b hb1 _;rw [nl this.1 this.2] at hb1;cases hb1
    ·intro b _ hb2;rw [nl this.1 this.2] at hb2;cases hb2
   |false=>exact rest
  ·exact rest
def JL {κ γ:Type} (C:γ→Prop) (μ:γ→Nat) (I:γ→Sx κ) (g:γ) (S':Sx κ):Prop:= ∃g',C g'∧μ g'<μ g∧Sb S' (I g')
def late {κ:Type}:Hint κ→Bool
 | [(_,v,_)]=>Nat.beq v 999999
 |_=>false
variable (E) in
def lateR (n:Nat) (ops:Array Oper) (h:Hint E.κ) (S:Sx E.κ) (N:Sx E.κ→Prop):Prop:=match runR E n ops h S with
 |some (S',ps)=>AN ps (N S')
 |none=>False
variable (E) in
def vc (n:Nat):Code→(Nat→Hint E.κ)→Sx E.κ→(Sx E.κ→Prop)→(Sx E.κ→Prop)→(Nat→Sx E.κ→Prop)→Prop
 | .skip,_,S,N,_,_=>N S
 | .region id ops _,hs,S,N,_,_=>cond (late (hs id)) (∃h,lateR E n ops h S N) (lateR E n ops (hs id) S N)
 | .seq a b,hs,S,N,R,X=>vc n a hs S (fun S'=>vc n b hs S' N R X) R X
 | .cond (.tmp c) a b,hs,S,N,R,X=>cond (S.D.any fun y=>Nat.beq y.1 c) (match lS S.D c with
  | .E (.bool c)=>cnd c (vc n a hs S N R X) (vc n b hs S N R X)
  |_=>False) False
 | .block i c,hs,S,N,R,X=>vc n c hs S N R fun j S'=>cond (Nat.beq j i) (N S') (X j S')
 | .loop c,_,S,_,R,X=> ∃(γ:Type) (C:γ→Prop) (μ:γ→Nat) (I:γ→Sx E.κ) (g:γ),C g∧Sb S (I g)∧ ∀g,C g→ ∃hs,vc n c hs (I g) (JL C μ I g) R X
 | .exit i,_,S,_,_,X=>X i S
 | .ret,_,S,_,R,_=>R S
 |_,_,_,_,_,_=>False
theorem vc_ok {n:Nat} {wE:World} (hm:P.follows .mixedOrders=true): ∀(c:Code) (hs:Nat→Hint E.κ) (S:Sx E.κ) (N R:Sx E.κ→Prop) (X:Nat→Sx E.κ→Prop) (Q:Exit→Act→World→Prop) (kf:Nat→Nat) (a:Act) (w:World),vc E n c hs S N R X→
  (∀S kf a w,N S→SX n S wE kf a w→Q .normal a w)→(∀S kf a w,R S→SX n S wE kf a w→Q .ret a w)→(∀i S kf a w,X i S→SX n S wE kf a w→Q (.exit i) a w)→SX n S wE kf a w→c.wp P Q a w:=by
 intro c
 induction c with
 |skip=>intro hs S N R X Q kf a w h hN _ _ hS;exact wp_skip (hN S kf a w h hS)
 |region id ops b=>
  intro hs S N R X Q kf a w h hN _ _ hS
  have key: ∀hh:Hint E.κ,lateR E n ops hh S N→(Code.region id ops b).wp P Q a w:=fun hh h=>by
   unfold lateR at h
   split at h
   ·next S' ps e=>
    obtain ⟨h1,h2⟩:=AN_ok h
    exact runR_ok hm e h1 hS fun kf' a' w' h'=>hN S' kf' a' w' h2 h'
   ·cases h
  simp only [vc] at h
  cases hl:late (hs id) with
  |true=>
   rw [hl] at h
   obtain ⟨hh,h⟩:=h
   exact key hh h
  |false=>
   rw [hl] at h
   exact key _ h
 |seq x y ihx ihy=>
  intro hs S N R X Q kf a w h hN hR hX hS
  refine wp_seq (ihx hs S _ R X _ kf a w h (fun S' kf' a' w' h' hS'=> ?_) (fun S' kf' a' w' h' hS'=>hR S' kf' a' w' h' hS') (fun i S' kf' a' w' h' hS'=>hX i S' kf' a' w' h' hS') hS)
  exact ihy hs S' N R X Q kf' a' w' h' hN hR hX hS'
 |cond o x y ihx ihy=>
  intro hs S N R X Q kf a w h hN hR hX hS
  cases o with
  |tmp c=>
   simp only [vc] at h
   cases hb:(S.D.any fun y=>Nat.beq y.1 c) with
   |false=>rw [hb] at h;cases h
   |true=>
    rw [hb] at h
    simp only [_root_.cond_true] at h
    split at h
    ·next v e=>
     have hmem:(c,(dS (E.dk (cxOf (gTy S.G) kf wE.heap.size)) kf (lvOf a) (lS S.D c)).p)∈dv (dD (E.dk (cxOf (gTy S.G) kf wE.heap.size)) kf (lvOf a) S.D):=by
      rw [←lk_dD]
      exact List.mem_map.2 ⟨_,lkD_mem (has_dD hb),rfl⟩
     rw [e] at hmem
     cases v with
     |true=>exact Z.cond_true hS hmem (fun _ _ h=>h) (ihx hs S N R X Q kf a w h hN hR hX hS)
     |false=>exact Z.cond_false hS hmem (fun _ _ h=>h) (ihy hs S N R X Q kf a w h hN hR hX hS)
    ·cases h
  |_=>simp only [vc] at h
 |block i x ih=>
  intro hs S N R X Q kf a w h hN hR hX hS
  refine wp_block (ih hs S N R _ _ kf a w h (fun S' kf' a' w' h' hS'=>hN S' kf' a' w' h' hS') (fun S' kf' a' w' h' hS'=>hR S' kf' a' w' h' hS') (fun j S' kf' a' w' h' hS'=> ?_) hS)
  show if j=i then Q .normal a' w' else Q (.exit j) a' w'
  cases hb:Nat.beq j i with
  |true=>
   rw [hb] at h'
   rw [if_pos (Nat.eq_of_beq_eq_true hb)]
   exact hN S' kf' a' w' h' hS'
  |false=>
   rw [hb] at h'
   rw [if_neg (fun e=>by rw [e,Nat.beq_refl] at hb;cases hb)]
   exact hX j S' kf' a' w' h' hS'
 |loop x ih=>
  intro hs S N R X Q kf a w h hN hR hX hS
  obtain ⟨γ,C,μ,I,g,h0,h1,hr⟩:=h
  refine wp_loop_ghost (fun m a w=> ∃g kf,C g∧μ g=m∧SX n (I g) wE kf a w) (μ g) ⟨g,kf,h0,rfl,h1.state hS⟩ ?_
  rintro m a w ⟨g,kf,hC,rfl,hS⟩
  obtain ⟨hs',hr⟩:=hr g hC
  refine ih hs' (I g) _ R X _ kf a w hr (fun S' kf' a' w' h' hS'=> ?_) (fun S' kf' a' w' h' hS'=>hR S' kf' a' w' h' hS') (fun i S' kf' a' w' h' hS'=>hX i S' kf' a' w' h' hS') hS
  obtain ⟨g',hC',hlt,hs'⟩:=h'
  exact ⟨μ g',hlt,g',kf',hC',rfl,hs'.state hS'⟩
 |exit i=>intro hs S N R X Q kf a w h _ _ hX hS;exact wp_exit (hX i S kf a w h hS)
 |ret=>intro hs S N R X Q kf a w h _ hR _ hS;exact wp_ret (hR S kf a w h hS)
 |_=>intros;rename_i h _ _ _ _;simp only [vc] at h
end
end Go.Proofs.YthebilnlljkfeaaGreatDoor.X
