/- Own mathematics and calculus that the laws of this seat lean on, part 30. -/
import Derived.Test.YtjpilacbapibjaaGreatDoorMO14
import Derived.Sort.Grow
namespace Go.Proofs.YtjpilacbapibjaaGreatDoor.Z
open Go.RowKit Go.Sort Go.Proofs.YtjpilacbapibjaaGreatDoor.Rg
variable {P:Program}
def GD (w w':World):Prop:= ∃q os,w'=Sort.grow (w.drewN q) os
theorem GD.refl (w:World):GD w w:=⟨0, #[],by rw [grow_empty];rfl⟩
theorem GD.trans {a b c:World} (h:GD a b) (k:GD b c):GD a c:=by
 obtain ⟨q,os,rfl⟩:=h
 obtain ⟨r,us,rfl⟩:=k
 exact ⟨q+r,os++us,by show Sort.grow (Sort.grow ((a.drewN q).drewN r) os) us=_;rw [grow_grow,World.drewN_drewN]⟩
theorem GD.drew (w:World):GD w w.drew:=⟨1, #[],by rw [grow_empty];rfl⟩
theorem GD.alloc (w:World) (o:Obj):GD w (w.alloc o):=⟨0, #[o],rfl⟩
theorem GD.heap {w w':World} (h:GD w w') {b:Nat} {x:Obj} (hb:w.heap[b]? =some x):w'.heap[b]? =some x:=by
 obtain ⟨q,os,rfl⟩:=h
 show (w.heap++os)[b]? =_
 rw [Array.getElem?_append_left (Array.getElem?_eq_some_iff.1 hb).1]
 exact hb
def lkP:List (Nat×Pr)→Nat→Pr
 | [],_=>fun _ _=>True
 |x::r,d=>if Nat.beq x.1 d then x.2 else lkP r d
section
variable {ops:Array Oper} {Q:Exit→Act→World→Prop} {n:Nat} {a0:Act} {w0:World} {F:Nat→Pr}
def StepD (P:Program) (ops:Array Oper) (Q:Exit→Act→World→Prop) (a0:Act) (w0:World) (F:Nat→Pr) (i:Nat):Prop:= ∀(o:Oper),ops[i]? =some o→ ∀(a:Act) (w:World),GD w0 w→a.tmps.size=a0.tmps.size→(∀d,(dsts ops).contains d=false→a.tmps.getD d undef=a0.tmps.getD d undef)→(∀d,depI ops i d=true→F d w (a.tmps.getD d undef))→wpOp P ops Q i (fun a' w'=> ∃v,a'=a.put o.dst v∧(∀d,o.dst=some d→F d w' v)∧GD w w') a w
theorem dr_gd (hwf:wfV n ops=true) (hn:a0.tmps.size=n) (hF: ∀d w w' v,F d w v→GD w w'→F d w' v) (step: ∀i,i<ops.size→StepD P ops Q a0 w0 F i):
  Dr P ops Q a0 w0 (fun _=>True) fun a w=>GD w0 w∧a.tmps.size=n∧a.defers=a0.defers∧(∀d,(dsts ops).contains d=false→a.tmps.getD d undef=a0.tmps.getD d undef)∧ ∀(i:Nat) (o:Oper) (d:Nat),ops[i]? =some o→o.dst=some d→F d w (a.tmps.getD d undef):=by
 refine ⟨fun L a w=>(GD w0 w∧a.tmps.size=n∧a.defers=a0.defers∧(∀d,(dsts ops).contains d=false→a.tmps.getD d undef=a0.tmps.getD d undef))∧ ∀i o d,ops[i]? =some o→L.getD i false=true→o.dst=some d→F d w (a.tmps.getD d undef), ?_, ?_, ?_,fun _ _ _ _=>trivial⟩
 ·intro w hw
  refine ⟨⟨?_,hn,rfl,fun _ _=>rfl⟩,fun i o d _ h=> ?_⟩
  ·rcases hw with rfl|rfl
   ·exact GD.refl _
   ·exact GD.drew _
  ·rw [Array.getD_eq_getD_getElem?,Array.getElem?_replicate] at h
   split at h<;>simp at h
 ·rintro L i o a w hL hi hLi hdone ⟨⟨h1,h2,h3,h4⟩,h5⟩
  have hlt:i<ops.size:=(Array.getElem?_eq_some_iff.1 hi).1
  have hdep: ∀d,depI ops i d=true→F d w (a.tmps.getD d undef):=by
   intro d hd
   obtain ⟨e,he,hb,q,hq,hqd⟩:=dep_writer hi hd
   exact h5 e.on q d hq (hdone e he hb) hqd
  refine wpOp_mono ?_ (step i hlt o hi a w h1 (h2.trans hn.symm) h4 hdep)
  rintro a' w' ⟨v,rfl,hv,hg⟩
  refine ⟨⟨h1.trans hg,by rw [put_size];exact h2,by rw [put_defers];exact h3,fun d hd=> ?_⟩,fun j q d hj hLj hd=> ?_⟩
  ·rw [put_other (fun e=> ?_)]
   ·exact h4 d hd
   ·have:=mem_dsts hi e
    rw [List.contains_eq_mem] at hd
    simp [this] at hd
  ·rcases set_get hLj with e|e
   ·subst e
    rw [hi] at hj
    injection hj with hj
    subst hj
    have hlt2:d<a.tmps.size:=by
     rw [h2]
     simp only [wfV,Bool.and_eq_true] at hwf
     have:=List.all_eq_true.1 hwf.1.1 d (mem_dsts hi hd)
     simpa using this
    rw [hd,put_getD a d d v hlt2,if_pos rfl]
    exact hv d hd
   ·rw [put_other (not_again hwf hi hLi ⟨j,q,hj,hd,e⟩)]
    exact hF d _ _ _ (h5 j q d hj e hd) hg
 ·rintro L a w hall ⟨⟨h1,h2,h3,h4⟩,h5⟩
  exact ⟨h1,h2,h3,h4,fun i o d hi hd=>h5 i o d hi (hall i (Array.getElem?_eq_some_iff.1 hi).1) hd⟩
theorem sd_val {i:Nat} {dst:Option Nat} {op:Op} (h:info ops i=some (dst,op,none)) (hs: ∀(o:Oper) (a:Act) (w:World),o.op=op→GD w0 w→(∀d,(dsts ops).contains d=false→a.tmps.getD d undef=a0.tmps.getD d undef)→(∀d,depI ops i d=true→F d w (a.tmps.getD d undef))→ ∃v w',(execOp a.eval o).run P w= .ok (.value v) w'∧GD w w'∧ ∀d,dst=some d→F d w' v):StepD P ops Q a0 w0 F i:=by
 intro o ho a w hg _ ha hd
 obtain ⟨o',ho',e1,e2,e3⟩:=info_some h
 rw [ho] at ho'
 injection ho' with ho'
 subst ho'
 obtain ⟨v,w',h1,h2,h3⟩:=hs o a w e2 hg ha hd
 refine run_wanted ho (by simp [Region.wanted,e3]) ?_
 unfold Oper.wp
 rw [h1]
 exact ⟨v,rfl,fun d hd=>h3 d (e1.symm.trans hd),h2⟩
theorem sd_call {i f:Nat} {dst:Option Nat} {xs:Array Operand} {ts:Array TypeId} (en:Enters P f) (h:info ops i=some (dst, .call {callee:= .value (.func f),args:=xs,argTypes:=ts},none)) (hs: ∀(a:Act) (w:World),GD w0 w→(∀d,(dsts ops).contains d=false→a.tmps.getD d undef=a0.tmps.getD d undef)→(∀d,depI ops i d=true→F d w (a.tmps.getD d undef))→Calls P f (xs.map a.eval) w fun e w'=> ∃v,e= .returned v∧GD w w'∧ ∀d,dst=some d→F d w' v):StepD P ops Q a0 w0 F i:=by
 intro o ho a w hg _ ha hd
 obtain ⟨o',ho',e1,e2,e3⟩:=info_some h
 rw [ho] at ho'
 injection ho' with ho'
 subst ho'
 refine run_wanted ho (by simp [Region.wanted,e3]) ?_
 have hrun:(execOp a.eval o).run P w= .ok (.enter f (xs.map a.eval)) w:=by
  simp only [execOp,e2,resolve,Deferred.ofValue,Act.eval,Sem.run_bind,Sem.run_pure,Result.andThen_ok,invoke,Array.append_empty,Array.empty_append]
  exact en _ _
 unfold Oper.wp
 rw [hrun]
 refine (hs a w hg ha hd).mono fun e w' h=> ?_
 obtain ⟨v,rfl,hv,hf⟩:=h
 exact ⟨v,rfl,fun d hd=>hf d (e1.symm.trans hd),hv⟩
theorem sd_field {i d p f off sz b:Nat} {t:TypeId} (h:info ops i=some (some d, .fieldAddr t (.tmp p) f,none)) (hp:a0.tmps.getD p undef= .pointer (some ⟨b,0,none⟩)) (hpd:(dsts ops).contains p=false) (hf:fieldB P t f off sz=true) (hF: ∀w v,v= .pointer (some ⟨b,off,none⟩)→F d w v):StepD P ops Q a0 w0 F i:=
 sd_val h fun o a w ho _ ha _=>by
  refine ⟨.pointer (some ⟨b,off,none⟩),w, ?_,GD.refl w,fun e he=>by injection he with he;subst he;exact hF _ _ rfl⟩
  unfold fieldB at hf
  split at hf
  ·next fs hu=>
   split at hf
   ·next fd hfd=>
    simp only [Bool.and_eq_true] at hf
    obtain ⟨h1,h2⟩:=hf
    split at h2
    ·next j hj=>
     simp only [Bool.and_eq_true,Bool.not_eq_true'] at h2
     have e1:fd.offset=off:=Nat.eq_of_beq_eq_true h1
     have e2:=Nat.eq_of_beq_eq_true h2.1
     have e3:sz≠0:=fun e=>by rw [e] at h2;cases h2.2
     have hp:a.eval (.tmp p)= .pointer (some ⟨b,0,none⟩):=(ha p hpd).trans hp
     subst e1
     unfold execOp
     simp only [Act.eval,Array.getD_eq_getD_getElem?] at hp
     simp [go_sem,ho,hp,Act.eval,Instr.fieldAt,Instr.sureAddr,underlying,fieldPlace,sizeOf,typeInfo,hu,hfd,hj,e2,e3]
    ·cases h2
   ·cases hf
  ·cases hf
theorem sd_load {i d x off b T:Nat} {t:TypeId} {v:Value} {cs:Array Value} {fr:Nat×Nat} (h:info ops i=some (some d, .load t (.tmp x),none)) (dx:depI ops i x=true) (hx: ∀w v,F x w v→v= .pointer (some ⟨b,off,none⟩)) (hb:w0.heap[b]? =some (.cells cs T fr)) (hc:cs[off]? =some v) (hpl:plainB P t=true) (hF: ∀w u,u=v→F d w u):StepD P ops Q a0 w0 F i:=
 sd_val h fun o a w ho hg _ hd=>by
  refine ⟨v,w, ?_,GD.refl w,fun e he=>by injection he with he;subst he;exact hF _ _ rfl⟩
  have hp:a.eval (.tmp x)= .pointer (some ⟨b,off,none⟩):=hx _ _ (hd x dx)
  have hcell:w.cell? ⟨b,off,none⟩=some v:=by simp [World.cell?,hg.heap hb,hc]
  have: ∃ds,P.underlying t=some ds∧aggD ds=false:=by
   unfold plainB at hpl
   split at hpl
   ·cases hpl
   ·cases hpl
   ·next ds h1 h2 e=>exact ⟨ds,e,by cases ds<;>first|rfl|exact (h1 _ rfl).elim|exact (h2 _ _ rfl).elim⟩
   ·cases hpl
  obtain ⟨ds,hu,hd'⟩:=this
  unfold execOp
  simp only [ho,hp,Instr.loadAt,Instr.sureAddr,Sem.run_bind,Sem.run_pure,Result.andThen_ok,run_loadCell hcell hu hd']
theorem sd_asg {i d x:Nat} (h:info ops i=some (some d, .assign (.tmp x),none)) (dx:depI ops i x=true) (hF: ∀w v,F x w v→F d w v):StepD P ops Q a0 w0 F i:=
 sd_val h fun o a w ho _ _ hd=>⟨a.tmps.getD x undef,w,by unfold execOp;simp only [ho];rfl,GD.refl w,fun e he=>by injection he with he;subst he;exact hF _ _ (hd x dx)⟩
theorem sd_bld3 {i d x y z n T sz:Nat} {t:TypeId} {a b c:Value} (h:info ops i=some (some d, .buildSlice t n #[(0, .tmp x),(1, .tmp y),(2, .tmp z)],none)) (dx:depI ops i x=true) (dy:depI ops i y=true) (dz:depI ops i z=true) (hx: ∀w v,F x w v→v=a) (hy: ∀w v,F y w v→v=b) (hz: ∀w v,F z w v→v=c)
  (hb:sliced P t n [(0,a),(1,b),(2,c)]=some (T,sz,[a,b,c])) (hF: ∀w v k,w.heap[k]? =some (.cells #[a,b,c] T (0,0))→v= .slice (some ⟨k,0,none⟩) n n→F d w v):StepD P ops Q a0 w0 F i:=
 sd_val h fun o A w ho _ _ hd=>by
  have ex:=hx _ _ (hd x dx)
  have ey:=hy _ _ (hd y dy)
  have ez:=hz _ _ (hd z dz)
  obtain ⟨hr,_,_,_⟩:=run_sliced (P:=P) (w:=w) (ps:= #[(0,a),(1,b),(2,c)]) (n:=n) (t:=t) (by exact hb)
  refine ⟨.slice (some ⟨w.heap.size,0,none⟩) n n,w.alloc (.cells #[a,b,c] T), ?_,GD.alloc _ _,fun e he=>by injection he with he;subst he;exact hF _ _ _ (heap_alloc_new w _) rfl⟩
  unfold execOp
  have e:(#[(0,Operand.tmp x),(1,Operand.tmp y),(2,Operand.tmp z)].map fun (i,x)=>(i,A.eval x))= #[(0,a),(1,b),(2,c)]:=by
   have ex':A.eval (.tmp x)=a:=ex
   have ey':A.eval (.tmp y)=b:=ey
   have ez':A.eval (.tmp z)=c:=ez
   simp only [List.map_toArray,List.map_cons,List.map_nil,ex',ey',ez']
  simp only [ho,e,Sem.run_bind,hr,Result.andThen_ok]
  rfl
end
end Go.Proofs.YtjpilacbapibjaaGreatDoor.Z
