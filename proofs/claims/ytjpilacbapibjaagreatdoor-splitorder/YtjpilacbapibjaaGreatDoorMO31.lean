/- Own mathematics and calculus that the laws of this seat lean on, part 31. -/
import Derived.Test.YtjpilacbapibjaaGreatDoorMO30
import Derived.Test.YtjpilacbapibjaaGreatDoorMO25
namespace Go.Proofs.YtjpilacbapibjaaGreatDoor.X
open Go.RowKit Go.Proofs.YtjpilacbapibjaaGreatDoor.Z Go.Proofs.YtjpilacbapibjaaGreatDoor.Da
open Go.Proofs.YtjpilacbapibjaaGreatDoor.Rg (depI dsts info)
theorem nan_w (m:Int) (w:World):Calls Tryz.prog 99 #[.int .i64 m] w fun e w'=>e= .returned (.bool false)∧w'=w:=by
 go_enter Tryz.func99,Tryz.ntmps99
 go_wp2
 go_ret
 simp
set_option maxHeartbeats 1000000 in
theorem compare_w (m n:Int) (w:World):Calls Tryz.prog 63 #[.int .i64 m, .int .i64 n] w fun e w'=>e= .returned (.int .i64 (cmpZ m n))∧w'=w:=by
 have e99: ∀args w,(callFunc 99 args).run Tryz.prog w= .ok (.enter 99 args) w:=(enters_of Tryz.func99 (by kernel_rfl) rfl)
 have hc:(m<n∧cmpZ m n= -1)∨(n<m∧ ¬m<n∧cmpZ m n=1)∨(¬m<n∧ ¬n<m∧cmpZ m n=0):=by
  unfold cmpZ
  by_cases a:m<n
  ·exact .inl ⟨a,by simp [a]⟩
  ·by_cases b:n<m
   ·exact .inr (.inl ⟨b,a,by simp [a,b]⟩)
   ·exact .inr (.inr ⟨a,b,by simp [a,b]⟩)
 rcases hc with ⟨h1,h2⟩|⟨h1,h1',h2⟩|⟨h1,h1',h2⟩<;>rw [h2]
 ·go_enter Tryz.func63,Tryz.ntmps63
  go_wp2_with (go_at_fn 99;refine (nan_w _ _).mono ?_;rintro e w' ⟨rfl,rfl⟩)
  go_ret
  simp
 ·go_enter Tryz.func63,Tryz.ntmps63
  go_wp2_with (go_at_fn 99;refine (nan_w _ _).mono ?_;rintro e w' ⟨rfl,rfl⟩)
  go_ret
  simp
 ·go_enter Tryz.func63,Tryz.ntmps63
  go_wp2_with (go_at_fn 99;refine (nan_w _ _).mono ?_;rintro e w' ⟨rfl,rfl⟩)
  go_ret
  simp
set_option maxHeartbeats 1000000 in
theorem or_w {w:World} {b cap T:Nat} {fr:Nat×Nat} {x y z:Int} (h:w.heap[b]? =some (.cells #[.int .i64 x, .int .i64 y, .int .i64 z] T fr)):Calls Tryz.prog 62 #[.slice (some ⟨b,0,none⟩) 3 cap] w fun e w'=>e= .returned (.int .i64 (or3 x y z))∧w'=w:=by
 have c0:w.cell? ⟨b,0,none⟩=some (.int .i64 x):=by simp [World.cell?,h]
 have c1:w.cell? ⟨b,1,none⟩=some (.int .i64 y):=by simp [World.cell?,h]
 have c2:w.cell? ⟨b,2,none⟩=some (.int .i64 z):=by simp [World.cell?,h]
 clear h
 have hc:(x≠0∧or3 x y z=x)∨(x=0∧y≠0∧or3 x y z=y)∨(x=0∧y=0∧or3 x y z=z):=by
  unfold or3
  by_cases a:x=0<;>by_cases b:y=0<;>simp [a,b]
 rcases hc with ⟨h1,h2⟩|⟨h1,h1',h2⟩|⟨h1,h1',h2⟩<;>rw [h2]<;>clear h2
 ·go_enter Tryz.func62,Tryz.ntmps62
  go_wp2
  refine wp_loop_rounds 4 ?_
  rw [rounds_succ]
  go_wp2
  go_ret
  simp
 ·subst h1
  go_enter Tryz.func62,Tryz.ntmps62
  go_wp2
  refine wp_loop_rounds 4 ?_
  rw [rounds_succ]
  go_wp2
  rw [rounds_succ]
  go_wp2
  go_ret
  simp
 ·subst h1 h1'
  by_cases hz:z=0
  ·subst hz
   go_enter Tryz.func62,Tryz.ntmps62
   go_wp2
   refine wp_loop_rounds 4 ?_
   rw [rounds_succ]
   go_wp2
   rw [rounds_succ]
   go_wp2
   rw [rounds_succ]
   go_wp2
   rw [rounds_succ]
   go_wp2
   go_ret
   simp
  ·go_enter Tryz.func62,Tryz.ntmps62
   go_wp2
   refine wp_loop_rounds 4 ?_
   rw [rounds_succ]
   go_wp2
   rw [rounds_succ]
   go_wp2
   rw [rounds_succ]
   go_wp2
   go_ret
   simp
def cmpF (b2 b3:Nat) (x y:D3):Nat→Pr:=lkP [(5,fun _ v=>v= .pointer (some ⟨b2,0,none⟩)),(6,fun _ v=>v= .int .i64 x.1),(7,fun _ v=>v= .pointer (some ⟨b3,0,none⟩)),(8,fun _ v=>v= .int .i64 y.1),(9,fun _ v=>v= .int .i64 (cmpZ x.1 y.1)),
 (10,fun _ v=>v= .pointer (some ⟨b2,1,none⟩)),(11,fun _ v=>v= .int .i64 x.2.1),(12,fun _ v=>v= .pointer (some ⟨b3,1,none⟩)),(13,fun _ v=>v= .int .i64 y.2.1),(14,fun _ v=>v= .int .i64 (cmpZ x.2.1 y.2.1)),
 (15,fun _ v=>v= .pointer (some ⟨b2,2,none⟩)),(16,fun _ v=>v= .int .i64 x.2.2),(17,fun _ v=>v= .pointer (some ⟨b3,2,none⟩)),(18,fun _ v=>v= .int .i64 y.2.2),(19,fun _ v=>v= .int .i64 (cmpZ x.2.2 y.2.2)),
 (20,fun w v=> ∃k,w.heap[k]? =some (.cells #[.int .i64 (cmpZ x.1 y.1), .int .i64 (cmpZ x.2.1 y.2.1), .int .i64 (cmpZ x.2.2 y.2.2)] 3 (0,0))∧v= .slice (some ⟨k,0,none⟩) 3 3),
 (21,fun _ v=>v= .int .i64 (or3 (cmpZ x.1 y.1) (cmpZ x.2.1 y.2.1) (cmpZ x.2.2 y.2.2))),(4,fun _ v=>v= .int .i64 (or3 (cmpZ x.1 y.1) (cmpZ x.2.1 y.2.1) (cmpZ x.2.2 y.2.2)))]
theorem lkP_st: ∀{l:List (Nat×Pr)},(∀x∈l,∀w w' v,x.2 w v→GD w w'→x.2 w' v)→ ∀d w w' v,lkP l d w v→GD w w'→lkP l d w' v:=by
 intro l
 induction l with
 |nil=>intro _ d w w' v h _;exact h
 |cons x r ih=>
  intro h d w w' v h1 h2
  unfold lkP at h1⊢
  split
  ·next e=>rw [if_pos e] at h1;exact h _ (.head _) _ _ _ h1 h2
  ·next e=>rw [if_neg e] at h1;exact ih (fun y hy=>h y (.tail _ hy)) d w w' v h1 h2
theorem cmpF_st (b2 b3:Nat) (x y:D3): ∀d w w' v,cmpF b2 b3 x y d w v→GD w w'→cmpF b2 b3 x y d w' v:=by
 refine lkP_st fun p hp w w' v h g=> ?_
 simp only [List.mem_cons,List.not_mem_nil,or_false] at hp
 rcases hp with rfl|rfl|rfl|rfl|rfl|rfl|rfl|rfl|rfl|rfl|rfl|rfl|rfl|rfl|rfl|rfl|rfl|rfl<;>first|exact h|(obtain ⟨k,h1,h2⟩:=h;exact ⟨k,g.heap h1,h2⟩)
section
variable {ops:Array Oper} {Q:Exit→Act→World→Prop} {a0:Act} {w0:World} {F:Nat→Pr}
theorem cmp_step {i d x y:Nat} {m n:Int} {ts:Array TypeId} (h:info ops i=some (some d, .call {callee:= .value (.func 63),args:= #[.tmp x, .tmp y],argTypes:=ts},none)) (dx:depI ops i x=true) (dy:depI ops i y=true) (hx: ∀w v,F x w v→v= .int .i64 m) (hy: ∀w v,F y w v→v= .int .i64 n) (hF: ∀w v,v= .int .i64 (cmpZ m n)→F d w v):StepD Tryz.prog ops Q a0 w0 F i:=
 sd_call en63 h fun a w _ _ hd=>by
  have e:(#[Operand.tmp x,Operand.tmp y].map a.eval)= #[.int .i64 m, .int .i64 n]:=by
   have ex:a.eval (.tmp x)= .int .i64 m:=hx _ _ (hd x dx)
   have ey:a.eval (.tmp y)= .int .i64 n:=hy _ _ (hd y dy)
   simp only [List.map_toArray,List.map_cons,List.map_nil,ex,ey]
  rw [e]
  refine (compare_w m n w).mono fun e w' ⟨h1,h2⟩=> ?_
  subst h1 h2
  exact ⟨_,rfl,GD.refl _,fun e he=>by injection he with he;subst he;exact hF _ _ rfl⟩
theorem or_step {i d x:Nat} {m n k:Int} {ts:Array TypeId} (h:info ops i=some (some d, .call {callee:= .value (.func 62),args:= #[.tmp x],argTypes:=ts},none)) (dx:depI ops i x=true) (hx: ∀w v,F x w v→ ∃b,w.heap[b]? =some (.cells #[.int .i64 m, .int .i64 n, .int .i64 k] 3 (0,0))∧v= .slice (some ⟨b,0,none⟩) 3 3) (hF: ∀w v,v= .int .i64 (or3 m n k)→F d w v):StepD Tryz.prog ops Q a0 w0 F i:=
 sd_call en62 h fun a w _ _ hd=>by
  obtain ⟨b,h1,h2⟩:=hx _ _ (hd x dx)
  have e:(#[Operand.tmp x].map a.eval)= #[.slice (some ⟨b,0,none⟩) 3 3]:=by
   have ex:a.eval (.tmp x)= .slice (some ⟨b,0,none⟩) 3 3:=h2
   simp only [List.map_toArray,List.map_cons,List.map_nil,ex]
  rw [e]
  refine (or_w h1).mono fun e w' ⟨h1,h2⟩=> ?_
  subst h1 h2
  exact ⟨_,rfl,GD.refl _,fun e he=>by injection he with he;subst he;exact hF _ _ rfl⟩
end
set_option maxHeartbeats 1000000 in
theorem dcmp_w (x y:D3) (w:World):Calls Tryz.prog 24 #[.agg #[.int .i64 x.1, .int .i64 x.2.1, .int .i64 x.2.2], .agg #[.int .i64 y.1, .int .i64 y.2.1, .int .i64 y.2.2]] w fun e w'=>e= .returned (.int .i64 (cmpI x.1 x.2.1 x.2.2 y.1 y.2.1 y.2.2))∧GD w w':=by
 rw [←or_cmp]
 have hg0:GD w ((w.alloc (.cells #[.int .i64 x.1, .int .i64 x.2.1, .int .i64 x.2.2] 28)).alloc (.cells #[.int .i64 y.1, .int .i64 y.2.1, .int .i64 y.2.2] 28)):=(GD.alloc w _).trans (GD.alloc _ _)
 have h2:((w.alloc (.cells #[.int .i64 x.1, .int .i64 x.2.1, .int .i64 x.2.2] 28)).alloc (.cells #[.int .i64 y.1, .int .i64 y.2.1, .int .i64 y.2.2] 28)).heap[w.heap.size]? =some (.cells #[.int .i64 x.1, .int .i64 x.2.1, .int .i64 x.2.2] 28 (0,0)):=(GD.alloc _ _).heap (heap_alloc_new w _)
 have h3:((w.alloc (.cells #[.int .i64 x.1, .int .i64 x.2.1, .int .i64 x.2.2] 28)).alloc (.cells #[.int .i64 y.1, .int .i64 y.2.1, .int .i64 y.2.2] 28)).heap[w.heap.size+1]? =some (.cells #[.int .i64 y.1, .int .i64 y.2.1, .int .i64 y.2.2] 28 (0,0)):=by
  have:=heap_alloc_new (w.alloc (.cells #[.int .i64 x.1, .int .i64 x.2.1, .int .i64 x.2.2] 28)) (.cells #[.int .i64 y.1, .int .i64 y.2.1, .int .i64 y.2.2] 28)
  rwa [show (w.alloc (.cells #[.int .i64 x.1, .int .i64 x.2.1, .int .i64 x.2.2] 28)).heap.size=w.heap.size+1 by unfold World.alloc;simp] at this
 go_enter Tryz.func24,Tryz.ntmps24
 go_upto_region 1 with fail
 refine RW.code mo (Dr.run (n:=22) (by kernel_rfl) (dr_gd (n:=22) (F:=cmpF w.heap.size (w.heap.size+1) x y) (by kernel_rfl) rfl (cmpF_st _ _ _ _) fun i hi=> ?_) fun a1 w1 hf=> ?_)
 ·have hi':i<18:=hi
  rcases (by omega:i=0∨i=1∨i=2∨i=3∨i=4∨i=5∨i=6∨i=7∨i=8∨i=9∨i=10∨i=11∨i=12∨i=13∨i=14∨i=15∨i=16∨i=17) with rfl|rfl|rfl|rfl|rfl|rfl|rfl|rfl|rfl|rfl|rfl|rfl|rfl|rfl|rfl|rfl|rfl|rfl
  ·exact sd_field (d:=5) (t:=28) (p:=2) (f:=0) (off:=0) (sz:=1) (b:=w.heap.size) (by kernel_rfl) rfl (by kernel_rfl) (by kernel_rfl) (fun _ _ h=>h)
  ·exact sd_load (d:=6) (t:=3) (x:=5) (off:=0) (b:=w.heap.size) (by kernel_rfl) (by kernel_rfl) (fun _ _ h=>h) h2 rfl (by kernel_rfl) (fun _ _ h=>h)
  ·exact sd_field (d:=7) (t:=28) (p:=3) (f:=0) (off:=0) (sz:=1) (b:=w.heap.size+1) (by kernel_rfl) rfl (by kernel_rfl) (by kernel_rfl) (fun _ _ h=>h)
  ·exact sd_load (d:=8) (t:=3) (x:=7) (off:=0) (b:=w.heap.size+1) (by kernel_rfl) (by kernel_rfl) (fun _ _ h=>h) h3 rfl (by kernel_rfl) (fun _ _ h=>h)
  ·exact cmp_step (ts:= #[3,3]) (d:=9) (x:=6) (y:=8) (by kernel_rfl) (by kernel_rfl) (by kernel_rfl) (fun _ _ h=>h) (fun _ _ h=>h) (fun _ _ h=>h)
  ·exact sd_field (d:=10) (t:=28) (p:=2) (f:=1) (off:=1) (sz:=1) (b:=w.heap.size) (by kernel_rfl) rfl (by kernel_rfl) (by kernel_rfl) (fun _ _ h=>h)
  ·exact sd_load (d:=11) (t:=3) (x:=10) (off:=1) (b:=w.heap.size) (by kernel_rfl) (by kernel_rfl) (fun _ _ h=>h) h2 rfl (by kernel_rfl) (fun _ _ h=>h)
  ·exact sd_field (d:=12) (t:=28) (p:=3) (f:=1) (off:=1) (sz:=1) (b:=w.heap.size+1) (by kernel_rfl) rfl (by kernel_rfl) (by kernel_rfl) (fun _ _ h=>h)
  ·exact sd_load (d:=13) (t:=3) (x:=12) (off:=1) (b:=w.heap.size+1) (by kernel_rfl) (by kernel_rfl) (fun _ _ h=>h) h3 rfl (by kernel_rfl) (fun _ _ h=>h)
  ·exact cmp_step (ts:= #[3,3]) (d:=14) (x:=11) (y:=13) (by kernel_rfl) (by kernel_rfl) (by kernel_rfl) (fun _ _ h=>h) (fun _ _ h=>h) (fun _ _ h=>h)
  ·exact sd_field (d:=15) (t:=28) (p:=2) (f:=2) (off:=2) (sz:=1) (b:=w.heap.size) (by kernel_rfl) rfl (by kernel_rfl) (by kernel_rfl) (fun _ _ h=>h)
  ·exact sd_load (d:=16) (t:=3) (x:=15) (off:=2) (b:=w.heap.size) (by kernel_rfl) (by kernel_rfl) (fun _ _ h=>h) h2 rfl (by kernel_rfl) (fun _ _ h=>h)
  ·exact sd_field (d:=17) (t:=28) (p:=3) (f:=2) (off:=2) (sz:=1) (b:=w.heap.size+1) (by kernel_rfl) rfl (by kernel_rfl) (by kernel_rfl) (fun _ _ h=>h)
  ·exact sd_load (d:=18) (t:=3) (x:=17) (off:=2) (b:=w.heap.size+1) (by kernel_rfl) (by kernel_rfl) (fun _ _ h=>h) h3 rfl (by kernel_rfl) (fun _ _ h=>h)
  ·exact cmp_step (ts:= #[3,3]) (d:=19) (x:=16) (y:=18) (by kernel_rfl) (by kernel_rfl) (by kernel_rfl) (fun _ _ h=>h) (fun _ _ h=>h) (fun _ _ h=>h)
  ·exact sd_bld3 (d:=20) (x:=9) (y:=14) (z:=19) (n:=3) (T:=3) (sz:=1) (t:=59) (by kernel_rfl) (by kernel_rfl) (by kernel_rfl) (by kernel_rfl) (fun _ _ h=>h) (fun _ _ h=>h) (fun _ _ h=>h) (by kernel_rfl) (fun _ _ k h1 h2=>⟨k,h1,h2⟩)
  ·exact or_step (ts:= #[59]) (d:=21) (x:=20) (by kernel_rfl) (by kernel_rfl) (fun _ _ h=>h) (fun _ _ h=>h)
  ·exact sd_asg (d:=4) (x:=21) (by kernel_rfl) (by kernel_rfl) (fun _ _ h=>h)
 ·obtain ⟨g1,g2,g3,g4,g5⟩:=hf
  have hv:=g5 17 _ 4 rfl rfl
  rename_i Q' K hK
  refine hK a1 w1 (wp_ret ?_)
  refine bodyPost_ret_by (v:=a1.tmps.getD 4 undef) ?_ g3 (And.intro ?_ (hg0.trans g1))
  ·rw [results_eq]
   simp [Tryz.f24,resRun]
  ·rw [show a1.tmps.getD 4 undef=_ from hv]
end Go.Proofs.YtjpilacbapibjaaGreatDoor.X
