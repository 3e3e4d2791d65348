/- Own mathematics and calculus that the laws of this seat lean on, part 26. -/
import Derived.Test.YtjpilacbapibjaaGreatDoorMO25
namespace Go.Proofs.YtjpilacbapibjaaGreatDoor.X
open Go.RowKit Go.Proofs.YtjpilacbapibjaaGreatDoor.Z Go.Proofs.YtjpilacbapibjaaGreatDoor.Da
theorem dt_pv (cs:List D3): ∀r∈cs.map dtW,∀x∈r,pv x=true:=by
 intro r hr x hx
 obtain ⟨c,_,rfl⟩:=List.mem_map.1 hr
 simp only [dtW,List.mem_cons,List.not_mem_nil,or_false] at hx
 rcases hx with rfl|rfl|rfl<;>rfl
theorem wpList_app {P:Program} {ops:Array Oper} {rest:List Oper} {o:Oper} {a:Act} {w w':World} {Q:Exit→Act→World→Prop} (hgd:o.guard=none) {s x:Operand} {t:TypeId} (ho:o.op= .call {callee:= .builtin .append,args:= #[s,x],argTypes:= #[t,t]}) {v:Value}
  (h:(Builtin.append_ #[t,t] o.type #[a.eval s,a.eval x]).run P w= .ok v w') (k:wpList P ops Q rest (a.put o.dst v) w'):wpList P ops Q (o::rest) a w:=
 wpList_plain hgd fun K hK=>by
  unfold Oper.wp execOp
  simp only [ho,resolve,invoke,builtin,Sem.run_bind,Sem.run_pure,Result.andThen_ok,List.map_toArray,List.map_cons,List.map_nil,h]
  exact hK _ _ k
set_option maxHeartbeats 1000000 in
set_option maxRecDepth 1000000 in
theorem clone_d {w:World} {v:Value} {l:List (List Value)} (h:isRd (cxA w) true 3 l w v) (hp: ∀r∈l,∀x∈r,pv x=true) (hn:l.length*24≤140737488355328):
  Calls Tryz.prog 27 #[v] w (Ret w fun v' w'=>isOw (cxA w) 28 3 l w' v'):=by
 have h':=h
 obtain ⟨h0,A,cap,rfl,hc,hm,hl⟩:=h
 rcases A with _|ad
 ·have e0:l= []:=by
   rcases List.eq_nil_or_concat l with h|⟨a,b,h⟩
   ·exact h
   ·obtain ⟨_,_,_,_,_,e,_⟩:=hl (by rw [h];simp)
    cases e
  subst e0
  have he: ∀W:World,(binOp .eql 29 (.slice none 0 cap) (.slice none 0 0)).run Tryz.prog W= .ok (.bool true) W:=fun _=>by kernel_rfl
  have e0:isOw (cxA w) 28 3 [] w (.slice none 0 0):=by
   refine ⟨(fun r hr=>by cases hr),⟨rfl, .inl ⟨rfl,rfl⟩⟩,fun b e=> ?_⟩
   cases e
  have H0:=Lib.hid (Ret.mk (P:=fun v' w'=>isOw (cxA w) 28 3 [] w' v') e0 (Grow.refl w))
  clear h' hl e0
  simp only [List.length_nil]
  go_enter Tryz.func27,Tryz.ntmps27
  go_wp2
  go_ret
  exact H0.out
 ·have he: ∀W:World,(binOp .eql 29 (.slice (some ad) l.length cap) (.slice none 0 0)).run Tryz.prog W= .ok (.bool false) W:=fun _=>by kernel_rfl
  have hg1:Grow w (w.alloc (.cells #[] 28)):=(Grow.refl w).alloc _
  have h1:isOw (cxA w) 28 3 [] (w.alloc (.cells #[] 28)) (.slice (some ⟨w.heap.size,0,none⟩) 0 0):=by
   refine ⟨(fun r hr=>by cases hr),⟨rfl, .inr ⟨w.heap.size,0, #[],rfl,Nat.le_refl _,heap_alloc_new w _,Nat.le_refl _,by unfold maxLen;omega,rfl,rfl⟩⟩,fun b e=>⟨rfl,fun cs t fr hcs=> ?_⟩⟩
   injection e with e
   subst e
   rw [heap_alloc_new] at hcs
   injection hcs with hcs
   injection hcs with e1
   subst e1
   simp
  have h2:isRd (cxA w) true 3 l (w.alloc (.cells #[] 28)) (.slice (some ad) l.length cap):=stb_Rd _ _ _ h' (EvoE.of_grow hg1)
  have el:elOf Tryz.prog 29=some (28,3,24):=by kernel_rfl
  obtain ⟨ht,i,z,hi,hz,hsi,hby,hzs,hzp,hT,hsz,_⟩:=elOf_ok el
  have hsz1:(w.alloc (.cells #[] 28)).heap.size=w.heap.size+1:=by unfold World.alloc;simp
  obtain ⟨v',w',r1,r2,r3,_⟩:=run_append_pv (cx:=cxA w) (ty:=29) ht hi hz hsi hby hzs hzp hT hsz h1 h2 hp (by simp;omega) (by simp;omega) (by rw [hsz1];exact Nat.le_succ _) (fun b _=>rfl)
  have hG:Grow w w':=Below.grown hg1 r3 (by rw [hsz1];omega) (fun k e=>by injection e with e;exact e▸Nat.le_refl _)
  rw [List.nil_append] at r2
  have H:=Lib.hid (Ret.mk (P:=fun v' w'=>isOw (cxA w) 28 3 l w' v') r2 hG)
  clear r2 r3 h1 h2 h' hl hG
  go_enter Tryz.func27,Tryz.ntmps27
  go_wp2_with (at_builtin;refine wpList_app rfl rfl r1 ?_)
  go_ret
  exact H.out
end Go.Proofs.YtjpilacbapibjaaGreatDoor.X
