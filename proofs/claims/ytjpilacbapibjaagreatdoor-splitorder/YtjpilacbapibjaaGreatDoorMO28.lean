/- Own mathematics and calculus that the laws of this seat lean on, part 28. -/
import Derived.Test.YtjpilacbapibjaaGreatDoorMO27
namespace Go.Proofs.YtjpilacbapibjaaGreatDoor.X
open Go.RowKit Go.Proofs.YtjpilacbapibjaaGreatDoor.Z Go.Proofs.YtjpilacbapibjaaGreatDoor.Da
set_option linter.unusedVariables false
set_option maxHeartbeats 1000000 in
theorem del_nil {w:World} {ps:List Value} {x y:D3} (hps:All2 (fun r p=>isAd (cxA w) r w p) [dtW x,dtW y] ps):
  Calls Tryz.prog 74 #[.slice none 0 0, .func (.func 73) #[] ps.toArray] w fun e w'=>e= .returned (.slice none 0 0)∧Grow w w':=by
 have e72: ∀args w,(callFunc 72 args).run Tryz.prog w= .ok (.enter 72 args) w:=en72
 have hIF:Calls Tryz.prog 72 #[.slice none 0 0, .func (.func 73) #[] ps.toArray] w (Ret w fun v' w'=>isE (.int .i64 (-1)) w' v'):=by
  refine ixO_t (cs:= []) ?_ ⟨ps,rfl,hps⟩
  exact ⟨(fun r hr=>by cases hr),none,0,rfl,Nat.le_refl _,by unfold maxLen;omega,fun h=>absurd rfl h⟩
 clear hps
 go_enter Tryz.func74,Tryz.ntmps74
 go_wp2_with (go_at_fn 72;refine hIF.mono ?_;rintro e w' ⟨v,rfl,rfl,hg⟩;have HG:=Lib.hid hg;clear hg)
 go_ret
 exact ⟨rfl,HG.out⟩
theorem flat_at {l:List (List Value)} {cur:Array Value} {n:Nat} (h:cur.toList.take n=l.flatten) {m:Nat} (hm:m<n):cur[m]? =l.flatten[m]? :=by
 rw [←h,List.getElem?_take,if_pos hm,Array.getElem?_toList]
theorem DelI.of {wb w:World} {g cap:Nat} {cur:Array Value} {ds:List D3} {p:D3→Bool} (hG:Grow wb w) (hg:w.heap[g]? =some (.cells cur 28 (0,0))) (hs:cur.size=cap*3) (hp:cur.all pv=true) (ht:cur.toList.take (ds.length*3)=(ds.map dtW).flatten):DelI wb g (cap*3) ds p 0 0 cur w:=
 ⟨hG,hg,hs,hp,Nat.zero_le _,Nat.le_refl _,by simp,rfl,fun m _ hm=>flat_at ht hm⟩
theorem DelI.own {wb w:World} {g cap i:Nat} {cur:Array Value} {ds:List D3} {p:D3→Bool} (h:DelI wb g (cap*3) ds p i ds.length cur w) (hgb:wb.heap.size≤g) (hc:ds.length≤cap) (hm:cap≤maxLen):isOw (cxA wb) 28 3 ((ds.filter p).map dtW) w (.slice (some ⟨g,0,none⟩) i cap):=by
 have hf:=h.front
 have hil:=h.il
 rw [List.take_length] at hf hil
 have hij:=h.ij
 refine ⟨rw_rows3 _,⟨by rw [flat_len (rw_rows3 _)], .inr ⟨g,cap,cur,by rw [List.length_map,hil],hgb,h.hp,by rw [List.length_map];omega,hm,h.sz,by rw [List.length_map,hil];exact hf⟩⟩,fun b e=>⟨rfl,fun cs t fr hcs=> ?_⟩⟩
 injection e with e
 subst e
 rw [h.hp] at hcs
 injection hcs with hcs
 injection hcs with e1
 subst e1
 exact h.pl
set_option maxHeartbeats 1000000 in
theorem within_t {w:World} {t:Value} {x y:D3} {cs:List D3} (h3:isRd (cxA w) true 3 (cs.map dtW) w t) (hn:cs.length≤1000000):
  Calls Tryz.prog 35 #[.agg #[.int .i64 x.1, .int .i64 x.2.1, .int .i64 x.2.2], .agg #[.int .i64 y.1, .int .i64 y.2.1, .int .i64 y.2.2],t] w (Ret w fun v' w'=>isOw (cxA w) 28 3 ((cs.filter fun c=> !outB c x y).map dtW) w' v'):=by
 have e27: ∀args w,(callFunc 27 args).run Tryz.prog w= .ok (.enter 27 args) w:=en27
 have e74: ∀args w,(callFunc 74 args).run Tryz.prog w= .ok (.enter 74 args) w:=en74
 generalize hw2:(w.alloc (.cells #[.int .i64 x.1, .int .i64 x.2.1, .int .i64 x.2.2] 28)).alloc (.cells #[.int .i64 y.1, .int .i64 y.2.1, .int .i64 y.2.2] 28)=w2
 have hs1:(w.alloc (.cells #[.int .i64 x.1, .int .i64 x.2.1, .int .i64 x.2.2] 28)).heap.size=w.heap.size+1:=by unfold World.alloc;simp
 have hg2:Grow w w2:=by rw [←hw2];exact ((Grow.refl w).alloc _).trans ((Grow.refl _).alloc _)
 have c1:w2.heap[w.heap.size]? =some (.cells #[.int .i64 x.1, .int .i64 x.2.1, .int .i64 x.2.2] 28 (0,0)):=by
  rw [←hw2,Below.block ((Grow.refl (w.alloc (.cells #[.int .i64 x.1, .int .i64 x.2.1, .int .i64 x.2.2] 28))).alloc _) _ (by rw [hs1];omega)]
  exact heap_alloc_new w _
 have c2:w2.heap[w.heap.size+1]? =some (.cells #[.int .i64 y.1, .int .i64 y.2.1, .int .i64 y.2.2] 28 (0,0)):=by
  rw [←hw2,←hs1]
  exact heap_alloc_new _ _
 have hps: ∀W,Grow w2 W→All2 (fun r p=>isAd (cxA W) r W p) [dtW x,dtW y] [.pointer (some ⟨w.heap.size,0,none⟩), .pointer (some ⟨w.heap.size+1,0,none⟩)]:=fun W h=>
  ⟨⟨_,0,_,_,_,rfl,(Below.block h _ (lt_heap c1)).trans c1,rfl,fun j v hj=>by rw [Nat.zero_add,List.getElem?_toArray];exact hj⟩,⟨_,0,_,_,_,rfl,(Below.block h _ (lt_heap c2)).trans c2,rfl,fun j v hj=>by rw [Nat.zero_add,List.getElem?_toArray];exact hj⟩,trivial⟩
 have h3':isRd (cxA w2) true 3 (cs.map dtW) w2 t:=isRd.mono (cx:=cxA w) (cx':=cxA w2) (fun _ _ _ h=>h) (fun _=>hg2.size) (stb_Rd _ _ _ h3 (EvoE.of_grow hg2))
 have hC:=clone_d h3' (dt_pv cs) (by rw [List.length_map];omega)
 have hD: ∀W v,Grow w2 W→isOw (cxA w2) 28 3 (cs.map dtW) W v→Calls Tryz.prog 74 #[v, .func (.func 73) #[] #[.pointer (some ⟨w.heap.size,0,none⟩), .pointer (some ⟨w.heap.size+1,0,none⟩)]] W (Ret w fun v' w'=>isOw (cxA w) 28 3 ((cs.filter fun c=> !outB c x y).map dtW) w' v'):=by
  intro W v hG ⟨h0,⟨h1,h2⟩,hp⟩
  rcases h2 with ⟨rfl,hl⟩|⟨g,cap,cur,rfl,hb,hg,hc,hm,hs,ht⟩
  ·have e0:cs= []:=by rw [List.length_map] at hl;exact List.eq_nil_of_length_eq_zero hl
   subst e0
   refine (del_nil (hps W hG)).mono fun e w' ⟨e1,e2⟩=> ?_
   subst e1
   exact Ret.mk ⟨(fun r hr=>by cases hr),⟨rfl, .inl ⟨rfl,rfl⟩⟩,fun b e=>by cases e⟩ ((hg2.trans hG).trans e2)
  ·rw [List.length_map] at hc ht⊢
   have hI:=DelI.of (wb:=w2) (p:=fun c=> !outB c x y) hG hg hs ((hp g rfl).2 cur _ _ hg) ht
   refine (del_d hI hb hc hm rfl hps).mono fun e w' ⟨i,cs',e1,e2⟩=> ?_
   subst e1
   exact Ret.mk (isOw.mono (cx:=cxA w2) (cx':=cxA w) (fun _ _ _ h=>h) hg2.size (e2.own hb hc hm)) (hg2.trans e2.gr)
 have HD:=Lib.hid hD
 clear hD h3' h3 hps c1 c2 hg2 hs1
 subst hw2
 go_enter Tryz.func35,Tryz.ntmps35
 go_wp2_with (first|(go_at_fn 27;refine hC.mono ?_;rintro e w' ⟨v,rfl,hv,hg⟩;have HV:=Lib.hid (And.intro hg hv);clear hg hv)|(go_at_fn 74;refine (HD.out _ _ HV.out.1 HV.out.2).mono ?_;rintro e w' ⟨v,rfl,hv,hg⟩;have HR:=Lib.hid (And.intro hv hg);clear hg hv))
 go_ret
 exact Ret.mk HR.out.1 HR.out.2
end Go.Proofs.YtjpilacbapibjaaGreatDoor.X
