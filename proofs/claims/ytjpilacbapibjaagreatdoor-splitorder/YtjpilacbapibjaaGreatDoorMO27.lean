/- Own mathematics and calculus that the laws of this seat lean on, part 27. -/
import Derived.Test.YtjpilacbapibjaaGreatDoorMO26
import Derived.Sort.WalkB12
import Derived.Lib.SliceRun
namespace Go.Proofs.YtjpilacbapibjaaGreatDoor.X
set_option linter.unusedVariables false
open Go.RowKit Go.Proofs.YtjpilacbapibjaaGreatDoor.Z Go.Proofs.YtjpilacbapibjaaGreatDoor.Da
structure DelI (wb:World) (g S:Nat) (ds:List D3) (p:D3→Bool) (i j:Nat) (cs:Array Value) (W:World):Prop where
 gr:Grow wb W
 hp:W.heap[g]? =some (.cells cs 28 (0,0))
 sz:cs.size=S
 pl:cs.all Z.pv=true
 jn:j≤ds.length
 ij:i≤j
 front:cs.toList.take (i*3)=(((ds.take j).filter p).map dtW).flatten
 il:((ds.take j).filter p).length=i
 back: ∀m,j*3≤m→m<ds.length*3→cs[m]? =((ds.map dtW).flatten)[m]?
theorem rw_rows3 (ds:List D3):rowsB 3 (ds.map dtW):=fun r hr=>by obtain ⟨c,_,rfl⟩:=List.mem_map.1 hr;rfl
theorem dt_flat (ds:List D3) (j:Nat) (h:j<ds.length):((ds.map dtW).flatten)[j*3]? =some (.int .i64 (dcs ds j).1)∧((ds.map dtW).flatten)[j*3+1]? =some (.int .i64 (dcs ds j).2.1)∧((ds.map dtW).flatten)[j*3+2]? =some (.int .i64 (dcs ds j).2.2):=by
 induction ds generalizing j with
 |nil=>cases h
 |cons c r ih=>
  cases j with
  |zero=>exact ⟨rfl,rfl,rfl⟩
  |succ j=>
   obtain ⟨a,b,c'⟩:=ih j (Nat.lt_of_succ_lt_succ h)
   have e: ∀k,((c::r).map dtW).flatten[(j+1)*3+k]? =((r.map dtW).flatten)[j*3+k]? :=fun k=>by
    show (dtW c++(r.map dtW).flatten)[(j+1)*3+k]? =_
    rw [List.getElem?_append_right (by show 3≤_;omega)]
    congr 1
    show (j+1)*3+k-3=_
    omega
   exact ⟨(e 0).trans a,(e 1).trans b,(e 2).trans c'⟩
theorem setCell_heap {w:World} {g o T:Nat} {cs:Array Value} {v:Value} (h:w.heap[g]? =some (.cells cs T (0,0))):(w.setCell ⟨g,o,none⟩ v).heap[g]? =some (.cells (cs.setIfInBounds o v) T (0,0)):=by
 simp [World.setCell,Array.getElem?_modify,h]
theorem setCells_heap: ∀{vs:List Value} {w:World} {g o T:Nat} {cs:Array Value},w.heap[g]? =some (.cells cs T (0,0))→(∀v∈vs,pv v=true)→cs.all pv=true→ ∃cs',(w.setCells g o vs).heap[g]? =some (.cells cs' T (0,0))∧cs'.size=cs.size∧cs'.all pv=true∧ ∀m,m<o→cs'[m]? =cs[m]? :=by
 intro vs
 induction vs with
 |nil=>intro w g o T cs h _ h2;exact ⟨cs,h,rfl,h2,fun _ _=>rfl⟩
 |cons v r ih=>
  intro w g o T cs h h1 h2
  have hp:(cs.setIfInBounds o v).all pv=true:=by
   rw [Array.all_eq_true_iff_forall_mem] at h2⊢
   intro x hx
   rcases Array.mem_or_eq_of_mem_setIfInBounds hx with hx|rfl
   ·exact h2 x hx
   ·exact h1 _ (.head _)
  obtain ⟨cs',e1,e2,e3,e4⟩:=ih (o:=o+1) (setCell_heap (o:=o) (v:=v) h) (fun x hx=>h1 x (.tail _ hx)) hp
  refine ⟨cs',e1,by rw [e2,Array.size_setIfInBounds],e3,fun m hm=> ?_⟩
  rw [e4 m (by omega),Array.getElem?_setIfInBounds,if_neg (by omega)]
theorem grow_cells: ∀{vs:List Value} {a w:World} {g o:Nat},Grow a w→a.heap.size≤g→Grow a (w.setCells g o vs):=by
 intro vs
 induction vs with
 |nil=>intro a w g o h _;exact h
 |cons v r ih=>intro a w g o h hg;exact ih (h.setCell (p:=⟨g,o,none⟩) hg v) hg
theorem take_set3 {l:List Value} {n:Nat} {a b c:Value} (h:n+2<l.length):(((l.set n a).set (n+1) b).set (n+2) c).take (n+3)=l.take n++ [a,b,c]:=by
 apply List.ext_getElem?
 intro m
 rw [List.getElem?_take]
 by_cases hm:m<n+3
 ·rw [if_pos hm,List.getElem?_set,List.getElem?_set,List.getElem?_set]
  simp only [List.length_set]
  rcases Nat.lt_or_ge m n with h1|h1
  ·rw [if_neg (by omega),if_neg (by omega),if_neg (by omega),List.getElem?_append_left (by rw [List.length_take];omega),List.getElem?_take,if_pos h1]
  ·rw [List.getElem?_append_right (by rw [List.length_take];omega),List.length_take,Nat.min_eq_left (by omega)]
   rcases (by omega:m=n∨m=n+1∨m=n+2) with rfl|rfl|rfl
   ·rw [if_neg (by omega),if_neg (by omega),if_pos rfl,if_pos (by omega),Nat.sub_self];rfl
   ·rw [if_neg (by omega),if_pos rfl,if_pos (by omega),show n+1-n=1 by omega];rfl
   ·rw [if_pos rfl,if_pos (by omega),show n+2-n=2 by omega];rfl
 ·rw [if_neg hm,List.getElem?_eq_none (by rw [List.length_append,List.length_take];simp;omega)]
theorem DelI.skip {wb:World} {g S:Nat} {ds:List D3} {p:D3→Bool} {i j:Nat} {cs:Array Value} {W W':World} (h:DelI wb g S ds p i j cs W) (hj:j<ds.length) (hp:p (dcs ds j)=false) (hG:Grow W W'):DelI wb g S ds p i (j+1) cs W':=by
 have e:(ds.take (j+1)).filter p=(ds.take j).filter p:=by
  have e1:ds.take (j+1)=ds.take j++ [dcs ds j]:=by
   rw [List.take_succ_eq_append_getElem hj]
   unfold dcs
   rw [List.getD_eq_getElem?_getD,List.getElem?_eq_getElem hj]
   rfl
  rw [e1,List.filter_append,List.filter_cons_of_neg (by rw [hp];decide)]
  simp
 exact ⟨h.gr.trans hG,(Below.block hG _ (lt_heap h.hp)).trans h.hp,h.sz,h.pl,hj,Nat.le_succ_of_le h.ij,by rw [e];exact h.front,by rw [e];exact h.il,fun m h1 h2=>h.back m (by omega) h2⟩
theorem DelI.keep {wb:World} {g S:Nat} {ds:List D3} {p:D3→Bool} {i j:Nat} {cs:Array Value} {W W':World} (h:DelI wb g S ds p i j cs W) (hgb:wb.heap.size≤g) (hS:ds.length*3≤S) (hj:j<ds.length) (hp:p (dcs ds j)=true) (hG:Grow W W'):
  DelI wb g S ds p (i+1) (j+1) (((cs.setIfInBounds (i*3) (.int .i64 (dcs ds j).1)).setIfInBounds (i*3+1) (.int .i64 (dcs ds j).2.1)).setIfInBounds (i*3+2) (.int .i64 (dcs ds j).2.2)) (((W'.setCell ⟨g,i*3,none⟩ (.int .i64 (dcs ds j).1)).setCell ⟨g,i*3+1,none⟩ (.int .i64 (dcs ds j).2.1)).setCell ⟨g,i*3+2,none⟩ (.int .i64 (dcs ds j).2.2)):=by
 have e1:ds.take (j+1)=ds.take j++ [dcs ds j]:=by
  rw [List.take_succ_eq_append_getElem hj]
  unfold dcs
  rw [List.getD_eq_getElem?_getD,List.getElem?_eq_getElem hj]
  rfl
 have e:(ds.take (j+1)).filter p=(ds.take j).filter p++ [dcs ds j]:=by
  rw [e1,List.filter_append,List.filter_cons_of_pos hp]
  rfl
 have hh:=(Below.block hG _ (lt_heap h.hp)).trans h.hp
 have hij:=h.ij
 have hsz:=h.sz
 refine ⟨(((h.gr.trans hG).setCell (p:=⟨g,_,none⟩) hgb _).setCell (p:=⟨g,_,none⟩) hgb _).setCell (p:=⟨g,_,none⟩) hgb _,setCell_heap (setCell_heap (setCell_heap hh)),by simp [h.sz], ?_,hj,by omega, ?_,by rw [e,List.length_append,h.il];rfl,fun m h1 h2=> ?_⟩
 ·have hpv:=h.pl
  rw [Array.all_eq_true_iff_forall_mem] at hpv⊢
  intro x hx
  rcases Array.mem_or_eq_of_mem_setIfInBounds hx with hx|rfl
  ·rcases Array.mem_or_eq_of_mem_setIfInBounds hx with hx|rfl
   ·rcases Array.mem_or_eq_of_mem_setIfInBounds hx with hx|rfl
    ·exact hpv x hx
    ·rfl
   ·rfl
  ·rfl
 ·rw [e,List.map_append,List.flatten_append,←h.front,Array.toList_setIfInBounds,Array.toList_setIfInBounds,Array.toList_setIfInBounds,show (i+1)*3=i*3+3 by omega,take_set3 (by rw [Array.length_toList,hsz];omega)]
  rfl
 ·rw [Array.getElem?_setIfInBounds,if_neg (by omega),Array.getElem?_setIfInBounds,if_neg (by omega),Array.getElem?_setIfInBounds,if_neg (by omega)]
  exact h.back m (by omega) h2
theorem DelI.pre {wb:World} {g S:Nat} {ds:List D3} {p:D3→Bool} {k:Nat} {cs:Array Value} {W:World} (h:DelI wb g S ds p 0 0 cs W) (hS:ds.length*3≤S) (hk:k≤ds.length) (hp: ∀j,j<k→p (dcs ds j)=true):DelI wb g S ds p k k cs W:=by
 have e:(ds.take k).filter p=ds.take k:=by
  rw [List.filter_eq_self]
  intro c hc
  obtain ⟨j,hj,rfl⟩:=List.getElem_of_mem hc
  have hj':j<k:=by rw [List.length_take] at hj;omega
  have:=hp j hj'
  unfold dcs at this
  rw [List.getD_eq_getElem?_getD,List.getElem?_eq_getElem (by omega)] at this
  rw [List.getElem_take]
  exact this
 have hsz:=h.sz
 refine ⟨h.gr,h.hp,h.sz,h.pl,hk,Nat.le_refl _, ?_,by rw [e,List.length_take,Nat.min_eq_left hk],fun m h1 h2=>h.back m (by omega) h2⟩
 rw [e,List.map_take]
 have e2:((ds.map dtW).take k).flatten=(ds.map dtW).flatten.take (k*3):=(flat_split (rw_rows3 ds) (by rw [List.length_map];exact hk)).1.symm
 rw [e2]
 apply List.ext_getElem?
 intro m
 rw [List.getElem?_take,List.getElem?_take]
 split
 ·next hm=>rw [Array.getElem?_toList];exact h.back m (by omega) (by omega)
 ·rfl
theorem DelI.clear {wb:World} {g S:Nat} {ds:List D3} {p:D3→Bool} {i:Nat} {cs:Array Value} {W:World} (h:DelI wb g S ds p i ds.length cs W) (hgb:wb.heap.size≤g) {vs:List Value} (hv: ∀v∈vs,pv v=true): ∃cs',DelI wb g S ds p i ds.length cs' (W.setCells g (i*3) vs):=by
 obtain ⟨cs',e1,e2,e3,e4⟩:=setCells_heap (o:=i*3) h.hp hv h.pl
 refine ⟨cs',grow_cells h.gr hgb,e1,e2.trans h.sz,e3,h.jn,h.ij, ?_,h.il,fun m h1 h2=>by omega⟩
 rw [←h.front]
 apply List.ext_getElem?
 intro m
 rw [List.getElem?_take,List.getElem?_take]
 split
 ·next hm=>rw [Array.getElem?_toList,Array.getElem?_toList,e4 m hm]
 ·rfl
theorem run_clear3 {w:World} {g n c o:Nat} {cs:Array Value} (hn:0<n) (h:w.heap[g]? =some (.cells cs 28 (0,0))) (hs:o+n*3≤cs.size): ∃vs:List Value,(∀v∈vs,pv v=true)∧ ∀ty,(Builtin.clear_ #[29] ty #[.slice (some ⟨g,o,none⟩) n c]).run Tryz.prog w= .ok (.tuple #[]) (w.setCells g o vs):=by
 have el:elOf Tryz.prog 29=some (28,3,24):=by kernel_rfl
 obtain ⟨ht,i,z,hi,hz,hsi,hby,hzs,hzp,hT,hsz,_⟩:=elOf_ok el
 have hv: ∀w,(zeroValue 28).run Tryz.prog w= .ok z w:=fun w=>by simp [zeroValue,typeInfo,hi,hz]
 have hpv:=zero_pv hzp n
 have hl:(Builtin.zeroCells z.cells n).toList.length=n*3:=by simp [Builtin.zeroCells,hzs]
 refine ⟨(Builtin.zeroCells z.cells n).toList,hpv,fun ty=> ?_⟩
 have hst:=run_storeCells_cells (P:=Tryz.prog) g o (Builtin.zeroCells z.cells n).toList 0 w (fun j hj=>by
  have:o+j<cs.size:=by rw [hl] at hj;omega
  simp [World.cell?,h,this]) (fun j hj=>by simp [World.frozen?,h]) (fun v hv'=>pv_one (hpv v hv'))
 simp only [Nat.add_zero] at hst
 obtain ⟨m,rfl⟩: ∃m,n=m+1:=⟨n-1,by omega⟩
 simp [Builtin.clear_,run_underlying ht,hv,hst]
theorem out_call {ds:List D3} {j:Nat} {ps:List Value} {x y:D3} {W:World} (h:All2 (fun r p=>isAd (cxA W) r W p) [dtW x,dtW y] ps):Calls Tryz.prog 73 (Value.agg #[.int .i64 (dcs ds j).1, .int .i64 (dcs ds j).2.1, .int .i64 (dcs ds j).2.2]::ps).toArray W (Ret W fun v' w'=>v'= .bool (outB (dcs ds j) x y)):=by
 match ps,h with
 | [p1,p2],⟨h1,h2,_⟩=>exact out_t rfl h1 h2
set_option maxHeartbeats 4000000 in
set_option maxRecDepth 1000000 in
theorem del_d {wb w:World} {g cap:Nat} {cs:Array Value} {ds:List D3} {u:Value} {ps:List Value} {x y:D3} (hI:DelI wb g (cap*3) ds (fun c=> !outB c x y) 0 0 cs w) (hgb:wb.heap.size≤g) (hc:ds.length≤cap) (hm:cap≤maxLen)
  (hu:u= .func (.func 73) #[] ps.toArray) (hps: ∀W,Grow wb W→All2 (fun r p=>isAd (cxA W) r W p) [dtW x,dtW y] ps):
  Calls Tryz.prog 74 #[.slice (some ⟨g,0,none⟩) ds.length cap,u] w fun e w'=> ∃i cs',e= .returned (.slice (some ⟨g,0,none⟩) i cap)∧DelI wb g (cap*3) ds (fun c=> !outB c x y) i ds.length cs' w':=by
 subst hu
 have hbig:ds.length≤9223372036854775807:=by have h:=hm;simp only [maxLen] at h;omega
 have e72: ∀args w,(callFunc 72 args).run Tryz.prog w= .ok (.enter 72 args) w:=en72
 have e73: ∀args w,(callFunc 73 args).run Tryz.prog w= .ok (.enter 73 args) w:=en73
 have hIF:Calls Tryz.prog 72 #[.slice (some ⟨g,0,none⟩) ds.length cap, .func (.func 73) #[] ps.toArray] w (Ret w fun v' w'=>isE (.int .i64 (ixB (fun c=>outB c x y) ds 0)) w' v'):=by
  have hps':=hps w hI.gr
  refine ixO_t ?_ ⟨ps,rfl,hps'⟩
  refine ⟨rw_rows3 ds,some ⟨g,0,none⟩,cap,by rw [List.length_map],by rw [List.length_map];exact hc,hm,fun _=>⟨g,0,cs,_,_,rfl,hI.hp,rfl,fun _=>lt_heap hI.hp,fun m v hv=> ?_⟩⟩
  have hlt:m<ds.length*3:=by
   have:=(List.getElem?_eq_some_iff.1 hv).1
   rwa [flat_len (rw_rows3 ds),List.length_map] at this
  rw [Nat.zero_add,hI.back m (by omega) hlt]
  exact hv
 rcases ix_all (p:=fun c=>outB c x y) (cs:=ds) with ⟨e1,hall⟩|⟨k0,hk0,e1,ha,ht⟩<;>rw [e1] at hIF<;>clear e1
 ·have HI:=Lib.hid (hI.pre (by omega) (Nat.le_refl _) fun j hj=>by rw [hall j hj];rfl)
  clear hI hps hall
  go_enter Tryz.func74,Tryz.ntmps74
  go_wp2_with (go_at_fn 72;refine hIF.mono ?_;rintro e w' ⟨v,rfl,rfl,hg⟩;have HG:=Lib.hid hg;clear hg)
  go_ret
  exact ⟨ds.length,cs,rfl,HI.out.gr.trans HG.out,(Below.block HG.out _ (lt_heap HI.out.hp)).trans HI.out.hp,HI.out.sz,HI.out.pl,HI.out.jn,HI.out.ij,HI.out.front,HI.out.il,HI.out.back⟩
 ·have HI:=Lib.hid hI
  have HP:=Lib.hid hps
  have HA:=Lib.hid (And.intro ha ht)
  clear hI hps ha ht
  go_enter Tryz.func74,Tryz.ntmps74
  go_wp2_with (go_at_fn 72;refine hIF.mono ?_;rintro e w' ⟨v,rfl,rfl,hg⟩;have HG:=Lib.hid hg;clear hg)
  go_loopg [5,6,7] ds.length (fun gg s5 s6 _ wr=> ∃(i j:Nat) (dk:Array Value),s5= .int .i64 i∧s6= .int .i64 j∧j≤ds.length∧i<j∧ds.length-j≤gg∧Aside (DelI wb g (cap*3) ds (fun c=> !outB c x y) i j dk wr))
  case atStart=>exact ⟨k0,k0+1,cs,rfl,by go_num,by omega,by omega,by omega,(show Aside _ from (HI.out.pre (by omega) (Nat.le_of_lt hk0) fun j hj=>by rw [HA.out.1 j hj];rfl).skip hk0 (by rw [HA.out.2];rfl) HG.out)⟩
  case round=>
   obtain ⟨i,j,dk,rfl,rfl,hjn,hij,hgg,I⟩:=hrel
   by_cases hlt:j<ds.length
   ·have hltz:(j:Int)<(ds.length:Int):=by omega
    obtain ⟨b0,b1,b2⟩:=dt_flat ds j hlt
    have hH:=I.out.hp
    have bk:=I.out.back
    have hsz:=I.out.sz
    have hG:=I.out.gr
    have c0:wr.cell? ⟨g,j*3,none⟩=some (.int .i64 (dcs ds j).1):=by simp [World.cell?,hH,bk (j*3) (by omega) (by omega),b0]
    have c1:wr.cell? ⟨g,j*3+1,none⟩=some (.int .i64 (dcs ds j).2.1):=by simp [World.cell?,hH,bk (j*3+1) (by omega) (by omega),b1]
    have c2:wr.cell? ⟨g,j*3+2,none⟩=some (.int .i64 (dcs ds j).2.2):=by simp [World.cell?,hH,bk (j*3+2) (by omega) (by omega),b2]
    have hcl: ∀W,Grow wb W→Calls Tryz.prog 73 (Value.agg #[.int .i64 (dcs ds j).1, .int .i64 (dcs ds j).2.1, .int .i64 (dcs ds j).2.2]::ps).toArray W (Ret W fun v' w'=>v'= .bool (outB (dcs ds j) x y)):=fun W hW=>out_call (HP.out W hW)
    clear HI HA b0 b1 b2 bk
    have HB:=Lib.hid (And.intro hH hG)
    clear hH hG
    have hg1:Grow wr (wr.alloc (.cells #[.int .i64 (dcs ds j).1, .int .i64 (dcs ds j).2.1, .int .i64 (dcs ds j).2.2] 28)):=(Grow.refl wr).alloc _
    have hnew:(wr.alloc (.cells #[.int .i64 (dcs ds j).1, .int .i64 (dcs ds j).2.1, .int .i64 (dcs ds j).2.2] 28)).heap[wr.heap.size]? =some (.cells #[.int .i64 (dcs ds j).1, .int .i64 (dcs ds j).2.1, .int .i64 (dcs ds j).2.2] 28 (0,0)):=heap_alloc_new wr _
    have HN:=Lib.hid (And.intro hg1 hnew)
    have hcall:=hcl _ (HB.out.2.trans hg1)
    clear hcl hg1 hnew
    have hfacts: ∀W',Grow (wr.alloc (.cells #[.int .i64 (dcs ds j).1, .int .i64 (dcs ds j).2.1, .int .i64 (dcs ds j).2.2] 28)) W'→W'.heap[wr.heap.size]? =some (.cells #[.int .i64 (dcs ds j).1, .int .i64 (dcs ds j).2.1, .int .i64 (dcs ds j).2.2] 28 (0,0))∧W'.heap[g]? =some (.cells dk 28 (0,0))∧Grow wb W':=fun W' h=>by
     refine ⟨(Below.block h _ (lt_heap HN.out.2)).trans HN.out.2, ?_,(HB.out.2.trans HN.out.1).trans h⟩
     rw [Below.block (HN.out.1.trans h) _ (lt_heap HB.out.1)]
     exact HB.out.1
    have HF:=Lib.hid hfacts
    clear hfacts
    generalize hq:outB (dcs ds j) x y=q at hcall
    have HQ:=Lib.hid hq
    clear hq
    cases q with
    |true=>
     go_wp2_with (go_at_fn 73;refine hcall.mono ?_;rintro e w' ⟨v,rfl,rfl,hg2⟩;have HW:=Lib.hid hg2;clear hg2)
     go_roundg (ds.length-(j+1))
     case measure=>omega
     case rel=>exact ⟨i,j+1,dk,rfl,by go_num,by omega,by omega,Nat.le_refl _,(show Aside _ from I.out.skip hlt (by rw [HQ.out];rfl) (HN.out.1.trans HW.out))⟩
    |false=>
     have hfr: ∀W':World,W'.heap[g]? =some (.cells dk 28 (0,0))→(∀o,W'.frozen? ⟨g,o,none⟩=false):=fun W' h o=>by simp [World.frozen?,h]
     have hi3:i*3+2<dk.size:=by omega
     go_wp2_with (go_at_fn 73;refine hcall.mono ?_;rintro e w' ⟨v,rfl,rfl,hg2⟩;have HW:=Lib.hid hg2;clear hg2;have e0:w'.cell? ⟨wr.heap.size,0,none⟩=some (.int .i64 (dcs ds j).1):=(by simp [World.cell?,(HF.out _ HW.out).1]);have e1:w'.cell? ⟨wr.heap.size,1,none⟩=some (.int .i64 (dcs ds j).2.1):=(by simp [World.cell?,(HF.out _ HW.out).1]);have e2:w'.cell? ⟨wr.heap.size,2,none⟩=some (.int .i64 (dcs ds j).2.2):=(by simp [World.cell?,(HF.out _ HW.out).1]);have f0:w'.cell? ⟨g,i*3,none⟩=some (dk[i*3]):=(by simp [World.cell?,(HF.out _ HW.out).2.1]);have f1:w'.cell? ⟨g,i*3+1,none⟩=some (dk[i*3+1]):=(by simp [World.cell?,(HF.out _ HW.out).2.1]);have f2:w'.cell? ⟨g,i*3+2,none⟩=some (dk[i*3+2]):=(by simp [World.cell?,(HF.out _ HW.out).2.1]);have z0:=hfr w' (HF.out _ HW.out).2.1 (i*3);have z1:=hfr w' (HF.out _ HW.out).2.1 (i*3+1);have z2:=hfr w' (HF.out _ HW.out).2.1 (i*3+2))
     go_roundg (ds.length-(j+1))
     case measure=>omega
     case rel=>exact ⟨i+1,j+1,_,by go_num,by go_num,by omega,by omega,Nat.le_refl _,(show Aside _ from I.out.keep hgb (by omega) hlt (by rw [HQ.out];rfl) (HN.out.1.trans HW.out))⟩
   ·obtain rfl:j=ds.length:=by omega
    have hltz: ¬(ds.length:Int)<(ds.length:Int):=by omega
    have hsz:=I.out.sz
    obtain ⟨vs,hv,hcl⟩:=run_clear3 (w:=wr) (g:=g) (n:=ds.length-i) (c:=cap-i) (o:=i*3) (by omega) I.out.hp (by omega)
    obtain ⟨cs',hD⟩:=I.out.clear hgb hv
    have HD:=Lib.hid hD
    clear hD HI HA hv hsz
    go_wp2
    go_ret
    exact ⟨i,rfl,cs',HD.out⟩
end Go.Proofs.YtjpilacbapibjaaGreatDoor.X
