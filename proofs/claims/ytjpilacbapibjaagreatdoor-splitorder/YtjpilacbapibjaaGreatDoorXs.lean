/- Lists that the library turns in place: between the calculus' own lists and the shelf's rows of k cells. No program is named here. -/
import Derived.Test.YtjpilacbapibjaaGreatDoorBXk
import Derived.Shelf.GgSortFunc.RowK
namespace Go.Proofs.YtjpilacbapibjaaGreatDoor.X
open Go.RowKit Go.Proofs.YtjpilacbapibjaaGreatDoor.Z Go.Sort
abbrev Rw (k:Nat):Type:={r:List Value//r.length=k∧ ∀v∈r,pv v=true}
instance (k:Nat):Inhabited (Rw k):=⟨⟨List.replicate k (.bool false),by simp,fun v h=>by rw [List.eq_of_mem_replicate h];rfl⟩⟩
abbrev rwE {k:Nat} (x:Rw k):List Value:=x.1
theorem rwE_len {k:Nat} (x:Rw k):(rwE x).length=k:=x.2.1
theorem rwE_one {k:Nat} (x:Rw k): ∀v∈rwE x,v.oneCell'=true:=fun v h=>pv_one (x.2.2 v h)
theorem rows_rw {k:Nat}: ∀{l:List (List Value)},rowsB k l→(∀r∈l,∀v∈r,pv v=true)→ ∃d:List (Rw k),d.map rwE=l:=by
 intro l
 induction l with
 |nil=>intro _ _;exact ⟨[],rfl⟩
 |cons r s ih=>
  intro h1 h2
  obtain ⟨d,hd⟩:=ih (fun x hx=>h1 x (.tail _ hx)) (fun x hx=>h2 x (.tail _ hx))
  exact ⟨⟨r,h1 r (.head _),h2 r (.head _)⟩::d,by rw [List.map_cons,hd]⟩
theorem rw_rows {k:Nat} (d:List (Rw k)):rowsB k (d.map rwE):=fun r hr=>by obtain ⟨x,_,rfl⟩:=List.mem_map.1 hr;exact x.2.1
theorem rw_pv {k:Nat} (d:List (Rw k)): ∀v∈(d.map rwE).flatten,pv v=true:=fun v hv=>by
 obtain ⟨r,hr,hv⟩:=List.mem_flatten.1 hv
 obtain ⟨x,_,rfl⟩:=List.mem_map.1 hr
 exact x.2.2 v hv
theorem flatK_list {k:Nat} (d:List (Rw k)):(flatK rwE k d.toArray).toList=(d.map rwE).flatten:=by
 apply List.ext_getElem?
 intro t
 rw [Array.getElem?_toList]
 rcases Nat.lt_or_ge t (d.length*k) with h|h
 ·have hk:0<k:=Nat.pos_of_ne_zero fun e=>by subst e;simp at h
  have hi:t/k<d.length:=(Nat.div_lt_iff_lt_mul hk).2 h
  have hm:t%k<k:=Nat.mod_lt _ hk
  have e1:(flatK rwE k d.toArray)[t]? =some (flatK rwE k d.toArray)[t]! :=by
   rw [getElem!_pos _ t (by simpa using h)]
   exact Array.getElem?_eq_getElem _
  rw [e1,get_flatK _ _ _ _ (by simpa using h)]
  have e2:(d.map rwE)[t/k]? =some (rwE d[t/k]):=by rw [List.getElem?_map,List.getElem?_eq_getElem hi];rfl
  have e3:(rwE d[t/k])[t%k]? =some (rwE d[t/k])[t%k]! :=by
   rw [getElem!_pos _ (t%k) (by rw [rwE_len];exact hm)]
   exact List.getElem?_eq_getElem _
  have:=flat_get (rw_rows d) e2 e3
  rw [Nat.mul_comm,Nat.div_add_mod] at this
  rw [this]
  congr 2
  rw [getElem!_pos _ (t/k) (by simpa using hi)]
  simp
 ·rw [Array.getElem?_eq_none (by simpa using h),List.getElem?_eq_none (by rw [flat_len (rw_rows d),List.length_map];exact h)]
theorem holds_ow {T k:Nat} {l:List (List Value)} {w:World} {v:Value} (h:isOw cxZ T k l w v) (hv:l≠ []): ∃g cap,v= .slice (some ⟨g,0,none⟩) l.length cap∧l.length≤cap∧cap≤maxLen∧g<w.heap.size∧ ∃d:List (Rw k),d.map rwE=l∧HoldsK rwE k w g 0 d.toArray:=by
 obtain ⟨h0,⟨h1,h2⟩,h3⟩:=h
 rcases h2 with ⟨_,e⟩|⟨g,cap,cur,rfl,_,hg,hn,hm,hs,ht⟩
 ·exact absurd (List.eq_nil_of_length_eq_zero e) hv
 ·have hp:=(h3 g rfl).2 cur T (0,0) hg
  have hpl: ∀r∈l,∀v∈r,pv v=true:=fun r hr v hv=>by
   have hm':v∈l.flatten:=List.mem_flatten.2 ⟨r,hr,hv⟩
   rw [←ht] at hm'
   rw [Array.all_eq_true_iff_forall_mem] at hp
   exact hp v (by simpa using List.mem_of_mem_take hm')
  obtain ⟨d,hd⟩:=rows_rw h0 hpl
  refine ⟨g,cap,rfl,hn,hm,lt_heap hg,d,hd,fun j hj=> ?_⟩
  have hj':j<d.length*k:=by simpa using hj
  refine ⟨?_,by simp [World.frozen?,hg]⟩
  have e1:(flatK rwE k d.toArray)[j]? =some (flatK rwE k d.toArray)[j]! :=by
   rw [getElem!_pos _ j hj]
   exact Array.getElem?_eq_getElem _
  have e2:(cur.toList.take (l.length*k))[j]? =cur[j]? :=by
   rw [List.getElem?_take,if_pos (by rw [←hd,List.length_map];exact hj'),Array.getElem?_toList]
  have e3:cur[j]? =some (flatK rwE k d.toArray)[j]! :=by
   rw [←e2,ht,←hd,←flatK_list,Array.getElem?_toList,e1]
  simp only [World.cell?,hg,Nat.zero_add]
  simp only [Option.isSome_none,Bool.false_eq_true,if_false]
  rw [e3]
  rfl
theorem ow_turned {T k n m:Nat} {l:List (List Value)} {w:World} {g cap:Nat} {os:Array Obj} {d:List (Rw k)} (h:isOw cxZ T k l w (.slice (some ⟨g,0,none⟩) l.length cap)) (hd:d.length=l.length) (hn:n≤d.length):isOw cxZ T k ((d.take n).map rwE) (grow (putRowK rwE k (Sort.ahead w m) g 0 d.toArray) os) (.slice (some ⟨g,0,none⟩) n cap)∧w.grownBy (grow (putRowK rwE k (Sort.ahead w m) g 0 d.toArray) os) (some g)∧ ∃cs,(grow (putRowK rwE k (Sort.ahead w m) g 0 d.toArray) os).heap[g]? =some (.cells cs T (0,0))∧cs.all pv=true:=by
 obtain ⟨h0,⟨h1,h2⟩,h3⟩:=h
 rcases h2 with ⟨e,_⟩|⟨g',cap',cur,e,hb,hg,hc,hm,hs,ht⟩
 ·cases e
 ·injection e with e1 e2 e3
  injection e1 with e1
  injection e1 with e1
  subst e1 e3
  have hp:=(h3 g rfl).2 cur T (0,0) hg
  have hsz:(flatK rwE k d.toArray).size=l.length*k:=by rw [size_flatK,List.size_toArray,hd]
  have hle:l.length*k≤cur.size:=by rw [hs];exact Nat.mul_le_mul_right _ hc
  have hcell:(grow (putRowK rwE k (Sort.ahead w m) g 0 d.toArray) os).heap[g]? =some (.cells (putCells id 0 (flatK rwE k d.toArray) cur) T (0,0)):=by
   rw [heap_grow_old _ _ (by simp [putRowK,putRow,mapBlock,Sort.ahead,lt_heap hg])]
   simp [putRowK,putRow,mapBlock,Sort.ahead,Array.getElem?_modify,hg,onCells]
  have hget: ∀j,j<cur.size→(putCells id 0 (flatK rwE k d.toArray) cur)[j]? =if j<l.length*k then (flatK rwE k d.toArray)[j]? else cur[j]? :=by
   intro j hj
   unfold putCells
   rw [Array.getElem?_mapIdx,Array.getElem?_eq_getElem hj,Option.map_some]
   by_cases hjl:j<l.length*k
   ·rw [if_pos hjl,if_pos (by rw [hsz];omega),getElem!_pos _ (j-0) (by rw [hsz];exact hjl),Array.getElem?_eq_getElem (by rw [hsz];exact hjl)]
    rfl
   ·rw [if_neg hjl,if_neg (by rw [hsz];omega)]
  have hsize:(putCells id 0 (flatK rwE k d.toArray) cur).size=cur.size:=by simp [putCells]
  have htake:(putCells id 0 (flatK rwE k d.toArray) cur).toList.take (n*k)=((d.take n).map rwE).flatten:=by
   have hnk:n*k≤l.length*k:=Nat.mul_le_mul_right _ (by omega)
   have e1:((d.take n).map rwE).flatten=(d.map rwE).flatten.take (n*k):=by
    rw [List.map_take]
    exact (flat_split (rw_rows d) (by rw [List.length_map];exact hn)).1.symm
   rw [e1,←flatK_list]
   apply List.ext_getElem?
   intro j
   rw [List.getElem?_take,List.getElem?_take]
   by_cases hj:j<n*k
   ·rw [if_pos hj,if_pos hj,Array.getElem?_toList,Array.getElem?_toList,hget j (by omega),if_pos (by omega)]
   ·rw [if_neg hj,if_neg hj]
  have hpv:(putCells id 0 (flatK rwE k d.toArray) cur).all pv=true:=by
   rw [Array.all_eq_true_iff_forall_mem] at hp⊢
   intro x hx
   obtain ⟨j,hj,rfl⟩:=Array.getElem_of_mem hx
   have hj':j<cur.size:=by rw [←hsize];exact hj
   have:=hget j hj'
   rw [Array.getElem?_eq_getElem hj] at this
   split at this
   ·have hm':(putCells id 0 (flatK rwE k d.toArray) cur)[j]∈(flatK rwE k d.toArray).toList:=List.mem_of_getElem? (i:=j) (by rw [Array.getElem?_toList];exact this.symm)
    rw [flatK_list] at hm'
    exact rw_pv d _ hm'
   ·exact hp _ (Array.mem_of_getElem? this.symm)
  refine ⟨⟨fun r hr=> ?_,⟨?_, .inr ⟨g,cap,_,by rw [List.length_map,List.length_take,Nat.min_eq_left hn],Nat.zero_le _,hcell,by rw [List.length_map,List.length_take,Nat.min_eq_left hn];omega,hm,by rw [hsize];exact hs,by rw [List.length_map,List.length_take,Nat.min_eq_left hn];exact htake⟩⟩,fun b e=> ?_⟩,⟨rfl,rfl,rfl, ?_,fun j hj hne=> ?_⟩,_,hcell,hpv⟩
  ·exact rw_rows (d.take n) r hr
  ·exact flat_len (rw_rows (d.take n))
  ·injection e with e
   subst e
   refine ⟨rfl,fun cs t fr hcs=> ?_⟩
   rw [hcell] at hcs
   injection hcs with hcs
   injection hcs with e1
   subst e1
   exact hpv
  ·rw [size_grow]
   simp [putRowK,putRow,mapBlock,Sort.ahead]
  ·rw [heap_grow_old _ _ (by simp [putRowK,putRow,mapBlock,Sort.ahead];exact hj)]
   have:g≠j:=fun e=>hne (by rw [e])
   simp [putRowK,putRow,mapBlock,Sort.ahead,Array.getElem?_modify,this]
theorem turned_post {T k m:Nat} {l l':List (List Value)} {w:World} {g cap:Nat} {os:Array Obj} {d:List (Rw k)} (h:isOw cxZ T k l w (.slice (some ⟨g,0,none⟩) l.length cap)) (hd:d.map rwE=l') (hl:l'.length=l.length) {w':World} (hw:w'=grow (putRowK rwE k (Sort.ahead w m) g 0 d.toArray) os) {v:Value} (hv:v= .slice (some ⟨g,0,none⟩) l.length cap) {ans:Bool}: ∃v',(cond ans v (.tuple #[]))=cond ans v' (.tuple #[])∧isOw cxZ T k l' w' v'∧w.grownBy w' v.ownBlock∧(∀b,v.ownBlock=some b→ ∃cs,w'.heap[b]? =some (.cells cs T (0,0))∧cs.all pv=true)∧(∀b,v'.ownBlock=some b→v.ownBlock=some b)∧(ans=false→v'=v):=by
 have hdl:d.length=l.length:=by rw [←hl,←hd,List.length_map]
 subst hv hw
 obtain ⟨a1,a2,a3⟩:=ow_turned (n:=d.length) (m:=m) (os:=os) h hdl (Nat.le_refl _)
 rw [List.take_length,hd,hdl] at a1
 exact ⟨_,rfl,a1,a2,fun b e=>by injection e with e;subst e;exact a3,fun _ e=>e,fun _=>rfl⟩
theorem still_post {T k:Nat} {l:List (List Value)} {w:World} {v:Value} (h:isOw cxZ T k l w v) {ans:Bool}: ∃v',(cond ans v (.tuple #[]))=cond ans v' (.tuple #[])∧isOw cxZ T k l w v'∧w.grownBy w v.ownBlock∧(∀b,v.ownBlock=some b→ ∃cs,w.heap[b]? =some (.cells cs T (0,0))∧cs.all pv=true)∧(∀b,v'.ownBlock=some b→v.ownBlock=some b)∧(ans=false→v'=v):=
 ⟨v,rfl,h,⟨rfl,rfl,rfl,Nat.le_refl _,fun _ _ _=>rfl⟩,fun b e=>(own_blk h b e).2.2,fun _ e=>e,fun _=>rfl⟩
theorem ow_nil {T k:Nat} {w:World} {v:Value} (h:isOw cxZ T k [] w v): ∃a cap,v= .slice a 0 cap:=by
 obtain ⟨_,⟨_,h2⟩,_⟩:=h
 rcases h2 with ⟨rfl,_⟩|⟨g,cap,cur,rfl,_⟩
 ·exact ⟨none,0,rfl⟩
 ·exact ⟨_,cap,rfl⟩
noncomputable def ttRev (f:FuncId) (en:Enters Tryz.prog f) (T k:Nat) (hE: ∀(a:Option Addr) (cap:Nat) (w:World),Calls Tryz.prog f #[.slice a 0 cap] w fun e w'=>e= .returned (.tuple #[])∧w'=w)
  (hR: ∀(g cap:Nat) (d:Array (Rw k)) (w:World),HoldsK rwE k w g 0 d→d.size≤9223372036854775807→Calls Tryz.prog f #[.slice (some ⟨g,0,none⟩) d.size cap] w fun e w'=>e= .returned (.tuple #[])∧ ∃n,w'=putRowK rwE k (Sort.ahead w n) g 0 d.reverse):Tt dk:=
 ⟨f,en,T,k,false,fun l ks=>match ks with
  | []=>some (l.reverse,[])
  |_=>none,fun l ks l' ps h _ w v vs hL hv=>by
   cases ks with
   |cons k r=>cases h
   |nil=>
    injection h with h
    injection h with h1 h2
    subst h1
    cases vs with
    |cons u us=>cases hv
    |nil=>
     by_cases hne:l= []
     ·subst hne
      obtain ⟨a,cap,rfl⟩:=ow_nil hL
      refine (hE a cap w).mono fun e w' ⟨q1,q2⟩=> ?_
      subst q1 q2
      obtain ⟨v',e1,e2⟩:=still_post (ans:=false) hL
      exact ⟨v',rfl,e2⟩
     ·obtain ⟨g,cap,rfl,hn,hm,hg,d,hd,hH⟩:=holds_ow hL hne
      have hdl:d.toArray.size=l.length:=by rw [List.size_toArray,←hd,List.length_map]
      have:=hR g cap d.toArray w hH (by rw [hdl];simp only [maxLen] at hm;omega)
      rw [hdl] at this
      refine this.mono fun e w' ⟨q1,n,q2⟩=> ?_
      subst q1
      obtain ⟨v',e1,e2⟩:=turned_post (ans:=false) (m:=n) (os:= #[]) (d:=d.reverse) (l':=l.reverse) hL (by rw [List.map_reverse,hd]) (List.length_reverse ..) (w':=w') (by rw [q2,grow_empty,List.reverse_toArray]) rfl
      exact ⟨v',rfl,e2⟩⟩
section
set_option autoImplicit false
noncomputable abbrev dXt (cs:List (Ct dk)) (ts:List (Tt dk)) (fn:Func) (Res:Fk K) (p:List Nat) (H:List (Nat→Hint K)) (J:List (Sx K→Prop)) (S:Sx K):Prop:=dsc (En cs ts) fn.ntmps p H (rest fn) J (fun _=>False) (rets (En cs ts) fn Res) (fun _ _=>False) S
noncomputable abbrev dLt (cs:List (Ct dk)) (ts:List (Tt dk)) (fn:Func) (Res:Fk K) (p:List Nat) (H:List (Nat→Hint K)) (J:List (Sx K→Prop)) (S:Sx K) (h:Hint K):Prop:=dscL (En cs ts) fn.ntmps p H (rest fn) J (fun _=>False) (rets (En cs ts) fn Res) (fun _ _=>False) S h
noncomputable abbrev rXt (cs:List (Ct dk)) (ts:List (Tt dk)) (fn:Func) (h:Nat→Hint K) (r:Nat) (S:Sx K):Sx K:=rs (En cs ts) fn h r S
theorem fxt (cs:List (Ct dk)) (ts:List (Tt dk)) {f:FuncId} {fn:Func} {args:Array Value} {w:World} (hf:Tryz.prog.funcs[f]? =some fn) (hs:Nat→Hint K) (D0:DL K) (Res:Fk K) (hD:AllL (fun x:Nat×Ks K=>(k0 w x.2).p w (args.getD x.1 undef)) D0) (p:Prop) (h:p)
  (e:vc (En cs ts) fn.ntmps (rest fn) hs (ent Tryz.prog fn D0) (fun _=>False) (rets (En cs ts) fn Res) (fun _ _=>False)=p:=by kernel_rfl) (hB:entB Tryz.prog (En cs ts) fn args.size D0=true:=by kernel_rfl) (hn:npF Res=true:=by kernel_rfl):Calls Tryz.prog f args w (Ret w fun v w'=>(f0 w Res).p w' v):=
 fnX (E:=En cs ts) hf (by kernel_rfl) hs D0 Res hn hD (e.mpr h) hB
end
end Go.Proofs.YtjpilacbapibjaaGreatDoor.X
