/- One text out of: Own, DgB, DgC, DgD, DgE, DgF, DgG, DgH, DgI, DgJ, RgMore. -/
import Derived.Test.YthebilnlljkfeaaGreatDoorBNat
import Derived.Laws.AppendOwn
import Derived.OwnWalk
import Derived.Test.YthebilnlljkfeaaGreatDoorDgA
import Derived.Deep.MidRow
import Derived.Deep.DeepCutAuto
import Derived.Deep.CutBlock
import Derived.Test.YthebilnlljkfeaaGreatDoorBQuo
import Derived.Deep.RegionHeld3
import Derived.WalkMore
import Derived.Deep.LoopGhost
import Derived.Deep.AppendLies
import Derived.Test.YthebilnlljkfeaaGreatDoorBRef
import Derived.Shelf.Strings.Trim
import Derived.Laws.IdiomStrings
import Derived.Test.YthebilnlljkfeaaGreatDoorBRg
import Derived.Laws.DeepStrings4
namespace Go.Proofs.YthebilnlljkfeaaGreatDoor
open Go.RowKit
def Own (w:World) (e:TypeId) (E:Value→Prop) (v:Value) (xs:List Value):Prop:=
 (v= .slice none 0 0∧xs= [])∨ ∃g cap r,v= .slice (some ⟨g,0,none⟩) xs.length cap∧w.heap[g]? =some (.cells (xs++r).toArray e (0,0))∧(xs++r).length=cap∧cap≤maxLen∧ ∀u∈xs++r,E u
theorem Own.nil (w:World) (e:TypeId) (E:Value→Prop):Own w e E (.slice none 0 0) []:= .inl ⟨rfl,rfl⟩
def Wrote (w:World) (v:Value) (w':World) (v':Value):Prop:=w.grownBy w' v.ownBlock∧(v'.ownBlock=v.ownBlock∨ ∃g,v'.ownBlock=some g∧w.heap.size≤g)
theorem Wrote.trans {w w1 w2:World} {v v1 v2:Value} (h:Wrote w v w1 v1) (k:Wrote w1 v1 w2 v2):Wrote w v w2 v2:=by
 obtain ⟨h1,h2⟩:=h
 obtain ⟨k1,k2⟩:=k
 refine ⟨⟨k1.os.trans h1.os,k1.tape.trans h1.tape,k1.output.trans h1.output,Nat.le_trans h1.size k1.size,fun i hi hne=> ?_⟩, ?_⟩
 ·refine (k1.block i (Nat.lt_of_lt_of_le hi h1.size) fun e=> ?_).trans (h1.block i hi hne)
  rcases h2 with h2|⟨g,h2,hg⟩
  ·exact hne (e.trans h2)
  ·rw [h2] at e
   injection e with e
   omega
 ·rcases k2 with k2|⟨g,k2,hg⟩
  ·rcases h2 with h2|⟨g,h2,hg⟩
   ·exact .inl (k2.trans h2)
   ·exact .inr ⟨g,k2.trans h2,hg⟩
  ·exact .inr ⟨g,k2,Nat.le_trans h1.size hg⟩
theorem Wrote.of_grow {w w':World} (v:Value) (h:Grow w w'):Wrote w v w' v:=⟨⟨h.os,h.tape,h.output,h.size,fun i hi _=>h.block i hi⟩, .inl rfl⟩
theorem Wrote.grow {w w':World} {n c:Nat} {v':Value} (h:Wrote w (.slice none n c) w' v'):Grow w w':=⟨h.1.os,h.1.tape,h.1.output,h.1.size,fun i hi=>h.1.block i hi (by simp [Value.ownBlock])⟩
theorem Wrote.pre {w w1 w2:World} {v v2:Value} (h:Grow w w1) (k:Wrote w1 v w2 v2):Wrote w v w2 v2:=(Wrote.of_grow v h).trans k
theorem Wrote.size {w w':World} {v v':Value} (h:Wrote w v w' v'):w.heap.size≤w'.heap.size:=h.1.size
theorem Wrote.cell {w w':World} {e:TypeId} {E:Value→Prop} {v v':Value} {xs:List Value} (h:Wrote w v w' v') (ho:Own w e E v xs) {p:Addr} {u:Value} (hp:w.cell? p=some u) (hu: ¬E u):w'.cell? p=some u:=by
 have hlt:=lt_of_cell' hp
 refine (World.cell?_of_block (h.1.block p.block hlt fun hb=> ?_)).trans hp
 rcases ho with ⟨rfl,_⟩|⟨g,cap,r,rfl,hg,_,_,hE⟩
 ·cases hb
 ·simp only [Value.ownBlock,Option.some.injEq] at hb
  unfold World.cell? at hp
  rw [hb,hg] at hp
  simp only at hp
  refine hu (hE u ?_)
  split at hp
  ·cases hp
  ·simpa using Array.mem_of_getElem? hp
theorem Own.grow {w w':World} {e:TypeId} {E:Value→Prop} {v:Value} {xs:List Value} (h:Own w e E v xs) (k:Grow w w'):Own w' e E v xs:=by
 rcases h with h|⟨g,cap,r,h1,h2,h3⟩
 ·exact .inl h
 ·exact .inr ⟨g,cap,r,h1,(k.block g (Array.getElem?_eq_some_iff.1 h2).1).trans h2,h3⟩
theorem Own.len {w:World} {e:TypeId} {E:Value→Prop} {v:Value} {xs:List Value} (h:Own w e E v xs): ∃A c,v= .slice A xs.length c∧xs.length≤c∧xs.length≤maxLen:=by
 rcases h with ⟨h,rfl⟩|⟨g,cap,r,h1,h2,h3,h4,_⟩
 ·exact ⟨_,_,h,Nat.zero_le _,Nat.zero_le _⟩
 ·rw [List.length_append] at h3
  exact ⟨_,_,h1,by omega,by omega⟩
theorem Own.cells {w:World} {e:TypeId} {E:Value→Prop} {v:Value} {xs:List Value} (h:Own w e E v xs) (hn:xs≠ []): ∃g c,v= .slice (some ⟨g,0,none⟩) xs.length c∧xs.length≤c∧ ∀j u,xs[j]? =some u→w.cell? ⟨g,j,none⟩=some u:=by
 rcases h with ⟨_,rfl⟩|⟨g,cap,r,h1,h2,h3,h4,_⟩
 ·exact absurd rfl hn
 ·rw [List.length_append] at h3
  refine ⟨g,cap,h1,by omega,fun j u hj=> ?_⟩
  rw [cell_of_row w g j _ _ _ h2]
  have:=(List.getElem?_eq_some_iff.1 hj).1
  simp [List.getElem?_append_left this,hj]
theorem zero_mem {z u:Value} {n:Nat} (h:u∈(Builtin.zeroCells #[z] n).toList):u=z:=by
 simp [Builtin.zeroCells,Nat.mod_one] at h
 exact h.2.symm
theorem own_append {P:Program} {w:World} (t ty e:TypeId) (i:TypeInfo) (z:Value) (bytes:Nat) (ht:P.underlying t=some (.slice e)) (hi:P.info? e=some i) (hz:i.zero=some z) (hs:i.size=1) (hby:i.bytes=bytes) {z0:Value} (hz1:z.cells= #[z0])
  {E:Value→Prop} (hE0:E z0) (hE1: ∀u,E u→u.oneCell'=true) {v:Value} {xs:List Value} (h:Own w e E v xs) (a:Addr) (m c:Nat) (news:List Value) (hm:news.length=m) (hm0:0<m)
  (hnews: ∀j u,news[j]? =some u→w.cell? (a.add j)=some u) (hEn: ∀u∈news,E u) (hb:(xs.length+m)*bytes≤140737488355328) (h63:xs.length+m≤maxLen):
  ∃v' w',(Builtin.append_ #[t,t] ty #[v, .slice (some a) m c]).run P w= .ok v' w'∧Own w' e E v' (xs++news)∧Wrote w v w' v':=by
 subst hby
 have h64:xs.length+m≤9223372036854775807:=by simp only [maxLen] at h63;omega
 rcases h with ⟨rfl,rfl⟩|⟨g,cap,r,rfl,hg,hcap,hmax,hE⟩
 ·have hr:=run_append_nil (P:=P) w t ty e i z ht hi hz a m c news (by rw [hs,Nat.mul_one];exact hm) hnews hm0 (by simp at h64;omega) (by simp at hb;omega)
  have hge:=grownCap_ge w m 0 e
  refine ⟨_,_,hr, .inr ⟨w.heap.size,_,(Builtin.zeroCells z.cells (grownCap w m 0 e-m)).toList,by rw [List.nil_append,hm], ?_, ?_,grownCap_le_maxLen w m 0 e (by simpa using h63), ?_⟩,⟨rfl,rfl,rfl,by simp,fun k hk _=>Go.heap_alloc_old w.drew _ hk⟩, .inr ⟨w.heap.size,rfl,Nat.le_refl _⟩⟩
  ·refine (heap_alloc_new w.drew _).trans ?_
   simp
  ·simp only [List.nil_append,List.length_append,Array.length_toList,size_zeroCells,hz1,hm,List.size_toArray,List.length_cons,List.length_nil]
   omega
  ·intro u hu
   rw [List.nil_append] at hu
   rcases List.mem_append.1 hu with hu|hu
   ·exact hEn u hu
   ·rw [hz1] at hu
    rw [zero_mem hu]
    exact hE0
 ·by_cases hroom:xs.length+m≤cap
  ·have hr:=run_append_room (P:=P) w t ty e i ht hi g xs.length cap _ hg a m c news (by rw [hs,Nat.mul_one];exact hm) hnews (fun u hu=>hE1 u (hEn u hu)) hroom (by simp only [List.size_toArray,hcap,hs,Nat.mul_one,hm];exact hroom)
   refine ⟨_,_,hr, .inr ⟨g,cap,r.drop m,by rw [List.length_append,hm], ?_, ?_,hmax, ?_⟩,⟨rfl,rfl,rfl,by simp,fun k _ hk=>setRow_other w g k _ (fun e=>hk (by simp [Value.ownBlock,e]))⟩, .inl rfl⟩
   ·rw [setRow_heap w g _ _ e _ hg,hs,Nat.mul_one,hm]
    simp [List.drop_append]
   ·simp only [List.length_append,List.length_drop] at hcap⊢
    omega
   ·intro u hu
    rcases List.mem_append.1 hu with hu|hu
    ·rcases List.mem_append.1 hu with hu|hu
     ·exact hE u (List.mem_append_left _ hu)
     ·exact hEn u hu
    ·exact hE u (List.mem_append_right _ (List.mem_of_mem_drop hu))
  ·have hr:=run_append_grow (P:=P) w t ty e i z ht hi hz ⟨g,0,none⟩ xs.length cap xs (by rw [hs,Nat.mul_one]) (fun j u hj=>by
    rw [Addr.add_lit,Nat.zero_add,cell_of_row w g j _ _ _ hg]
    have:=(List.getElem?_eq_some_iff.1 hj).1
    simp [List.getElem?_append_left this,hj]) a m c news (by rw [hs,Nat.mul_one];exact hm) hnews (by omega) (by omega) (growslice_fits (by omega) hb)
   have hge:=grownCap_ge w (xs.length+m) cap e
   refine ⟨_,_,hr, .inr ⟨w.heap.size,_,(Builtin.zeroCells z.cells (grownCap w (xs.length+m) cap e-(xs.length+m))).toList,by rw [List.length_append,hm], ?_, ?_,grownCap_le_maxLen w _ cap e h63, ?_⟩,⟨rfl,rfl,rfl,by simp,fun k hk _=>Go.heap_alloc_old w.drew _ hk⟩, .inr ⟨w.heap.size,rfl,Nat.le_refl _⟩⟩
   ·refine (heap_alloc_new w.drew _).trans ?_
    simp
   ·simp only [List.length_append,Array.length_toList,size_zeroCells,hz1,hm,List.size_toArray,List.length_cons,List.length_nil]
    omega
   ·intro u hu
    rcases List.mem_append.1 hu with hu|hu
    ·rcases List.mem_append.1 hu with hu|hu
     ·exact hE u (List.mem_append_left _ hu)
     ·exact hEn u hu
    ·rw [hz1] at hu
     rw [zero_mem hu]
     exact hE0
theorem wpList_own_append {P:Program} {w:World} {ops:Array Oper} {rest:List Oper} {o:Oper} {a:Act} {Q:Exit→Act→World→Prop} (hgd:o.guard=none) (s x:Operand) (t:TypeId)
  (ho:o.op= .call {callee:= .builtin .append,args:= #[s,x],argTypes:= #[t,t]}) (e:TypeId) (i:TypeInfo) (z:Value) (bytes:Nat) (ht:P.underlying t=some (.slice e)) (hi:P.info? e=some i) (hz:i.zero=some z) (hs:i.size=1) (hby:i.bytes=bytes) {z0:Value} (hz1:z.cells= #[z0])
  {E:Value→Prop} (hE0:E z0) (hE1: ∀u,E u→u.oneCell'=true) {v:Value} {xs:List Value} (hv:a.eval s=v) (h:Own w e E v xs) (ad:Addr) (m c:Nat) (news:List Value) (hx:a.eval x= .slice (some ad) m c) (hm:news.length=m) (hm0:0<m)
  (hnews: ∀j u,news[j]? =some u→w.cell? (ad.add j)=some u) (hEn: ∀u∈news,E u) (hb:(xs.length+m)*bytes≤140737488355328) (h63:xs.length+m≤maxLen)
  (hk: ∀v' w',Own w' e E v' (xs++news)→Wrote w v w' v'→wpList P ops Q rest (a.put o.dst v') w'):wpList P ops Q (o::rest) a w:=
 wpList_plain hgd fun _ hK=>by
  obtain ⟨v',w',hr,h2,h3⟩:=own_append (P:=P) t o.type e i z bytes ht hi hz hs hby hz1 hE0 hE1 h ad m c news hm hm0 hnews hEn hb h63
  unfold Oper.wp execOp
  simp only [ho,resolve,invoke,builtin,Sem.run_bind,Sem.run_pure,Result.andThen_ok,List.map_toArray,List.map_cons,List.map_nil,hv,hx,hr]
  exact hK _ _ (hk v' w' h2 h3)
end Go.Proofs.YthebilnlljkfeaaGreatDoor
namespace Go.Proofs.YthebilnlljkfeaaGreatDoor
open Go.RowKit
def bvals (l:List UInt8):List Value:=l.map fun b=>Value.int .u8 ((b.toNat:Nat):Int)
theorem bvals_length (l:List UInt8):(bvals l).length=l.length:=by simp [bvals]
def BlkB (w:World) (g:Nat) (l:List UInt8):Prop:=w.heap[g]? =some (.cells (bvals l).toArray 136 (0,0))
theorem BlkB.lt {w:World} {g:Nat} {l:List UInt8} (h:BlkB w g l):g<w.heap.size:=lt_of_heap h
theorem BlkB.cell {w:World} {g:Nat} {l:List UInt8} (h:BlkB w g l) {i:Nat} (hi:i<l.length):w.cell? ⟨g,i,none⟩=some (.int .u8 (((l.getD i 0).toNat:Nat):Int)):=by
 rw [cell_of_row w g i _ _ _ h]
 simp [bvals,List.getElem?_eq_getElem hi]
theorem BlkB.frozen {w:World} {g:Nat} {l:List UInt8} (h:BlkB w g l) (i:Nat):w.frozen? ⟨g,i,none⟩=false:=by
 unfold BlkB at h
 simp [World.frozen?,h]
theorem BlkB.set {w:World} {g:Nat} {l:List UInt8} (h:BlkB w g l) (i:Nat) (b:UInt8):BlkB (w.setCell ⟨g,i,none⟩ (.int .u8 ((b.toNat:Nat):Int))) g (l.set i b):=by
 unfold BlkB at h⊢
 simp [World.setCell,Array.getElem?_modify,h,bvals,List.map_set]
theorem bvals_one (l:List UInt8): ∀v∈bvals l,v.oneCell'=true:=by
 intro v hv
 unfold bvals at hv
 obtain ⟨b,_,rfl⟩:=List.mem_map.1 hv
 rfl
theorem BlkB.range {w:World} {g:Nat} {l:List UInt8} (h:BlkB w g l):w.rangeAt g 0 (bvals l):=fun j v hv=>by
 rw [Nat.zero_add,cell_of_row w g j _ _ _ h]
 simpa using hv
theorem BlkB.there {w:World} {g:Nat} {l:List UInt8} (h:BlkB w g l):w.there g 0 l.length:=fun j hj=>
 ⟨by rw [Nat.zero_add,h.cell hj];rfl,h.frozen _⟩
theorem BlkB.grow {w w':World} {g:Nat} {l:List UInt8} (h:BlkB w g l) (k:Grow w w'):BlkB w' g l:=(k.block g h.lt).trans h
theorem BlkB.far {w:World} {g:Nat} {l:List UInt8} (h:BlkB w g l) {p:Addr} (hp:g≠p.block) (u:Value):BlkB (w.setCell p u) g l:=(Below.heap_setCell w p u g hp).trans h
theorem BlkB.new (w:World):BlkB (w.alloc (Obj.cells #[.int .u8 0, .int .u8 0, .int .u8 0, .int .u8 0, .int .u8 0, .int .u8 0, .int .u8 0, .int .u8 0, .int .u8 0, .int .u8 0, .int .u8 0, .int .u8 0, .int .u8 0, .int .u8 0, .int .u8 0, .int .u8 0, .int .u8 0, .int .u8 0, .int .u8 0] 136)) w.heap.size (List.replicate 19 0):=heap_alloc_new w _
theorem info19:(Tryz.prog.info? 136).map (·.size)=some 19:=by kernel_rfl
theorem results_cell_mid {P:Program} {fn:Func} {p:Tmp} {ty:TypeId} (h:fn.results= #[.cell p ty]) (tmps:Array Value) (w:World) (g o:Nat) (cs:List Value) (d:TypeDesc)
  (hp:tmps.getD p undef= .pointer (some ⟨g,o,none⟩)) (hg:w.rangeAt g o cs)
  (hu:P.underlying ty=some d) (hd:d.isRow=true) (hi:(P.info? ty).map (·.size)=some cs.length):
  (results fn tmps).run P w= .ok (.agg cs.toArray) w:=by
 have hp':tmps[p]?.getD undef= .pointer (some ⟨g,o,none⟩):=by simpa using hp
 simp [results,h,hp',asAddr,run_loadVar_mid w g o ty cs d hg hu hd hi]
theorem Grow.setCells {a:World} {p:Nat} (hp:a.heap.size≤p): ∀(vs:List Value) (o:Nat) (w:World),Grow a w→Grow a (w.setCells p o vs)
 | [],_,_,h=>h
 |v::r,o,w,h=>by rw [World.setCells];exact Grow.setCells hp r _ _ (h.setCell hp v)
theorem dgt_set (x k:Nat) (r:List UInt8):(List.replicate (k+1) 0++r).set k (UInt8.ofNat (48+x%10))=List.replicate k 0++UInt8.ofNat (48+x%10)::r:=by
 rw [List.replicate_succ',List.append_assoc,List.set_append_right _ _ (by simp)]
 simp
theorem dgt_step (n j:Nat):UInt8.ofNat (48+n/10^j%10)::Tx.dgt j n=Tx.dgt (j+1) n:=by
 rw [Nat.add_comm j 1,Tx.dgt_add]
 rfl
set_option maxHeartbeats 1000000 in
theorem group_any (w:World) (v:Value) (n:Nat) (hn:n<10^19) (h:IsNat w v n):
  Calls Tryz.prog 95 #[v] w (Ret w fun v' _=>v'= .agg (bvals (Tx.dgt 19 n)).toArray):=by
 have hnB:n<Mx.B:=Nat.lt_of_lt_of_le hn (by rw [Mx.B_eq];decide)
 have hlen:Mx.len n≤1:=by
  have:=len_one hnB
  rwa [Mx.val_one] at this
 have HZ:=Lib.hid (fun W (g:Grow w W)=>zero_any W v n (h.grow g))
 have HL:=Lib.hid (fun W (g:Grow w W)=>limbs_any W v n (by omega) (h.grow g))
 obtain ⟨z,hz⟩: ∃z:Bool,(n==0)=z:=⟨_,rfl⟩
 rw [hz] at HZ
 have HZZ:=Lib.hid hz
 clear hz
 obtain ⟨A,c,rfl,hc,hl⟩:=h
 clear hc hl
 go_enter Tryz.func95,Tryz.ntmps95
 go_wp2_with fail
 refine (HZ.out _ (((Grow.refl w).alloc _).alloc _)).mono ?_
 rintro e w1 ⟨v1,rfl,rfl,hg⟩
 have c0:w1.cell? ⟨w.heap.size,0,none⟩=some (.slice A (Mx.len n) c):=(hg.cell (p:=⟨w.heap.size,0,none⟩) (by show w.heap.size<_;simp;omega)).trans (by simp [go_sem])
 have hb1:BlkB w1 (w.heap.size+1) (List.replicate 19 0):=by
  have:=BlkB.new (w.alloc (Obj.cells #[Value.slice A (Mx.len n) c] 24))
  rw [World.size_alloc] at this
  exact this.grow hg
 have gw1:Grow w w1:=(((Grow.refl w).alloc _).alloc _).trans hg
 clear hg HZ
 go_upto_if 8 with fail
 go_cut [3] (fun s3 W=>s3= .int .u64 (n:Int)∧Grow w W∧BlkB W (w.heap.size+1) (List.replicate 19 0))
 case first=>
  cases z with
  |true=>
   clear HL
   go_wp2_with fail
   go_meet
   have h0:n=0:=by simpa using HZZ.out
   exact ⟨by rw [h0];rfl,gw1,hb1⟩
  |false=>
   have h0:n≠0:=by simpa using HZZ.out
   have hlm:Mx.limbs n= [n]:=by
    rw [Mx.limbs_pos n h0,Nat.mod_eq_of_lt hnB,Nat.div_eq_of_lt hnB];rfl
   clear h0
   go_wp2_with fail
   refine (HL.out w1 gw1).mono ?_
   rintro e w2 ⟨v2,rfl,hf⟩
   rw [hlm] at hf
   have hsl:=hf.sl (by intro x hx;simp at hx;rw [hx];exact hnB)
   obtain ⟨_,_,_,_,hgf⟩:=hf
   have g2:Grow w w2:=gw1.trans hgf
   have hb2:=hb1.grow hgf
   obtain ⟨A2,c2,rfl,hc2,_,hcells⟩:=hsl
   obtain ⟨b2,o2,rfl,hb2l,hcell⟩:=hcells.at (by simp)
   have hx:=hcell 0 (by simp)
   simp at hx
   clear hcells hcell HL hlm c0 hb1 gw1 hgf
   go_wp2_with fail
   go_meet
   exact ⟨rfl,g2,hb2⟩
 case rest=>
  clear c0 hb1 gw1 HL hlen
  obtain ⟨rfl,gw,hb⟩:=hcut
  obtain ⟨w2,rfl⟩: ∃x,x=wc:=⟨wc,rfl⟩
  have hgb:=hb.lt
  go_wp2_with fail
  go_loopw [3,5] (fun lv iv wr=> ∃j:Nat,j≤19∧iv= .int .i64 (18-(j:Int))∧lv= .int .u64 ((n/10^j:Nat):Int)∧Grow w wr∧BlkB wr (w.heap.size+1) (List.replicate 19 0)∧BlkB wr w2.heap.size (List.replicate (19-j) 0++Tx.dgt j n)) (fun _ iv _=>(intOf iv+1).toNat)
  case atStart=>exact ⟨0,by omega,rfl,by simp,gw.alloc _,hb.grow ((Grow.refl _).alloc _),by simpa [Tx.dgt] using BlkB.new w2⟩
  case round=>
   obtain ⟨j,hj,rfl,rfl,hg,hbr,hbd⟩:=hrel
   by_cases hlt:j<19
   ·obtain ⟨k,hk⟩: ∃k,19-j=k+1:=⟨18-j,by omega⟩
    have hkk:(18:Int) -(j:Int)=(k:Int):=by omega
    rw [hk] at hbd
    rw [hkk]
    have hcell:=hbd.cell (i:=k) (by simp;omega)
    have hfz:=hbd.frozen k
    have hset:=hbd.set k (UInt8.ofNat (48+n/10^j%10))
    rw [dgt_set,dgt_step,Tx.digit_toNat] at hset
    have hle:n/10^j<Mx.B:=Nat.lt_of_le_of_lt (Nat.div_le_self _ _) hnB
    have hnx:n/10^(j+1)=n/10^j/10:=by rw [Nat.pow_succ,Nat.div_div_eq_div_mul]
    have HS:=Lib.hid hset
    have HN:=Lib.hid hnx
    clear hset hnx
    generalize n/10^j=x at*
    generalize (List.replicate (k+1) 0++Tx.dgt j n).getD k 0=old at*
    have hk18:k<19:=by omega
    have e1:((x:Int)%10)%256=((x%10:Nat):Int):=by omega
    go_wp2_with fail
    have e2:(48:Int)+(x:Int)%10=((48+x%10:Nat):Int):=by omega
    have e3:IntKind.u64.wrap ((x:Int)/10)=((x/10:Nat):Int):=by rw [IntKind.wrap_u64];rw [Mx.B_eq] at hle;omega
    rw [e2,e3]
    refine ⟨⟨j+1,by omega, ?_,by rw [HN.out],hg.setCell (by show w.heap.size≤w2.heap.size;omega) _,hbr.far (by show w.heap.size+1≠w2.heap.size;omega) _, ?_⟩,by simp only [intOf];omega⟩
    ·congr 1;omega
    ·have e4:19-(j+1)=k:=by omega
     rw [e4]
     exact HS.out
   ·have e:j=19:=by omega
    subst e
    rw [Nat.sub_self,List.replicate_zero,List.nil_append] at hbd
    have hneg:((18:Int) -(19:Nat))= -1:=by omega
    rw [hneg]
    have hsz:(bvals (Tx.dgt 19 n)).length=19:=by rw [bvals_length,Tx.dgt_length]
    have hraw:wr.heap[w2.heap.size]? =some (.cells (bvals (Tx.dgt 19 n)).toArray 136 (0,0)):=hbd
    have H1:=Lib.hid hraw
    have H2:=Lib.hid hbr
    clear hbd hbr hraw
    have hi19:(Tryz.prog.info? 136).map (·.size)=some (bvals (Tx.dgt 19 n)).toArray.size:=by rw [info19];simp [hsz]
    have hth:wr.there (w.heap.size+1) 0 (bvals (Tx.dgt 19 n)).toArray.size:=by
     have:=H2.out.there
     rw [List.length_replicate] at this
     simpa [hsz] using this
    have h1c:(bvals (Tx.dgt 19 n)).toArray.all (·.oneCell')=true:=all_oneCell_toArray (bvals_one _)
    have hend:(wr.setCells (w.heap.size+1) 0 (bvals (Tx.dgt 19 n))).rangeAt (w.heap.size+1) 0 (bvals (Tx.dgt 19 n)):=World.rangeAt_setCells_same _ _ _ _ (by simpa using hth)
    have HI:=Lib.hid hi19
    have HT:=Lib.hid hth
    have HE:=Lib.hid hend
    have HC:=Lib.hid h1c
    clear hi19 hth hend h1c
    have H3:=Lib.hid hsz
    clear hsz
    generalize hcs:bvals (Tx.dgt 19 n)=cs at*
    have HCS:=Lib.hid hcs
    clear hcs
    go_upto_region 10 with fail
    go_wp2_with (first|(refine wpList_load_row rfl 136 _ rfl w2.heap.size rfl _ _ _ _ H1.out Tryz.underlying136 rfl HI.out ?_)|(refine wpList_store_mid rfl 136 _ _ rfl (w.heap.size+1) 0 cs.toArray rfl rfl HT.out HI.out HC.out ?_))
    refine bodyPost_ret (v:= .agg cs.toArray) (results_cell_mid rfl _ _ (w.heap.size+1) 0 cs _ rfl HE.out Tryz.underlying136 rfl (by rw [info19,H3.out])) rfl ?_
    exact Ret.mk (by rw [HCS.out]) (Grow.setCells (Nat.le_succ _) _ _ _ hg)
end Go.Proofs.YthebilnlljkfeaaGreatDoor
namespace Go.Proofs.YthebilnlljkfeaaGreatDoor
open Go.RowKit
set_option maxRecDepth 20000
def isB (u:Value):Prop:= ∃x,u= .int .u8 x
def isS (u:Value):Prop:= ∃A n c,u= .slice A n c
theorem isB_u64 (x:Int): ¬isB (.int .u64 x):=by rintro ⟨y,h⟩;cases h
theorem isB_slice (A:Option Addr) (n c:Nat): ¬isB (.slice A n c):=by rintro ⟨y,h⟩;cases h
theorem isS_u64 (x:Int): ¬isS (.int .u64 x):=by rintro ⟨A,n,c,h⟩;cases h
abbrev Tex (w:World) (v:Value) (l:List UInt8):Prop:=Own w 5 isB v (bvals l)
theorem cells_wrote {E:Value→Prop} {e:TypeId} {w w':World} {v v':Value} {xs:List Value} {A:Option Addr} {l:List Nat} (h:Cells w A l) (k:Wrote w v w' v') (ho:Own w e E v xs) (hE: ∀x,¬E (.int .u64 x)):Cells w' A l:=fun hn=>by
 obtain ⟨b,o,rfl,hb,hc⟩:=h hn
 exact ⟨b,o,rfl,Nat.lt_of_lt_of_le hb k.size,fun j x hx=>k.cell ho (hc j x hx) (hE _)⟩
theorem IsNat.wrote {E:Value→Prop} {e:TypeId} {w w':World} {v v' u:Value} {xs:List Value} {n:Nat} (h:IsNat w u n) (k:Wrote w v w' v') (ho:Own w e E v xs) (hE: ∀x,¬E (.int .u64 x)):IsNat w' u n:=by
 obtain ⟨A,c,e1,hc,hl⟩:=h
 exact ⟨A,c,e1,hc,cells_wrote hl k ho hE⟩
theorem IsN.wrote {E:Value→Prop} {e:TypeId} {w w':World} {v v' u:Value} {xs:List Value} {n b:Nat} (h:IsN w u n b) (k:Wrote w v w' v') (ho:Own w e E v xs) (hE: ∀x,¬E (.int .u64 x)):IsN w' u n b:=⟨h.1.wrote k ho hE,h.2⟩
def cutAt (j:Nat):Nat:=10^(19*2^j)
theorem cutAt_pos (j:Nat):0<cutAt j:=Nat.pow_pos (by decide)
theorem cutAt_sq (j:Nat):cutAt (j+1)=cutAt j*cutAt j:=by
 unfold cutAt
 rw [←Nat.pow_add]
 congr 1
 rw [Nat.pow_succ]
 omega
def Cuts (w:World) (v:Value) (k b:Nat):Prop:= ∃A c,v= .slice A k c∧k≤c∧(k≠0→ ∃g o,A=some ⟨g,o,none⟩∧ ∀j,j<k→ ∃A' l' c',w.cell? ⟨g,o+j,none⟩=some (.slice A' l' c')∧IsN w (.agg #[.slice A' l' c']) (cutAt j) b)
theorem Cuts.grow {w w':World} {v:Value} {k b:Nat} (h:Cuts w v k b) (g:Grow w w'):Cuts w' v k b:=by
 obtain ⟨A,c,e,hc,h⟩:=h
 refine ⟨A,c,e,hc,fun hk=> ?_⟩
 obtain ⟨g',o,e',h⟩:=h hk
 refine ⟨g',o,e',fun j hj=> ?_⟩
 obtain ⟨A',l',c',h1,h2⟩:=h j hj
 exact ⟨A',l',c',g.cells1 h1,h2.grow g⟩
theorem Cuts.wrote {w w':World} {v v' u:Value} {xs:List Value} {k b:Nat} (h:Cuts w u k b) (g:Wrote w v w' v') (ho:Own w 5 isB v xs):Cuts w' u k b:=by
 obtain ⟨A,c,e,hc,h⟩:=h
 refine ⟨A,c,e,hc,fun hk=> ?_⟩
 obtain ⟨g',o,e',h⟩:=h hk
 refine ⟨g',o,e',fun j hj=> ?_⟩
 obtain ⟨A',l',c',h1,h2⟩:=h j hj
 exact ⟨A',l',c',g.cell ho h1 (isB_slice _ _ _),h2.wrote g ho isB_u64⟩
theorem Cuts.init {w:World} {A:Option Addr} {k c b:Nat} (h:Cuts w (.slice A (k+1) c) (k+1) b):Cuts w (.slice A k c) k b:=by
 obtain ⟨A,c,e,hc,h⟩:=h
 injection e with e1 e2 e3
 subst e1 e3
 refine ⟨_,_,rfl,by omega,fun _=> ?_⟩
 obtain ⟨g',o,e',h⟩:=h (by omega)
 exact ⟨g',o,e',fun j hj=>h j (by omega)⟩
namespace Rg
section
variable {ops:Array Oper} {Q:Exit→Act→World→Prop} {F:Facts} {a0:Act} {w0:World}
theorem idxNat {i d x y g o L C j:Nat} (dx:depI ops i x=true) (dy:depI ops i y=true) (hx: ∀w v,F x w v→v= .slice (some ⟨g,o,none⟩) L C) (hy: ∀w v,F y w v→v= .int .i64 (j:Int)) (hj:j<L)
  (hF: ∀w v,v= .pointer (some ⟨g,o+j,none⟩)→F d w v):Owes Tryz.prog ops Q F a0 w0 i (some d) (.indexAddr 105 (.tmp x) (.tmp y)):=
 fun o' a w ho hd hg ha D=>valOf (v:= .pointer (some ⟨g,o+j,none⟩)) (w':=w) (by
  have e:a.tmps.getD x undef= .slice (some ⟨g,o,none⟩) L C:=hx _ _ (D x dx)
  have e2:a.tmps.getD y undef= .int .i64 (j:Int):=hy _ _ (D y dy)
  simp only [Array.getD_eq_getD_getElem?] at e e2
  have h1:(j:Int)<(L:Int):=by omega
  simp [execOp,ho,go_sem,Act.eval,e,e2,h1]) hd (hF _ _ rfl) (Grow.refl w)
theorem loadNatAt {i d x:Nat} {b:Addr} {A:Option Addr} {L C n k:Nat} (dx:depI ops i x=true) (hx: ∀w v,F x w v→v= .pointer (some b)) (hc:w0.cell? b=some (.slice A L C)) (hN:IsN w0 (.agg #[.slice A L C]) n k)
  (hF: ∀w v,IsN w v n k→F d w v):Owes Tryz.prog ops Q F a0 w0 i (some d) (.load 24 (.tmp x)):=
 fun o a w ho hd hg ha D=>valOf (v:= .agg #[.slice A L C]) (w':=w) (by
  have e:a.eval (.tmp x)= .pointer (some b):=hx _ _ (D x dx)
  simp only [execOp,ho,e,Sem.run_bind,load_nat w b A L C (hg.cells1 hc)]
  rfl) hd (hF _ _ (hN.grow hg)) (Grow.refl w)
end
end Rg
noncomputable def writeOps5:Array Oper:=Rg.regionOps Tryz.f69 5
def writeF (n m q s b g o k c:Nat):Rg.Facts:=fun d w v=>
 match d with
 |24=>IsN w v n b
 |25=>v= .slice (some ⟨g,o,none⟩) (k+1) c
 |26=>v= .int .i64 (k:Int)
 |27=>v= .pointer (some ⟨g,o+k,none⟩)
 |28=>IsN w v m b
 |29=>IsQR w v q s b b
 |23=>IsQR w v q s b b
 |30=>IsN w v q b
 |31=>IsN w v s b
 |32=>v= .int .i64 0
 |11=>v= .int .i64 0
 |_=>True
set_option maxRecDepth 100000 in
set_option maxHeartbeats 1000000 in
theorem write_region5 {Q:Exit→Act→World→Prop} {a0:Act} {w0:World} {n m q s b g o k c:Nat} {p4:Addr} {A4 A5:Option Addr} {l4 c4 l5 c5:Nat} (hn:a0.tmps.size=44)
  (h4:a0.tmps.getD 4 undef= .pointer (some p4)) (h2:a0.tmps.getD 2 undef= .slice (some ⟨g,o,none⟩) (k+1) c) (h8:a0.tmps.getD 8 undef= .int .i64 (k:Int))
  (k4:w0.cell? p4=some (.slice A4 l4 c4)) (n4:IsN w0 (.agg #[.slice A4 l4 c4]) n b) (k5:w0.cell? ⟨g,o+k,none⟩=some (.slice A5 l5 c5)) (n5:IsN w0 (.agg #[.slice A5 l5 c5]) m b)
  (hb:b≤1073741824) (hm:m≠0) (hq:n/m=q) (hs:n%m=s)
  (fin: ∀f w i j,Grow w0 w→f 9= .pointer (some ⟨i,0,none⟩)→f 10= .pointer (some ⟨j,0,none⟩)→VarN w i q b→VarN w j s b→Q .normal (Rg.puts f [24,25,26,27,28,29,23,30,31,32,9,10,11] a0) w):
  (Code.region 5 writeOps5 true).wp Tryz.prog Q a0 w0:=by
 refine Rg.region4 (n:=44) (F:=fun d _ w v=>writeF n m q s b g o k c d w v) ⟨[(10,9),(11,10)],[(12,9,30),(13,10,31)],[]⟩ [] [] [24,25,26,27,28,29,23,30,31,32,9,10,11] (by kernel_rfl) hn (by kernel_rfl) (by kernel_rfl) (by kernel_rfl) (by kernel_rfl) ?_ ?_ ?_ ?_ (by intro p hp;cases hp) (by intro p q hp;cases hp)
  (fun i hi hna hns=> ?_) ?_
 ·intro d f w w' v h hg
  unfold writeF at h⊢
  split at h<;>first|exact h|exact h.grow hg
 ·intro d f f' w v h _
  exact h
 ·intro d f w v k A l c A' l' c' h hc
  unfold writeF at h⊢
  split at h<;>first|exact h|exact h.store hc _
 ·intro i p z hz f w v h
  simp only [List.mem_cons,Prod.mk.injEq,List.not_mem_nil,or_false] at hz
  rcases hz with ⟨rfl,rfl,rfl⟩|⟨rfl,rfl,rfl⟩
  ·exact IsN.cell (n:=q) (k:=b) h
  ·exact IsN.cell (n:=s) (k:=b) h
 ·have hal: ∀d,(([(10,9),(11,10)]:List (Nat×Nat)).map (·.2)).contains d=true→ ∀w v,writeF n m q s b g o k c d w v:=by
   intro d hd w v
   have:d=9∨d=10:=by simpa using hd
   rcases this with rfl|rfl<;>trivial
  have hi15:i<15:=Nat.lt_of_lt_of_eq hi (by kernel_rfl)
  match i,hi15 with
  |0,_=>exact Rg.step4N (F:=writeF n m q s b g o k c) (by kernel_rfl) hal (Rg.loadNat (d:=24) (p:=4) h4 (by kernel_rfl) k4 n4 (fun _ _ h=>h))
  |1,_=>exact Rg.step4N (F:=writeF n m q s b g o k c) (by kernel_rfl) hal (Rg.move (d:=25) (x:= .tmp 2) fun a w hg ha D=>(ha.2.2 2 (by kernel_rfl)).trans h2)
  |2,_=>exact Rg.step4N (F:=writeF n m q s b g o k c) (by kernel_rfl) hal (Rg.move (d:=26) (x:= .tmp 8) fun a w hg ha D=>(ha.2.2 8 (by kernel_rfl)).trans h8)
  |3,_=>exact Rg.step4N (F:=writeF n m q s b g o k c) (by kernel_rfl) hal (Rg.idxNat (d:=27) (x:=25) (y:=26) (g:=g) (o:=o) (L:=k+1) (C:=c) (j:=k) (by kernel_rfl) (by kernel_rfl) (fun _ _ h=>h) (fun _ _ h=>h) (by omega) (fun _ _ h=>h))
  |4,_=>exact Rg.step4N (F:=writeF n m q s b g o k c) (by kernel_rfl) hal (Rg.loadNatAt (d:=28) (x:=27) (by kernel_rfl) (fun _ _ h=>h) k5 n5 (fun _ _ h=>h))
  |5,_=>exact Rg.step4N (F:=writeF n m q s b g o k c) (by kernel_rfl) hal (Rg.callDiv (d:=29) (x:=24) (y:=28) (n:=n) (m:=m) (k:=b) (j:=b) (ts:= #[24,24]) (by kernel_rfl) (by kernel_rfl) (fun _ _ h=>h) (fun _ _ h=>h) (by omega) hm (fun _ _ h=>by rw [hq,hs] at h;exact h))
  |6,_=>exact Rg.step4N (F:=writeF n m q s b g o k c) (by kernel_rfl) hal (Rg.move (d:=23) (x:= .tmp 29) fun _ _ _ _ D=>D 29 (by kernel_rfl))
  |7,_=>exact Rg.step4N (F:=writeF n m q s b g o k c) (by kernel_rfl) hal (Rg.extract0 (d:=30) (x:=23) (q:=q) (r:=s) (j:=b) (k:=b) (by kernel_rfl) (fun _ _ h=>h) (fun _ _ h=>h))
  |8,_=>exact Rg.step4N (F:=writeF n m q s b g o k c) (by kernel_rfl) hal (Rg.extract1 (d:=31) (x:=23) (q:=q) (r:=s) (j:=b) (k:=b) (by kernel_rfl) (fun _ _ h=>h) (fun _ _ h=>h))
  |9,_=>exact Rg.step4N (F:=writeF n m q s b g o k c) (by kernel_rfl) hal (Rg.extract2 (d:=32) (x:=23) (q:=q) (r:=s) (j:=b) (k:=b) (by kernel_rfl) (fun _ _ h=>h) (fun _ _ h=>h))
  |10,_=>exact absurd hna (by decide)
  |11,_=>exact absurd hna (by decide)
  |12,_=>exact absurd hns (by decide)
  |13,_=>exact absurd hns (by decide)
  |14,_=>exact Rg.step4N (F:=writeF n m q s b g o k c) (by kernel_rfl) hal (Rg.assign (d:=11) (x:= .tmp 32) fun _ _ _ _ D=>D 32 (by kernel_rfl))
  |i+15,h=>exact absurd h (by omega)
 ·intro f w hg hf hl hap hh _
  obtain ⟨i,A,l,c,e1,e2,e3⟩:=hh 12 9 30 (by simp)
  obtain ⟨j,B,l',c',e4,e5,e6⟩:=hh 13 10 31 (by simp)
  have h30:IsN w (f 30) q b:=hf 30 rfl rfl
  have h31:IsN w (f 31) s b:=hf 31 rfl rfl
  rw [e2] at h30
  rw [e5] at h31
  exact fin f w i j hg.toGrow e1 e4 ⟨A,l,c,e3,h30⟩ ⟨B,l',c',e6,h31⟩
end Go.Proofs.YthebilnlljkfeaaGreatDoor
namespace Go.Proofs.YthebilnlljkfeaaGreatDoor
open Go.RowKit
set_option maxRecDepth 20000
theorem addr_add (b o j:Nat):(Addr.mk b o none).add j=⟨b,o+j,none⟩:=by unfold Addr.add;split<;>simp_all
theorem infoB:(Tryz.prog.info? 5).map (fun i=>(i.zero,i.size,i.bytes))=some (some (.int .u8 0),1,1):=by kernel_rfl
theorem bvals_append (l r:List UInt8):bvals (l++r)=bvals l++bvals r:=by simp [bvals]
theorem bvals_isB (l:List UInt8): ∀u∈bvals l,isB u:=by
 intro u hu
 unfold bvals at hu
 obtain ⟨b,_,rfl⟩:=List.mem_map.1 hu
 exact ⟨_,rfl⟩
theorem store19 (w:World) (cs:List Value) (h:cs.length=19) (h1: ∀v∈cs,v.oneCell'=true):
  Sem.run Tryz.prog (storeCells ⟨w.heap.size,0,none⟩ cs) (w.alloc (Obj.cells #[.int .u8 0, .int .u8 0, .int .u8 0, .int .u8 0, .int .u8 0, .int .u8 0, .int .u8 0, .int .u8 0, .int .u8 0, .int .u8 0, .int .u8 0, .int .u8 0, .int .u8 0, .int .u8 0, .int .u8 0, .int .u8 0, .int .u8 0, .int .u8 0, .int .u8 0] 136))= .ok () ((w.alloc (Obj.cells #[.int .u8 0, .int .u8 0, .int .u8 0, .int .u8 0, .int .u8 0, .int .u8 0, .int .u8 0, .int .u8 0, .int .u8 0, .int .u8 0, .int .u8 0, .int .u8 0, .int .u8 0, .int .u8 0, .int .u8 0, .int .u8 0, .int .u8 0, .int .u8 0, .int .u8 0] 136)).setCells w.heap.size 0 cs)∧
  ((w.alloc (Obj.cells #[.int .u8 0, .int .u8 0, .int .u8 0, .int .u8 0, .int .u8 0, .int .u8 0, .int .u8 0, .int .u8 0, .int .u8 0, .int .u8 0, .int .u8 0, .int .u8 0, .int .u8 0, .int .u8 0, .int .u8 0, .int .u8 0, .int .u8 0, .int .u8 0, .int .u8 0] 136)).setCells w.heap.size 0 cs).rangeAt w.heap.size 0 cs∧Grow w ((w.alloc (Obj.cells #[.int .u8 0, .int .u8 0, .int .u8 0, .int .u8 0, .int .u8 0, .int .u8 0, .int .u8 0, .int .u8 0, .int .u8 0, .int .u8 0, .int .u8 0, .int .u8 0, .int .u8 0, .int .u8 0, .int .u8 0, .int .u8 0, .int .u8 0, .int .u8 0, .int .u8 0] 136)).setCells w.heap.size 0 cs):=by
 have hth:=(BlkB.new w).there
 rw [List.length_replicate,←h] at hth
 refine ⟨?_,World.rangeAt_setCells_same _ _ _ _ hth,Grow.setCells (Nat.le_refl _) _ _ _ ((Grow.refl w).alloc _)⟩
 exact run_storeCells_cells (P:=Tryz.prog) w.heap.size 0 cs 0 _ (fun j hj=>(hth j hj).1) (fun j hj=>(hth j hj).2) h1
def WroteText (w:World) (v:Value) (l:List UInt8) (e:Ending) (w':World):Prop:= ∃v',e= .returned v'∧Tex w' v' l∧Wrote w v w' v'
set_option maxHeartbeats 1000000 in
theorem write_group (w:World) (vt vn:Value) (A:Option Addr) (c:Nat) (l:List UInt8) (n b:Nat) (ht:Tex w vt l) (hn:IsN w vn n b) (hlt:n<10^19) (hl:l.length+19≤140737488355328) (L:List UInt8) (hL:l++Tx.dgt 19 n=L):
  Calls Tryz.prog 69 #[vt,vn, .slice A 0 c] w (WroteText w vt L):=by
 have HG:=Lib.hid (fun W (g:Grow w W)=>group_any W vn n hlt (hn.1.grow g))
 have HT:=Lib.hid ht
 obtain ⟨i0,hi,hz0,hz1,hz2⟩:=info_parts infoB
 obtain ⟨At,ct,e1,_,_⟩:=ht.len
 rw [bvals_length] at e1
 obtain ⟨A4,l4,c4,rfl⟩:=hn.cell
 have hm:maxLen=9223372036854775807:=rfl
 clear hn ht
 subst e1
 have hsz:(bvals (Tx.dgt 19 n)).length=19:=by rw [bvals_length,Tx.dgt_length]
 have H19:Hid ((Tryz.prog.info? 136).map (·.size)=some (bvals (Tx.dgt 19 n)).toArray.size):=Lib.hid (by rw [info19];simp [hsz])
 have H1C:=Lib.hid (bvals_one (Tx.dgt 19 n))
 have HBS:=Lib.hid (bvals_isB (Tx.dgt 19 n))
 have hap:=bvals_append l (Tx.dgt 19 n)
 rw [hL] at hap
 have HAP:=Lib.hid hap
 have HSZ:=Lib.hid hsz
 clear hsz hap hL
 generalize hcs:bvals (Tx.dgt 19 n)=cs at*
 clear hcs
 go_enter Tryz.func69,Tryz.ntmps69
 go_wp2_with fail
 refine (HG.out _ ((Grow.refl w).alloc _)).mono ?_
 rintro e w1 ⟨v1,rfl,rfl,hg⟩
 have g1:Grow w w1:=((Grow.refl w).alloc _).trans hg
 clear hg HG
 obtain ⟨hst,hrg,hgr⟩:=store19 w1 cs HSZ.out H1C.out
 have HR:=Lib.hid (And.intro hrg hgr)
 have hsz:=HSZ.out
 clear hrg hgr
 go_upto_region 3 with fail
 clear hst
 obtain ⟨hrg,hgr⟩:=HR.out
 have g2:=g1.trans hgr
 have ht2:=HT.out.grow g2
 clear HR hgr HT
 generalize hW:World.setCells _ w1.heap.size 0 cs=W at*
 clear hW
 go_wp2_with (at_builtin;refine wpList_own_append rfl _ _ 103 rfl 5 i0 (.int .u8 0) 1 Tryz.underlying103 hi hz0 hz1 hz2 rfl (E:=isB) ⟨_,rfl⟩ (by rintro _ ⟨x,rfl⟩;rfl) rfl ht2 ⟨w1.heap.size,0,none⟩ 19 19 cs rfl HSZ.out (by omega) (fun j u hj=>by rw [addr_add,Nat.zero_add];have:=hrg j u hj;rwa [Nat.zero_add] at this) HBS.out (by rw [bvals_length];omega) (by rw [bvals_length,hm];omega) ?_)
 intro v' w3 hown hwr
 rw [←HAP.out] at hown
 have HO:=Lib.hid (And.intro hown hwr)
 clear hown hwr
 go_wp2_with fail
 go_ret
 exact ⟨v',rfl,HO.out.1,Wrote.pre g2 HO.out.2⟩
end Go.Proofs.YthebilnlljkfeaaGreatDoor
namespace Go.Proofs.YthebilnlljkfeaaGreatDoor
open Go.RowKit
set_option maxRecDepth 20000
def WriteC (w:World) (q s b:Nat) (v9 v10:Value) (W:World):Prop:= ∃i j,v9= .pointer (some ⟨i,0,none⟩)∧v10= .pointer (some ⟨j,0,none⟩)∧VarN W i q b∧VarN W j s b∧Grow w W
theorem dgt_cut (k n:Nat):Tx.dgt (19*2^k) (n/cutAt k)++Tx.dgt (19*2^k) (n%cutAt k)=Tx.dgt (19*2^(k+1)) n:=by
 unfold cutAt
 rw [Tx.dgt_mod,←Tx.dgt_add]
 congr 1
 rw [Nat.pow_succ]
 omega
theorem cut_high {k n:Nat} (h:n<cutAt (k+1)):n/cutAt k<cutAt k:=by
 rw [cutAt_sq] at h
 exact Nat.div_lt_of_lt_mul h
set_option maxHeartbeats 2000000 in
theorem write_any (k:Nat): ∀(w:World) (vt vn va:Value) (l L:List UInt8) (n b:Nat),Tex w vt l→IsN w vn n b→Cuts w va k b→n<cutAt k→b≤1073741824→l.length+19*2^k≤140737488355328→l++Tx.dgt (19*2^k) n=L→
  Calls Tryz.prog 69 #[vt,vn,va] w (WroteText w vt L):=by
 induction k with
 |zero=>
  intro w vt vn va l L n b ht hn hc hlt hb hl hL
  obtain ⟨A,c,rfl,_,_⟩:=hc
  exact write_group w vt vn A c l n b ht hn hlt hl L hL
 |succ k ih=>
  intro w vt vn va l L n b ht hn hc hlt hb hl hL
  have hp2:2^(k+1)=2^k+2^k:=by rw [Nat.pow_succ];omega
  rw [←dgt_cut,←List.append_assoc] at hL
  have hkb:k≤140737488355328:=by
   have:= @Nat.lt_two_pow_self k
   rw [hp2] at hl
   omega
  have IH:=Lib.hid ih
  have HC:=Lib.hid hc
  have HT:=Lib.hid ht
  have HN:=Lib.hid hn
  have HLL:=Lib.hid hL
  have HLT:=Lib.hid (cut_high hlt)
  have HLM:=Lib.hid (Nat.mod_lt n (cutAt_pos k))
  have HK:=Lib.hid (show l.length+19*2^k≤140737488355328∧(l++Tx.dgt (19*2^k) (n/cutAt k)).length+19*2^k≤140737488355328 by
   rw [List.length_append,Tx.dgt_length];rw [hp2] at hl;omega)
  have HQ:Hid (cutAt k≠0):=Lib.hid (Nat.pos_iff_ne_zero.1 (cutAt_pos k))
  obtain ⟨At,ct,e1,_,_⟩:=ht.len
  obtain ⟨A4,l4,c4,rfl⟩:=hn.cell
  obtain ⟨Ac,cc,rfl,hcc,hcu⟩:=hc
  obtain ⟨g,o,rfl,hcell⟩:=hcu (by omega)
  obtain ⟨A5,l5,c5,k5,n5⟩:=hcell k (by omega)
  rw [bvals_length] at e1
  clear ht hn hcu hcell hL hp2 hlt hl ih
  subst e1
  have HB:=Lib.hid hb
  have N5:=Lib.hid (And.intro k5 n5)
  clear hb k5 n5
  generalize hq:n/cutAt k=q at*
  generalize hs:n%cutAt k=s at*
  have HQS:=Lib.hid (And.intro hq hs)
  clear hq hs
  go_enter Tryz.func69,Tryz.ntmps69
  go_upto_region 5 with fail
  have gg:Grow w (w.alloc (Obj.cells #[Value.slice A4 l4 c4] 24)):=(Grow.refl _).alloc _
  have k4:=(Grow.new (Grow.refl (w.alloc (Obj.cells #[Value.slice A4 l4 c4] 24)))).1
  generalize w.alloc (Obj.cells #[Value.slice A4 l4 c4] 24)=w1 at*
  go_cut [9,10] (fun v9 v10 W=>WriteC w1 q s b v9 v10 W)
  case first=>
   refine Rg.region_eq (ops':=writeOps5) (by kernel_rfl) (write_region5 (n:=n) (m:=cutAt k) (q:=q) (s:=s) (b:=b) (g:=g) (o:=o) (k:=k) rfl rfl rfl rfl k4 (HN.out.grow gg) (gg.cells1 N5.out.1) (N5.out.2.grow gg) HB.out HQ.out HQS.out.1 HQS.out.2 ?_)
   intro f w2 i j g2 e9 e10 v9 v10
   have H:=Lib.hid (And.intro v9 (And.intro v10 g2))
   clear v9 v10 g2
   simp only [Rg.puts,Act.put,List.setIfInBounds_toArray,List.set_cons_succ,List.set_cons_zero]
   rw [e9,e10]
   go_wp2_with fail
   go_meet
   exact ⟨i,j,rfl,rfl,H.out⟩
  case rest=>
   obtain ⟨w2,rfl⟩: ∃x,x=wc:=⟨wc,rfl⟩
   obtain ⟨i,j,rfl,rfl,v9,v10,g2⟩:=hcut
   have gw:=gg.trans g2
   have hk1:(0:Int)≤(k:Int):=by omega
   have hk2:(k:Int)≤(cc:Int):=by omega
   obtain ⟨A9,l9,c9,k9,n9⟩:=v9
   obtain ⟨A10,l10,c10,k10,n10⟩:=v10
   have C2:=(HC.out.grow gw).init
   have T2:=HT.out.grow gw
   have HW1:=Lib.hid (fun W (h:Grow w2 W)=>IH.out W (.slice At l.length ct) (.agg #[.slice A9 l9 c9]) (.slice (some ⟨g,o,none⟩) k cc) l _ q b (T2.grow h) (n9.grow h) (C2.grow h) HLT.out HB.out HK.out.1 rfl|>.mono fun e w' ⟨v',e1,t,hw⟩=>(⟨v',e1,t,Wrote.pre h hw⟩:WroteText w2 (.slice At l.length ct) (l++Tx.dgt (19*2^k) q) e w'))
   have HW2:=Lib.hid (fun W v' (h:Tex W v' (l++Tx.dgt (19*2^k) q)) (hw:Wrote w2 (.slice At l.length ct) W v')=>IH.out W v' (.agg #[.slice A10 l10 c10]) (.slice (some ⟨g,o,none⟩) k cc) _ L s b h (n10.wrote hw T2 isB_u64) (C2.wrote hw T2) HLM.out HB.out HK.out.2 HLL.out|>.mono fun e w' ⟨v4,e1,t,hw4⟩=>(⟨v4,e1,t,hw4⟩: ∃v4,e=Ending.returned v4∧Tex w' v4 L∧Wrote W v' w' v4))
   have HKP:=Lib.hid (fun W v' (hw:Wrote w2 (.slice At l.length ct) W v')=>(And.intro (hw.cell T2 k9 (isB_slice _ _ _)) (hw.cell T2 k10 (isB_slice _ _ _)):W.cell? ⟨i,0,none⟩=some (.slice A9 l9 c9)∧W.cell? ⟨j,0,none⟩=some (.slice A10 l10 c10)))
   have HGW:=Lib.hid gw
   clear IH HC HT HN HLL HLT HLM HK HQ HB N5 HQS C2 T2 n9 n10 gw g2 gg k4
   go_upto_region 6 with fail
   go_region_held3 (fun W=>W.cell? ⟨i,0,none⟩=some (.slice A9 l9 c9)∧W.cell? ⟨j,0,none⟩=some (.slice A10 l10 c10))
    (first|exact ⟨k9,k10⟩|exact HKP.out _ _ hw3|exact HKP.out _ _ (hw3.trans hw4))
    (first
     |(go_at_call 69;with_reducible refine (HW1.out _ ?_).mono ?_;(first|exact Grow.refl _|exact (Grow.refl _).drew);rintro e w3 ⟨v3,rfl,ht3,hw3⟩)
     |(go_at_call 69;with_reducible refine (HW2.out _ _ ht3 hw3).mono ?_;rintro e w4 ⟨v4,rfl,ht4,hw4⟩))
   all_goals
    go_wp2_with fail
    go_ret
    exact ⟨v4,rfl,ht4,Wrote.pre HGW.out (hw3.trans hw4)⟩
end Go.Proofs.YthebilnlljkfeaaGreatDoor
namespace Go.Proofs.YthebilnlljkfeaaGreatDoor
open Go.RowKit
set_option maxRecDepth 20000
theorem infoN:(Tryz.prog.info? 24).map (fun i=>(i.zero,i.size,i.bytes))=some (some (.agg #[.slice none 0 0]),1,24):=by kernel_rfl
theorem cutAt_zero:cutAt 0=10000000000000000000:=by decide
theorem cutAt_ne (j:Nat):cutAt j≠0:=Nat.pos_iff_ne_zero.1 (cutAt_pos j)
theorem cutAt_big (j:Nat):2≤Mx.bits (cutAt j):=by
 have h:cutAt 0≤cutAt j:=Nat.pow_le_pow_right (by decide) (Nat.mul_le_mul_left _ (Nat.pow_le_pow_right (by decide) (Nat.zero_le j)))
 have h2:=Mx.bits_mono h
 have h3:Mx.bits (cutAt 0)=63+1:=by
  rw [cutAt_zero]
  exact Mx.bits_unique (by decide) (by decide)
 omega
theorem bits_sq (j:Nat):Mx.bits (cutAt (j+1))=2*Mx.bits (cutAt j)∨Mx.bits (cutAt (j+1))=2*Mx.bits (cutAt j) -1:=by
 rw [cutAt_sq]
 have:=Mx.bits_mul (cutAt_ne j) (cutAt_ne j)
 omega
theorem cut_above {n j:Nat} (h:Mx.bits n<2*Mx.bits (cutAt j) -1):n<cutAt (j+1):=by
 have h1:=bits_sq j
 have h2:=Mx.bits_lt n
 have h3:=Mx.bits_le (cutAt_ne (j+1))
 refine Nat.lt_of_lt_of_le h2 (Nat.le_trans (Nat.pow_le_pow_right (by decide) ?_) h3)
 omega
theorem len_of_bits {n k:Nat} (h:Mx.bits n≤64*k):Mx.len n≤k:=by
 rcases Nat.eq_zero_or_pos n with rfl|hn
 ·exact Nat.zero_le _
 ·have h1:=Mx.bits_limbs (Nat.pos_iff_ne_zero.1 hn)
  have h2:=Mx.bits_pos h1.2
  omega
def CutCells (w:World) (xs:List Value) (b:Nat):Prop:= ∀j u,xs[j]? =some u→ ∃A l c,u= .slice A l c∧IsN w (.agg #[.slice A l c]) (cutAt j) b
theorem CutCells.grow {w w':World} {xs:List Value} {b:Nat} (h:CutCells w xs b) (g:Grow w w'):CutCells w' xs b:=fun j u hj=>by
 obtain ⟨A,l,c,e,h1⟩:=h j u hj
 exact ⟨A,l,c,e,h1.grow g⟩
theorem CutCells.store {w:World} {xs:List Value} {b:Nat} (h:CutCells w xs b) {p:Addr} {A':Option Addr} {k c:Nat} (hp:w.cell? p=some (.slice A' k c)) (u:Value):CutCells (w.setCell p u) xs b:=fun j u' hj=>by
 obtain ⟨A,l,c,e,h1⟩:=h j u' hj
 exact ⟨A,l,c,e,h1.store hp u⟩
theorem CutCells.wrote {w w':World} {v v':Value} {ys xs:List Value} {b:Nat} (h:CutCells w xs b) (k:Wrote w v w' v') (ho:Own w 24 isS v ys):CutCells w' xs b:=fun j u hj=>by
 obtain ⟨A,l,c,e,h1⟩:=h j u hj
 exact ⟨A,l,c,e,h1.wrote k ho isS_u64⟩
structure CutsS (w:World) (n b p q j:Nat) (v:Value) (xs:List Value) (W:World):Prop where
 grow:Grow w W
 own:Own W 24 isS v xs
 len:xs.length=j+1
 cells:CutCells W xs (b+1)
 num:VarN W p n b
 last:VarN W q (cutAt j) (b+1)
 unfz:W.frozen? ⟨q,0,none⟩=false
 pq:p≠q
 wq:w.heap.size≤q
 farp:v.ownBlock≠some p
 farq:v.ownBlock≠some q
 bd:Mx.bits (cutAt j)≤Mx.bits n+64
 base:v.ownBlock=none∨ ∃g,v.ownBlock=some g∧w.heap.size≤g
theorem Own.store_far {w:World} {e:TypeId} {E:Value→Prop} {v:Value} {xs:List Value} (h:Own w e E v xs) {p:Addr} (hp:v.ownBlock≠some p.block) (u:Value):Own (w.setCell p u) e E v xs:=by
 rcases h with h|⟨g,cap,r,h1,h2,h3⟩
 ·exact .inl h
 ·refine .inr ⟨g,cap,r,h1,(Below.heap_setCell w p u g (fun e=>hp (by rw [h1,←e];rfl))).trans h2,h3⟩
theorem VarN.store_far {w:World} {k n b:Nat} (h:VarN w k n b) {p:Nat} {A':Option Addr} {l' c':Nat} (hp:w.cell? ⟨p,0,none⟩=some (.slice A' l' c')) (hne:k≠p) (u:Value):VarN (w.setCell ⟨p,0,none⟩ u) k n b:=by
 obtain ⟨A,l,c,h1,h2⟩:=h
 exact ⟨A,l,c,by rw [World.cell?_setCell_other _ _ _ _ (by intro e;injection e with e;exact hne e.symm)];exact h1,h2.store hp u⟩
theorem VarN.wrote {w w':World} {v v':Value} {xs:List Value} {k n b:Nat} (h:VarN w k n b) (g:Wrote w v w' v') (ho:Own w 24 isS v xs) (hne:v.ownBlock≠some k):VarN w' k n b:=by
 obtain ⟨A,l,c,h1,h2⟩:=h
 exact ⟨A,l,c,(World.cell?_of_block (g.1.block k (lt_of_cell h1) (fun e=>hne e.symm))).trans h1,h2.wrote g ho isS_u64⟩
theorem CutsS.more {w W W':World} {n b p q j:Nat} {v:Value} {xs:List Value} (h:CutsS w n b p q j v xs W) (g:Grow W W'):CutsS w n b p q j v xs W' where
 grow:=h.grow.trans g
 own:=h.own.grow g
 len:=h.len
 cells:=h.cells.grow g
 num:=h.num.grow g
 last:=h.last.grow g
 unfz:=(Below.frozen g (p:=⟨q,0,none⟩) (by obtain ⟨A,l,c,h1,_⟩:=h.last;exact lt_of_cell h1)).trans h.unfz
 pq:=h.pq
 wq:=h.wq
 farp:=h.farp
 farq:=h.farq
 bd:=h.bd
 base:=h.base
theorem CutsS.done {w W:World} {n b p q j:Nat} {v:Value} {xs:List Value} (h:CutsS w n b p q j v xs W):Cuts W v (j+1) (b+1):=by
 have hne:xs≠ []:=by
  intro e
  have:=h.len
  rw [e] at this
  simp at this
 obtain ⟨g,c,e,hc,hcell⟩:=h.own.cells hne
 rw [h.len] at e hc
 refine ⟨_,_,e,hc,fun _=>⟨g,0,rfl,fun i hi=> ?_⟩⟩
 have hi':i<xs.length:=by rw [h.len];exact hi
 obtain ⟨A,l,c',e1,h1⟩:=h.cells i _ (List.getElem?_eq_getElem hi')
 have:=hcell i _ (List.getElem?_eq_getElem hi')
 rw [e1] at this
 exact ⟨A,l,c',by rw [Nat.zero_add];exact this,h1⟩
theorem bits_cut (j:Nat):3*(19*2^j)<Mx.bits (cutAt j):=by
 have h1:2^(3*(19*2^j))≤cutAt j:=by
  unfold cutAt
  rw [Nat.pow_mul]
  exact Nat.pow_le_pow_left (by decide) _
 exact (Nat.pow_lt_pow_iff_right (by decide)).1 (Nat.lt_of_le_of_lt h1 (Mx.bits_lt _))
theorem CutsS.next {w W:World} {n b p q j:Nat} {v:Value} {xs:List Value} {A:Option Addr} {l c:Nat} (S:CutsS w n b p q j v xs W) (hN:IsN W (.agg #[.slice A l c]) (cutAt (j+1)) (b+1)) (hbd:Mx.bits (cutAt (j+1))≤Mx.bits n+64):
  Own ((W.setCell ⟨q,0,none⟩ (.slice A l c)).alloc (Obj.cells #[.slice A l c] 24)) 24 isS v xs∧ ∀v' w',Own w' 24 isS v' (xs++ [.slice A l c])→Wrote ((W.setCell ⟨q,0,none⟩ (.slice A l c)).alloc (Obj.cells #[.slice A l c] 24)) v w' v'→CutsS w n b p q (j+1) v' (xs++ [.slice A l c]) w':=by
 obtain ⟨Aq,lq,cq,kq,nq⟩:=S.last
 obtain ⟨Ap,lp,cp,kp,np⟩:=S.num
 have hq:=lt_of_cell kq
 have hp:=lt_of_cell kp
 have ga:Grow (W.setCell ⟨q,0,none⟩ (.slice A l c)) ((W.setCell ⟨q,0,none⟩ (.slice A l c)).alloc (Obj.cells #[.slice A l c] 24)):=(Grow.refl _).alloc _
 have hs:(W.setCell ⟨q,0,none⟩ (.slice A l c)).heap.size=W.heap.size:=by simp [World.setCell]
 have ho:=(S.own.store_far (p:=⟨q,0,none⟩) S.farq (.slice A l c)).grow ga
 refine ⟨ho,fun v' w' hown hw=> ?_⟩
 have hnq:IsN (W.setCell ⟨q,0,none⟩ (.slice A l c)) (.agg #[.slice A l c]) (cutAt (j+1)) (b+1):=hN.store kq _
 have hfar: ∀k,k<W.heap.size→v.ownBlock≠some k→v'.ownBlock≠some k:=by
  intro k hk h
  rcases hw.2 with e|⟨g,e,hg⟩
  ·rw [e];exact h
  ·rw [e]
   intro e'
   injection e' with e'
   rw [World.size_alloc,hs] at hg
   omega
 refine ⟨?_,hown,by rw [List.length_append,S.len];rfl, ?_, ?_, ?_, ?_,S.pq,S.wq,hfar p hp S.farp,hfar q hq S.farq,hbd, ?_⟩
 ·have h1:Grow w ((W.setCell ⟨q,0,none⟩ (.slice A l c)).alloc (Obj.cells #[.slice A l c] 24)):=(S.grow.setCell (p:=⟨q,0,none⟩) S.wq _).trans ga
  refine Below.grown h1 hw.1 h1.size fun k hk=> ?_
  rcases S.base with e|⟨g,e,hg⟩
  ·rw [e] at hk;cases hk
  ·rw [e] at hk
   injection hk with hk
   omega
 ·intro i u hi
  rw [List.getElem?_append] at hi
  split at hi
  ·obtain ⟨A',l',c',e,h⟩:=S.cells i u hi
   exact ⟨A',l',c',e,((h.store kq _).grow ga).wrote hw ho isS_u64⟩
  ·rw [List.getElem?_singleton] at hi
   split at hi
   ·injection hi with hi
    have:i=j+1:=by have:=S.len;omega
    rw [this]
    exact ⟨A,l,c,hi.symm,(hnq.grow ga).wrote hw ho isS_u64⟩
   ·cases hi
 ·exact ((S.num.store_far kq S.pq _).grow ga).wrote hw ho S.farp
 ·refine VarN.wrote (VarN.grow ⟨A,l,c, ?_,hnq⟩ ga) hw ho S.farq
  simp [go_sem,kq]
 ·rw [hw.1.frozen_far ⟨q,0,none⟩ (by rw [World.size_alloc,hs];show q<_;omega) (fun e=>S.farq e.symm)]
  refine (Below.frozen ga (p:=⟨q,0,none⟩) (by rw [hs];exact hq)).trans ?_
  simpa using S.unfz
 ·rcases hw.2 with e|⟨g,e,hg⟩
  ·rw [e];exact S.base
  ·rw [World.size_alloc,hs] at hg
   exact .inr ⟨g,e,Nat.le_trans S.grow.size (by omega)⟩
set_option maxHeartbeats 2000000 in
theorem cuts_any (w:World) (vn:Value) (n b:Nat) (hn:IsN w vn n b) (hb:b≤536870912):
  Calls Tryz.prog 70 #[vn] w (Ret w fun v' w'=> ∃k,Cuts w' v' k (b+1)∧n<cutAt k∧19*2^k≤64*b+64):=by
 obtain ⟨i0,hi,hz0,hz1,hz2⟩:=info_parts infoN
 have hbn:Mx.bits n≤64*b:=Nat.le_trans (Mx.bits_len n) (Nat.mul_le_mul_left _ hn.2)
 obtain ⟨A4,l4,c4,rfl⟩:=hn.cell
 have HN:=Lib.hid hn
 clear hn
 go_enter Tryz.func70,Tryz.ntmps70
 go_wp2_with fail
 refine (num_at (x:=10000000000000000000) (by simp) (by rw [Mx.B_eq];omega)).mono ?_
 rintro e w1 ⟨v1,rfl,h1,g1⟩
 have hm:maxLen=9223372036854775807:=rfl
 obtain ⟨A5,l5,c5,rfl⟩:=h1.cell
 have hp0:w.heap.size+1+1≤w1.heap.size:=by have:=g1.size;simpa using this
 have S0:CutsS w n b w.heap.size w1.heap.size 0 (.slice (some ⟨w1.heap.size+1,0,none⟩) 1 1) [.slice A5 l5 c5] ((w1.alloc (Obj.cells #[.slice A5 l5 c5] 24)).alloc (Obj.cells #[.slice A5 l5 c5] 24)):=by
  have gw:Grow w w1:=(((Grow.refl w).alloc _).alloc _).trans g1
  have ga:Grow w1 ((w1.alloc (Obj.cells #[.slice A5 l5 c5] 24)).alloc (Obj.cells #[.slice A5 l5 c5] 24)):=((Grow.refl _).alloc _).alloc _
  have hz:IsN w1 (.agg #[.slice A5 l5 c5]) (cutAt 0) (b+1):=by rw [cutAt_zero];exact h1.weak (by omega)
  refine ⟨gw.trans ga, .inr ⟨w1.heap.size+1,1,[],rfl, ?_,rfl,by rw [hm];omega, ?_⟩,rfl, ?_, ?_, ?_, ?_,by omega,by omega, ?_, ?_, ?_, .inr ⟨_,rfl,by show w.heap.size≤w1.heap.size+1;omega⟩⟩
  ·have:=heap_alloc_new (w1.alloc (Obj.cells #[.slice A5 l5 c5] 24)) (Obj.cells #[.slice A5 l5 c5] 24)
   rw [World.size_alloc] at this
   exact this
  ·intro u hu
   simp at hu
   exact ⟨_,_,_,hu⟩
  ·intro j u hj
   match j,hj with
   |0,hj=>simp at hj;exact ⟨A5,l5,c5,hj.symm,hz.grow ga⟩
  ·refine ⟨A4,l4,c4, ?_,HN.out.grow (gw.trans ga)⟩
   refine ga.cells1 ((g1.cell (p:=⟨w.heap.size,0,none⟩) (by show w.heap.size<_;simp;omega)).trans (by simp [go_sem]))
  ·exact ⟨A5,l5,c5,(Grow.new2 (Grow.refl _)).1,hz.grow ga⟩
  ·simp [go_sem]
  ·simp [Value.ownBlock];omega
  ·simp [Value.ownBlock]
  ·have h3:Mx.bits (cutAt 0)=63+1:=by rw [cutAt_zero];exact Mx.bits_unique (by decide) (by decide)
   omega
 clear h1 g1 hp0 HN
 go_upto_block 0 with fail
 generalize (w1.alloc (Obj.cells #[.slice A5 l5 c5] 24)).alloc (Obj.cells #[.slice A5 l5 c5] 24)=W0 at*
 go_wp2_with fail
 go_loopg [4] (Mx.bits n) (fun k lv wr=> ∃j xs,Mx.bits n≤k+Mx.bits (cutAt j)∧CutsS w n b w.heap.size w1.heap.size j lv xs wr)
 case atStart=>exact ⟨0,_,by omega,S0⟩
 case round=>
  obtain ⟨j,xs,hjk,S⟩:=hrel
  clear S0
  obtain ⟨Al,cl,e,hcl,_⟩:=S.own.len
  subst e
  have HS:=Lib.hid S
  have hxl:=S.len
  obtain ⟨A1,l1,c1,k1,n1⟩:=S.num
  obtain ⟨A2,l2,c2,k2,n2⟩:=S.last
  have HB1:=Lib.hid (fun W (g:Grow wr W)=>(bits_n (n1.grow g) (by omega)).mono fun e w' ⟨v',e1,e2,g'⟩=>(⟨v',e1,e2,g.trans g'⟩: ∃v',e=Ending.returned v'∧v'=Value.int .i64 ((Mx.bits (n):Nat):Int)∧Grow wr w'))
  have HB2:=Lib.hid (fun W (g:Grow wr W)=>(bits_n (n2.grow g) (by omega)).mono fun e w' ⟨v',e1,e2,g'⟩=>(⟨v',e1,e2,g.trans g'⟩: ∃v',e=Ending.returned v'∧v'=Value.int .i64 ((Mx.bits (cutAt j):Nat):Int)∧Grow wr w'))
  have N2:=Lib.hid n2
  have hbd:=S.bd
  have hbig:=cutAt_big j
  have HSQ:=Lib.hid (bits_sq j)
  have HAB:=Lib.hid (fun h=>cut_above (n:=n) (j:=j) h)
  have HCT:=Lib.hid (bits_cut j)
  have HP2:=Lib.hid (show 19*2^(j+1)=2*(19*2^j) by rw [Nat.pow_succ];omega)
  have HJK:=Lib.hid hjk
  have HXL:=Lib.hid hxl
  clear S n1 n2 hjk
  rw [hxl] at hcl⊢
  clear hxl
  generalize hbc:Mx.bits (cutAt j)=bc at*
  generalize hbn':Mx.bits n=bn at*
  have HBC:=Lib.hid (And.intro hbc hbn')
  clear hbc hbn'
  have hs1:(fun W:World=>W.cell? ⟨w.heap.size,0,none⟩=some (.slice A1 l1 c1)∧W.cell? ⟨w1.heap.size,0,none⟩=some (.slice A2 l2 c2)) wr:=⟨k1,k2⟩
  have HKP:=Lib.hid (fun W (g:Grow wr W)=>(Grow.cells2 g ⟨k1,k2⟩:W.cell? ⟨w.heap.size,0,none⟩=some (.slice A1 l1 c1)∧W.cell? ⟨w1.heap.size,0,none⟩=some (.slice A2 l2 c2)))
  clear k1 k2 hs1
  by_cases hle:2*bc-1≤bn
  ·have hle':(2:Int)*(bc:Int) -1≤(bn:Int):=by omega
   have hw1:IntKind.i64.wrap (2*(bc:Int))=2*(bc:Int):=IntWalk.i64_in _ (by omega)
   have hw2:IntKind.i64.wrap (2*(bc:Int) -1)=2*(bc:Int) -1:=IntWalk.i64_in _ (by omega)
   go_upto_region 3 with fail
   go_region_held3 (fun W=>W.cell? ⟨w.heap.size,0,none⟩=some (.slice A1 l1 c1)∧W.cell? ⟨w1.heap.size,0,none⟩=some (.slice A2 l2 c2))
    (first|exact HKP.out _ (Grow.refl _)|exact HKP.out _ (Grow.drew (Grow.refl _))|exact HKP.out _ g3|exact HKP.out _ g4)
    (first
     |(go_at_call 32;with_reducible refine (HB2.out _ ?_).mono ?_;(first|exact Grow.refl _|exact (Grow.refl _).drew);rintro e w3 ⟨v3,rfl,rfl,g3⟩)
     |(go_at_call 32;with_reducible refine (HB1.out _ g3).mono ?_;rintro e w4 ⟨v4,rfl,rfl,g4⟩))
   have S4:=HS.out.more g4
   obtain ⟨k1,k2⟩:=HKP.out _ g4
   have N4:=N2.out.grow g4
   have hsq:=HSQ.out
   have hcn:bn=Mx.bits n:=HBC.out.2.symm
   have HL2:Hid (Mx.len (cutAt (j+1))≤b+1):=Lib.hid (len_of_bits (by omega))
   have HBD:Hid (Mx.bits (cutAt (j+1))≤Mx.bits n+64):=Lib.hid (by omega)
   have HM:Hid (bn-Mx.bits (cutAt (j+1))<gk):=Lib.hid (by have:=HJK.out;omega)
   have hjb:j≤100000000000:=by
    have h1:=HCT.out
    have h2:= @Nat.lt_two_pow_self j
    omega
   clear HB1 HB2 HKP hsq hcn HSQ HAB HCT HP2 HS N2 g3 g4 hw1 hw2
   have H4:=Lib.hid S4
   clear S4
   go_wp2_with fail
   refine (mul_n N4 N4 (by omega) (by omega)).mono ?_
   rintro e w5 ⟨v5,rfl,h5,g5⟩
   have S5:=H4.out.more g5
   have hlt5:w1.heap.size<w5.heap.size:=by
    obtain ⟨A,l,c,h,_⟩:=S5.last
    exact lt_of_cell h
   have h5':IsN w5 v5 (cutAt (j+1)) (b+1):=⟨by rw [cutAt_sq];exact h5.1,HL2.out⟩
   obtain ⟨A6,l6,c6,rfl⟩:=h5'.cell
   have hnx:=S5.next h5' HBD.out
   obtain ⟨A7,l7,c7,kq,_⟩:=S5.last
   have fq:=S5.unfz
   have HNX:=Lib.hid hnx
   have HX2:=HXL.out
   clear hnx S5 h5 h5' H4 k1 k2 N4 g5
   rw [HXL.out] at HNX
   go_upto_region 5 with fail
   have hnz: ∀W:World,∀(i:Nat) u,[Value.slice A6 l6 c6][i]? =some u→(W.alloc (Obj.cells #[.slice A6 l6 c6] 24)).cell? ((⟨W.heap.size,0,none⟩:Addr).add i)=some u:=fun W=>cells_one W _ _
   have kq6:(w5.setCell ⟨w1.heap.size,0,none⟩ (.slice A6 l6 c6)).cell? ⟨w1.heap.size,0,none⟩=some (.slice A6 l6 c6):=by simp [go_sem,kq]
   generalize w5.setCell ⟨w1.heap.size,0,none⟩ (.slice A6 l6 c6)=w6 at*
   have HNZ:=Lib.hid (hnz w6)
   clear hnz
   go_wp2_with (at_builtin;refine wpList_own_append rfl _ _ 105 rfl 24 i0 (.agg #[.slice none 0 0]) 24 Tryz.underlying105 hi hz0 hz1 hz2 rfl (E:=isS) ⟨_,_,_,rfl⟩ (by rintro _ ⟨A,l,c,rfl⟩;rfl) rfl HNX.out.1 ⟨w6.heap.size,0,none⟩ 1 1 [.slice A6 l6 c6] rfl rfl (by omega) HNZ.out (by intro u hu;simp at hu;subst hu;exact ⟨_,_,_,rfl⟩) (by rw [HX2];omega) (by rw [HX2,hm];omega) ?_)
   intro v' w7 hown hwr
   have HF:=Lib.hid (HNX.out.2 v' w7 hown hwr)
   clear hown hwr HNX HNZ kq kq6 fq
   go_wp2_with fail
   go_roundg (bn-Mx.bits (cutAt (j+1)))
   case measure=>exact HM.out
   case rel=>exact ⟨j+1,_,by omega,HF.out⟩
  ·have hle': ¬(2:Int)*(bc:Int) -1≤(bn:Int):=by omega
   have hw1:IntKind.i64.wrap (2*(bc:Int))=2*(bc:Int):=IntWalk.i64_in _ (by omega)
   have hw2:IntKind.i64.wrap (2*(bc:Int) -1)=2*(bc:Int) -1:=IntWalk.i64_in _ (by omega)
   go_upto_region 3 with fail
   go_region_held3 (fun W=>W.cell? ⟨w.heap.size,0,none⟩=some (.slice A1 l1 c1)∧W.cell? ⟨w1.heap.size,0,none⟩=some (.slice A2 l2 c2))
    (first|exact HKP.out _ (Grow.refl _)|exact HKP.out _ (Grow.drew (Grow.refl _))|exact HKP.out _ g3|exact HKP.out _ g4)
    (first
     |(go_at_call 32;with_reducible refine (HB2.out _ ?_).mono ?_;(first|exact Grow.refl _|exact (Grow.refl _).drew);rintro e w3 ⟨v3,rfl,rfl,g3⟩)
     |(go_at_call 32;with_reducible refine (HB1.out _ g3).mono ?_;rintro e w4 ⟨v4,rfl,rfl,g4⟩))
   have HF:=Lib.hid (HS.out.more g4)
   have HE:Hid (n<cutAt (j+1)∧19*2^(j+1)≤64*b+64):=Lib.hid ⟨HAB.out (by omega),by rw [HP2.out];have:=HCT.out;omega⟩
   have HXX:=HXL.out
   rw [HXX] at HF
   clear HB1 HB2 HKP HSQ HAB HCT HP2 HS N2 g3 g4 hw1 hw2
   go_wp2_with fail
   go_ret
   exact Ret.mk ⟨j+1,HF.out.done,HE.out⟩ HF.out.grow
end Go.Proofs.YthebilnlljkfeaaGreatDoor
namespace Go.Proofs.YthebilnlljkfeaaGreatDoor
open Go.RowKit
set_option maxRecDepth 20000
def lays231_ren:Go.Shelf.Ren:=⟨fun|231=>91|n=>n,fun|3=>3|4=>4|5=>5|9=>9|n=>n,fun|n=>n⟩
theorem lays231:Go.Proofs.Lays.n231 Tryz.prog lays231_ren:={
 mixed:=by kernel_rfl
 f231:=Tryz.func91.trans (congrArg some (by kernel_rfl))
 t3:=Tryz.underlying3
 a3:=Tryz.isAgg3
 z3:=Tryz.sizeOf3
 v3:=Tryz.zeroValue3
 t4:=Tryz.underlying4
 a4:=Tryz.isAgg4
 z4:=Tryz.sizeOf4
 v4:=Tryz.zeroValue4
 t5:=Tryz.underlying5
 a5:=Tryz.isAgg5
 z5:=Tryz.sizeOf5
 v5:=Tryz.zeroValue5
 t9:=Tryz.underlying9
 a9:=Tryz.isAgg9
 z9:=Tryz.sizeOf9
 v9:=Tryz.zeroValue9}
abbrev str (l:List UInt8):ByteArray:=⟨l.toArray⟩
theorem bytesOf_str (l:List UInt8):bytesOf (str l)=l:=rfl
theorem trimByte_any (s:ByteArray) (w:World):
  Calls Tryz.prog 91 #[.string s, .int .u8 48] w fun e w'=>e= .returned (.string (str ((bytesOf s).dropWhile (· ==48))))∧w=w':=
 (Any.strings_trimLeftByte lays231 s 48 w).mono fun _ _ ⟨he,hw⟩=>⟨he,hw.symm⟩
set_option maxHeartbeats 1000000 in
theorem trimLeft_any (s:ByteArray) (w:World):
  Calls Tryz.prog 68 #[.string s, .string ⟨#[48]⟩] w fun e w'=>e= .returned (.string (str ((bytesOf s).dropWhile (· ==48))))∧w=w':=by
 have HT:=Lib.hid (trimByte_any s w)
 by_cases h0:s.toList= []
 ·have h1:bytesOf s= []:=by rw [bytesOf,←Lib.toList_data];exact h0
  have h0':s.toList.isEmpty=true:=by rw [h0];rfl
  have h2:str ((bytesOf s).dropWhile (· ==48))=s:=by
   rw [h1,List.dropWhile_nil]
   obtain ⟨⟨l⟩⟩:=s
   simp only [bytesOf] at h1
   rw [h1]
  rw [h2]
  clear HT h1 h2
  go_enter Tryz.func68,Tryz.ntmps68
  go_wp2_with fail
  go_ret
  exact ⟨rfl,rfl⟩
 ·have h0':s.toList.isEmpty=false:=by
   cases h:s.toList with
   |nil=>exact absurd h h0
   |cons a b=>rfl
  have hcz:((({data:= #[48]}:ByteArray)[0]'(by decide)).toNat:Int)=48:=rfl
  generalize str ((bytesOf s).dropWhile (· ==48))=r at*
  clear h0
  go_enter Tryz.func68,Tryz.ntmps68
  go_wp2_with fail
  refine HT.out.mono ?_
  rintro e w' ⟨rfl,rfl⟩
  go_wp2_with fail
  go_ret
  exact ⟨rfl,rfl⟩
theorem tex_string {w:World} {v:Value} {l:List UInt8} (h:Tex w v l) (hl:l≠ []):(convert 103 9 v).run Tryz.prog w= .ok (.string (str l)) w:=by
 obtain ⟨g,c,e,_,hc⟩:=Own.cells h (by simpa [bvals] using hl)
 rw [bvals_length] at e
 subst e
 refine run_convert_bytes_back w _ _ 5 ⟨g,0,none⟩ c l Tryz.underlying103 Tryz.underlying5 Tryz.underlying9 fun j hj=> ?_
 rw [addr_add,Nat.zero_add]
 exact hc j _ (by simp [bvals,List.getElem?_eq_getElem hj])
theorem trim_text {k n:Nat} (h:n<10^k) (r:List UInt8) (hr:(Tx.dgt k n).dropWhile (· ==48)=r):(r= []∧Tx.text n= [48])∨(r≠ []∧Tx.text n=r):=by
 by_cases h0:n=0
 ·subst h0
  rw [Tx.trim_zero] at hr
  exact .inl ⟨hr.symm,Tx.text_zero⟩
 ·rw [Tx.trim_dgt h h0] at hr
  subst hr
  exact .inr ⟨Tx.text_ne_nil n,rfl⟩
theorem str_empty {r:List UInt8}:(str r).toList.isEmpty=r.isEmpty:=by rw [Lib.toList_data]
noncomputable def printOps1:Array Oper:=Rg.regionOps Tryz.f39 1
theorem en_cuts:Enters Tryz.prog 70:=enters_of Tryz.func70 (by kernel_rfl) rfl
theorem en_write:Enters Tryz.prog 69:=enters_of Tryz.func69 (by kernel_rfl) rfl
theorem en_trimLeft:Enters Tryz.prog 68:=enters_of Tryz.func68 (by kernel_rfl) rfl
def Trimmed (n:Nat) (v:Value):Prop:= ∃r,v= .string (str r)∧((r= []∧Tx.text n= [48])∨(r≠ []∧Tx.text n=r))
def printF (n b:Nat):Rg.Facts:=fun d w v=>
 match d with
 |4=>IsN w v n b
 |5=>IsN w v n b
 |6=> ∃k,Cuts w v k (b+1)∧n<cutAt k∧19*2^k≤64*b+64
 |7=> ∃k,Tex w v (Tx.dgt (19*2^k) n)∧n<cutAt k
 |8=> ∃k,v= .string (str (Tx.dgt (19*2^k) n))∧n<cutAt k
 |9=>Trimmed n v
 |3=>Trimmed n v
 |_=>True
set_option maxRecDepth 100000 in
set_option maxHeartbeats 1000000 in
theorem print_region1 {Q:Exit→Act→World→Prop} {a0:Act} {w0:World} {n b:Nat} {p1:Addr} {A4:Option Addr} {l4 c4:Nat} (hn:a0.tmps.size=13)
  (h1:a0.tmps.getD 1 undef= .pointer (some p1)) (k1:w0.cell? p1=some (.slice A4 l4 c4)) (n1:IsN w0 (.agg #[.slice A4 l4 c4]) n b) (hb:b≤536870912)
  (fin: ∀f w,Grow w0 w→Trimmed n (f 3)→Q .normal (Rg.puts f [4,5,6,7,8,9,3] a0) w):
  (Code.region 1 printOps1 true).wp Tryz.prog Q a0 w0:=by
 refine Rg.regionP (n:=13) (F:=printF n b) [4,5,6,7,8,9,3] (by kernel_rfl) hn (by kernel_rfl) (by kernel_rfl) ?_ (fun i hi=> ?_) (fun f w hg hf=>fin f w hg (hf 3 rfl))
 ·intro d w w' v h hg
  unfold printF at h⊢
  split at h
  ·exact h.grow hg
  ·exact h.grow hg
  ·obtain ⟨k,h1,h2⟩:=h;exact ⟨k,h1.grow hg,h2⟩
  ·obtain ⟨k,h1,h2⟩:=h;exact ⟨k,h1.grow hg,h2⟩
  all_goals exact h
 ·have hi7:i<7:=Nat.lt_of_lt_of_eq hi (by kernel_rfl)
  match i,hi7 with
  |0,_=>exact Rg.step2O (F:=printF n b) (by kernel_rfl) (Rg.loadNat (d:=4) (p:=1) h1 (by kernel_rfl) k1 n1 (fun _ _ h=>h))
  |1,_=>exact Rg.step2O (F:=printF n b) (by kernel_rfl) (Rg.loadNat (d:=5) (p:=1) h1 (by kernel_rfl) k1 n1 (fun _ _ h=>h))
  |2,_=>
   refine Rg.step2O (F:=printF n b) (dst:=some 6) (op:= .call {callee:= .value (.func 70),args:= #[.tmp 5],argTypes:= #[24]}) (by kernel_rfl) fun o a w ho hd hg ha D=> ?_
   have h5:IsN w (a.tmps.getD 5 undef) n b:=D 5 (by kernel_rfl)
   exact Rg.call1 ho en_cuts hd (cuts_any w _ n b h5 hb) fun e w' ⟨v,e1,h,g⟩=>⟨v,e1,h,g⟩
  |3,_=>
   refine Rg.step2O (F:=printF n b) (dst:=some 7) (op:= .call {callee:= .value (.func 69),args:= #[.const (.slice none 0 0), .tmp 4, .tmp 6],argTypes:= #[103,24,105]}) (by kernel_rfl) fun o a w ho hd hg ha D=> ?_
   have h4:IsN w (a.tmps.getD 4 undef) n b:=D 4 (by kernel_rfl)
   obtain ⟨k,h6,hlt,hle⟩: ∃k,Cuts w (a.tmps.getD 6 undef) k (b+1)∧n<cutAt k∧19*2^k≤64*b+64:=D 6 (by kernel_rfl)
   refine Rg.callOf ho en_write hd (R:=WroteText w (.slice none 0 0) (Tx.dgt (19*2^k) n)) ?_ fun e w' ⟨v,e1,h,g⟩=>⟨v,e1,⟨k,h,hlt⟩,g.grow⟩
   simp only [List.map_toArray,List.map_cons,List.map_nil,Act.eval]
   exact write_any k w _ _ _ [] _ n (b+1) (Own.nil _ _ _) (h4.weak (Nat.le_succ b)) h6 hlt (by omega) (by simp only [List.length_nil];omega) rfl
  |4,_=>
   refine Rg.step2O (F:=printF n b) (dst:=some 8) (op:= .convert 103 9 (.tmp 7)) (by kernel_rfl) fun o a w ho hd hg ha D=> ?_
   obtain ⟨k,h7,hlt⟩: ∃k,Tex w (a.tmps.getD 7 undef) (Tx.dgt (19*2^k) n)∧n<cutAt k:=D 7 (by kernel_rfl)
   refine Rg.valOf (v:= .string (str (Tx.dgt (19*2^k) n))) (w':=w) ?_ hd ⟨k,rfl,hlt⟩ (Grow.refl w)
   have hne:Tx.dgt (19*2^k) n≠ []:=fun e=>by
    have h9:=congrArg List.length e
    rw [Tx.dgt_length,List.length_nil] at h9
    have:0<2^k:=Nat.pow_pos (by decide)
    omega
   have hcv:=tex_string h7 hne
   have e7:a.eval (.tmp 7)=a.tmps.getD 7 undef:=rfl
   simp only [execOp,ho,e7,Sem.run_bind,hcv]
   rfl
  |5,_=>
   refine Rg.step2O (F:=printF n b) (dst:=some 9) (op:= .call {callee:= .value (.func 68),args:= #[.tmp 8, .const (.string ⟨#[48]⟩)],argTypes:= #[9,9]}) (by kernel_rfl) fun o a w ho hd hg ha D=> ?_
   obtain ⟨k,h8,hlt⟩: ∃k,a.tmps.getD 8 undef= .string (str (Tx.dgt (19*2^k) n))∧n<cutAt k:=D 8 (by kernel_rfl)
   refine Rg.callOf ho en_trimLeft hd (R:=fun e w'=>e= .returned (.string (str ((Tx.dgt (19*2^k) n).dropWhile (· ==48))))∧w=w') ?_ fun e w' ⟨e1,hw⟩=>⟨_,e1,⟨_,rfl,trim_text hlt _ rfl⟩,hw▸Grow.refl w⟩
   simp only [List.map_toArray,List.map_cons,List.map_nil,Act.eval]
   rw [h8]
   exact trimLeft_any (str (Tx.dgt (19*2^k) n)) w
  |6,_=>exact Rg.step2O (F:=printF n b) (by kernel_rfl) (Rg.assign (d:=3) (x:= .tmp 9) fun _ _ _ _ D=>D 9 (by kernel_rfl))
  |i+7,h=>exact absurd h (by omega)
set_option maxHeartbeats 2000000 in
theorem print_any (w:World) (vn:Value) (n b:Nat) (hn:IsN w vn n b) (hb:b≤536870912):
  Calls Tryz.prog 39 #[vn] w (Ret w fun v' _=>v'= .string (str (Tx.text n))):=by
 obtain ⟨A4,l4,c4,rfl⟩:=hn.cell
 have HN:=Lib.hid hn
 clear hn
 go_enter Tryz.func39,Tryz.ntmps39
 go_upto_region 1 with fail
 have gg:Grow w (w.alloc (Obj.cells #[Value.slice A4 l4 c4] 24)):=(Grow.refl _).alloc _
 have k4:=(Grow.new (Grow.refl (w.alloc (Obj.cells #[Value.slice A4 l4 c4] 24)))).1
 generalize w.alloc (Obj.cells #[Value.slice A4 l4 c4] 24)=w1 at*
 refine Rg.region_eq (ops':=printOps1) (by kernel_rfl) (print_region1 (n:=n) (b:=b) rfl rfl k4 (HN.out.grow gg) hb ?_)
 intro f w2 g2 h3
 have H:=Lib.hid (gg.trans g2)
 obtain ⟨r,e3,hr⟩:=h3
 simp only [Rg.puts,Act.put,List.setIfInBounds_toArray,List.set_cons_succ,List.set_cons_zero]
 rw [e3]
 have hre:= @str_empty r
 generalize hs:str r=sr at*
 clear g2 gg k4 HN e3
 rcases hr with ⟨h0,h1⟩|⟨h0,h1⟩
 ·have hre':sr.toList.isEmpty=true:=by rw [hre,h0];rfl
  have H1:=Lib.hid h1
  clear hre h0 hs h1
  go_wp2_with fail
  go_ret
  exact Ret.mk (by rw [H1.out];rfl) H.out
 ·have hre':sr.toList.isEmpty=false:=by
   rw [hre]
   cases r with
   |nil=>exact absurd rfl h0
   |cons a b=>rfl
  have H1:=Lib.hid (And.intro h1 hs)
  clear hre h0 hs h1
  go_wp2_with fail
  go_ret
  exact Ret.mk (by rw [H1.out.1,H1.out.2];rfl) H.out
end Go.Proofs.YthebilnlljkfeaaGreatDoor
namespace Go.Proofs.YthebilnlljkfeaaGreatDoor
open Go.RowKit
set_option maxRecDepth 20000
theorem str_size (l:List UInt8):(str l).size=l.length:=Lib.size_mk l
theorem slice_string (w:World) (s:ByteArray) (i k:Nat) (h:i+k≤s.size):(Instr.slice 9 (.string s) (some (.int .i64 (i:Int))) (some (.int .i64 ((i:Int)+(k:Int)))) none).run Tryz.prog w= .ok (.string (s.extract i (i+k))) w:=by
 have h1:=run_slice_string_if (P:=Tryz.prog) (w:=w) 9 s .i64 .i64 (i:Int) ((i:Int)+(k:Int)) Tryz.underlying9
 rw [if_pos (by omega),if_pos (by omega)] at h1
 rw [h1]
 rfl
def parseF (n d b at':Nat) (s p:ByteArray):Rg.Facts:=fun k w v=>
 match k with
 |33=>IsN w v n b
 |34=>Sl w v [10000000000000000000]
 |35=>IsN w v (Mx.val [10000000000000000000]) 1
 |36=>IsN w v (n*Mx.val [10000000000000000000]) (b+1)
 |37=>v= .string s
 |38=>v= .int .i64 (at':Int)
 |39=>v= .int .i64 (at':Int)
 |40=>v= .int .i64 ((at':Int)+19)
 |41=>v= .string p
 |42=>v= .int .u64 (d:Int)
 |43=>Sl w v [d]
 |44=>IsN w v (Mx.val [d]) 1
 |45=>IsN w v (n*Mx.val [10000000000000000000]+Mx.val [d]) (max (b+1) 1+1)
 |_=>True
def Parsed (s:ByteArray) (v:Value) (w':World):Prop:= ∃u,v= .tuple #[u, .int .i64 0]∧IsN w' u (Tx.rd (bytesOf s)) s.size
theorem rd_len (l:List UInt8) (h: ∀b∈l,Tx.isDig b):Mx.len (Tx.rd l)≤l.length:=by
 refine len_of_bits (Mx.bits_le_of_lt (Nat.lt_of_lt_of_le (Tx.rd_lt l h) ?_))
 rw [Nat.pow_mul]
 exact Nat.pow_le_pow_left (by decide) _
theorem extract_bytes (s:ByteArray) (i j:Nat):bytesOf (s.extract i j)=((bytesOf s).drop i).take (j-i):=by rw [Lib.extract_eq]
theorem take_more (l:List UInt8) (i k:Nat):l.take (i+k)=l.take i++(l.drop i).take k:=List.take_add
end Go.Proofs.YthebilnlljkfeaaGreatDoor
namespace Go.Proofs.YthebilnlljkfeaaGreatDoor
open Go.RowKit
set_option maxRecDepth 20000
theorem pow_bits (n k:Nat):Mx.bits (n^k)≤Mx.bits n*k+1:=by
 refine Mx.bits_le_of_lt ?_
 have h1:n^k≤(2^Mx.bits n)^k:=Nat.pow_le_pow_left (Nat.le_of_lt (Mx.bits_lt n)) k
 rw [←Nat.pow_mul] at h1
 rw [Nat.pow_succ]
 have:0<2^(Mx.bits n*k):=Nat.pow_pos (by decide)
 omega
theorem pow_len {n k:Nat} (h:Mx.bits n*k≤262144):Mx.len (n^k)≤4097:=len_of_bits (by have:=pow_bits n k;omega)
theorem IsN.re {w:World} {v:Value} {n k j:Nat} (h:IsN w v n k) (hj:Mx.len n≤j):IsN w v n j:=⟨h.1,hj⟩
theorem pow_even {n k:Nat} (h:k%2=0):n^(k/2)*n^(k/2)=n^k:=by rw [←Nat.pow_add];congr 1;omega
theorem pow_odd {n k:Nat} (h: ¬k%2=0):n^(k/2)*n^(k/2)*n=n^k:=by
 rw [←Nat.pow_add,←Nat.pow_succ];congr 1;omega
set_option maxHeartbeats 2000000 in
theorem power_any (m:Nat): ∀(w:World) (vn:Value) (n b t:Nat),t≤m→IsN w vn n b→b≤536870912→t≤4096→Mx.bits n*t≤262144→
  Calls Tryz.prog 33 #[vn, .int .i64 (t:Int)] w (Ret w fun v' w'=>IsN w' v' (n^t) 4097):=by
 induction m with
 |zero=>
  intro w vn n b t ht hn hb _ _
  have h0:t=0:=by omega
  subst h0
  obtain ⟨A4,l4,c4,rfl⟩:=hn.cell
  clear hn
  go_enter Tryz.func33,Tryz.ntmps33
  go_wp2_with fail
  refine (num_at (x:=1) (by simp) (by rw [Mx.B_eq];omega)).mono ?_
  rintro e w2 ⟨v2,rfl,h2,g2⟩
  obtain ⟨A2,l2,c2,rfl⟩:=h2.cell
  have H:=Lib.hid (And.intro h2 g2)
  have cr:w2.cell? ⟨w.heap.size+1,0,none⟩=some (.slice none 0 0):=(g2.cell (p:=⟨w.heap.size+1,0,none⟩) (by show w.heap.size+1<_;simp)).trans (by simp [go_sem])
  have fr:w2.frozen? ⟨w.heap.size+1,0,none⟩=false:=(Below.frozen g2 (p:=⟨w.heap.size+1,0,none⟩) (by show w.heap.size+1<_;simp)).trans (by simp [go_sem])
  clear h2 g2
  go_wp2_with fail
  refine bodyPost_ret (v:= .agg #[.slice A2 l2 c2]) (by simp [results,Tryz.results33,go_sem,cr]) rfl ?_
  refine Ret.mk ((H.out.1.weak (by omega)).store cr _) (Grow.setCell ((((Grow.refl w).alloc _).alloc _).alloc _|>.trans H.out.2) (p:=⟨w.heap.size+1,0,none⟩) (Nat.le_succ _) _)
 |succ m ih=>
  intro w vn n b t ht hn hb ht2 hbt
  by_cases h0:t=0
  ·exact ih w vn n b t (by omega) hn hb ht2 hbt
  have h0': ¬(t:Int)=0:=by omega
  have h0b:((t:Int)==0)=false:=by simp;omega
  have hq:Int.tdiv (t:Int) 2=((t/2:Nat):Int):=rfl
  have hr:Int.tmod (t:Int) 2=((t%2:Nat):Int):=rfl
  have hbt2:Mx.bits n*(t/2)≤262144:=Nat.le_trans (Nat.mul_le_mul_left _ (Nat.div_le_self _ _)) hbt
  have HI:=Lib.hid (fun W (g:Grow w W)=>ih W vn n b (t/2) (by omega) (hn.grow g) hb (by omega) hbt2)
  have HN:=Lib.hid hn
  have HL:=Lib.hid (pow_len hbt)
  have HE:=Lib.hid (fun h=>pow_even (n:=n) (k:=t) h)
  have HO:=Lib.hid (fun h=>pow_odd (n:=n) (k:=t) h)
  obtain ⟨A4,l4,c4,rfl⟩:=hn.cell
  clear hn ih hbt hbt2 h0
  obtain ⟨x,hx⟩: ∃x,n^(t/2)=x:=⟨_,rfl⟩
  rw [hx] at HI HE HO
  clear hx
  obtain ⟨y,hy⟩: ∃y,n^t=y:=⟨_,rfl⟩
  rw [hy] at HL HE HO⊢
  clear hy
  go_enter Tryz.func33,Tryz.ntmps33
  go_wp2_with fail
  refine (HI.out _ (((Grow.refl w).alloc _).alloc _)).mono ?_
  rintro e w2 ⟨v2,rfl,h2,g2⟩
  obtain ⟨A2,l2,c2,rfl⟩:=h2.cell
  obtain ⟨k4,cr⟩:=g2.new2
  have fr:w2.frozen? ⟨w.heap.size+1,0,none⟩=false:=(Below.frozen g2 (p:=⟨w.heap.size+1,0,none⟩) (by show w.heap.size+1<_;simp)).trans (by simp [go_sem])
  have gw2:Grow w w2:=(((Grow.refl w).alloc _).alloc _).trans g2
  have hwl:w.heap.size+1<w2.heap.size:=lt_of_cell cr
  clear g2 HI
  go_wp2_with fail
  refine (mul_n (h2.grow ((Grow.refl _).alloc _)) (h2.grow ((Grow.refl _).alloc _)) (by omega) (by omega)).mono ?_
  rintro e w3 ⟨v3,rfl,h3,g3⟩
  obtain ⟨A3,l3,c3,rfl⟩:=h3.cell
  have g23:Grow w2 w3:=((Grow.refl w2).alloc _).trans g3
  have gw3:=gw2.trans g23
  have k4':=g23.cells1 k4
  have cr':=g23.cells1 cr
  have fr':=(Below.frozen g23 (p:=⟨w.heap.size+1,0,none⟩) hwl).trans fr
  have hwl3:w.heap.size+1<w3.heap.size:=lt_of_cell cr'
  have hwl4:w.heap.size<w3.heap.size:=by omega
  clear k4 cr fr g3 g23 gw2 h2 hwl
  by_cases hpar:t%2=0
  ·have hpar':((t%2:Nat):Int)=0:=by omega
   have hpb:(((t%2:Nat):Int)==0)=true:=by simp;omega
   have H3:=Lib.hid (And.intro h3 gw3)
   rw [HE.out hpar] at H3
   clear h3 gw3 HE HO HN
   generalize ((t%2:Nat):Int)=pm at*
   go_wp2_with fail
   have hce:((w3.setCell ⟨w.heap.size+1,0,none⟩ (.slice A3 l3 c3)).alloc (Obj.cells #[Value.slice A3 l3 c3] 24)).cell? ⟨w.heap.size+1,0,none⟩=some (.slice A3 l3 c3):=by
    refine Grow.cells1 ((Grow.refl _).alloc _) ?_
    simp [go_sem,cr']
   refine bodyPost_ret (v:= .agg #[.slice A3 l3 c3]) (by simp [results,Tryz.results33,go_sem,hce]) rfl ?_
   exact Ret.mk (((H3.out.1.re HL.out).store cr' _).grow ((Grow.refl _).alloc _)) ((H3.out.2.setCell (p:=⟨w.heap.size+1,0,none⟩) (Nat.le_succ _) _).alloc _)
  ·have hpar': ¬((t%2:Nat):Int)=0:=by omega
   have hpb:(((t%2:Nat):Int)==0)=false:=by simp;omega
   have H3:=Lib.hid (And.intro h3 gw3)
   have HOO:=Lib.hid (HO.out hpar)
   clear h3 gw3 HE HO
   generalize ((t%2:Nat):Int)=pm at*
   go_wp2_with fail
   refine (mul_n (H3.out.1.grow ((Grow.refl _).alloc _)) (HN.out.grow (H3.out.2.alloc _)) (by omega) (by omega)).mono ?_
   rintro e w4 ⟨v4,rfl,h4,g4⟩
   rw [HOO.out] at h4
   obtain ⟨A5,l5,c5,rfl⟩:=h4.cell
   have g34:Grow w3 w4:=((Grow.refl w3).alloc _).trans g4
   have gw4:=H3.out.2.trans g34
   have cr4:=g34.cells1 cr'
   have fr4:=(Below.frozen g34 (p:=⟨w.heap.size+1,0,none⟩) hwl3).trans fr'
   have H4:=Lib.hid (And.intro h4 gw4)
   clear h4 gw4 g34 g4 H3 cr' fr' k4'
   go_wp2_with fail
   refine bodyPost_ret (v:= .agg #[.slice A5 l5 c5]) (by simp [results,Tryz.results33,go_sem,cr4]) rfl ?_
   exact Ret.mk ((H4.out.1.re HL.out).store cr4 _) (H4.out.2.setCell (p:=⟨w.heap.size+1,0,none⟩) (Nat.le_succ _) _)
theorem power_ten (t:Nat) (ht:t≤4096):Mx.bits 10*t≤262144:=by
 have e:Mx.bits 10=3+1:=Mx.bits_unique (by decide) (by decide)
 rw [e]
 omega
def IsNE (w:World) (v:Value) (n b:Nat) (e:Int):Prop:= ∃u,v= .tuple #[u, .int .i64 e]∧IsN w u n b
theorem IsNE.grow {w w':World} {v:Value} {n b:Nat} {e:Int} (h:IsNE w v n b e) (g:Grow w w'):IsNE w' v n b e:=by
 obtain ⟨u,h1,h2⟩:=h
 exact ⟨u,h1,h2.grow g⟩
def tenE (t:Int):Int:=if t<0 then 2 else if 4096<t then 6 else 0
def tenN (t:Int):Nat:=if 0≤t∧t≤4096 then 10^t.toNat else 0
end Go.Proofs.YthebilnlljkfeaaGreatDoor
namespace Go.Proofs.YthebilnlljkfeaaGreatDoor
open Go.RowKit
set_option maxRecDepth 20000
def powE (n:Nat) (t:Int):Int:=if t<0 then 2 else if 1200<t∨262144<(Mx.bits n:Int)*t then 6 else 0
def powN (n:Nat) (t:Int):Nat:=if powE n t=0 then n^t.toNat else 0
theorem powE_neg {n:Nat} {t:Int} (h:t<0):powE n t=2∧powN n t=0:=by
 have e:powE n t=2:=by unfold powE;rw [if_pos h]
 exact ⟨e,by unfold powN;rw [e,if_neg (by omega)]⟩
theorem powE_many {n:Nat} {t:Int} (h: ¬t<0) (h1:1200<t∨262144<(Mx.bits n:Int)*t):powE n t=6∧powN n t=0:=by
 have e:powE n t=6:=by unfold powE;rw [if_neg h,if_pos h1]
 exact ⟨e,by unfold powN;rw [e,if_neg (by omega)]⟩
theorem powE_ok {n k:Nat} (h1: ¬(1200:Int)<(k:Int)) (h2: ¬262144<(Mx.bits n:Int)*(k:Int)):powE n (k:Int)=0∧powN n (k:Int)=n^k:=by
 have e:powE n (k:Int)=0:=by unfold powE;rw [if_neg (by omega),if_neg (by rintro (h|h)<;>contradiction)]
 exact ⟨e,by unfold powN;rw [e,if_pos rfl];rfl⟩
set_option maxHeartbeats 1000000 in
theorem pow_any (w:World) (vn:Value) (n b:Nat) (t:Int) (hn:IsN w vn n b) (hb:b≤536870912):
  Calls Tryz.prog 10 #[vn, .int .i64 t] w (Ret w fun v w'=>IsNE w' v (powN n t) 4097 (powE n t)):=by
 obtain ⟨A4,l4,c4,rfl⟩:=hn.cell
 by_cases h0:t<0
 ·rw [(powE_neg h0).1,(powE_neg h0).2]
  clear hn
  go_enter Tryz.func10,Tryz.ntmps10
  go_wp2_with fail
  refine bodyPost_ret (v:= .tuple #[.agg #[.slice none 0 0], .int .i64 2]) (by simp [results,Tryz.results10,go_sem]) rfl (Ret.mk ⟨_,rfl,(IsN.zero _).weak (by omega)⟩ (((Grow.refl w).alloc _).alloc _))
 by_cases h1:1200<t
 ·rw [(powE_many h0 (.inl h1)).1,(powE_many h0 (.inl h1)).2]
  clear hn
  go_enter Tryz.func10,Tryz.ntmps10
  go_wp2_with fail
  refine bodyPost_ret (v:= .tuple #[.agg #[.slice none 0 0], .int .i64 6]) (by simp [results,Tryz.results10,go_sem]) rfl (Ret.mk ⟨_,rfl,(IsN.zero _).weak (by omega)⟩ (((Grow.refl w).alloc _).alloc _))
 obtain ⟨k,rfl⟩: ∃k:Nat,t=(k:Int):=⟨t.toNat,by omega⟩
 have hbits:Mx.bits n≤64*b:=Nat.le_trans (Mx.bits_len n) (Nat.mul_le_mul_left _ hn.2)
 have hprod:Mx.bits n*k≤64*b*1200:=Nat.mul_le_mul hbits (by omega)
 have hcast:(Mx.bits n:Int)*(k:Int)=((Mx.bits n*k:Nat):Int):=(Int.natCast_mul _ _).symm
 have HB:=Lib.hid (fun W (g:Grow w W)=>bits_n (hn.grow g) (by omega))
 have HC:Hid ((262144<Mx.bits n*k→powE n (k:Int)=6∧powN n (k:Int)=0)∧(¬262144<Mx.bits n*k→powE n (k:Int)=0∧powN n (k:Int)=n^k)):=
  Lib.hid ⟨fun h=>powE_many h0 (.inr (by omega)),fun h=>powE_ok h1 (by omega)⟩
 have HP:=Lib.hid (fun (h: ¬262144<Mx.bits n*k) W (g:Grow w W)=>power_any k W _ n b k (Nat.le_refl _) (hn.grow g) hb (by omega) (by omega))
 have hwr:IntKind.i64.wrap ((Mx.bits n:Int)*(k:Int))=((Mx.bits n*k:Nat):Int):=by
  rw [hcast]
  exact IntWalk.i64_in _ (by omega)
 clear hn hcast hbits
 generalize Mx.bits n*k=pr at*
 generalize Mx.bits n=bi at*
 by_cases h2:262144<pr
 ·rw [(HC.out.1 h2).1,(HC.out.1 h2).2]
  have h2':(262144:Int)<(pr:Int):=by omega
  clear HP HC
  go_enter Tryz.func10,Tryz.ntmps10
  go_wp2_with fail
  refine (HB.out _ (((Grow.refl w).alloc _).alloc _)).mono ?_
  rintro e w1 ⟨v1,rfl,rfl,g1⟩
  have cr:w1.cell? ⟨w.heap.size+1,0,none⟩=some (.slice none 0 0):=g1.new2.2
  have fr:w1.frozen? ⟨w.heap.size+1,0,none⟩=false:=(Below.frozen g1 (p:=⟨w.heap.size+1,0,none⟩) (by show w.heap.size+1<_;simp)).trans (by simp [go_sem])
  have H:=Lib.hid ((((Grow.refl w).alloc _).alloc _).trans g1)
  clear g1 HB
  go_wp2_with fail
  refine bodyPost_ret (v:= .tuple #[.agg #[.slice none 0 0], .int .i64 6]) (by simp [results,Tryz.results10,go_sem,cr]) rfl (Ret.mk ⟨_,rfl,(IsN.zero _).weak (by omega)⟩ (H.out.setCell (p:=⟨w.heap.size+1,0,none⟩) (Nat.le_succ _) _))
 ·rw [(HC.out.2 h2).1,(HC.out.2 h2).2]
  have h2': ¬(262144:Int)<(pr:Int):=by omega
  have HP2:=Lib.hid (HP.out h2)
  clear HP HC
  generalize n^k=x at*
  go_enter Tryz.func10,Tryz.ntmps10
  go_wp2_with fail
  refine (HB.out _ (((Grow.refl w).alloc _).alloc _)).mono ?_
  rintro e w1 ⟨v1,rfl,rfl,g1⟩
  obtain ⟨k4,cr⟩:=g1.new2
  have fr:w1.frozen? ⟨w.heap.size+1,0,none⟩=false:=(Below.frozen g1 (p:=⟨w.heap.size+1,0,none⟩) (by show w.heap.size+1<_;simp)).trans (by simp [go_sem])
  have gw1:Grow w w1:=(((Grow.refl w).alloc _).alloc _).trans g1
  clear g1 HB
  go_wp2_with fail
  refine (HP2.out _ gw1).mono ?_
  rintro e w3 ⟨v3,rfl,h3,g3⟩
  obtain ⟨A3,l3,c3,rfl⟩:=h3.cell
  have cr3:=g3.cells1 cr
  have fr3:=(Below.frozen g3 (p:=⟨w.heap.size+1,0,none⟩) (lt_of_cell cr)).trans fr
  have H:=Lib.hid (And.intro h3 (gw1.trans g3))
  clear HP2 h3 g3 gw1 cr fr k4
  go_wp2_with fail
  refine bodyPost_ret (v:= .tuple #[.agg #[.slice A3 l3 c3], .int .i64 0]) (by simp [results,Tryz.results10,go_sem,cr3]) rfl ?_
  exact Ret.mk ⟨_,rfl,H.out.1.store cr3 _⟩ (H.out.2.setCell (p:=⟨w.heap.size+1,0,none⟩) (Nat.le_succ _) _)
end Go.Proofs.YthebilnlljkfeaaGreatDoor
namespace Go.Proofs.YthebilnlljkfeaaGreatDoor.Rg
open Go.RowKit
section
variable {ops:Array Oper} {Q:Exit→Act→World→Prop} {F:Facts} {a0:Act} {w0:World}
theorem notB {i d x:Nat} {b c:Bool} (dx:depI ops i x=true) (hx: ∀w v,F x w v→v= .bool b) (hb:(!b)=c) (hF: ∀w v,v= .bool c→F d w v):
  Owes Tryz.prog ops Q F a0 w0 i (some d) (.unOp .not 4 (.tmp x)):=
 fun o a w ho hd hg ha D=>valOf (v:= .bool c) (w':=w) (by
  have e:a.tmps.getD x undef= .bool b:=hx _ _ (D x dx)
  subst hb
  simp only [Array.getD_eq_getD_getElem?] at e
  simp [execOp,ho,go_sem,Act.eval,e]) hd (hF _ _ rfl) (Grow.refl w)
theorem neqI {i d x:Nat} {m c:Int} {b:Bool} (dx:depI ops i x=true) (hx: ∀w v,F x w v→v= .int .i64 m) (hb:(m !=c)=b) (hF: ∀w v,v= .bool b→F d w v):
  Owes Tryz.prog ops Q F a0 w0 i (some d) (.binOp .neq 3 (.tmp x) (.const (.int .i64 c)) 3):=
 fun o a w ho hd hg ha D=>valOf (v:= .bool b) (w':=w) (by
  have e:a.tmps.getD x undef= .int .i64 m:=hx _ _ (D x dx)
  subst hb
  simp only [Array.getD_eq_getD_getElem?] at e
  simp [execOp,ho,go_sem,Act.eval,e]) hd (hF _ _ rfl) (Grow.refl w)
theorem neqII {i d x y:Nat} {m c:Int} {b:Bool} (dx:depI ops i x=true) (dy:depI ops i y=true) (hx: ∀w v,F x w v→v= .int .i64 m) (hy: ∀w v,F y w v→v= .int .i64 c) (hb:(m !=c)=b) (hF: ∀w v,v= .bool b→F d w v):
  Owes Tryz.prog ops Q F a0 w0 i (some d) (.binOp .neq 3 (.tmp x) (.tmp y) 3):=
 fun o a w ho hd hg ha D=>valOf (v:= .bool b) (w':=w) (by
  have e:a.tmps.getD x undef= .int .i64 m:=hx _ _ (D x dx)
  have e2:a.tmps.getD y undef= .int .i64 c:=hy _ _ (D y dy)
  subst hb
  simp only [Array.getD_eq_getD_getElem?] at e e2
  simp [execOp,ho,go_sem,Act.eval,e,e2]) hd (hF _ _ rfl) (Grow.refl w)
theorem neqE {i d x:Nat} {m c:Int} {b:Bool} (dx:depI ops i x=true) (hx: ∀w v,F x w v→v= .int .i64 m) (hb:(m !=c)=b) (hF: ∀w v,v= .bool b→F d w v):
  Owes Tryz.prog ops Q F a0 w0 i (some d) (.binOp .neq 36 (.tmp x) (.const (.int .i64 c)) 36):=
 fun o a w ho hd hg ha D=>valOf (v:= .bool b) (w':=w) (by
  have e:a.tmps.getD x undef= .int .i64 m:=hx _ _ (D x dx)
  subst hb
  simp only [Array.getD_eq_getD_getElem?] at e
  simp [execOp,ho,go_sem,Act.eval,e]) hd (hF _ _ rfl) (Grow.refl w)
theorem subII {i d x y:Nat} {m c r:Int} (dx:depI ops i x=true) (dy:depI ops i y=true) (hx: ∀w v,F x w v→v= .int .i64 m) (hy: ∀w v,F y w v→v= .int .i64 c) (hr:IntKind.i64.wrap (m-c)=r) (hF: ∀w v,v= .int .i64 r→F d w v):
  Owes Tryz.prog ops Q F a0 w0 i (some d) (.binOp .sub 3 (.tmp x) (.tmp y) 3):=
 fun o a w ho hd hg ha D=>valOf (v:= .int .i64 r) (w':=w) (by
  have e:a.tmps.getD x undef= .int .i64 m:=hx _ _ (D x dx)
  have e2:a.tmps.getD y undef= .int .i64 c:=hy _ _ (D y dy)
  simp only [Array.getD_eq_getD_getElem?] at e e2
  simp [execOp,ho,go_sem,Act.eval,e,e2,hr]) hd (hF _ _ rfl) (Grow.refl w)
theorem str_beq (l r:List UInt8):((str l).toList==(str r).toList)=(l==r):=by rw [Lib.toList_data,Lib.toList_data]
theorem eqlStr {i d x:Nat} {l r:List UInt8} {b:Bool} (dx:depI ops i x=true) (hx: ∀w v,F x w v→v= .string (str l)) (hb:(l==r)=b) (hF: ∀w v,v= .bool b→F d w v):
  Owes Tryz.prog ops Q F a0 w0 i (some d) (.binOp .eql 9 (.tmp x) (.const (.string (str r))) 9):=
 fun o a w ho hd hg ha D=>valOf (v:= .bool b) (w':=w) (by
  have e:a.tmps.getD x undef= .string (str l):=hx _ _ (D x dx)
  have h:=str_beq l r
  rw [hb] at h
  clear hb
  generalize str l=s at*
  generalize str r=t at*
  simp only [Array.getD_eq_getD_getElem?] at e
  simp [execOp,ho,go_sem,Act.eval,e,h]) hd (hF _ _ rfl) (Grow.refl w)
theorem eqlStrII {i d x y:Nat} {l r:List UInt8} {b:Bool} (dx:depI ops i x=true) (dy:depI ops i y=true) (hx: ∀w v,F x w v→v= .string (str l)) (hy: ∀w v,F y w v→v= .string (str r)) (hb:(l==r)=b) (hF: ∀w v,v= .bool b→F d w v):
  Owes Tryz.prog ops Q F a0 w0 i (some d) (.binOp .eql 9 (.tmp x) (.tmp y) 9):=
 fun o a w ho hd hg ha D=>valOf (v:= .bool b) (w':=w) (by
  have e:a.tmps.getD x undef= .string (str l):=hx _ _ (D x dx)
  have e2:a.tmps.getD y undef= .string (str r):=hy _ _ (D y dy)
  have h:=str_beq l r
  rw [hb] at h
  clear hb
  generalize str l=s at*
  generalize str r=t at*
  simp only [Array.getD_eq_getD_getElem?] at e e2
  simp [execOp,ho,go_sem,Act.eval,e,e2,h]) hd (hF _ _ rfl) (Grow.refl w)
theorem en_print:Enters Tryz.prog 39:=enters_of Tryz.func39 (by kernel_rfl) rfl
theorem callPrint {i d x n k:Nat} {ts:Array TypeId} (dx:depI ops i x=true) (hx: ∀w v,F x w v→IsN w v n k) (hk:k≤536870912)
  (hF: ∀w v,v= .string (str (Tx.text n))→F d w v):Owes Tryz.prog ops Q F a0 w0 i (some d) (.call {callee:= .value (.func 39),args:= #[.tmp x],argTypes:=ts}):=
 fun _ _ _ ho hd _ _ D=>call1 ho en_print hd (print_any _ _ n k (hx _ _ (D x dx)) hk) fun _ _ ⟨v,e,h,g⟩=>⟨v,e,hF _ _ h,g⟩
end
end Go.Proofs.YthebilnlljkfeaaGreatDoor.Rg
