/- One text out of: Zq, Ze. -/
import Derived.Test.YthebilnlljkfeaaGreatDoorBZ
import Derived.Great.FillDense
namespace Go.Proofs.YthebilnlljkfeaaGreatDoor.Z
open Go.RowKit Go.Proofs.YthebilnlljkfeaaGreatDoor.Rg
section
variable {P:Program} {cx:Cx} {ops:Array Oper} {Q:Exit→Act→World→Prop} {F:Facts} {G:List Vr} {D:List (Nat×Pr)} {V:VS} {kf0:Nat→Nat} {i d:Nat} {x y:Operand}
def eltB (P:Program) (t:TypeId) (T sz:Nat):Bool:=match P.underlying t with
 |some (.slice e)=>Nat.beq e T&&(match P.info? e with
  |some j=>Nat.beq j.size sz&& !Nat.beq sz 0
  |none=>false)
 |_=>false
theorem eltB_ok {t T sz:Nat} (h:eltB P t T sz=true):P.underlying t=some (.slice T)∧ ∃j,P.info? T=some j∧j.size=sz∧sz≠0:=by
 unfold eltB at h
 split at h
 ·next e hu=>
  simp only [Bool.and_eq_true] at h
  obtain ⟨h1,h2⟩:=h
  have e1:e=T:=Nat.eq_of_beq_eq_true h1
  subst e1
  split at h2
  ·next j hj=>
   simp only [Bool.and_eq_true,Bool.not_eq_true'] at h2
   exact ⟨hu,j,hj,Nat.eq_of_beq_eq_true h2.1,fun e=>by rw [e] at h2;cases h2.2⟩
  ·cases h2
 ·cases h
theorem idxLs {t T sz n:Nat} {l:List (List Value)} {o:Bool} (hB:eltB P t T sz=true) (hx:Arg soft P ops F G D V kf0 i x (isRd cx o sz l)) (hy:Arg soft P ops F G D V kf0 i y (fun _ v=>v= .int .i64 (n:Int))) (hn:n<l.length) (hF: ∀w v,isAd cx (l.getD n []) w v→F d w v):Owes soft P ops Q F G D V kf0 i (some d) (.indexAddr t x y):=
 val (fun o a w ho c=>by
  obtain ⟨h0,A,cap,e1,h1,h2,h3⟩:=hx a w c
  obtain ⟨b,off,cs,t',fr,rfl,h4,h5,h6,h7⟩:=h3 (by intro e;rw [e] at hn;cases hn)
  have e2:a.eval y= .int .i64 (n:Int):=hy a w c
  obtain ⟨hu,j,hi,hz,hz0⟩:=eltB_ok hB
  refine ⟨.pointer (some ⟨b,off+n*sz,none⟩), ?_,hF _ _ ⟨b,off+n*sz,cs,t',fr,rfl,h4,h5,fun j x hj=> ?_⟩⟩
  ·unfold execOp
   simp only [ho,e1,e2]
   simp [go_sem,Instr.indexAt,underlying,sizeOf,typeInfo,hu,hi,hz,hn,Addr.add]
  ·have hr:l[n]? =some (l.getD n []):=by rw [List.getD_eq_getElem?_getD,List.getElem?_eq_getElem hn];rfl
   rw [Nat.add_assoc]
   exact h7 _ _ (flat_get h0 hr hj)) rfl
theorem lenLs {sz t T:Nat} {l:List (List Value)} {o:Bool} {ts:Array TypeId} (hB:eltB P t T sz=true) (hx:Arg soft P ops F G D V kf0 i x (isRd cx o sz l)) (ht:ts= #[t]) (hF: ∀w v,v= .int .i64 ((l.length:Nat):Int)→F d w v):Owes soft P ops Q F G D V kf0 i (some d) (.call {callee:= .builtin .len,args:= #[x],argTypes:=ts}):=
 val (fun o a w ho c=>by
  obtain ⟨h0,A,cap,e1,h1⟩:=hx a w c
  obtain ⟨hu,_⟩:=eltB_ok hB
  subst ht
  refine ⟨.int .i64 ((l.length:Nat):Int), ?_,hF _ _ rfl⟩
  unfold execOp
  simp only [ho,resolve,List.map_toArray,List.map_cons,List.map_nil,e1]
  simp [go_sem,invoke,builtin,Builtin.len_,goInt,underlying,hu]) rfl
theorem idxQ {t T sz n:Nat} {l:List (List Value)} {u:Value} (hB:eltB P t T sz=true) (hx:Arg soft P ops F G D V kf0 i x (isLs cx T sz l true)) (hu:Arg soft P ops F G D V kf0 i x (fun _ v=>v=u)) (hy:Arg soft P ops F G D V kf0 i y (fun _ v=>v= .int .i64 (n:Int))) (hn:n<l.length) (hF: ∀w v,(∃b c,u= .slice (some ⟨b,0,none⟩) l.length c∧v= .pointer (some ⟨b,n*sz,none⟩))→F d w v):Owes soft P ops Q F G D V kf0 i (some d) (.indexAddr t x y):=
 val (fun o a w ho c=>by
  obtain ⟨h0,⟨h1,h2⟩,h3⟩:=hx a w c
  have eu:a.eval x=u:=hu a w c
  have e2:a.eval y= .int .i64 (n:Int):=hy a w c
  obtain ⟨hut,j,hi,hz,hz0⟩:=eltB_ok hB
  rcases h2 with ⟨e,h2⟩|⟨k,cap,cur,e,hb,hk,hnc,hm,hs,htk⟩
  ·omega
  ·refine ⟨.pointer (some ⟨k,n*sz,none⟩), ?_,hF _ _ ⟨k,cap,eu▸e,rfl⟩⟩
   unfold execOp
   simp only [ho,e,e2]
   simp [go_sem,Instr.indexAt,underlying,sizeOf,typeInfo,hut,hi,hz,hn,Addr.add]
   exact fun h=>h.symm) rfl
theorem loadAd {t:TypeId} {row:List Value} (hx:Arg soft P ops F G D V kf0 i x (isAd cx row)) (ha:aggB P t=true) (hz:(P.info? t).map (·.size)=some row.length) (hF: ∀w v,v= .agg row.toArray→F d w v):Owes soft P ops Q F G D V kf0 i (some d) (.load t x):=
 val (fun o a w ho c=>by
  obtain ⟨b,off,cs,t',fr,e1,h1,h2,h3⟩:=hx a w c
  refine ⟨.agg row.toArray, ?_,hF _ _ rfl⟩
  obtain ⟨ds,hu,hd⟩:=agg_desc ha
  have hrun:=run_loadVar_mid (P:=P) w b off t row ds (fun j v hj=>by
   simp only [World.cell?,h1,Option.isSome_none,Bool.false_eq_true,if_false]
   exact h3 j v hj) hu (by cases ds<;>first|rfl|exact hd) hz
  unfold execOp
  simp only [ho,e1,Instr.loadAt,Instr.sureAddr,Sem.run_bind,Sem.run_pure,Result.andThen_ok,hrun]) rfl
theorem loadAd1 {t:TypeId} {row:List Value} {v:Value} (hx:Arg soft P ops F G D V kf0 i x (isAd cx (v::row))) (ha:plainB P t=true) (hF: ∀w u,u=v→F d w u):Owes soft P ops Q F G D V kf0 i (some d) (.load t x):=
 val (fun o a w ho c=>by
  obtain ⟨b,off,cs,t',fr,e1,h1,h2,h3⟩:=hx a w c
  refine ⟨v, ?_,hF _ _ rfl⟩
  have hc:w.cell? ⟨b,off,none⟩=some v:=by
   simp only [World.cell?,h1,Option.isSome_none,Bool.false_eq_true,if_false]
   exact h3 0 v rfl
  have: ∃ds,P.underlying t=some ds∧aggD ds=false:=by
   unfold plainB at ha
   split at ha
   ·cases ha
   ·cases ha
   ·next ds h1 h2 e=>exact ⟨ds,e,by cases ds<;>first|rfl|exact (h1 _ rfl).elim|exact (h2 _ _ rfl).elim⟩
   ·cases ha
  obtain ⟨ds,hu,hd⟩:=this
  unfold execOp
  simp only [ho,e1,Instr.loadAt,Instr.sureAddr,Sem.run_bind,Sem.run_pure,Result.andThen_ok,run_loadCell hc hu hd]) rfl
theorem fieldAd {t f off sz:Nat} {row:List Value} (hx:Arg soft P ops F G D V kf0 i x (isAd cx row)) (hf:fieldB P t f off sz=true) (hF: ∀w v,isAd cx (row.drop off) w v→F d w v):Owes soft P ops Q F G D V kf0 i (some d) (.fieldAddr t x f):=
 val (fun o a w ho c=>by
  obtain ⟨b,o0,cs,t',fr,e0,h1,h2,h3⟩:=hx a w c
  refine ⟨.pointer (some ⟨b,o0+off,none⟩), ?_,hF _ _ ⟨b,o0+off,cs,t',fr,rfl,h1,h2,fun j v hj=> ?_⟩⟩
  ·unfold fieldB at hf
   split at hf
   ·next fs hu=>
    split at hf
    ·next fd hfd=>
     simp only [Bool.and_eq_true] at hf
     obtain ⟨g1,g2⟩:=hf
     split at g2
     ·next j hj=>
      simp only [Bool.and_eq_true,Bool.not_eq_true'] at g2
      have e1:fd.offset=off:=Nat.eq_of_beq_eq_true g1
      have e2:=Nat.eq_of_beq_eq_true g2.1
      have e3:sz≠0:=fun e=>by rw [e] at g2;cases g2.2
      subst e1
      unfold execOp
      simp only [ho,e0]
      simp [go_sem,Instr.fieldAt,Instr.sureAddr,underlying,fieldPlace,sizeOf,typeInfo,hu,hfd,hj,e2,e3]
     ·cases g2
    ·cases hf
   ·cases hf
  ·rw [Nat.add_assoc]
   exact h3 _ _ (by rwa [List.getElem?_drop] at hj)) rfl
theorem up_run {t T sz n:Nat} {l:List (List Value)} {o:Bool} {a:Act} {w:World} {o':Oper} (hB:eltB P t T sz=true) (ho:o'.op= .slice t x none (some y) none) (hv:isLs cx T sz l o w (a.eval x)) (e2:a.eval y= .int .i64 (n:Int)) (hn:n≤l.length): ∃v,(execOp a.eval o').run P w= .ok (.value v) w∧isLs cx T sz (l.take n) o w v:=by
 obtain ⟨hu,j,hi,hz,hz0⟩:=eltB_ok hB
 have hl:(l.take n).length=n:=by rw [List.length_take];omega
 have key: ∀(A:Option Addr) (cap:Nat),a.eval x= .slice A l.length cap→l.length≤cap→(execOp a.eval o').run P w= .ok (.value (.slice A n cap)) w:=fun A cap e1 hc=>by
  have hnc:n≤cap:=by omega
  unfold execOp
  simp only [ho,Option.map_some,Option.map_none,e1,e2]
  simp [go_sem,hu,hnc,sizeOf,typeInfo,hi]
 have ht:rowsB sz l→rowsB sz (l.take n):=fun h r hr=>h r (List.mem_of_mem_take hr)
 cases o with
 |true=>
  obtain ⟨h0,⟨h1,h2⟩,h3⟩:=hv
  have hfl:(l.take n).flatten=l.flatten.take (n*sz):=by
   have e:l.flatten=(l.take n).flatten++(l.drop n).flatten:=by rw [←List.flatten_append,List.take_append_drop]
   rw [e]
   exact (List.take_left' (by rw [flat_len (ht h0),hl])).symm
  rcases h2 with ⟨e,h2⟩|⟨k,cap,cur,e,hb,hk,hnc,hm,hs,htk⟩
  ·have hn0:n=0:=by omega
   have hl0:l= []:=List.eq_nil_of_length_eq_zero h2
   subst hn0
   refine ⟨.slice none 0 0,key none 0 (by rw [e,h2]) (by omega),⟨ht h0,⟨by simp, .inl ⟨rfl,by simp⟩⟩,fun b hb=>by cases hb⟩⟩
  ·refine ⟨.slice (some ⟨k,0,none⟩) n cap,key _ cap e hnc,⟨ht h0,⟨by rw [flat_len (ht h0)], .inr ⟨k,cap,cur,by rw [hl],hb,hk,by omega,hm,hs, ?_⟩⟩,fun b hb'=> ?_⟩⟩
   ·rw [hl,hfl,←htk,List.take_take]
    congr 1
    have:=Nat.mul_le_mul_right sz hn
    omega
   ·rw [e] at h3
    exact h3 b hb'
 |false=>
  obtain ⟨h0,A,cap,e1,h1,h2,h3⟩:=hv
  refine ⟨.slice A n cap,key A cap e1 h1,⟨ht h0,A,cap,by rw [hl],by omega,h2,fun hne=> ?_⟩⟩
  obtain ⟨b,off,cs,t',fr,e3,h4,h5,h6,h7⟩:=h3 (by intro e;rw [e] at hne;simp at hne)
  refine ⟨b,off,cs,t',fr,e3,h4,h5,h6,fun j x hj=>h7 j x ?_⟩
  have e:l.flatten=(l.take n).flatten++(l.drop n).flatten:=by rw [←List.flatten_append,List.take_append_drop]
  rw [e,List.getElem?_append_left (List.getElem?_eq_some_iff.1 hj).1]
  exact hj
theorem upLs {t T sz n:Nat} {l:List (List Value)} {o:Bool} (hB:eltB P t T sz=true) (hx:Arg soft P ops F G D V kf0 i x (isLs cx T sz l o)) (hy:Arg soft P ops F G D V kf0 i y (fun _ v=>v= .int .i64 (n:Int))) (hn:n≤l.length) (hF: ∀w v,isLs cx T sz (l.take n) o w v→F d w v):Owes soft P ops Q F G D V kf0 i (some d) (.slice t x none (some y) none):=
 val (fun _ a w ho c=>by
  obtain ⟨v,h1,h2⟩:=up_run hB ho (hx a w c) (hy a w c) hn
  exact ⟨v,h1,hF _ _ h2⟩) rfl
theorem rangeT {t:TypeId} {s:List UInt8} (hu:P.underlying t=some .string) (hx:Arg soft P ops F G D V kf0 i x (fun _ v=>v= .string ⟨⟨s⟩⟩)) (hfr: ∀a w,Ctx soft P ops F G D V kf0 i a w→cx.own≤w.heap.size∧ ∀b,w.heap.size≤b→cx.ban b itT=false) (hF: ∀w v,isIt cx s 0 w v→F d w v):Owes soft P ops Q F G D V kf0 i (some d) (.range t x):=
 fun o a w ho hd c=>by
  have e1:a.eval x= .string ⟨⟨s⟩⟩:=hx a w c
  obtain ⟨f1,f2⟩:=hfr a w c
  refine Rg.valOf (v:= .pointer (some ⟨w.heap.size,0,none⟩)) (w':=w.iter ⟨⟨s⟩⟩ 0) ?_ hd (hF _ _ ⟨w.heap.size,rfl,World.iter_heap w _ _,f2 _ (Nat.le_refl _),f1⟩) ((Grow.refl w).alloc _)
  unfold execOp
  simp only [ho,e1]
  simp [run_range_string w t ⟨⟨s⟩⟩ hu]
theorem bldP {t:TypeId} {ps:Array (Nat×Operand)} {vs:List (Nat×Value)} {cs:Array Value} (hb:P.built t vs=some cs) (hx: ∀a w,Ctx soft P ops F G D V kf0 i a w→ps.toList.map (fun z=>(z.1,a.eval z.2))=vs) (hF: ∀w v,v= .agg cs→F d w v):Owes soft P ops Q F G D V kf0 i (some d) (.build t ps):=
 val (fun o a w ho c=>by
  refine ⟨.agg cs, ?_,hF _ _ rfl⟩
  have e:=hx a w c
  have hr:=run_build (P:=P) w t (ps.map fun (i,x)=>(i,a.eval x)) cs (by
   rw [Array.toList_map]
   rw [←hb,←e])
  unfold execOp
  simp only [ho,Sem.run_bind,hr,Result.andThen_ok]
  rfl) rfl
def chunks (sz:Nat):Nat→List Value→List (List Value)
 |0,_=> []
 |n+1,l=>l.take sz::chunks sz n (l.drop sz)
theorem chunks_ok {sz:Nat}: ∀{n:Nat} {l:List Value},l.length=n*sz→(chunks sz n l).flatten=l∧rowsB sz (chunks sz n l)∧(chunks sz n l).length=n:=by
 intro n
 induction n with
 |zero=>
  intro l h
  have h':l= []:=List.eq_nil_of_length_eq_zero (by simpa using h)
  subst h'
  exact ⟨rfl,fun r hr=>(by cases hr),rfl⟩
 |succ n ih=>
  intro l h
  rw [Nat.add_mul,Nat.one_mul] at h
  obtain ⟨h1,h2,h3⟩:=ih (l:=l.drop sz) (by rw [List.length_drop];omega)
  refine ⟨by rw [chunks,List.flatten_cons,h1,List.take_append_drop],fun r hr=> ?_,by rw [chunks,List.length_cons,h3]⟩
  rcases List.mem_cons.1 hr with rfl|hr
  ·rw [List.length_take];omega
  ·exact h2 r hr
def sliced (P:Program) (t:TypeId) (n:Nat) (parts:List (Nat×Value)):Option (Nat×Nat×List Value):=match P.underlying t with
 |some (.slice e)=>match P.info? e with
  |some j=>match j.zero with
   |some z=>match Instr.fill (fun i=>some (i*j.size,j.size)) ((Array.range (n*j.size)).map (z.cells[· %z.cells.size]!)) parts with
    |some cs=>cond (decide (n*j.size≤16777216)&& !Nat.beq (n*j.size) 0&&Nat.beq cs.toList.length (n*j.size)&&cs.toList.all pv) (some (e,j.size,cs.toList)) none
    |none=>none
   |none=>none
  |none=>none
 |_=>none
theorem run_sliced {w:World} {t T sz n:Nat} {ps:Array (Nat×Value)} {l:List Value} (h:sliced P t n ps.toList=some (T,sz,l)):(Instr.buildSlice t n ps).run P w= .ok (.slice (some ⟨w.heap.size,0,none⟩) n n) (w.alloc (.cells l.toArray T))∧l.length=n*sz∧l.all pv=true∧n≤maxLen:=by
 unfold sliced at h
 split at h
 ·next e hu=>
  split at h
  ·next j hi=>
   split at h
   ·next z hz=>
    split at h
    ·next cs hf=>
     cases hc:(decide (n*j.size≤16777216)&& !Nat.beq (n*j.size) 0&&Nat.beq cs.toList.length (n*j.size)&&cs.toList.all pv) with
     |false=>rw [hc] at h;cases h
     |true=>
      rw [hc] at h
      injection h with h
      injection h with h1 h2
      injection h2 with h2 h3
      subst h1 h2 h3
      simp only [Bool.and_eq_true,decide_eq_true_eq,Bool.not_eq_true'] at hc
      obtain ⟨⟨⟨c1,c2⟩,c3⟩,c4⟩:=hc
      have c2':n*j.size≠0:=fun e=>by rw [e] at c2;cases c2
      have c1': ¬(16777216<n*j.size):=by omega
      refine ⟨?_,Nat.eq_of_beq_eq_true c3,c4, ?_⟩
      ·simp [Instr.buildSlice,run_underlying hu,sizeOf,typeInfo,zeroValue,hi,hz,c1',c2',hf,newRow]
      ·have:0<j.size:=Nat.pos_of_ne_zero fun e=>c2' (by rw [e,Nat.mul_zero])
       have:n≤n*j.size:=Nat.le_mul_of_pos_right _ this
       simp only [maxLen];omega
    ·cases h
   ·cases h
  ·cases h
 ·cases h
theorem own_new {w:World} {T sz n:Nat} {l:List Value} {rows:List (List Value)} (hr:rowsB sz rows) (hl:rows.length=n) (hf:rows.flatten=l) (hp:l.all pv=true) (hn:n≤maxLen) (h1:cx.own≤w.heap.size) (h2: ∀b,w.heap.size≤b→cx.ban b T=false):isOw cx T sz rows (w.alloc (.cells l.toArray T)) (.slice (some ⟨w.heap.size,0,none⟩) n n):=by
 have hnew:(w.alloc (.cells l.toArray T)).heap[w.heap.size]? =some (.cells l.toArray T (0,0)):=heap_alloc_new w _
 have hfl:l.length=n*sz:=by rw [←hf,flat_len hr,hl]
 refine ⟨hr,⟨by rw [flat_len hr], .inr ⟨w.heap.size,n,l.toArray,by rw [hl],h1,hnew,by omega,hn,by simpa using hfl, ?_⟩⟩,fun b e=> ?_⟩
 ·rw [hl,hf,←hfl]
  simp
 ·injection e with e
  subst e
  refine ⟨h2 _ (Nat.le_refl _),fun cs t fr hc=> ?_⟩
  rw [hnew] at hc
  injection hc with hc
  injection hc with e1
  subst e1
  rw [←hp]
  simp
theorem bldSl {t T sz n:Nat} {ps:Array (Nat×Operand)} {vs:List (Nat×Value)} {l:List Value} (hb:sliced P t n vs=some (T,sz,l)) (hx: ∀a w,Ctx soft P ops F G D V kf0 i a w→ps.toList.map (fun z=>(z.1,a.eval z.2))=vs) (hfr: ∀a w,Ctx soft P ops F G D V kf0 i a w→cx.own≤w.heap.size∧ ∀b,w.heap.size≤b→cx.ban b T=false) (hF: ∀w v,isOw cx T sz (chunks sz n l) w v→F d w v):Owes soft P ops Q F G D V kf0 i (some d) (.buildSlice t n ps):=
 fun o a w ho hd c=>by
  have e:=hx a w c
  obtain ⟨f1,f2⟩:=hfr a w c
  obtain ⟨hr,hl,hp,hn⟩:=run_sliced (P:=P) (w:=w) (ps:=ps.map fun (i,x)=>(i,a.eval x)) (n:=n) (t:=t) (by rw [Array.toList_map,←hb,←e])
  obtain ⟨k1,k2,k3⟩:=chunks_ok hl
  refine Rg.valOf (v:= .slice (some ⟨w.heap.size,0,none⟩) n n) (w':=w.alloc (.cells l.toArray T)) ?_ hd (hF _ _ (own_new k2 k3 k1 hp hn f1 f2)) ((Grow.refl w).alloc _)
  unfold execOp
  simp only [ho,Sem.run_bind,hr,Result.andThen_ok]
  rfl
def madeB (P:Program) (t:TypeId):Option (Nat×Value×Nat):=match P.underlying t with
 |some (.slice e)=>match P.info? e with
  |some j=>match j.zero with
   |some z=>cond (Nat.beq j.size 1&&pv z) (some (e,z,j.bytes)) none
   |none=>none
  |none=>none
 |_=>none
theorem pv_cells {z:Value} (h:pv z=true):z.cells= #[z]:=by
 unfold pv at h
 simp only [Bool.and_eq_true] at h
 cases z<;>first|rfl|(have:=h.2;simp [Value.oneCell'] at this)
theorem mkSl {t T n by':Nat} {z:Value} (hb:madeB P t=some (T,z,by')) (hx:Arg soft P ops F G D V kf0 i x (fun _ v=>v= .int .i64 (n:Int))) (hn:n≤maxLen∧by'*n≤281474976710656) (hfr: ∀a w,Ctx soft P ops F G D V kf0 i a w→cx.own≤w.heap.size∧ ∀b,w.heap.size≤b→cx.ban b T=false) (hF: ∀w v,isOw cx T 1 (List.replicate n [z]) w v→F d w v):Owes soft P ops Q F G D V kf0 i (some d) (.makeSlice t x x):=
 fun o a w ho hd c=>by
  have e1:a.eval x= .int .i64 (n:Int):=hx a w c
  obtain ⟨f1,f2⟩:=hfr a w c
  unfold madeB at hb
  split at hb
  ·next e hu=>
   split at hb
   ·next j hi=>
    split at hb
    ·next z' hz=>
     cases hc:(Nat.beq j.size 1&&pv z') with
     |false=>rw [hc] at hb;cases hb
     |true=>
      rw [hc] at hb
      injection hb with hb
      injection hb with h1 h2
      injection h2 with h2 h3
      subst h1 h2 h3
      simp only [Bool.and_eq_true] at hc
      have hs:j.size=1:=Nat.eq_of_beq_eq_true hc.1
      have h63:(n:Int)≤9223372036854775807:=by have:=hn.1;simp only [maxLen] at this;omega
      have hbb:(j.bytes:Int)*(n:Int)≤281474976710656:=by have:=hn.2;rw [←Int.natCast_mul];omega
      have hr:=run_make (P:=P) w t e j z' hu hi hz .i64 .i64 n n (by omega) (Int.le_refl _) hbb h63
      simp only [Int.toNat_natCast,hs,Nat.mul_one] at hr
      have hfl:(List.replicate n [z']).flatten=List.replicate n z':=by
       induction n with
       |zero=>rfl
       |succ m _=>simp [List.flatten_replicate_singleton]
      have hcl:madeCells z'.cells n=(List.replicate n z').toArray:=by
       rw [pv_cells hc.2]
       apply Array.ext'
       rw [toList_madeCells_one]
      rw [hcl] at hr
      refine Rg.valOf (v:= .slice (some ⟨w.heap.size,0,none⟩) n n) (w':=w.alloc (.cells (List.replicate n z').toArray e)) ?_ hd (hF _ _ (own_new (fun r h=>by rw [List.eq_of_mem_replicate h];rfl) (by simp) hfl ?_ hn.1 f1 f2)) ((Grow.refl w).alloc _)
      ·unfold execOp
       simp only [ho,e1,Sem.run_bind,hr,Result.andThen_ok]
       rfl
      ·rw [List.all_eq_true]
       intro v hv
       rw [List.eq_of_mem_replicate hv]
       exact hc.2
    ·cases hb
   ·cases hb
  ·cases hb
def room (P:Program) (t:TypeId):Option (Nat×Nat×Nat):=match P.underlying t with
 |some (.slice e)=>match P.info? e with
  |some j=>match j.zero with
   |some z=>cond (Nat.beq z.cells.size j.size&&z.cells.all pv&& !Nat.beq j.size 0) (some (e,j.size,j.bytes)) none
   |none=>none
  |none=>none
 |_=>none
theorem made_pv {z:Array Value} {n:Nat} (h:z.all pv=true) (h0:z.size≠0):(madeCells z n).all pv=true:=by
 rw [Array.all_eq_true]
 intro i hi
 have hlt:i%z.size<z.size:=Nat.mod_lt _ (by omega)
 simp only [madeCells,Array.getElem_map,Array.getElem_range]
 rw [getElem!_pos z _ hlt]
 exact Array.all_eq_true.1 h _ hlt
theorem mkSl0 {t T sz n by':Nat} {y:Operand} (hb:room P t=some (T,sz,by')) (hx:Arg soft P ops F G D V kf0 i y (fun _ v=>v= .int .i64 (n:Int))) (hn:n≤maxLen∧by'*n≤281474976710656) (hfr: ∀a w,Ctx soft P ops F G D V kf0 i a w→cx.own≤w.heap.size∧ ∀b,w.heap.size≤b→cx.ban b T=false) (hF: ∀w v,isOw cx T sz [] w v→F d w v):Owes soft P ops Q F G D V kf0 i (some d) (.makeSlice t (.const (.int .i64 0)) y):=
 fun o a w ho hd c=>by
  have e1:a.eval y= .int .i64 (n:Int):=hx a w c
  have e0:a.eval (.const (.int .i64 0))= .int .i64 0:=rfl
  obtain ⟨f1,f2⟩:=hfr a w c
  unfold room at hb
  split at hb
  ·next e hu=>
   split at hb
   ·next j hi=>
    split at hb
    ·next z hz=>
     cases hc:(Nat.beq z.cells.size j.size&&z.cells.all pv&& !Nat.beq j.size 0) with
     |false=>rw [hc] at hb;cases hb
     |true=>
      rw [hc] at hb
      injection hb with hb
      injection hb with h1 h2
      injection h2 with h2 h3
      subst h1 h2 h3
      simp only [Bool.and_eq_true,Bool.not_eq_true'] at hc
      have hs:=Nat.eq_of_beq_eq_true hc.1.1
      have h0:z.cells.size≠0:=fun e=>by rw [←hs,e] at hc;exact absurd hc.2 (by decide)
      have h63:(n:Int)≤9223372036854775807:=by have:=hn.1;simp only [maxLen] at this;omega
      have hbb:(j.bytes:Int)*(n:Int)≤281474976710656:=by have:=hn.2;rw [←Int.natCast_mul];omega
      have hr:=run_make (P:=P) w t e j z hu hi hz .i64 .i64 0 n (Int.le_refl _) (by omega) hbb h63
      simp only [Int.toNat_natCast,Int.toNat_zero] at hr
      refine Rg.valOf (v:= .slice (some ⟨w.heap.size,0,none⟩) 0 n) (w':=w.alloc (.cells (madeCells z.cells (n*j.size)) e)) ?_ hd (hF _ _ ⟨(fun r h=>by cases h),⟨by simp, .inr ⟨w.heap.size,n,_,rfl,f1,heap_alloc_new w _,Nat.zero_le _,hn.1,size_madeCells _ _,by simp⟩⟩,fun b e=> ?_⟩) ((Grow.refl w).alloc _)
      ·unfold execOp
       simp only [ho,e0,e1,Sem.run_bind,hr,Result.andThen_ok]
       rfl
      ·injection e with e
       subst e
       refine ⟨f2 _ (Nat.le_refl _),fun cs t fr hc'=> ?_⟩
       rw [heap_alloc_new w _] at hc'
       injection hc' with hc'
       injection hc' with e1
       subst e1
       exact made_pv hc.1.2 h0
    ·cases hb
   ·cases hb
  ·cases hb
end
theorem run_storeAt {P:Program} {w:World} {t T:TypeId} {o:Oper} {ρ:Operand→Value} {p x:Operand} {k off:Nat} {v:Value} {cur:Array Value} (ho:o.op= .store t p x) (hp:ρ p= .pointer (some ⟨k,off,none⟩)) (hx:ρ x=v) (hk:w.heap[k]? =some (.cells cur T (0,0))) (hz:(P.info? t).map (·.size)=some v.cells.size) (h1: ∀u∈v.cells.toList,u.oneCell'=true) (hle:off+v.cells.toList.length≤cur.size):
  (execOp ρ o).run P w= .ok .skip (w.setRow k (cur.toList.take off++v.cells.toList++cur.toList.drop (off+v.cells.toList.length)).toArray):=by
 have hst:=run_storeCells_at P k off T v.cells.toList 0 cur w hk (by simpa using hle) h1
 simp only [Nat.add_zero] at hst
 cases hi:P.info? t with
 |none=>rw [hi] at hz;cases hz
 |some j=>
  rw [hi] at hz
  simp only [Option.map_some,Option.some.injEq] at hz
  have hs:(storeVar t ⟨k,off,none⟩ v).run P w= .ok () (w.setRow k (cur.toList.take off++v.cells.toList++cur.toList.drop (off+v.cells.toList.length)).toArray):=by
   unfold storeVar
   simp [sizeOf,typeInfo,hi,hz,hst]
  unfold execOp
  simp only [ho,hp,hx,Instr.storeAt,Instr.sureAddr,Sem.run_bind,Sem.run_pure,Result.andThen_ok,hs]
end Go.Proofs.YthebilnlljkfeaaGreatDoor.Z
namespace Go.Proofs.YthebilnlljkfeaaGreatDoor.Z
open Go.RowKit Go.Proofs.YthebilnlljkfeaaGreatDoor.Rg
variable {P:Program} {cx:Cx}
theorem flat_app (l1 l2:List (List Value)):(l1++l2).flatten=l1.flatten++l2.flatten:=List.flatten_append
theorem pv_one {v:Value} (h:pv v=true):v.oneCell'=true:=by
 unfold pv at h
 simp only [Bool.and_eq_true] at h
 exact h.2
theorem rows_app {sz:Nat} {l1 l2:List (List Value)} (h1:rowsB sz l1) (h2:rowsB sz l2):rowsB sz (l1++l2):=fun r hr=>(List.mem_append.1 hr).elim (h1 r) (h2 r)
theorem zero_pv {z:Array Value} (h:z.all pv=true) (n:Nat): ∀x∈(Builtin.zeroCells z n).toList,pv x=true:=by
 intro x hx
 unfold Builtin.zeroCells at hx
 rw [Array.toList_map] at hx
 obtain ⟨i,hi,rfl⟩:=List.mem_map.1 hx
 have hi':i<n*z.size:=by simpa using hi
 have h0:0<z.size:=Nat.pos_of_ne_zero fun e=>by rw [e,Nat.mul_zero] at hi';cases hi'
 have hlt:=Nat.mod_lt i h0
 rw [getElem!_pos z (i%z.size) hlt]
 exact (Array.all_eq_true.1 h) _ hlt
theorem run_append_zero {w:World} {T t ty:TypeId} {i:TypeInfo} (ht:P.underlying t=some (.slice T)) (hi:P.info? T=some i) {A B:Option Addr} {n c cap:Nat} (h:n≤c):(Builtin.append_ #[t,t] ty #[.slice B n c, .slice A 0 cap]).run P w= .ok (.slice B n c) w:=by
 cases A<;>cases B<;>simp [Builtin.append_,run_underlying ht,sizeOf,typeInfo,hi,Builtin.lenOf,Builtin.firstCells,loadCells,loadCellsFrom,storeCells,h]
theorem run_append_pv {w:World} {T sz t ty bytes:Nat} {o:Bool} {l1 l2:List (List Value)} {v u:Value} {i:TypeInfo} {z:Value} (ht:P.underlying t=some (.slice T)) (hi:P.info? T=some i) (hz:i.zero=some z) (hsize:i.size=sz) (hby:i.bytes=bytes) (hzs:z.cells.size=sz) (hzp:z.cells.all pv=true) (hT:hardTy T=false) (hsz:0<sz)
  (h1:isOw cx T sz l1 w v) (h2:isRd cx o sz l2 w u) (hp2: ∀r∈l2,∀x∈r,pv x=true) (hb:(l1.length+l2.length)*bytes≤140737488355328) (hml:l1.length+l2.length≤maxLen) (hown:cx.own≤w.heap.size) (hfr: ∀b,w.heap.size≤b→cx.ban b T=false):
  ∃v' w',(Builtin.append_ #[t,t] ty #[v,u]).run P w= .ok v' w'∧isOw cx T sz (l1++l2) w' v'∧w.grownBy w' v.ownBlock∧EvoE (eC soft (cx.turn (fun b=>decide (v.ownBlock=some b)) T)) w w'∧(v'.ownBlock=v.ownBlock∨v'.ownBlock=some w.heap.size)∧(∀b,v.ownBlock=some b→cx.ban b T=false∧cx.own≤b∧ ∃cs,w.heap[b]? =some (.cells cs T (0,0)))∧isOw cx T sz l1 w' v:=by
 subst hsize
 subst hby
 rcases Nat.eq_zero_or_pos l2.length with h00|h0
 ·have e2:l2= []:=List.eq_nil_of_length_eq_zero h00
  subst e2
  obtain ⟨_,A,cap2,rfl,_⟩:=h2
  obtain ⟨hr1,⟨hl1,hown1⟩,hpv1⟩:=h1
  have hv: ∃B c,v= .slice B l1.length c∧l1.length≤c:=by
   rcases hown1 with ⟨rfl,hn⟩|⟨g,cap,cur,rfl,_,_,hnc,_⟩
   ·exact ⟨none,0,by rw [hn],by omega⟩
   ·exact ⟨_,cap,rfl,hnc⟩
  obtain ⟨B,c,rfl,hc⟩:=hv
  refine ⟨_,w,run_append_zero ht hi hc,by rw [List.append_nil];exact ⟨hr1,⟨hl1,hown1⟩,hpv1⟩,⟨rfl,rfl,rfl,Nat.le_refl _,fun _ _ _=>rfl⟩,EvoE.refl _, .inl rfl,fun b e=> ?_,⟨hr1,⟨hl1,hown1⟩,hpv1⟩⟩
  rcases hown1 with ⟨e0,_⟩|⟨g,cap,cur,e0,hbg,hg,_⟩
  ·rw [e0] at e;cases e
  ·rw [e0] at e
   have e':g=b:=by injection e
   subst e'
   exact ⟨(hpv1 g (by rw [e0];rfl)).1,hbg,cur,hg⟩
 obtain ⟨hr2,A,cap2,rfl,hc2,hm2,hA⟩:=h2
 obtain ⟨b2,off,cs2,t2,fr2,rfl,hb2,hban2,_,hcells⟩:=hA (by intro e;rw [e] at h0;cases h0)
 obtain ⟨hr1,⟨hl1,hown1⟩,hpv1⟩:=h1
 have hl2:l2.flatten.length=l2.length*i.size:=flat_len hr2
 have hnews: ∀(j:Nat) (x:Value),l2.flatten[j]? =some x→w.cell? ((⟨b2,off,none⟩:Addr).add j)=some x:=by
  intro j x hx
  have e:(⟨b2,off,none⟩:Addr).add j=⟨b2,off+j,none⟩:=by unfold Addr.add;split<;>simp_all
  rw [e]
  simp only [World.cell?,hb2,Option.isSome_none,Bool.false_eq_true,if_false]
  exact hcells j x hx
 have hpf2: ∀x∈l2.flatten,pv x=true:=fun x hx=>by
  obtain ⟨r,hr,hx⟩:=List.mem_flatten.1 hx
  exact hp2 r hr x hx
 have hone: ∀x∈l2.flatten,x.oneCell'=true:=fun x hx=>pv_one (hpf2 x hx)
 have hlen:(l1++l2).length=l1.length+l2.length:=List.length_append
 have hsmall:l1.length+l2.length≤9223372036854775807:=by simp only [maxLen] at hml;omega
 have hflen:(l1.flatten++l2.flatten).length=(l1.length+l2.length)*i.size:=by rw [List.length_append,hl1,hl2,Nat.add_mul]
 have grown: ∀(old:Nat) (row:Option Nat),(∀x∈l1.flatten,pv x=true)→
   isOw cx T i.size (l1++l2) (w.drew.alloc (.cells (l1.flatten.toArray++l2.flatten.toArray++Builtin.zeroCells z.cells (grownCap w (l1.length+l2.length) old T-(l1.length+l2.length))) T)) (.slice (some ⟨w.heap.size,0,none⟩) (l1.length+l2.length) (grownCap w (l1.length+l2.length) old T))∧
   w.grownBy (w.drew.alloc (.cells (l1.flatten.toArray++l2.flatten.toArray++Builtin.zeroCells z.cells (grownCap w (l1.length+l2.length) old T-(l1.length+l2.length))) T)) row∧
   EvoE (eC soft (cx.turn (fun b=>decide (row=some b)) T)) w (w.drew.alloc (.cells (l1.flatten.toArray++l2.flatten.toArray++Builtin.zeroCells z.cells (grownCap w (l1.length+l2.length) old T-(l1.length+l2.length))) T)):=by
  intro old row hpf1
  have hge:=grownCap_ge w (l1.length+l2.length) old T
  have hcm:grownCap w (l1.length+l2.length) old T≤maxLen:=grownCap_le_maxLen w (l1.length+l2.length) old T hml
  have hnew:=heap_alloc_new w.drew (.cells (l1.flatten.toArray++l2.flatten.toArray++Builtin.zeroCells z.cells (grownCap w (l1.length+l2.length) old T-(l1.length+l2.length))) T)
  refine ⟨⟨rows_app hr1 hr2,⟨by rw [flat_app,hlen,hflen], .inr ⟨w.heap.size,_,_,by rw [hlen],hown,hnew,by rw [hlen];exact hge,hcm, ?_, ?_⟩⟩,fun b e=> ?_⟩,⟨rfl,rfl,rfl,by simp,fun k hk _=>heap_alloc_old w.drew _ hk⟩,EvoE.of_grow ((Grow.refl w).drew.alloc _)⟩
  ·simp only [Array.size_append,List.size_toArray,size_zeroCells,hzs,hl1,hl2,←Nat.add_mul]
   congr 1
   omega
  ·simp only [Array.toList_append,List.append_assoc]
   rw [←List.append_assoc,hlen,←hflen,flat_app]
   exact List.take_left
  ·injection e with e
   subst e
   refine ⟨hfr _ (Nat.le_refl _),fun cs t fr hc=> ?_⟩
   rw [show w.heap.size=w.drew.heap.size from rfl,hnew] at hc
   injection hc with hc
   injection hc with e1
   subst e1
   rw [Array.all_eq_true_iff_forall_mem]
   intro x hx
   rw [←Array.mem_toList_iff] at hx
   simp only [Array.toList_append,List.mem_append] at hx
   rcases hx with (hx|hx)|hx
   ·exact hpf1 x hx
   ·exact hpf2 x hx
   ·exact zero_pv hzp _ x hx
 rcases hown1 with ⟨rfl,hn⟩|⟨g,cap,cur,rfl,hbg,hg,hnc,hcm,hcs,htake⟩
 ·have hx:l1= []:=List.eq_nil_of_length_eq_zero hn
  subst hx
  have hr:=run_append_nil (P:=P) w t ty T i z ht hi hz ⟨b2,off,none⟩ l2.length cap2 l2.flatten hl2 hnews h0 (by simp at hsmall;omega) (by simp at hb;omega)
  obtain ⟨g1,g2,g3⟩:=grown 0 (Value.ownBlock (.slice none 0 0)) (fun x hx=>by cases hx)
  simp only [List.length_nil,Nat.zero_add,List.flatten_nil,List.nil_append,Array.empty_append] at g1 g2 g3⊢
  exact ⟨_,_,hr,g1,g2,g3, .inr rfl,fun b e=>(by cases e),⟨hr1,⟨hl1, .inl ⟨rfl,rfl⟩⟩,fun b e=>by cases e⟩⟩
 ·obtain ⟨p1,p2⟩:=hpv1 g rfl
  have hpc:=p2 cur T (0,0) hg
  have hbk: ∀b,Value.ownBlock (.slice (some ⟨g,0,none⟩) l1.length cap)=some b→cx.ban b T=false∧cx.own≤b∧ ∃cs,w.heap[b]? =some (.cells cs T (0,0)):=fun b e=>by
   injection e with e
   subst e
   exact ⟨p1,hbg,cur,hg⟩
  by_cases hroom:l1.length+l2.length≤cap
  ·have hfit:l1.length*i.size+l2.flatten.length≤cur.size:=by rw [hl2,hcs,←Nat.add_mul];exact Nat.mul_le_mul_right _ hroom
   have hr:=run_append_room (P:=P) w t ty T i ht hi g l1.length cap cur hg ⟨b2,off,none⟩ l2.length cap2 l2.flatten hl2 hnews hone hroom hfit
   have hpn:(cur.toList.take (l1.length*i.size)++l2.flatten++cur.toList.drop (l1.length*i.size+l2.flatten.length)).toArray.all pv=true:=by
    rw [Array.all_eq_true_iff_forall_mem] at hpc⊢
    intro x hx
    rw [←Array.mem_toList_iff] at hx
    simp only [List.mem_append] at hx
    rcases hx with (hx|hx)|hx
    ·exact hpc x (by simpa using List.mem_of_mem_take hx)
    ·exact hpf2 x hx
    ·exact hpc x (by simpa using List.mem_of_mem_drop hx)
   refine ⟨_,_,hr,⟨rows_app hr1 hr2,⟨by rw [flat_app,hlen,hflen], .inr ⟨g,cap,_,by rw [hlen],hbg,setRow_heap w g cur _ T _ hg,by rw [hlen];exact hroom,hcm, ?_, ?_⟩⟩,fun b e=> ?_⟩,⟨rfl,rfl,rfl,by simp,fun k _ hk=>setRow_other w g k _ (fun e=>hk (by simp [Value.ownBlock,e]))⟩,evo_row hg hbg (decide_eq_true rfl) (soft_pv hpc hT) (soft_pv hpn hT), .inl rfl,hbk,⟨hr1,⟨hl1, .inr ⟨g,cap,_,rfl,hbg,setRow_heap w g cur _ T _ hg,hnc,hcm, ?_, ?_⟩⟩,fun b e=> ?_⟩⟩
   ·simp only [List.size_toArray,List.length_append,List.length_take,List.length_drop,Array.length_toList]
    omega
   ·rw [htake,hlen,flat_app,←hflen]
    exact List.take_left
   ·injection e with e
    subst e
    refine ⟨p1,fun cs t fr hc=> ?_⟩
    rw [setRow_heap w g cur _ T _ hg] at hc
    injection hc with hc
    injection hc with e1
    subst e1
    exact hpn
   ·simp only [List.size_toArray,List.length_append,List.length_take,List.length_drop,Array.length_toList]
    omega
   ·rw [htake,←hl1,List.append_assoc]
    exact List.take_left
   ·injection e with e
    subst e
    refine ⟨p1,fun cs t fr hc=> ?_⟩
    rw [setRow_heap w g cur _ T _ hg] at hc
    injection hc with hc
    injection hc with e1
    subst e1
    exact hpn
  ·have holds: ∀(j:Nat) (x:Value),l1.flatten[j]? =some x→w.cell? ((⟨g,0,none⟩:Addr).add j)=some x:=by
    intro j x hx
    have e:(⟨g,0,none⟩:Addr).add j=⟨g,j,none⟩:=by unfold Addr.add;split<;>simp_all
    rw [e]
    simp only [World.cell?,hg,Option.isSome_none,Bool.false_eq_true,if_false]
    rw [←htake,List.getElem?_take] at hx
    split at hx
    ·simpa using hx
    ·cases hx
   have hr:=run_append_grow (P:=P) w t ty T i z ht hi hz ⟨g,0,none⟩ l1.length cap l1.flatten hl1 holds ⟨b2,off,none⟩ l2.length cap2 l2.flatten hl2 hnews (by omega) (by omega) (growslice_fits (by omega) hb)
   obtain ⟨g1,g2,g3⟩:=grown cap (Value.ownBlock (.slice (some ⟨g,0,none⟩) l1.length cap)) (fun x hx=>by
    rw [←htake] at hx
    exact (Array.all_eq_true_iff_forall_mem.1 hpc) x (by simpa using List.mem_of_mem_take hx))
   have hlt:g<w.drew.heap.size:=lt_heap hg
   have hold:=heap_alloc_old w.drew (.cells (l1.flatten.toArray++l2.flatten.toArray++Builtin.zeroCells z.cells (grownCap w (l1.length+l2.length) cap T-(l1.length+l2.length))) T) hlt
   exact ⟨_,_,hr,g1,g2,g3, .inr rfl,hbk,⟨hr1,⟨hl1, .inr ⟨g,cap,cur,rfl,hbg,hold.trans hg,hnc,hcm,hcs,htake⟩⟩,fun b e=>(by
    injection e with e
    subst e
    exact ⟨p1,fun cs t fr hc=>p2 cs t fr (hold.symm.trans hc)⟩)⟩⟩
section
variable {ops:Array Oper} {Q:Exit→Act→World→Prop} {F:Facts} {G:List Vr} {D:List (Nat×Pr)} {V:VS} {kf0:Nat→Nat} {i d:Nat} {x y:Operand} {qs:List Pr} {b:Bool} {T sz t:Nat}
theorem lenLo {ts:Array TypeId} (hB:eltB P t T sz=true) (hx:Arg soft P ops F G D V kf0 i x (isLo cx T sz qs b)) (ht:ts= #[t]) (hF: ∀w v,v= .int .i64 ((qs.length:Nat):Int)→F d w v):Owes soft P ops Q F G D V kf0 i (some d) (.call {callee:= .builtin .len,args:= #[x],argTypes:=ts}):=
 val (fun o a w ho c=>by
  obtain ⟨rows,h,hA⟩:=hx a w c
  obtain ⟨h0,A,cap,e1,h1⟩:=isLs.rd h
  obtain ⟨hu,_⟩:=eltB_ok hB
  subst ht
  refine ⟨.int .i64 ((qs.length:Nat):Int), ?_,hF _ _ rfl⟩
  rw [hA.len]
  unfold execOp
  simp only [ho,resolve,List.map_toArray,List.map_cons,List.map_nil,e1]
  simp [go_sem,invoke,builtin,Builtin.len_,goInt,underlying,hu]) rfl
theorem idxLo {n:Nat} {q:Pr} (hB:eltB P t T sz=true) (hx:Arg soft P ops F G D V kf0 i x (isLo cx T sz qs b)) (hy:Arg soft P ops F G D V kf0 i y (fun _ v=>v= .int .i64 (n:Int))) (hn:qs[n]? =some q) (hF: ∀w v,isAo cx sz q w v→F d w v):Owes soft P ops Q F G D V kf0 i (some d) (.indexAddr t x y):=
 val (fun o a w ho c=>by
  obtain ⟨rows,h,hA⟩:=hx a w c
  obtain ⟨h0,A,cap,e1,h1,h2,h3⟩:=isLs.rd h
  have hlt:n<rows.length:=by rw [←hA.len];exact (List.getElem?_eq_some_iff.1 hn).1
  obtain ⟨bk,off,cs,t',fr,rfl,h4,h5,h6,h7⟩:=h3 (by intro e;rw [e] at hlt;cases hlt)
  have e2:a.eval y= .int .i64 (n:Int):=hy a w c
  obtain ⟨hu,j,hi,hz,hz0⟩:=eltB_ok hB
  have hr:rows[n]? =some rows[n]:=List.getElem?_eq_getElem hlt
  refine ⟨.pointer (some ⟨bk,off+n*sz,none⟩), ?_,hF _ _ ⟨rows[n],h0 _ (List.getElem_mem hlt),⟨bk,off+n*sz,cs,t',fr,rfl,h4,h5,fun j x hj=> ?_⟩,hA.get hn hr⟩⟩
  ·unfold execOp
   simp only [ho,e1,e2]
   simp [go_sem,Instr.indexAt,underlying,sizeOf,typeInfo,hu,hi,hz,hlt,Addr.add]
  ·rw [Nat.add_assoc]
   exact h7 _ _ (flat_get h0 hr hj)) rfl
theorem loadAo {q:Pr} (hx:Arg soft P ops F G D V kf0 i x (isAo cx sz q)) (ha:aggB P t=true) (hz:(P.info? t).map (·.size)=some sz) (hF: ∀w v,q w v→F d w v):Owes soft P ops Q F G D V kf0 i (some d) (.load t x):=
 val (fun o a w ho c=>by
  obtain ⟨row,hl,⟨bk,off,cs,t',fr,e1,h1,h2,h3⟩,hq⟩:=hx a w c
  refine ⟨.agg row.toArray, ?_,hF _ _ hq⟩
  obtain ⟨ds,hu,hd⟩:=agg_desc ha
  have hrun:=run_loadVar_mid (P:=P) w bk off t row ds (fun j v hj=>by
   simp only [World.cell?,h1,Option.isSome_none,Bool.false_eq_true,if_false]
   exact h3 j v hj) hu (by cases ds<;>first|rfl|exact hd) (by rw [hz,hl])
  unfold execOp
  simp only [ho,e1,Instr.loadAt,Instr.sureAddr,Sem.run_bind,Sem.run_pure,Result.andThen_ok,hrun]) rfl
theorem upLo {n:Nat} (hB:eltB P t T sz=true) (hx:Arg soft P ops F G D V kf0 i x (isLo cx T sz qs b)) (hy:Arg soft P ops F G D V kf0 i y (fun _ v=>v= .int .i64 (n:Int))) (hn:n≤qs.length) (hF: ∀w v,isLo cx T sz (qs.take n) b w v→F d w v):Owes soft P ops Q F G D V kf0 i (some d) (.slice t x none (some y) none):=
 val (fun _ a w ho c=>by
  obtain ⟨rows,h,hA⟩:=hx a w c
  obtain ⟨v,h1,h2⟩:=up_run hB ho h (hy a w c) (by rw [←hA.len];exact hn)
  exact ⟨v,h1,hF _ _ ⟨_,h2,hA.take⟩⟩) rfl
theorem bldO {j:TypeInfo} {z:Value} {n:Nat} {ps:Array (Nat×Operand)} (hu:P.underlying t=some (.slice T)) (hi:P.info? T=some j) (hz:j.zero=some z) (hs:j.size=sz) (h0:0<n*sz) (hn:n*sz≤16777216) (hx: ∀a w,Ctx soft P ops F G D V kf0 i a w→ ∃vs:List Value,ps.toList.map (fun z=>(z.1,a.eval z.2))=(vs.zipIdx 0).map (fun x=>(x.2,x.1))∧vs.length=n∧(∀v∈vs,∃cs,v= .agg cs∧cs.size=sz∧cs.all pv=true)∧All2 (fun (p:Pr) v=>p w v) qs vs)
  (hst: ∀q∈qs,StbE (eC soft cx) q) (hfr: ∀a w,Ctx soft P ops F G D V kf0 i a w→cx.own≤w.heap.size∧ ∀b,w.heap.size≤b→cx.ban b T=false) (hF: ∀w v,isLo cx T sz qs true w v→F d w v):Owes soft P ops Q F G D V kf0 i (some d) (.buildSlice t n ps):=
 fun o a w ho hd c=>by
  obtain ⟨vs,e1,e2,e3,hA⟩:=hx a w c
  obtain ⟨f1,f2⟩:=hfr a w c
  have hsz:0<sz:=Nat.pos_of_ne_zero fun e=>by rw [e,Nat.mul_zero] at h0;cases h0
  have hfill:=Great.fill_whole hsz vs ((Array.range (n*sz)).map (z.cells[· %z.cells.size]!)) (fun v hv=>by obtain ⟨cs,rfl,hc,_⟩:=e3 v hv;exact hc) (by simp [e2])
  have hrows:(vs.map fun v=>v.cells.toList).flatten=vs.flatMap fun v=>v.cells.toList:=by rw [List.flatMap_def]
  have c1: ¬(16777216<n*sz):=by omega
  have c2:n*sz≠0:=by omega
  have hr:(Instr.buildSlice t n (ps.map fun (i,x)=>(i,a.eval x))).run P w= .ok (.slice (some ⟨w.heap.size,0,none⟩) n n) (w.alloc (.cells (vs.flatMap fun v=>v.cells.toList).toArray T)):=by
   have e4:(ps.map fun (x:Nat×Operand)=>(x.1,a.eval x.2)).toList=(vs.zipIdx 0).map fun x=>(x.2,x.1):=by rw [Array.toList_map,←e1]
   simp [Instr.buildSlice,run_underlying hu,sizeOf,typeInfo,zeroValue,hi,hz,hs,c1,c2,newRow,e1,hfill]
  have hwr:EvoE (eC soft cx) w (w.alloc (.cells (vs.flatMap fun v=>v.cells.toList).toArray T)):=EvoE.of_grow ((Grow.refl w).alloc _)
  refine Rg.valOf (v:= .slice (some ⟨w.heap.size,0,none⟩) n n) (w':=w.alloc (.cells (vs.flatMap fun v=>v.cells.toList).toArray T)) ?_ hd (hF _ _ ⟨vs.map fun v=>v.cells.toList,own_new (fun r hr=> ?_) (by rw [List.length_map,e2]) hrows ?_ ?_ f1 f2, ?_⟩) ((Grow.refl w).alloc _)
  ·unfold execOp
   simp only [ho,Sem.run_bind,hr,Result.andThen_ok]
   rfl
  ·obtain ⟨v,hv,rfl⟩:=List.mem_map.1 hr
   obtain ⟨cs,rfl,hc,_⟩:=e3 v hv
   rw [Array.length_toList];exact hc
  ·rw [List.all_eq_true]
   intro u hu'
   obtain ⟨v,hv,hu'⟩:=List.mem_flatMap.1 hu'
   obtain ⟨cs,rfl,_,hc⟩:=e3 v hv
   exact (Array.all_eq_true_iff_forall_mem.1 hc) u (Array.mem_toList_iff.1 hu')
  ·have:n≤n*sz:=Nat.le_mul_of_pos_right _ hsz
   simp only [maxLen];omega
  ·generalize w.alloc (.cells (vs.flatMap fun v=>v.cells.toList).toArray T)=w' at hwr
   clear hr hfill hrows e1 e2 hx hF hfr
   induction qs generalizing vs with
   |nil=>cases vs with
    |nil=>trivial
    |cons _ _=>cases hA
   |cons q r ih=>
    cases vs with
    |nil=>cases hA
    |cons v vs=>
     obtain ⟨cs,rfl,_,_⟩:=e3 v (.head _)
     exact ⟨hst q (.head _) _ _ _ hA.1 hwr,ih (fun p hp=>hst p (.tail _ hp)) vs (fun u hu=>e3 u (.tail _ hu)) hA.2⟩
end
def World.iterAt (w:World) (b:Nat) (s:ByteArray) (pos:Nat):World:={w with heap:=w.heap.setIfInBounds b (.stringIter s pos)}
theorem run_next_at {w:World} {b pos:Nat} {s:ByteArray} {ty:TypeId} (h:w.heap[b]? =some (.stringIter s pos)) (hp:pos<s.size):(Instr.next (.pointer (some ⟨b,0,none⟩)) true ty).run P w= .ok (.tuple #[.bool true, .int .i64 pos, .int .i32 (Utf8.decode s pos).1]) (World.iterAt w b s (pos+(Utf8.decode s pos).2)):=by
 simp only [Instr.next,getObj,setObj,Sem.run_bind,Sem.run,h,Result.andThen,hp,if_true]
 simp [goInt,World.iterAt]
theorem run_next_none {w:World} {b pos:Nat} {s:ByteArray} {ty:TypeId} (h:w.heap[b]? =some (.stringIter s pos)) (hp: ¬pos<s.size):(Instr.next (.pointer (some ⟨b,0,none⟩)) true ty).run P w= .ok (.tuple #[.bool false]) w:=by
 simp [Instr.next,getObj,Sem.run,h,hp]
theorem iter_at {w:World} {b pos pos':Nat} {s:ByteArray} (h:w.heap[b]? =some (.stringIter s pos)):(World.iterAt w b s pos').heap[b]? =some (.stringIter s pos'):=by
 have:=lt_heap h
 simp [World.iterAt,this]
theorem iter_other {w:World} {b k pos':Nat} {s:ByteArray} (hk:k≠b):(World.iterAt w b s pos').heap[k]? =w.heap[k]? :=by
 simp only [World.iterAt,Array.getElem?_setIfInBounds]
 rw [if_neg (fun e=>hk e.symm)]
theorem evo_iter {w:World} {b pos pos':Nat} {s:ByteArray} (h:w.heap[b]? =some (.stringIter s pos)) (hb:cx.own≤b):EvoE (eC soft (cx.turn (fun _=>true) itT)) w (World.iterAt w b s pos'):=by
 refine ⟨by simp [World.iterAt],fun k _=> ?_⟩
 by_cases hk:k=b
 ·subst hk
  have hban:(cx.turn (fun _=>true) itT).ban k itT=true:=by
   show (cx.ban k itT||(Nat.beq itT itT&&decide (cx.own≤k)&&true))=true
   rw [Nat.beq_refl,decide_eq_true hb]
   exact Bool.or_true _
  exact .inr ⟨_,_,h,iter_at h,hban,hban⟩
 ·exact .inl (iter_other hk)
end Go.Proofs.YthebilnlljkfeaaGreatDoor.Z
