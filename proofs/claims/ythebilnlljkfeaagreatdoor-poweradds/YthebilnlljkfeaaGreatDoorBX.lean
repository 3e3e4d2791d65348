/- One text out of: Xe. -/
import Derived.Test.YthebilnlljkfeaaGreatDoorBXd
import Derived.Laws.BytesString
import Derived.Laws.StructEq
namespace Go.Proofs.YthebilnlljkfeaaGreatDoor.X
open Go.RowKit Go.Proofs.YthebilnlljkfeaaGreatDoor.Z
open Go.Proofs.YthebilnlljkfeaaGreatDoor.Rg (callOf)
section
variable {P:Program} {κ:Type} {dk: ∀cx,κ→Kd P cx}
def binI {κ:Type} (k:IntKind) (m n:Int):BinOp→Option (Fk κ×List Prop)
 | .lss=>some (.s (.E (.bool (decide (m<n)))),[])
 | .leq=>some (.s (.E (.bool (decide (m≤n)))),[])
 | .gtr=>some (.s (.E (.bool (decide (n<m)))),[])
 | .geq=>some (.s (.E (.bool (decide (n≤m)))),[])
 | .eql=>some (.s (.E (.bool (decide (m=n)))),[])
 | .neq=>some (.s (.E (.bool (!decide (m=n)))),[])
 | .add=>some (.s (.E (.int k (m+n))),[k.wrap (m+n)=m+n])
 | .sub=>some (.s (.E (.int k (m-n))),[k.wrap (m-n)=m-n])
 | .mul=>some (.s (.E (.int k (m*n))),[k.wrap (m*n)=m*n])
 | .rem=>some (.s (.E (.int k (m.tmod n))),[n≠0])
 | .quo=>some (.s (.E (.int k (m.tdiv n))),[n≠0,k.wrap (m.tdiv n)=m.tdiv n])
 |_=>none
def binW {κ:Type} (k:IntKind) (m n:Int):BinOp→Option (Fk κ×List Prop)
 | .add=>some (.s (.E (.int k (k.wrap (m+n)))),[])
 | .sub=>some (.s (.E (.int k (k.wrap (m-n)))),[])
 | .mul=>some (.s (.E (.int k (k.wrap (m*n)))),[])
 |_=>none
def binT {κ:Type} (l r:List UInt8):BinOp→Option (Fk κ×List Prop)
 | .eql=>some (.s (.E (.bool (l==r))),[])
 | .neq=>some (.s (.E (.bool (!(l==r)))),[])
 | .add=>some (.s (.E (.string (str (l++r)))),[l.length+r.length≤9223372036854775807])
 |_=>none
def hBin:Hd κ:=fun _ va ev op=>match op with
 | .binOp b _ x y _=>match ev x,ev y with
  |some (.s (.E (.int k m))),some (.s (.E (.int k' n)))=>cond (decide (k=k')) (cond (Nat.beq va 31) (binW k m n b) (binI k m n b)) none
  |some (.s (.E (.string ⟨⟨l⟩⟩))),some (.s (.E (.string ⟨⟨r⟩⟩)))=>binT l r b
  |_,_=>none
 | .unOp .not _ x=>match ev x with
  |some (.s (.E (.bool m)))=>some (.s (.E (.bool (!m))),[])
  |_=>none
 | .unOp .neg _ x=>match ev x with
  |some (.s (.E (.int k m)))=>some (.s (.E (.int k (k.wrap (-m)))),[])
  |_=>none
 |_=>none
theorem hBin_ok:HOk dk (hBin:Hd κ):=by
 intro cx lv ops Q Fc G D V kf0 i d ft va ev hfr hev op F ps h hp hF
 unfold hBin at h
 split at h
 ·next b t x y t2=>
  split at h
  ·next k m k' n e1 e2=>
   cases hk:decide (k=k') with
   |false=>rw [hk] at h;cases h
   |true=>
    rw [hk] at h
    have hk:=of_decide_eq_true hk
    subst hk
    have a1:Arg soft P ops Fc G D V kf0 i x (isE (.int k m)):=hev _ _ e1
    have a2:Arg soft P ops Fc G D V kf0 i y (isE (.int k n)):=hev _ _ e2
    simp only [_root_.cond_true] at h
    cases hv:Nat.beq va 31 with
    |true=>
     rw [hv] at h
     simp only [_root_.cond_true] at h
     cases b<;>first|(simp only [binW] at h;cases h;done)|skip
     all_goals
      simp only [binW,Option.some.injEq,Prod.mk.injEq] at h
      obtain ⟨h1,h2⟩:=h
      subst h1 h2
      exact bin a1 a2 guardI (fun w=>by simp [binOp,go_sem]) hF
    |false=>
    rw [hv] at h
    simp only [_root_.cond_false] at h
    cases b<;>first|(simp only [binI] at h;cases h;done)|skip
    all_goals
     simp only [binI,Option.some.injEq,Prod.mk.injEq] at h
     obtain ⟨h1,h2⟩:=h
     subst h1 h2
    ·exact bin a1 a2 guardI (fun w=>by simp [binOp,go_sem,hp.1]) hF
    ·exact bin a1 a2 guardI (fun w=>by simp [binOp,go_sem,hp.1]) hF
    ·exact bin a1 a2 guardI (fun w=>by simp [binOp,go_sem,hp.1]) hF
    ·exact bin a1 a2 guardI (fun w=>by simp [binOp,go_sem,Op.intDiv,hp.1,hp.2.1]) hF
    ·exact bin a1 a2 guardI (fun w=>by simp [binOp,go_sem,Op.intDiv,hp.1]) hF
    ·exact eql a1 a2 hF
    ·exact neq a1 a2 hF
    ·exact lss a1 a2 hF
    ·exact leq a1 a2 hF
    ·exact gtr a1 a2 hF
    ·exact geq a1 a2 hF
  ·next l r e1 e2=>
   have a1:Arg soft P ops Fc G D V kf0 i x (isT l):=hev _ _ e1
   have a2:Arg soft P ops Fc G D V kf0 i y (isT r):=hev _ _ e2
   cases b<;>first|(simp only [binT] at h;cases h;done)|skip
   all_goals
    simp only [binT,Option.some.injEq,Prod.mk.injEq] at h
    obtain ⟨h1,h2⟩:=h
    subst h1 h2
   ·exact addS a1 a2 hp.1 hF
   ·exact eqlS a1 a2 hF
   ·exact neqS a1 a2 hF
  ·cases h
 ·next t x=>
  split at h
  ·next m e1=>
   simp only [Option.some.injEq,Prod.mk.injEq] at h
   obtain ⟨h1,h2⟩:=h
   subst h1 h2
   refine val (fun o a w ho c=>⟨.bool (!m), ?_,hF _ _ rfl⟩) rfl
   have e2:a.eval x= .bool m:=hev _ _ e1 a w c
   unfold execOp
   simp only [ho,e2]
   simp [go_sem]
  ·cases h
 ·next t x=>
  split at h
  ·next k m e1=>
   simp only [Option.some.injEq,Prod.mk.injEq] at h
   obtain ⟨h1,h2⟩:=h
   subst h1 h2
   refine val (fun o a w ho c=>⟨.int k (k.wrap (-m)), ?_,hF _ _ rfl⟩) rfl
   have e2:a.eval x= .int k m:=hev _ _ e1 a w c
   unfold execOp
   simp only [ho,e2]
   simp [go_sem]
  ·cases h
 ·cases h
def evV {κ:Type} (ev:Operand→Option (Fk κ)):List (Nat×Operand)→Option (List (Nat×Value))
 | []=>some []
 |x::r=>match ev x.2,evV ev r with
  |some (.s (.E v)),some vs=>some ((x.1,v)::vs)
  |_,_=>none
theorem evV_ok {cx:Cx} {lv:Nat→Value} {kf:Nat→Nat} {ev:Operand→Option (Fk κ)} {a:Act} {w:World} (hev: ∀x F,ev x=some F→(dF (dk cx) kf lv F).p w (a.eval x)): ∀{l:List (Nat×Operand)} {vs:List (Nat×Value)},evV ev l=some vs→l.map (fun z=>(z.1,a.eval z.2))=vs:=by
 intro l
 induction l with
 |nil=>intro vs h;injection h with h
 |cons x r ih=>
  intro vs h
  simp only [evV] at h
  split at h
  ·next v vs' e1 e2=>
   injection h with h
   subst h
   rw [List.map_cons,ih e2]
   have:a.eval x.2=v:=hev _ _ e1
   rw [this]
  ·cases h
def evA {κ:Type} (ev:Operand→Option (Fk κ)):List Operand→Option (List (List Value))
 | []=>some []
 |x::r=>match ev x,evA ev r with
  |some (.s (.A row)),some rows=>some (row::rows)
  |_,_=>none
theorem evA_ok {cx:Cx} {lv:Nat→Value} {kf:Nat→Nat} {ev:Operand→Option (Fk κ)} {a:Act} {w:World} (hev: ∀x F,ev x=some F→(dF (dk cx) kf lv F).p w (a.eval x)): ∀{l:List Operand} {rows:List (List Value)},evA ev l=some rows→All2 (fun r p=>isAd cx r w p) rows (l.map a.eval):=by
 intro l
 induction l with
 |nil=>intro rows h;injection h with h;subst h;trivial
 |cons x r ih=>
  intro rows h
  simp only [evA] at h
  split at h
  ·next row rows' e1 e2=>
   injection h with h
   subst h
   exact ⟨hev x _ e1,ih e2⟩
  ·cases h
def bytesV:List (List Value)→Option (List UInt8)
 | []=>some []
 | [.int .u8 m]::r=>(bytesV r).map fun l=>UInt8.ofNat m.toNat::l
 |_=>none
def bsB (P:Program) (s t T:TypeId):Bool:=(match P.underlying s with
 |some (.slice e)=>Nat.beq e T
 |_=>false)&&(match P.underlying T with
 |some (.int .u8)=>true
 |_=>false)&&(match P.underlying t with
 |some .string=>true
 |_=>false)
theorem bytesV_flat: ∀{l:List (List Value)} {bs:List UInt8},bytesV l=some bs→ ∃ns:List Int,l.flatten=ns.map (Value.int .u8)∧bs=ns.map (fun n=>UInt8.ofNat n.toNat):=by
 intro l
 induction l with
 |nil=>intro bs h;injection h with h;subst h;exact ⟨[],rfl,rfl⟩
 |cons x r ih=>
  intro bs h
  unfold bytesV at h
  split at h
  ·next e=>cases e
  ·next m r' e=>
   injection e with e1 e2
   subst e1 e2
   obtain ⟨bs',e3,h⟩:=Option.map_eq_some_iff.1 h
   subst h
   obtain ⟨ns,i1,i2⟩:=ih e3
   exact ⟨m::ns,by rw [List.flatten_cons,i1];rfl,by rw [i2];rfl⟩
  ·cases h
theorem push_all: ∀(ns:List Int) (s:ByteArray),ns.foldl (fun r n=>r.push (UInt8.ofNat n.toNat)) s=⟨s.data++(ns.map fun n=>UInt8.ofNat n.toNat).toArray⟩:=by
 intro ns
 induction ns with
 |nil=>intro s;apply ByteArray.ext;simp
 |cons n r ih=>
  intro s
  rw [List.foldl_cons,ih]
  apply ByteArray.ext
  simp [ByteArray.push]
def eqG (P:Program):Nat→List Value→List Value→List Field→Option (List Bool)
 |0,_,_,_=>none
 |_+1,_,_,[]=>some []
 |g+1,xs,ys,f::fs=>cond (decide (f.name= "_")) none (match P.underlying f.type,xs[f.offset]?,ys[f.offset]? with
  |some (.int _),some (.int k a),some (.int k' b)=>cond (decide (k=k')) ((eqG P g xs ys fs).map fun l=>decide (a=b)::l) none
  |some .bool,some (.bool a),some (.bool b)=>(eqG P g xs ys fs).map fun l=>(a==b)::l
  |some .string,some (.string ⟨⟨a⟩⟩),some (.string ⟨⟨b⟩⟩)=>(eqG P g xs ys fs).map fun l=>(a==b)::l
  |some (.struct gs),_,_=>match (P.info? f.type).map (·.size) with
   |some sz=>cond (!P.stoodInHeld f.type) (match eqG P g ((xs.drop f.offset).take sz) ((ys.drop f.offset).take sz) gs.toList,eqG P g xs ys fs with
    |some a,some b=>some (a++b)
    |_,_=>none) none
   |none=>none
  |_,_,_=>none)
theorem part_one {P:Program} {w:World} {t:TypeId} {cs:Array Value} {o:Nat} {v:Value} {ds:TypeDesc} (hu:P.underlying t=some ds) (hd:aggD ds=false) (h:cs[o]? =some v):(part t cs o).run P w= .ok v w:=by
 cases ds<;>first|(cases hd;done)|simp [part,isAgg,run_underlying hu,h]
theorem part_agg {P:Program} {w:World} {t:TypeId} {xs:List Value} {o sz:Nat} {gs:Array Field} (hu:P.underlying t=some (.struct gs)) (hi:(P.info? t).map (·.size)=some sz):(part t ⟨xs⟩ o).run P w= .ok (.agg ⟨(xs.drop o).take sz⟩) w:=by
 obtain ⟨i,hi2,hs⟩:=Option.map_eq_some_iff.1 hi
 subst hs
 simp [part,isAgg,run_underlying hu,sizeOf,typeInfo,hi2]
theorem foldr_app: ∀(a b:List Bool),(a++b).foldr and true=(a.foldr and true&&b.foldr and true):=by
 intro a
 induction a with
 |nil=>intro b;rfl
 |cons x r ih=>intro b;rw [List.cons_append,List.foldr_cons,List.foldr_cons,ih,Bool.and_assoc]
theorem eqG_ok {P:Program} {w:World}: ∀{g d:Nat} {xs ys:List Value} {fs:List Field} {l:List Bool},g≤d→eqG P g xs ys fs=some l→(Op.eqFields (d+1) ⟨xs⟩ ⟨ys⟩ fs).run P w= .ok (l.foldr and true) w:=by
 intro g
 induction g with
 |zero=>intro d xs ys fs l _ h;cases h
 |succ g ih=>
  intro d xs ys fs l hd h
  cases fs with
  |nil=>injection h with h;subst h;rfl
  |cons f fs=>
   unfold eqG at h
   cases hn:decide (f.name= "_") with
   |true=>rw [hn] at h;cases h
   |false=>
    rw [hn] at h
    have hn':f.name≠ "_" :=of_decide_eq_false hn
    simp only [_root_.cond_false] at h
    have step: ∀{u v:Value} {e:Bool} {l':List Bool},(part f.type ⟨xs⟩ f.offset).run P w= .ok u w→(part f.type ⟨ys⟩ f.offset).run P w= .ok v w→(Op.equalIn (d+1) f.type u v).run P w= .ok e w→eqG P g xs ys fs=some l'→(Op.eqFields (d+1) ⟨xs⟩ ⟨ys⟩ (f::fs)).run P w= .ok (e&&l'.foldr and true) w:=by
     intro u v e l' g3 g4 g5 g6
     simp only [Op.eqFields,hn',ne_eq,not_false_eq_true,if_true,Sem.run_bind,g3,g4,Result.andThen_ok,g5]
     cases e with
     |true=>simp only [Bool.not_true,Bool.false_eq_true,if_false,Bool.true_and];exact ih (by omega) g6
     |false=>simp [Sem.run_pure]
    have one: ∀{ds:TypeDesc} {zs:List Value} {v:Value},P.underlying f.type=some ds→aggD ds=false→zs[f.offset]? =some v→(part f.type ⟨zs⟩ f.offset).run P w= .ok v w:=fun g1 g2 g3=>part_one g1 g2 (by simpa using g3)
    split at h
    ·next kk k a k' b e1 e2 e3=>
     obtain ⟨hk,h⟩:=(fun {α:Type} {a:Bool} {x:Option α} {r:α} (h:cond a x none=some r)=>(show a=true∧x=some r by cases a with|true=>exact ⟨rfl,h⟩|false=>cases h)) h
     obtain ⟨c',e4,h⟩:=Option.map_eq_some_iff.1 h
     subst h
     obtain rfl:=of_decide_eq_true hk
     exact step (one e1 rfl e2) (one e1 rfl e3) (by rw [run_equalIn_int w d f.type k kk a b e1];rfl) e4
    ·next a b e1 e2 e3=>
     obtain ⟨c',e4,h⟩:=Option.map_eq_some_iff.1 h
     subst h
     exact step (one e1 rfl e2) (one e1 rfl e3) (run_equalIn_bool' w d f.type a b e1) e4
    ·next a b e1 e2 e3=>
     obtain ⟨c',e4,h⟩:=Option.map_eq_some_iff.1 h
     subst h
     refine step (one e1 rfl e2) (one e1 rfl e3) ?_ e4
     rw [run_equalIn_string w d f.type _ _ e1,ByteArray.toList_eq,ByteArray.toList_eq]
    ·next gs e1=>
     split at h
     ·next sz hz=>
      obtain ⟨hk,h⟩:=(fun {α:Type} {a:Bool} {x:Option α} {r:α} (h:cond a x none=some r)=>(show a=true∧x=some r by cases a with|true=>exact ⟨rfl,h⟩|false=>cases h)) h
      split at h
      ·next a b e4 e5=>
       injection h with h
       subst h
       obtain ⟨d',rfl⟩: ∃d',d=d'+1:=⟨d-1,by omega⟩
       have hf:P.fieldsOf f.type=gs:=by unfold Program.fieldsOf;rw [e1]
       have hq:=run_equalIn_struct (P:=P) w (d'+1) f.type ⟨(xs.drop f.offset).take sz⟩ ⟨(ys.drop f.offset).take sz⟩ (by rw [hf];exact e1) (by simpa using hk)
       rw [hf] at hq
       rw [foldr_app]
       exact step (part_agg e1 hz) (part_agg e1 hz) (hq.trans (ih (by omega) e4)) e5
      ·cases h
     ·cases h
    ·cases h
def eqS (P:Program) (t:TypeId) (xs ys:Array Value):Option Bool:=match P.underlying t with
 |some (.struct fs)=>cond (!P.stoodInHeld t&& !P.eqGuardType P.depth t) ((eqG P 40 xs.toList ys.toList fs.toList).map fun l=>l.foldr and true) none
 |_=>none
theorem eqS_ok {P:Program} {w:World} {t:TypeId} {xs ys:Array Value} {c:Bool} (h:eqS P t xs ys=some c):P.eqGuardType P.depth t=false∧(Op.equalIn 10000 t (.agg xs) (.agg ys)).run P w= .ok c w:=by
 unfold eqS at h
 split at h
 ·next fs hu=>
  cases hc:(!P.stoodInHeld t&& !P.eqGuardType P.depth t) with
  |false=>rw [hc] at h;cases h
  |true=>
   rw [hc] at h
   simp only [Bool.and_eq_true,Bool.not_eq_true'] at hc
   obtain ⟨l,h2,rfl⟩:=Option.map_eq_some_iff.1 (show (eqG P 40 xs.toList ys.toList fs.toList).map (fun l=>l.foldr and true)=some c from h)
   have hf:P.fieldsOf t=fs:=by unfold Program.fieldsOf;rw [hu]
   refine ⟨hc.2, ?_⟩
   have:=run_equalIn_struct (P:=P) w (9998+1) t xs ys (by rw [hf];exact hu) hc.1
   rw [hf] at this
   exact this.trans (eqG_ok (g:=40) (d:=9998) (xs:=xs.toList) (ys:=ys.toList) (by decide) h2)
 ·cases h
def hLs (P:Program):Hd κ:=fun ft _ ev op=>match op with
 | .binOp .eql t x y _=>match ev x,ev y with
  |some (.s (.E (.agg xs))),some (.s (.E (.agg ys)))=>(eqS P t xs ys).map fun c=>(.s (.E (.bool c)),[])
  |_,_=>none
 | .binOp .neq t x y _=>match ev x,ev y with
  |some (.s (.E (.agg xs))),some (.s (.E (.agg ys)))=>(eqS P t xs ys).map fun c=>(.s (.E (.bool (!c))),[])
  |_,_=>none
 | .binOp .shr _ x y _=>match ev x,ev y with
  |some (.s (.E (.int k (.ofNat m)))),some (.s (.E (.int _ (.ofNat 1))))=>some (.s (.E (.int k ((m/2:Nat):Int))),[])
  |_,_=>none
 | .makeFunc (.func f) first cap=>match first.toList,evA ev cap.toList with
  | [],some rows=>some (.s (.C f rows),[])
  |_,_=>none
 | .convert s t x=>match ev x with
  |some (.s (.L T 1 l _))=>match bytesV l with
   |some bs=>cond (bsB P s t T&& !bs.isEmpty) (some (.s (.E (.string (str bs))),[])) none
   |none=>none
  |_=>none
 | .call c=>match c.callee,c.args.toList,c.argTypes.toList with
  | .builtin .len,[x],[t]=>match ev x with
   |some (.s (.L T sz l _))=>cond (eltB P t T sz) (some (.s (.E (.int .i64 ((l.length:Nat):Int))),[])) none
   |_=>none
  |_,_,_=>none
 | .indexAddr t x y=>match ev x,ev y with
  |some (.s (.L T sz l _)),some (.s (.E (.int .i64 (.ofNat n))))=>cond (eltB P t T sz) (some (.s (.A (l.getD n [])),[n<l.length])) none
  |_,_=>none
 | .load t x=>match ev x with
  |some (.s (.A row))=>cond (aggB P t) (match (P.info? t).map (·.size) with
   |some m=>cond (Nat.ble m row.length) (some (.s (.E (.agg (row.take m).toArray)),[])) none
   |none=>none) (match row with
   |v::_=>cond (plainB P t) (some (.s (.E v),[])) none
   | []=>none)
  |_=>none
 | .slice t x none (some y) none=>match ev x,ev y with
  |some (.s (.L T sz l o)),some (.s (.E (.int .i64 (.ofNat n))))=>cond (eltB P t T sz) (some (.s (.L T sz (l.take n) o),[n≤l.length])) none
  |_,_=>none
 | .range t x=>match ev x,P.underlying t with
  |some (.s (.E (.string ⟨⟨s⟩⟩))),some .string=>cond (ft itT) (some (.s (.I s 0),[])) none
  |_,_=>none
 | .build t ps=>match evV ev ps.toList with
  |some vs=>match P.built t vs with
   |some cs=>some (.s (.E (.agg cs)),[])
   |none=>none
  |none=>none
 | .buildSlice t n ps=>match evV ev ps.toList with
  |some vs=>match Z.sliced P t n vs with
   |some (T,sz,l)=>cond (ft T) (some (.s (.L T sz (chunks sz n l) true),[])) none
   |none=>none
  |none=>none
 | .makeSlice t (.tmp x) (.tmp y)=>cond (Nat.beq x y) (match ev (.tmp x),madeB P t with
  |some (.s (.E (.int .i64 (.ofNat n)))),some (T,z,by')=>cond (ft T) (some (.s (.L T 1 (List.replicate n [z]) true),[n≤9223372036854775807,by'*n≤281474976710656])) none
  |_,_=>none) none
 | .makeSlice t (.const (.int .i64 (.ofNat 0))) y=>match ev y,Z.room P t with
  |some (.s (.E (.int .i64 (.ofNat n)))),some (T,sz,by')=>cond (ft T) (some (.s (.L T sz [] true),[n≤9223372036854775807,by'*n≤281474976710656])) none
  |_,_=>none
 |_=>none
theorem c_t {α:Type} {a:Bool} {x:Option α} {r:α} (h:cond a x none=some r):a=true∧x=some r:=by
 cases a with
 |true=>exact ⟨rfl,h⟩
 |false=>cases h
theorem hLs_ok:HOk dk (hLs P:Hd κ):=by
 intro cx lv ops Q Fc G D V kf0 i d ft va ev hfr hev op F ps h hp hF
 have fr: ∀{T:Nat},ft T=true→ ∀a w,Ctx soft P ops Fc G D V kf0 i a w→cx.own≤w.heap.size∧ ∀b,w.heap.size≤b→cx.ban b T=false:=fun hT a w c=>⟨Nat.le_trans (Nat.le_max_left _ _) (hfr a w c).1,(hfr a w c).2 _ hT⟩
 have ls: ∀{x T sz l o},ev x=some (.s (.L T sz l o))→Arg soft P ops Fc G D V kf0 i x (isRd cx false sz l):=fun e a w c=>isLs.rd (hev _ _ e a w c)
 unfold hLs at h
 split at h
 ·next t x y t2=>
  split at h
  ·next xs ys e1 e2=>
   obtain ⟨c,e3,h⟩:=Option.map_eq_some_iff.1 h
   injection h with h1 h2
   subst h1
   have a1:Arg soft P ops Fc G D V kf0 i x (isE (.agg xs)):=hev _ _ e1
   have a2:Arg soft P ops Fc G D V kf0 i y (isE (.agg ys)):=hev _ _ e2
   exact bin a1 a2 (fun w=>run_eqGuard_agg w _ _ _ _ _ _ (eqS_ok (w:=w) e3).1) (fun w=>by rw [run_eql_struct,(eqS_ok (w:=w) e3).2];rfl) hF
  ·cases h
 ·next t x y t2=>
  split at h
  ·next xs ys e1 e2=>
   obtain ⟨c,e3,h⟩:=Option.map_eq_some_iff.1 h
   injection h with h1 h2
   subst h1
   have a1:Arg soft P ops Fc G D V kf0 i x (isE (.agg xs)):=hev _ _ e1
   have a2:Arg soft P ops Fc G D V kf0 i y (isE (.agg ys)):=hev _ _ e2
   exact bin a1 a2 (fun w=>run_eqGuard_agg w _ _ _ _ _ _ (eqS_ok (w:=w) e3).1) (fun w=>by rw [run_neq_struct,(eqS_ok (w:=w) e3).2];rfl) hF
  ·cases h
 ·next t x y t2=>
  split at h
  ·next k m k' e1 e2=>
   injection h with h
   injection h with h1 h2
   subst h1 h2
   have a1:Arg soft P ops Fc G D V kf0 i x (isE (.int k (m:Int))):=hev _ _ e1
   have a2:Arg soft P ops Fc G D V kf0 i y (isE (.int k' 1)):=hev _ _ e2
   refine bin a1 a2 guardI (fun w=> ?_) hF
   have hb:min 1 k.bits=1:=by cases k<;>rfl
   have hd:Int.fdiv (m:Int) (2^1)=((m/2:Nat):Int):=by rw [Int.fdiv_eq_ediv_of_nonneg _ (by decide)];simp
   show (Op.shift .shr k (m:Int) k' 1).run P w=_
   unfold Op.shift
   rw [if_neg (by decide)]
   simp only [Int.toNat_one,hb,hd]
   rfl
  ·cases h
 ·next f first cap=>
  split at h
  ·next rows el e1=>
   injection h with h
   injection h with h1 h2
   subst h1 h2
   have ef:first= #[]:=by apply Array.ext';rw [el]
   subst ef
   refine val (fun o a w ho c=>⟨.func (.func f) #[] (cap.map a.eval), ?_,hF _ _ ⟨cap.toList.map a.eval,by rw [←Array.toList_map],evA_ok (dk:=dk) (fun x F' hx=>hev x F' hx a w c) e1⟩⟩) rfl
   unfold execOp
   simp only [ho,Instr.makeFunc,Array.map_empty,Sem.run_bind,Sem.run_pure,Result.andThen_ok]
  ·cases h
 ·next s t x=>
  split at h
  ·next T l o' e1=>
   split at h
   ·next bs e2=>
    obtain ⟨hB,h⟩:=c_t h
    injection h with h
    injection h with h1 h2
    subst h1 h2
    simp only [Bool.and_eq_true,Bool.not_eq_true'] at hB
    obtain ⟨hB,hne⟩:=hB
    unfold bsB at hB
    simp only [Bool.and_eq_true] at hB
    obtain ⟨⟨b1,b2⟩,b3⟩:=hB
    have u1:P.underlying s=some (.slice T):=by
     split at b1
     ·next e hu=>rw [hu,Nat.eq_of_beq_eq_true b1]
     ·cases b1
    have u2:P.underlying T=some (.int .u8):=by
     split at b2
     ·next hu=>exact hu
     ·cases b2
    have u3:P.underlying t=some .string:=by
     split at b3
     ·next hu=>exact hu
     ·cases b3
    refine val (fun o a w ho c=> ?_) rfl
    obtain ⟨h0,A,cap,ev',k1,k2,k3⟩:=ls e1 a w c
    obtain ⟨ns,f1,f2⟩:=bytesV_flat e2
    have hl:l≠ []:=fun e=>by
     rw [e] at f1
     cases ns with
     |nil=>rw [f2] at hne;cases hne
     |cons _ _=>cases f1
    obtain ⟨b,off,cs,t',fr',rfl,k4,k5,k6,k7⟩:=k3 hl
    refine ⟨.string (str bs), ?_,hF _ _ rfl⟩
    have hlen:l.flatten.length=l.length:=by rw [flat_len h0,Nat.mul_one]
    have hld:=run_loadCells_list (P:=P) (w:=w) ⟨b,off,none⟩ l.flatten (fun j x hj=>by
     have e:(⟨b,off,none⟩:Addr).add j=⟨b,off+j,none⟩:=by unfold Addr.add;split<;>simp_all
     rw [e]
     simp only [World.cell?,k4,Option.isSome_none,Bool.false_eq_true,if_false]
     exact k7 j x hj)
    rw [hlen,f1] at hld
    have hrun:=run_bytesToString (P:=P) w ⟨b,off,none⟩ l.length cap ns hld
    rw [push_all] at hrun
    unfold execOp
    simp only [ho,ev',Sem.run_bind,run_convert_bytes_string (P:=P) w s t T _ _ _ u1 u2 u3,hrun,Result.andThen_ok,Sem.run_pure]
    rw [f2]
    simp [str]
   ·cases h
  ·cases h
 ·next c=>
  split at h
  ·next x t ec ea et=>
   split at h
   ·next T sz l o e1=>
    obtain ⟨hB,h⟩:=c_t h
    injection h with h
    injection h with h1 h2
    subst h1 h2
    cases c with
    |mk ce ar ty=>
     simp only at ec ea et
     subst ec
     have e3:ar= #[x]:=by apply Array.ext';rw [ea]
     subst e3
     exact lenLs hB (ls e1) (by apply Array.ext';rw [et]) hF
   ·cases h
  ·cases h
 ·next t x y=>
  split at h
  ·next T sz l o n e1 e2=>
   obtain ⟨hB,h⟩:=c_t h
   injection h with h
   injection h with h1 h2
   subst h1 h2
   exact idxLs hB (ls e1) (hev _ _ e2) hp.1 hF
  ·cases h
 ·next t x=>
  split at h
  ·next row e1=>
   cases ha:aggB P t with
   |true=>
    rw [ha] at h
    simp only [_root_.cond_true] at h
    split at h
    ·next m hm=>
     obtain ⟨hB,h⟩:=c_t h
     injection h with h
     injection h with h1 h2
     subst h1 h2
     refine loadAd (cx:=cx) (row:=row.take m) (fun a w c=> ?_) ha (by rw [hm,List.length_take,Nat.min_eq_left (Nat.le_of_ble_eq_true hB)]) hF
     obtain ⟨b,off,cs,t',fr',q1,q2,q3,q4⟩:=hev _ _ e1 a w c
     refine ⟨b,off,cs,t',fr',q1,q2,q3,fun j x hj=>q4 j x ?_⟩
     rw [List.getElem?_take] at hj
     split at hj
     ·exact hj
     ·cases hj
    ·cases h
   |false=>
    rw [ha] at h
    simp only [_root_.cond_false] at h
    split at h
    ·next v r=>
     obtain ⟨hB,h⟩:=c_t h
     injection h with h
     injection h with h1 h2
     subst h1 h2
     exact loadAd1 (hev _ _ e1) hB hF
    ·cases h
  ·cases h
 ·next t x y=>
  split at h
  ·next T sz l o n e1 e2=>
   obtain ⟨hB,h⟩:=c_t h
   injection h with h
   injection h with h1 h2
   subst h1 h2
   exact upLs hB (hev _ _ e1) (hev _ _ e2) hp.1 hF
  ·cases h
 ·next t x=>
  split at h
  ·next s e1 hu=>
   obtain ⟨hB,h⟩:=c_t h
   injection h with h
   injection h with h1 h2
   subst h1 h2
   exact rangeT hu (hev _ _ e1) (fr hB) hF
  ·cases h
 ·next t ps'=>
  split at h
  ·next vs e1=>
   split at h
   ·next cs e2=>
    injection h with h
    injection h with h1 h2
    subst h1 h2
    exact bldP e2 (fun a w c=>evV_ok (dk:=dk) (fun x F' hx=>hev x F' hx a w c) e1) hF
   ·cases h
  ·cases h
 ·next t n ps'=>
  split at h
  ·next vs e1=>
   split at h
   ·next T sz l e2=>
    obtain ⟨hB,h⟩:=c_t h
    injection h with h
    injection h with h1 h2
    subst h1 h2
    exact bldSl e2 (fun a w c=>evV_ok (dk:=dk) (fun x F' hx=>hev x F' hx a w c) e1) (fr hB) hF
   ·cases h
  ·cases h
 ·next t x y=>
  obtain ⟨hxy,h⟩:=c_t h
  rw [←Nat.eq_of_beq_eq_true hxy]
  clear hxy
  split at h
  ·next n T z by' e1 e2=>
   obtain ⟨hB,h⟩:=c_t h
   injection h with h
   injection h with h1 h2
   subst h1 h2
   exact mkSl e2 (hev _ _ e1) ⟨hp.1,hp.2.1⟩ (fr hB) hF
  ·cases h
 ·next t y=>
  split at h
  ·next n T sz by' e1 e2=>
   obtain ⟨hB,h⟩:=c_t h
   injection h with h
   injection h with h1 h2
   subst h1 h2
   exact mkSl0 e2 (hev _ _ e1) ⟨hp.1,hp.2.1⟩ (fr hB) hF
  ·cases h
 ·cases h
def evO {κ:Type} (ev:Operand→Option (Fk κ)):List (Nat×Operand)→Nat→Option (List κ)
 | [],_=>some []
 |x::r,i=>cond (Nat.beq x.1 i) (match ev x.2,evO ev r (i+1) with
  |some (.s (.O o)),some os=>some (o::os)
  |_,_=>none) none
def thing (P:Program) (t:TypeId):Option (Nat×Nat):=match P.underlying t with
 |some (.slice T)=>match P.info? T with
  |some j=>match j.zero with
   |some _=>cond (!Nat.beq j.size 0&& !hardTy T) (some (T,j.size)) none
   |none=>none
  |none=>none
 |_=>none
def hMo (P:Program) (d0:κ) (tyOk:κ→TypeId→Bool):Hd κ:=fun ft _ ev op=>match op with
 | .call c=>match c.callee,c.args.toList,c.argTypes.toList with
  | .builtin .len,[x],[t]=>match ev x with
   |some (.s (.M T sz os _))=>cond (eltB P t T sz) (some (.s (.E (.int .i64 ((os.length:Nat):Int))),[])) none
   |_=>none
  |_,_,_=>none
 | .indexAddr t x y=>match ev x,ev y with
  |some (.s (.M T sz os _)),some (.s (.E (.int .i64 (.ofNat n))))=>cond (eltB P t T sz) (some (.s (.B sz (os.getD n d0)),[n<os.length])) none
  |_,_=>none
 | .load t x=>match ev x with
  |some (.s (.B sz o))=>cond (aggB P t&&((P.info? t).map (·.size)).any fun m=>Nat.beq m sz) (some (.s (.O o),[])) none
  |_=>none
 | .slice t x none (some y) none=>match ev x,ev y with
  |some (.s (.M T sz os 0)),some (.s (.E (.int .i64 (.ofNat n))))=>cond (eltB P t T sz) (some (.s (.M T sz (os.take n) 0),[n≤os.length])) none
  |some (.s (.M T sz os 1)),some (.s (.E (.int .i64 (.ofNat n))))=>cond (eltB P t T sz) (some (.s (.M T sz (os.take n) 1),[n≤os.length])) none
  |_,_=>none
 | .buildSlice t n ps=>match evO ev ps.toList 0,thing P t with
  |some os,some (T,sz)=>cond (Nat.beq os.length n&& !Nat.beq n 0&&decide (n*sz≤16777216)&&ft T&&os.all (fun o=>tyOk o T)) (some (.s (.M T sz os 2),[])) none
  |_,_=>none
 |_=>none
theorem evO_ok {cx:Cx} {lv:Nat→Value} {kf:Nat→Nat} {ev:Operand→Option (Fk κ)} {a:Act} {w:World} (hev: ∀x F,ev x=some F→(dF (dk cx) kf lv F).p w (a.eval x)): ∀{l:List (Nat×Operand)} {os:List κ} {i:Nat},evO ev l i=some os→ ∃vs:List Value,l.map (fun z=>(z.1,a.eval z.2))=(vs.zipIdx i).map (fun x=>(x.2,x.1))∧vs.length=os.length∧All2 (fun (p:Pr) v=>p w v) (os.map fun x=>(dk cx x).p) vs:=by
 intro l
 induction l with
 |nil=>intro os i h;injection h with h;subst h;exact ⟨[],rfl,rfl,trivial⟩
 |cons x r ih=>
  intro os i h
  unfold evO at h
  cases hb:Nat.beq x.1 i with
  |false=>rw [hb] at h;cases h
  |true=>
   rw [hb] at h
   simp only [_root_.cond_true] at h
   split at h
   ·next o os' e1 e2=>
    injection h with h
    subst h
    obtain ⟨vs,i1,i2,i3⟩:=ih e2
    refine ⟨a.eval x.2::vs, ?_,by rw [List.length_cons,List.length_cons,i2],hev x.2 _ e1,i3⟩
    rw [List.map_cons,List.zipIdx_cons,List.map_cons,i1,Nat.eq_of_beq_eq_true hb]
   ·cases h
theorem hMo_ok {d0:κ} {tyOk:κ→TypeId→Bool} (hty: ∀o t,tyOk o t=true→ ∀cx,(dk cx o).ty t=true):HOk dk (hMo P d0 tyOk):=by
 intro cx lv ops Q Fc G D V kf0 i d ft va ev hfr hev op F ps h hp hF
 have lo: ∀{x T sz os o},ev x=some (.s (.M T sz os o))→ ∃cy:Cx,∃b,cy.ban=cx.ban∧Arg soft P ops Fc G D V kf0 i x (isLo cy T sz (os.map fun o=>(dk cx o).p) b):=fun {x T sz os o} e=>by
  match o,e with
  |0,e=>exact ⟨cx,false,rfl,fun a w c=>hev _ _ e a w c⟩
  |1,e=>exact ⟨cx,true,rfl,fun a w c=>hev _ _ e a w c⟩
  |_+2,e=>exact ⟨cxN cx,true,rfl,fun a w c=>hev _ _ e a w c⟩
 unfold hMo at h
 split at h
 ·next c=>
  split at h
  ·next x t ec ea et=>
   split at h
   ·next T sz os o e1=>
    obtain ⟨hB,h⟩:=c_t h
    injection h with h
    injection h with h1 h2
    subst h1 h2
    obtain ⟨cy,b,hban,hA⟩:=lo e1
    have key:=lenLo (Q:=Q) (d:=d) (ts:= #[t]) hB hA rfl (fun w v e=>hF w v (by rw [e,List.length_map];rfl))
    have:c={callee:= .builtin .len,args:= #[x],argTypes:= #[t]}:=by
     cases c with
     |mk ce ar ty=>
      simp only at ec ea et
      subst ec
      congr 1
      ·apply Array.ext';rw [ea]
      ·apply Array.ext';rw [et]
    rw [this]
    exact key
   ·cases h
  ·cases h
 ·next t x y=>
  split at h
  ·next T sz os o n e1 e2=>
   obtain ⟨hB,h⟩:=c_t h
   injection h with h
   injection h with h1 h2
   subst h1 h2
   obtain ⟨cy,b,hban,hA⟩:=lo e1
   have hn:n<os.length:=hp.1
   have hg:os.getD n d0=os[n]:=by rw [List.getD_eq_getElem?_getD,List.getElem?_eq_getElem hn];rfl
   refine idxLo (q:=(dk cx (os.getD n d0)).p) hB hA (hev _ _ e2) (by rw [hg,List.getElem?_map,List.getElem?_eq_getElem hn];rfl) fun w v hv=>hF w v ?_
   obtain ⟨row,r0,r1,r2⟩:=hv
   exact ⟨row,r0,isAd.mono (cx':=cx) (fun b t _ h=>by rw [←hban];exact h) r1,r2⟩
  ·cases h
 ·next t x=>
  split at h
  ·next sz o e1=>
   obtain ⟨hB,h⟩:=c_t h
   injection h with h
   injection h with h1 h2
   subst h1 h2
   simp only [Bool.and_eq_true] at hB
   refine loadAo (hev _ _ e1) hB.1 ?_ hF
   cases hi:(P.info? t).map (·.size) with
   |none=>rw [hi] at hB;cases hB.2
   |some m=>rw [hi] at hB;rw [Nat.eq_of_beq_eq_true hB.2]
  ·cases h
 ·next t x y=>
  split at h
  ·next T sz os n e1 e2=>
   obtain ⟨hB,h⟩:=c_t h
   injection h with h
   injection h with h1 h2
   subst h1 h2
   exact upLo (qs:=os.map fun o=>(dk cx o).p) (b:=false) hB (hev _ _ e1) (hev _ _ e2) (by rw [List.length_map];exact hp.1) fun w v hv=>hF w v (by rw [←List.map_take] at hv;exact hv)
  ·next T sz os n e1 e2=>
   obtain ⟨hB,h⟩:=c_t h
   injection h with h
   injection h with h1 h2
   subst h1 h2
   exact upLo (qs:=os.map fun o=>(dk cx o).p) (b:=true) hB (hev _ _ e1) (hev _ _ e2) (by rw [List.length_map];exact hp.1) fun w v hv=>hF w v (by rw [←List.map_take] at hv;exact hv)
  ·cases h
 ·next t n ps'=>
  split at h
  ·next os T sz e1 e2=>
   obtain ⟨hB,h⟩:=c_t h
   injection h with h
   injection h with h1 h2
   subst h1 h2
   simp only [Bool.and_eq_true,Bool.not_eq_true',decide_eq_true_eq] at hB
   obtain ⟨⟨⟨⟨b1,b2⟩,b3⟩,b4⟩,b5⟩:=hB
   have hn:os.length=n:=Nat.eq_of_beq_eq_true b1
   have hn0:n≠0:=fun e=>by rw [e] at b2;cases b2
   unfold thing at e2
   split at e2
   ·next T' hu=>
    split at e2
    ·next j hi=>
     split at e2
     ·next z hz=>
      obtain ⟨hT,e2⟩:=c_t e2
      injection e2 with e2
      injection e2 with g1 g2
      subst g1 g2
      simp only [Bool.and_eq_true,Bool.not_eq_true'] at hT
      have hsz:j.size≠0:=fun e=>by rw [e] at hT;cases hT.1
      refine bldO (cx:=cxN cx) (qs:=os.map fun o=>(dk cx o).p) hu hi hz rfl (Nat.mul_pos (Nat.pos_of_ne_zero hn0) (Nat.pos_of_ne_zero hsz)) b3 (fun a w c=> ?_) (fun q hq=> ?_) (fun a w c=>⟨(hfr a w c).1,(hfr a w c).2 _ b4⟩) hF
      ·obtain ⟨vs,i1,i2,i3⟩:=evO_ok (dk:=dk) (fun x F' hx=>hev x F' hx a w c) e1
       refine ⟨vs,i1,by rw [i2,hn],fun v hv=> ?_,i3⟩
       obtain ⟨m,hm,rfl⟩:=List.getElem_of_mem hv
       have hm':m<os.length:=by rw [←i2];exact hm
       have hq:=i3.get (n:=m) (x:=(dk cx os[m]).p) (by rw [List.getElem?_map,List.getElem?_eq_getElem hm'];rfl) (List.getElem?_eq_getElem hm)
       obtain ⟨cs,ec,hf⟩:=(dk cx os[m]).fit T' (hty _ _ (List.all_eq_true.1 b5 _ (List.getElem_mem hm')) cx) w _ hq
       refine ⟨cs,ec, ?_, ?_⟩
       ·have:=hf.size
        rw [hi] at this
        injection this with this
        exact this.symm
       ·rw [Array.all_eq_true_iff_forall_mem]
        intro x hx
        unfold pv
        rw [(Array.all_eq_true_iff_forall_mem.1 hf.one) x hx,(Array.all_eq_true_iff_forall_mem.1 (soft_all hf.soft)) x hx]
        rfl
      ·obtain ⟨o,_,rfl⟩:=List.mem_map.1 hq
       exact (dk cx o).st
     ·cases e2
    ·cases e2
   ·cases e2
  ·cases h
 ·cases h
def wSlot:Nat:=1000000
def argK:Ks κ→Ks κ
 | .A row=> .A row
 | .C f rows=> .C f rows
 | .L T sz l _=> .L T sz l false
 | .M T sz os _=> .M T sz os 0
 | .S fs=> .S fs
 | .E v=> .E v
 | .O o=> .O o
 |_=> .X
variable (dk) in
structure Ct where
 f:FuncId
 va:Nat
 en:Enters P f
 run:List (Ks κ)→Ks κ→Option (Fk κ×List Prop)
 ok: ∀ks kw F ps,run ks kw=some (F,ps)→AL ps→ ∀w vs u,allK w (ks.map (dS (dk (cxA w)) (fun _=>0) (fun _=>undef))) vs→(dS (dk (cxA w)) (fun _=>0) (fun _=>undef) kw).p w u→Calls P f vs.toArray w (Ret w fun v w'=>(dF (dk (cxA w)) (fun _=>0) (fun _=>undef) F).p w' v)
def evL {κ:Type} (ev:Operand→Option (Fk κ)):List Operand→Option (List (Ks κ))
 | []=>some []
 |x::r=>match ev x,evL ev r with
  |some (.s k),some ks=>some (argK k::ks)
  |_,_=>none
def evW {κ:Type} (ev:Operand→Option (Fk κ)):Ks κ:=match ev (.tmp wSlot) with
 |some (.s k)=>argK k
 |_=> .X
def findC:List (Ct dk)→FuncId→Nat→Option (Ct dk)
 | [],_,_=>none
 |c::r,f,va=>cond (Nat.beq c.f f&&Nat.beq c.va va) (some c) (findC r f va)
theorem findC_ok: ∀{l:List (Ct dk)} {f va:Nat} {c:Ct dk},findC l f va=some c→c.f=f:=by
 intro l
 induction l with
 |nil=>intro f va c h;cases h
 |cons x r ih=>
  intro f va c h
  simp only [findC] at h
  cases hb:(Nat.beq x.f f&&Nat.beq x.va va) with
  |true=>
   rw [hb] at h
   injection h with h
   subst h
   simp only [Bool.and_eq_true] at hb
   exact Nat.eq_of_beq_eq_true hb.1
  |false=>rw [hb] at h;exact ih h
def reK (ft:TypeId→Bool):Ks κ→Bool
 | .X=>true
 | .E _=>true
 | .O _=>true
 | .L T _ _ o=>o&&ft T
 | .M T _ _ 1=>ft T
 | .S fs=>fs.all noL
 |_=>false
def newK:Ks κ→Ks κ
 | .L T sz l true=> .F T sz l
 | .M T sz os 1=> .M T sz os 2
 |k=>k
def newF:Fk κ→Fk κ
 | .s k=> .s (newK k)
 | .t ks=> .t (ks.map newK)
 |F=>F
def reF (ft:TypeId→Bool):Fk κ→Bool
 | .s k=>reK ft k
 | .t ks=>ks.all (reK ft)
 |_=>false
def calOf (ev:Operand→Option (Fk κ)):Operand→Option (FuncId×List (List Value))
 | .func f=>some (f,[])
 | .tmp x=>match ev (.tmp x) with
  |some (.s (.E (.func (.func f) ⟨[]⟩ ⟨[]⟩)))=>some (f,[])
  |some (.s (.C f rows))=>some (f,rows)
  |_=>none
 |_=>none
def hCall (cts:List (Ct dk)):Hd κ:=fun ft va ev op=>match op with
 | .call c=>match c.callee with
  | .value o=>match calOf ev o with
   |some (f,rows)=>match findC cts f va,evL ev c.args.toList with
    |some t,some ks=>match t.run (ks++rows.map .A) (evW ev) with
     |some (F,ps)=>cond (reF ft F) (some (newF F,ps)) none
     |none=>none
    |_,_=>none
   |none=>none
  |_=>none
 |_=>none
section
variable {cx:Cx} {lv:Nat→Value} {kf:Nat→Nat}
theorem argK_ok (hdcx: ∀o cx cx',(dk cx o).p=(dk cx' o).p) {w:World} {v:Value} {k:Ks κ} (h:(dS (dk cx) kf lv k).p w v):(dS (dk (cxA w)) (fun _=>0) (fun _=>undef) (argK k)).p w v:=by
 cases k with
 |O o=>
  show (dk (cxA w) o).p w v
  rw [hdcx o (cxA w) cx]
  exact h
 |L T sz l o=>exact isLs.arg (fun _ _ _ _=>rfl) (Nat.le_refl _) h
 |M T sz os o=>
  have key: ∀{cy:Cx} {b:Bool},isLo cy T sz (os.map fun x=>(dk cx x).p) b w v→(dS (dk (cxA w)) (fun _=>0) (fun _=>undef) (.M T sz os 0)).p w v:=fun {cy b} ⟨rows,h1,h2⟩=>
   ⟨rows,isLs.arg (fun _ _ _ _=>rfl) (Nat.le_refl _) h1,by rwa [show (os.map fun x=>(dk (cxA w) x).p)=os.map fun x=>(dk cx x).p from List.map_congr_left fun x _=>hdcx x (cxA w) cx]⟩
  match o,h with
  |0,h=>exact key h
  |1,h=>exact key h
  |_+2,h=>exact key h
 |S fs=>
  obtain ⟨vs,e,h⟩:=h
  refine ⟨vs,e, ?_⟩
  clear e
  induction fs generalizing vs with
  |nil=>exact h
  |cons f r ih=>
   cases f with
   |v x=>obtain ⟨us,e,h⟩:=h;exact ⟨us,e,ih us h⟩
   |l T sz rows=>obtain ⟨u,us,e,h1,h⟩:=h;exact ⟨u,us,e,isLs.arg (T:=T) (o:=false) (fun _ _ _ _=>rfl) (Nat.le_refl _) h1,ih us h⟩
   |o k t n=>obtain ⟨us,us',e,h0,h1,h⟩:=h;exact ⟨us,us',e,h0,by rw [hdcx k (cxA w) cx];exact h1,ih us' h⟩
 |E v=>exact h
 |A row=>exact isAd.mono (fun _ _ _ _=>rfl) h
 |C f rows=>exact isCl.mono (fun _ _ _ _=>rfl) h
 |_=>trivial
theorem reK_ok (hdcx: ∀o cx cx',(dk cx o).p=(dk cx' o).p) {ft:TypeId→Bool} {w w':World} {v:Value} {k:Ks κ} (hr:reK ft k=true) (hfr:Fr cx ft w) (h:(dS (dk (cxA w)) (fun _=>0) (fun _=>undef) k).p w' v):(dS (dk cx) kf lv (newK k)).p w' v:=by
 have ow: ∀{T sz:Nat} {l:List (List Value)},ft T=true→isOw (cxA w) T sz l w' v→isOw (cxN cx) T sz l w' v:=fun {T sz l} hT ⟨h0,⟨h1,h2⟩,h3⟩=>by
  refine ⟨h0,⟨h1, ?_⟩,fun b e=>⟨?_,(h3 b e).2⟩⟩
  ·rcases h2 with h2|⟨g,cap,cur,e,hb,hr⟩
   ·exact .inl h2
   ·exact .inr ⟨g,cap,cur,e,Nat.le_trans hfr.1 hb,hr⟩
  ·rcases h2 with ⟨rfl,_⟩|⟨g,cap,cur,rfl,hb,hr⟩
   ·cases e
   ·injection e with e
    subst e
    exact hfr.2 T hT _ hb
 cases k with
 |O o=>
  show (dk cx o).p w' v
  rw [hdcx o cx (cxA w)]
  exact h
 |L T sz l o=>
  simp only [reK,Bool.and_eq_true] at hr
  obtain ⟨ho,hT⟩:=hr
  subst ho
  exact ow hT h
 |M T sz os o=>
  match o,hr,h with
  |1,hr,⟨rows,h1,h2⟩=>exact ⟨rows,ow hr h1,by rwa [show (os.map fun x=>(dk cx x).p)=os.map fun x=>(dk (cxA w) x).p from List.map_congr_left fun x _=>hdcx x cx (cxA w)]⟩
 |S fs=>
  obtain ⟨vs,e,h⟩:=h
  refine ⟨vs,e, ?_⟩
  have hr':fs.all noL=true:=hr
  clear e hr
  induction fs generalizing vs with
  |nil=>exact h
  |cons f r ih=>
   simp only [List.all_cons,Bool.and_eq_true] at hr'
   cases f with
   |v x=>obtain ⟨us,e,h⟩:=h;exact ⟨us,e,ih us h hr'.2⟩
   |l T sz rows=>cases hr'.1
   |o k t n=>obtain ⟨us,us',e,h0,h1,h⟩:=h;exact ⟨us,us',e,h0,by rw [hdcx k cx (cxA w)];exact h1,ih us' h hr'.2⟩
 |E v=>exact h
 |X=>trivial
 |_=>cases hr
theorem reL_ok (hdcx: ∀o cx cx',(dk cx o).p=(dk cx' o).p) {ft:TypeId→Bool} {w w':World} (hfr:Fr cx ft w): ∀{ks:List (Ks κ)} {vs:List Value},ks.all (reK ft)=true→allK w' (ks.map (dS (dk (cxA w)) (fun _=>0) (fun _=>undef))) vs→allK w' ((ks.map newK).map (dS (dk cx) kf lv)) vs:=by
 intro ks
 induction ks with
 |nil=>
  intro vs _ h
  cases vs with
  |nil=>trivial
  |cons v vs=>cases h
 |cons k r ih=>
  intro vs hn h
  simp only [List.all_cons,Bool.and_eq_true] at hn
  cases vs with
  |nil=>cases h
  |cons v vs=>exact ⟨reK_ok hdcx hn.1 hfr h.1,ih hn.2 h.2⟩
theorem reF_ok (hdcx: ∀o cx cx',(dk cx o).p=(dk cx' o).p) {ft:TypeId→Bool} {w w':World} {v:Value} {F:Fk κ} (hr:reF ft F=true) (hfr:Fr cx ft w) (h:(dF (dk (cxA w)) (fun _=>0) (fun _=>undef) F).p w' v):(dF (dk cx) kf lv (newF F)).p w' v:=by
 cases F with
 |s k=>exact reK_ok hdcx hr hfr h
 |t ks=>
  obtain ⟨vs,e,h⟩:=h
  exact ⟨vs,e,reL_ok hdcx hfr hr h⟩
 |_=>cases hr
theorem evL_ok (hdcx: ∀o cx cx',(dk cx o).p=(dk cx' o).p) {ev:Operand→Option (Fk κ)} {a:Act} {w:World} (hev: ∀x F,ev x=some F→(dF (dk cx) kf lv F).p w (a.eval x)): ∀{l:List Operand} {ks:List (Ks κ)},evL ev l=some ks→allK w (ks.map (dS (dk (cxA w)) (fun _=>0) (fun _=>undef))) (l.map a.eval):=by
 intro l
 induction l with
 |nil=>intro ks h;injection h with h;subst h;trivial
 |cons x r ih=>
  intro ks h
  simp only [evL] at h
  split at h
  ·next k ks' e1 e2=>
   injection h with h
   subst h
   exact ⟨argK_ok hdcx (hev x _ e1),ih e2⟩
  ·cases h
end
theorem allK_app {P:Program} {cx:Cx} {w:World}: ∀{ks ks':List (Kd P cx)} {vs vs':List Value},allK w ks vs→allK w ks' vs'→allK w (ks++ks') (vs++vs'):=by
 intro ks
 induction ks with
 |nil=>intro ks' vs vs' h h';cases vs with
  |nil=>exact h'
  |cons _ _=>cases h
 |cons k r ih=>
  intro ks' vs vs' h h'
  cases vs with
  |nil=>cases h
  |cons v vs=>exact ⟨h.1,ih h.2 h'⟩
theorem caught {cx:Cx} {w:World}: ∀{rows:List (List Value)} {ps:List Value},All2 (fun r p=>isAd cx r w p) rows ps→allK w ((rows.map (.A:List Value→Ks κ)).map (dS (dk (cxA w)) (fun _=>0) (fun _=>undef))) ps:=by
 intro rows
 induction rows with
 |nil=>intro ps h;cases ps with
  |nil=>trivial
  |cons _ _=>cases h
 |cons r rs ih=>
  intro ps h
  cases ps with
  |nil=>cases h
  |cons p ps=>exact ⟨isAd.mono (fun _ _ _ _=>rfl) h.1,ih h.2⟩
theorem hCall_ok (hdcx: ∀o cx cx',(dk cx o).p=(dk cx' o).p) (cts:List (Ct dk)):HOk dk (hCall cts):=by
 intro cx lv ops Q Fc G D V kf0 i d ft va ev hfr hev op F ps h hp hF
 unfold hCall at h
 split at h
 ·next c=>
  split at h
  ·next oc hc=>
   split at h
   ·next f rows hcal=>
    split at h
    ·next t ks e1 e2=>
     split at h
     ·next F' ps' e3=>
      obtain ⟨hre,h⟩:=c_t h
      injection h with h
      injection h with h1 h2
      subst h1 h2
      have ef:=findC_ok e1
      intro o a w ho hd c2
      have hall:=evL_ok (dk:=dk) (a:=a) (w:=w) (kf:=kf0) (lv:=lv) (cx:=cx) hdcx (fun x F' hx=>hev x F' hx a w c2) e2
      have hw: ∃u,(dS (dk (cxA w)) (fun _=>0) (fun _=>undef) (evW ev)).p w u:=by
       unfold evW
       split
       ·next k e=>exact ⟨_,argK_ok hdcx (hev _ _ e a w c2)⟩
       ·exact ⟨undef,trivial⟩
      obtain ⟨u,hu⟩:=hw
      have hfun: ∃ps:List Value,a.eval oc= .func (.func f) #[] ps.toArray∧All2 (fun r p=>isAd cx r w p) rows ps:=by
       unfold calOf at hcal
       split at hcal
       ·injection hcal with hcal
        injection hcal with g1 g2
        subst g1 g2
        exact ⟨[],rfl,trivial⟩
       ·next x=>
        split at hcal
        ·next f' ex=>
         injection hcal with hcal
         injection hcal with g1 g2
         subst g1 g2
         exact ⟨[],hev _ _ ex a w c2,trivial⟩
        ·next f' rows' ex=>
         injection hcal with hcal
         injection hcal with g1 g2
         subst g1 g2
         exact hev _ _ ex a w c2
        ·cases hcal
       ·cases hcal
      obtain ⟨caps,hfun,hcaps⟩:=hfun
      have hall2:=allK_app hall (caught (κ:=κ) (dk:=dk) hcaps)
      rw [←List.map_append] at hall2
      have hcall:=t.ok (ks++rows.map .A) (evW ev) F' ps' e3 hp w _ u hall2 hu
      rw [ef] at hcall
      have hen:=t.en
      rw [ef] at hen
      have eargs:c.args.map a.eval++caps.toArray=(c.args.toList.map a.eval++caps).toArray:=by
       rw [←Array.toList_map]
       simp
      have hrun:(execOp a.eval o).run P w= .ok (.enter f (c.args.map a.eval++caps.toArray)) w:=by
       simp only [execOp,ho,resolve,hc,Deferred.ofValue,hfun,Sem.run_bind,Sem.run_pure,Result.andThen_ok,invoke,Array.empty_append]
       exact hen _ _
      unfold Oper.wp
      rw [hrun,eargs]
      refine hcall.mono fun e w' ⟨v,ee,hv,hg⟩=> ?_
      subst ee
      refine ⟨v,rfl,fun e he=> ?_,hg⟩
      rw [hd] at he
      injection he with he
      subst he
      exact hF _ _ (reF_ok hdcx hre (hfr a w c2) hv)
     ·cases h
    ·cases h
   ·cases h
  ·cases h
 ·cases h
end
end Go.Proofs.YthebilnlljkfeaaGreatDoor.X
