/- Times in parts, by days' numbers: the nearest cut first; what cuts between two days make of it. No program is named here. -/
import Derived.Test.YtjpilacbapibjaaGreatDoorCo
namespace Go.Proofs.YtjpilacbapibjaaGreatDoor.Da
abbrev nm (x:Int×Int×Int):Int:=numI x.1 x.2.1 x.2.2
abbrev ri (x:Int×Int×Int):Prop:=rightI x.1 x.2.1 x.2.2
theorem dt_nm {x:Int×Int×Int} (h:ri x):dtN (nm x)=x:=dtN_eq h
theorem nm_dt {z:Int} (h:1≤z∧z≤3652059):nm (dtN z)=z:=(dtN_ok h.1 h.2).2
theorem ri_dt {z:Int} (h:1≤z∧z≤3652059):ri (dtN z):=(dtN_ok h.1 h.2).1
def nxt (ns:List Int) (a t:Int):Int:=ns.foldl (fun t n=>if a<n∧n<t then n else t) t
theorem nxt_cons (n:Int) (ns:List Int) (a t:Int):nxt (n::ns) a t=nxt ns a (if a<n∧n<t then n else t):=rfl
theorem nxt_snoc (n:Int) (ns:List Int) (a t:Int):nxt (ns++ [n]) a t=if a<n∧n<nxt ns a t then n else nxt ns a t:=by
 unfold nxt
 rw [List.foldl_append]
 rfl
theorem nxt_le: ∀(ns:List Int) (a t:Int),nxt ns a t≤t:=by
 intro ns
 induction ns with
 |nil=>intro a t;exact Int.le_refl _
 |cons n r ih=>
  intro a t
  rw [nxt_cons]
  have:=ih a (if a<n∧n<t then n else t)
  split at this<;>(first|rw [if_pos (by assumption)]|rw [if_neg (by assumption)])<;>omega
theorem nxt_gt: ∀(ns:List Int) {a t:Int},a<t→a<nxt ns a t:=by
 intro ns
 induction ns with
 |nil=>intro a t h;exact h
 |cons n r ih=>
  intro a t h
  rw [nxt_cons]
  refine ih ?_
  split<;>omega
theorem nxt_mem: ∀(ns:List Int) (a t:Int),nxt ns a t=t∨nxt ns a t∈ns:=by
 intro ns
 induction ns with
 |nil=>intro a t;exact .inl rfl
 |cons n r ih=>
  intro a t
  rw [nxt_cons]
  rcases ih a (if a<n∧n<t then n else t) with h|h
  ·rw [h]
   split
   ·exact .inr (.head _)
   ·exact .inl rfl
  ·exact .inr (.tail _ h)
theorem nxt_min: ∀(ns:List Int) {a t n:Int},n∈ns→a<n→nxt ns a t≤n:=by
 intro ns
 induction ns with
 |nil=>intro a t n h;cases h
 |cons m r ih=>
  intro a t n h ha
  rw [nxt_cons]
  rcases List.mem_cons.1 h with rfl|h
  ·have:=nxt_le r a (if a<n∧n<t then n else t)
   split at this
   ·next e=>rw [if_pos e];exact this
   ·next e=>rw [if_neg e];omega
  ·exact ih h ha
theorem nxt_congr {ns ns':List Int} {a t:Int} (h: ∀n,a<n→n<t→(n∈ns↔n∈ns')) (ht:a<t):nxt ns a t=nxt ns' a t:=by
 have key: ∀{ns ns':List Int},(∀n,a<n→n<t→(n∈ns↔n∈ns'))→nxt ns a t≤nxt ns' a t:=fun {ns ns'} h=>by
  have g:=nxt_gt ns' ht
  have l:=nxt_le ns a t
  rcases nxt_mem ns' a t with e|e
  ·rw [e];exact l
  ·rcases Int.lt_or_le (nxt ns' a t) t with c|c
   ·exact nxt_min ns ((h _ g c).2 e) g
   ·omega
 exact Int.le_antisymm (key h) (key fun n h1 h2=>(h n h1 h2).symm)
def pts (ns:List Int) (t:Int):Nat→Int→List (Int×Int)
 |0,_=> []
 |k+1,a=>if a<t then (a,nxt ns a t)::pts ns t k (nxt ns a t) else []
theorem pts_fuel {ns:List Int} {t:Int}: ∀{k j:Nat} {a:Int},(t-a).toNat≤k→(t-a).toNat≤j→pts ns t k a=pts ns t j a:=by
 intro k
 induction k with
 |zero=>
  intro j a h1 h2
  cases j with
  |zero=>rfl
  |succ j=>unfold pts;rw [if_neg (by omega)]
 |succ k ih=>
  intro j a h1 h2
  cases j with
  |zero=>unfold pts;rw [if_neg (by omega)]
  |succ j=>
   unfold pts
   split
   ·next h=>
    have g:=nxt_gt ns h
    rw [ih (j:=j) (by omega) (by omega)]
   ·rfl
def cutP (ns:List Int) (a t:Int):List (Int×Int):=pts ns t (t-a).toNat a
theorem cut_no {ns:List Int} {a t:Int} (h: ¬a<t):cutP ns a t= []:=by
 unfold cutP
 rw [show (t-a).toNat=0 by omega]
 rfl
theorem cut_yes {ns:List Int} {a t:Int} (h:a<t):cutP ns a t=(a,nxt ns a t)::cutP ns (nxt ns a t) t:=by
 have g:=nxt_gt ns h
 unfold cutP
 obtain ⟨k,hk⟩: ∃k,(t-a).toNat=k+1:=⟨(t-a).toNat-1,by omega⟩
 rw [hk]
 show (if a<t then (a,nxt ns a t)::pts ns t k (nxt ns a t) else [])=_
 rw [if_pos h,pts_fuel (k:=k) (j:=(t-nxt ns a t).toNat) (by omega) (by omega)]
theorem cut_ind {t:Int} {q:Int→Prop} (h0: ∀a,¬a<t→q a) (h1: ∀a,a<t→(∀b,a<b→q b)→q a) (a:Int):q a:=by
 have key: ∀(k:Nat) (a:Int),(t-a).toNat≤k→q a:=by
  intro k
  induction k with
  |zero=>intro a h;exact h0 a (by omega)
  |succ k ih=>
   intro a h
   by_cases c:a<t
   ·exact h1 a c fun b hb=>ih b (by omega)
   ·exact h0 a c
 exact key _ a (Nat.le_refl _)
theorem cut_congr {ns ns':List Int} {t:Int} (a:Int):(∀n,a<n→n<t→(n∈ns↔n∈ns'))→cutP ns a t=cutP ns' a t:=by
 refine cut_ind (t:=t) (q:=fun a=>(∀n,a<n→n<t→(n∈ns↔n∈ns'))→cutP ns a t=cutP ns' a t) (fun a h _=>by rw [cut_no h,cut_no h]) (fun a h ih hn=> ?_) a
 have g:=nxt_gt ns h
 rw [cut_yes h,cut_yes h,←nxt_congr hn h,ih _ g fun n h1 h2=>hn n (by omega) h2]
theorem cut_split {ns:List Int} {m t:Int} (hm:m∈ns) (ht:m≤t) (a:Int):a≤m→cutP ns a t=cutP ns a m++cutP ns m t:=by
 refine cut_ind (t:=m) (q:=fun a=>a≤m→cutP ns a t=cutP ns a m++cutP ns m t) (fun a h h2=> ?_) (fun a h ih _=> ?_) a
 ·rw [cut_no h,show a=m by omega]
  rfl
 ·have hat:a<t:=by omega
  have e:nxt ns a t=nxt ns a m:=by
   have l:=nxt_min ns (t:=t) hm h
   have g:=nxt_gt ns hat
   have g2:=nxt_gt ns h
   refine Int.le_antisymm ?_ ?_
   ·rcases nxt_mem ns a m with e|e
    ·rw [e];exact l
    ·exact nxt_min ns e g2
   ·rcases nxt_mem ns a t with e|e
    ·have:=nxt_le ns a m;omega
    ·exact nxt_min ns e g
  have g:=nxt_gt ns h
  rw [cut_yes hat,cut_yes h,e,ih _ g (nxt_le ns a m)]
  rfl
def chain:Int→Int→List (Int×Int)→Prop
 |a,t,[]=>a=t
 |a,t,x::r=>x.1=a∧a<x.2∧x.2≤t∧chain x.2 t r
theorem cut_chain {ns:List Int} {t:Int} (a:Int):a≤t→chain a t (cutP ns a t):=by
 refine cut_ind (t:=t) (q:=fun a=>a≤t→chain a t (cutP ns a t)) (fun a h h2=> ?_) (fun a h ih _=> ?_) a
 ·rw [cut_no h]
  show a=t
  omega
 ·rw [cut_yes h]
  have g:=nxt_gt ns h
  have l:=nxt_le ns a t
  exact ⟨rfl,g,l,ih _ g l⟩
def endP (a:Int) (l:List (Int×Int)) (i:Nat):Int:=if i=0 then a else (l.getD (i-1) (0,0)).2
theorem end_cons (a:Int) (x:Int×Int) (r:List (Int×Int)) (i:Nat):endP a (x::r) (i+1)=endP x.2 r i:=by
 unfold endP
 rw [if_neg (by omega)]
 cases i with
 |zero=>rfl
 |succ i=>rw [if_neg (by omega)];rfl
theorem chain_at: ∀{l:List (Int×Int)} {a t:Int} {i:Nat},chain a t l→i<l.length→(l.getD i (0,0)).1=endP a l i∧(l.getD i (0,0)).1<(l.getD i (0,0)).2∧a≤(l.getD i (0,0)).1∧(l.getD i (0,0)).2≤t:=by
 intro l
 induction l with
 |nil=>intro a t i _ h;cases h
 |cons x r ih=>
  intro a t i ⟨h1,h2,h3,h4⟩ hi
  cases i with
  |zero=>exact ⟨h1,by show x.1<x.2;omega,by show a≤x.1;omega,h3⟩
  |succ i=>
   obtain ⟨e1,e2,e3,e4⟩:=ih h4 (Nat.lt_of_succ_lt_succ hi)
   rw [end_cons]
   refine ⟨e1,e2, ?_,e4⟩
   have e3':x.2≤(r.getD i (0,0)).1:=e3
   show a≤(r.getD i (0,0)).1
   omega
theorem chain_end: ∀{l:List (Int×Int)} {a t:Int},chain a t l→endP a l l.length=t:=by
 intro l
 induction l with
 |nil=>intro a t h;exact h
 |cons x r ih=>
  intro a t ⟨_,_,_,h4⟩
  rw [List.length_cons,end_cons]
  exact ih h4
theorem end_step {l:List (Int×Int)} {a:Int} {i:Nat}:endP a l (i+1)=(l.getD i (0,0)).2:=by
 unfold endP
 rw [if_neg (by omega)]
 rfl
theorem chain_len: ∀{l:List (Int×Int)} {a t:Int},chain a t l→((l.length:Nat):Int)≤t-a:=by
 intro l
 induction l with
 |nil=>intro a t h;have:a=t:=h;simp;omega
 |cons x r ih=>
  intro a t ⟨h1,h2,h3,h4⟩
  have:=ih h4
  rw [List.length_cons]
  omega
theorem cut_len {ns:List Int} {t:Int} (a:Int):(cutP ns a t).length≤(ns.filter fun n=>decide (a<n)).length+1:=by
 refine cut_ind (t:=t) (q:=fun a=>(cutP ns a t).length≤(ns.filter fun n=>decide (a<n)).length+1) (fun a h=>by rw [cut_no h];exact Nat.zero_le _) (fun a h ih=> ?_) a
 rw [cut_yes h,List.length_cons]
 have g:=nxt_gt ns h
 rcases nxt_mem ns a t with e|e
 ·rw [e,cut_no (by omega)]
  exact Nat.succ_le_succ (Nat.zero_le _)
 ·have i:=ih _ g
  have key: ∀{ns:List Int} {a b:Int},a<b→b∈ns→(ns.filter fun n=>decide (b<n)).length+1≤(ns.filter fun n=>decide (a<n)).length:=by
   intro ns
   induction ns with
   |nil=>intro a b _ h;cases h
   |cons n r ih=>
    intro a b hab hb
    have le: ∀{r:List Int},(r.filter fun n=>decide (b<n)).length≤(r.filter fun n=>decide (a<n)).length:=fun {r}=>by
     induction r with
     |nil=>exact Nat.le_refl _
     |cons m s is=>
      by_cases c:b<m
      ·rw [List.filter_cons_of_pos (by simpa using c),List.filter_cons_of_pos (by simp;omega)]
       simp only [List.length_cons];omega
      ·rw [List.filter_cons_of_neg (by simpa using c)]
       by_cases c2:a<m
       ·rw [List.filter_cons_of_pos (by simpa using c2)];simp only [List.length_cons];omega
       ·rw [List.filter_cons_of_neg (by simpa using c2)];exact is
    rcases List.mem_cons.1 hb with rfl|hb
    ·rw [List.filter_cons_of_neg (by simp),List.filter_cons_of_pos (by simpa using hab)]
     simp only [List.length_cons]
     exact Nat.succ_le_succ le
    ·have:=ih hab hb
     by_cases c:b<n
     ·rw [List.filter_cons_of_pos (by simpa using c),List.filter_cons_of_pos (by simp;omega)]
      simp only [List.length_cons];omega
     ·rw [List.filter_cons_of_neg (by simpa using c)]
      by_cases c2:a<n
      ·rw [List.filter_cons_of_pos (by simpa using c2)];simp only [List.length_cons];omega
      ·rw [List.filter_cons_of_neg (by simpa using c2)];exact this
  have:=key g e
  omega
def wsum (f:Nat→Rat):Nat→Rat
 |0=>0
 |n+1=>wsum f n+f n
theorem wsum_mul {f:Nat→Rat} {c:Rat}: ∀n,wsum (fun i=>f i*c) n=wsum f n*c:=by
 intro n
 induction n with
 |zero=>show (0:Rat)=0*c;grind
 |succ n ih=>show wsum _ n+f n*c=(wsum f n+f n)*c;rw [ih];grind
theorem wsum_congr {f g:Nat→Rat}: ∀{n:Nat},(∀i,i<n→f i=g i)→wsum f n=wsum g n:=by
 intro n
 induction n with
 |zero=>intro _;rfl
 |succ n ih=>intro h;show wsum f n+f n=wsum g n+g n;rw [ih fun i hi=>h i (by omega),h n (by omega)]
noncomputable def yrP (k:Int) (x:Int×Int):Rat:=yrQ k (dtN x.1).1 (dtN x.1).2.1 (dtN x.1).2.2 (dtN x.2).1 (dtN x.2).2.1 (dtN x.2).2.2
theorem sum_chain {k:Int} (hk:k=1∨k=2): ∀{l:List (Int×Int)} {a t:Int},chain a t l→ ∀n,n≤l.length→wsum (fun i=>yrP k (l.getD i (0,0))) n=yrP k (a,endP a l n):=by
 intro l a t h n
 induction n with
 |zero=>intro _;show (0:Rat)=_;exact yr_self.symm
 |succ n ih=>
  intro hn
  have c:=chain_at (i:=n) h (by omega)
  show wsum _ n+yrP k (l.getD n (0,0))=_
  rw [ih (by omega),end_step,←c.1]
  exact yr_add hk
noncomputable def ptW (x:Int×Int):List Value:=dtW (dtN x.1)++dtW (dtN x.2)
def nsOf (cs:List (Int×Int×Int)):List Int:=cs.map nm
instance (y m d:Int):Decidable (rightI y m d):=inferInstanceAs (Decidable (_∧_))
def spOk (x y:Int×Int×Int) (cs:List (Int×Int×Int)):Prop:=(ri x∧ri y∧ ∀c∈cs,ri c)∧nm x≤nm y
open Classical in
noncomputable def spL (x y:Int×Int×Int) (cs:List (Int×Int×Int)):List (Int×Int):=if spOk x y cs then cutP (nsOf cs) (nm x) (nm y) else []
open Classical in
noncomputable def spE (x y:Int×Int×Int) (cs:List (Int×Int×Int)):Int:=if ri x∧ri y∧ ∀c∈cs,ri c then (if nm x≤nm y then 0 else 12) else 11
theorem sp_yes {x y:Int×Int×Int} {cs:List (Int×Int×Int)} (h:spOk x y cs):spL x y cs=cutP (nsOf cs) (nm x) (nm y)∧spE x y cs=0:=by
 unfold spL spE
 rw [if_pos h,if_pos h.1,if_pos h.2]
 exact ⟨rfl,rfl⟩
theorem sp_date {x y:Int×Int×Int} {cs:List (Int×Int×Int)} (h: ¬(ri x∧ri y∧ ∀c∈cs,ri c)):spL x y cs= []∧spE x y cs=11:=by
 unfold spL spE
 rw [if_neg (fun e=>h e.1),if_neg h]
 exact ⟨rfl,rfl⟩
theorem sp_order {x y:Int×Int×Int} {cs:List (Int×Int×Int)} (h:ri x∧ri y∧ ∀c∈cs,ri c) (h2: ¬nm x≤nm y):spL x y cs= []∧spE x y cs=12:=by
 unfold spL spE
 rw [if_neg (fun e=>h2 e.2),if_pos h,if_neg h2]
 exact ⟨rfl,rfl⟩
abbrev D3:=Int×Int×Int
def nxD (cs:List D3) (a:Int) (y:D3):D3:=cs.foldl (fun t c=>if a<nm c∧nm c<nm t then c else t) y
theorem nxD_snoc (cs:List D3) (c:D3) (a:Int) (y:D3):nxD (cs++ [c]) a y=if a<nm c∧nm c<nm (nxD cs a y) then c else nxD cs a y:=by
 unfold nxD
 rw [List.foldl_append]
 rfl
theorem nxD_take {cs:List D3} {j:Nat} (h:j<cs.length) (a:Int) (y:D3):nxD (cs.take (j+1)) a y=if a<nm (cs.getD j (0,0,0))∧nm (cs.getD j (0,0,0))<nm (nxD (cs.take j) a y) then cs.getD j (0,0,0) else nxD (cs.take j) a y:=by
 have e:cs.take (j+1)=cs.take j++ [cs.getD j (0,0,0)]:=by
  rw [List.take_add_one,List.getD_eq_getElem?_getD,List.getElem?_eq_getElem h]
  rfl
 rw [e,nxD_snoc]
theorem nxD_yes {cs:List D3} {j:Nat} {a:Int} {y:D3} (h:j<cs.length) (h2:a<nm (cs.getD j (0,0,0))∧nm (cs.getD j (0,0,0))<nm (nxD (cs.take j) a y)):nxD (cs.take (j+1)) a y=cs.getD j (0,0,0):=by rw [nxD_take h,if_pos h2]
theorem nxD_no {cs:List D3} {j:Nat} {a:Int} {y:D3} (h:j<cs.length) (h2: ¬(a<nm (cs.getD j (0,0,0))∧nm (cs.getD j (0,0,0))<nm (nxD (cs.take j) a y))):nxD (cs.take (j+1)) a y=nxD (cs.take j) a y:=by rw [nxD_take h,if_neg h2]
theorem nxD_all {cs:List D3} {a:Int} {y:D3} {j:Nat} (h:cs.length≤j):nxD (cs.take j) a y=nxD cs a y:=by rw [List.take_of_length_le h]
theorem nxD_ok: ∀{cs:List D3} {a:Int} {y:D3},ri y→(∀c∈cs,ri c)→ri (nxD cs a y)∧nm (nxD cs a y)=nxt (nsOf cs) a (nm y):=by
 intro cs
 induction cs with
 |nil=>intro a y h _;exact ⟨h,rfl⟩
 |cons c r ih=>
  intro a y hy hc
  have hc1:ri c:=hc c (.head _)
  have i:=ih (a:=a) (y:=if a<nm c∧nm c<nm y then c else y) (by split<;>assumption) fun d hd=>hc d (.tail _ hd)
  refine ⟨i.1, ?_⟩
  show nm (nxD r a (if a<nm c∧nm c<nm y then c else y))=nxt (nsOf r) a (if a<nm c∧nm c<nm y then nm c else nm y)
  rw [i.2]
  split<;>rfl
theorem getD_in {cs:List D3} {j:Nat} (h:j<cs.length):cs.getD j (0,0,0)∈cs:=by
 rw [List.getD_eq_getElem?_getD,List.getElem?_eq_getElem h]
 exact List.getElem_mem h
theorem all_getD {cs:List D3} {p:D3→Prop} (h: ∀j,j<cs.length→p (cs.getD j (0,0,0))): ∀c∈cs,p c:=by
 intro c hc
 obtain ⟨j,hj,rfl⟩:=List.getElem_of_mem hc
 have:=h j hj
 rwa [List.getD_eq_getElem?_getD,List.getElem?_eq_getElem hj] at this
def ptD (p:D3×D3):List Value:=dtW p.1++dtW p.2
def n2 (p:D3×D3):Int×Int:=(nm p.1,nm p.2)
def stP (x y:D3) (cs:List D3) (g:D3×List (D3×D3)):Prop:=(spOk x y cs∧ri g.1∧nm x≤nm g.1∧nm g.1≤nm y∧ ∀p∈g.2,ri p.1∧ri p.2)∧g.2.reverse.map n2++cutP (nsOf cs) (nm g.1) (nm y)=cutP (nsOf cs) (nm x) (nm y)
theorem st_init {x y:D3} {cs:List D3} (h:spOk x y cs):stP x y cs (x,[]):=⟨⟨h,h.1.1,Int.le_refl _,h.2,fun p hp=>by cases hp⟩,rfl⟩
theorem st_step {x y:D3} {cs:List D3} {g:D3×List (D3×D3)} (h:stP x y cs g) (hlt:nm g.1<nm y):stP x y cs (nxD cs (nm g.1) y,(g.1,nxD cs (nm g.1) y)::g.2)∧nm g.1<nm (nxD cs (nm g.1) y)∧nm (nxD cs (nm g.1) y)≤nm y∧ri (nxD cs (nm g.1) y):=by
 obtain ⟨⟨h0,h1,h2,h3,h4⟩,h5⟩:=h
 obtain ⟨k1,k2⟩:=nxD_ok (a:=nm g.1) h0.1.2.1 h0.1.2.2
 have g1:=nxt_gt (nsOf cs) hlt
 have l1:=nxt_le (nsOf cs) (nm g.1) (nm y)
 refine ⟨⟨⟨h0,k1, ?_, ?_,fun p hp=> ?_⟩, ?_⟩,by omega,by omega,k1⟩
 ·show nm x≤nm (nxD cs (nm g.1) y)
  omega
 ·show nm (nxD cs (nm g.1) y)≤nm y
  omega
 ·rcases List.mem_cons.1 hp with rfl|hp
  ·exact ⟨h1,k1⟩
  ·exact h4 p hp
 ·rw [←h5]
  show ((g.1,nxD cs (nm g.1) y)::g.2).reverse.map n2++cutP (nsOf cs) (nm (nxD cs (nm g.1) y)) (nm y)=_
  rw [cut_yes hlt,List.reverse_cons,List.map_append,List.append_assoc,k2]
  show _++((nm g.1,nm (nxD cs (nm g.1) y))::_)=_
  rw [k2]
  rfl
theorem ptD_eq {p:D3×D3} (h:ri p.1∧ri p.2):ptD p=ptW (n2 p):=by
 unfold ptD ptW n2
 rw [dt_nm h.1,dt_nm h.2]
theorem st_end {x y:D3} {cs:List D3} {g:D3×List (D3×D3)} (h:stP x y cs g) (hlt: ¬nm g.1<nm y):g.2.reverse.map ptD=(spL x y cs).map ptW∧spE x y cs=0:=by
 obtain ⟨⟨h0,h1,h2,h3,h4⟩,h5⟩:=h
 rw [(sp_yes h0).1]
 refine ⟨?_,(sp_yes h0).2⟩
 rw [cut_no hlt,List.append_nil] at h5
 rw [←h5,List.map_map]
 exact List.map_congr_left fun p hp=>ptD_eq (h4 p (List.mem_reverse.1 hp))
theorem ptD_snoc (g:D3×List (D3×D3)) (z:D3):g.2.reverse.map ptD++ [ptD (g.1,z)]=((g.1,z)::g.2).reverse.map ptD:=by
 rw [List.reverse_cons,List.map_append]
 rfl
theorem cmp_nm {x y:D3} (h:ri x) (h':ri y):cmpI x.1 x.2.1 x.2.2 y.1 y.2.1 y.2.2=if nm x<nm y then -1 else if nm y<nm x then 1 else 0:=cmp_num h h'
end Go.Proofs.YtjpilacbapibjaaGreatDoor.Da
