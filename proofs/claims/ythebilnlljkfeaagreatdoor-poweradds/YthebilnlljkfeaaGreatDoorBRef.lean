/- One text out of: Dig, RefA, RefB, RefC, RefD, RefE, RefF, RgRef. -/
import Derived.Test.YthebilnlljkfeaaGreatDoorBNat
import Derived.OwnWalk
import Derived.IntWalk
import Derived.Laws.Bits64b
import Derived.Test.YthebilnlljkfeaaGreatDoorBRg
namespace Go.Proofs.YthebilnlljkfeaaGreatDoor.Dx
def B:Nat:=10000
theorem B_eq:B=10000:=rfl
theorem B_pos:0<B:=by rw [B_eq];omega
theorem B_one:1<B:=by rw [B_eq];omega
def val:List Nat→Nat
 | []=>0
 |x::l=>x+B*val l
theorem val_one (x:Nat):val [x]=x:=by simp [val]
theorem val_append (l r:List Nat):val (l++r)=val l+B^l.length*val r:=by
 induction l with
 |nil=>simp [val]
 |cons x l ih=>
  simp only [List.cons_append,val,ih,List.length_cons,Nat.pow_succ,Nat.mul_add]
  rw [Nat.add_assoc,Nat.mul_comm (B^l.length) B,Nat.mul_assoc]
theorem val_replicate (n:Nat):val (List.replicate n 0)=0:=by
 induction n with
 |zero=>rfl
 |succ n ih=>simp [List.replicate_succ,val,ih]
theorem val_zeros (l:List Nat) (h: ∀x∈l,x=0):val l=0:=by
 induction l with
 |nil=>rfl
 |cons x l ih=>
  simp only [val]
  rw [h x (by simp),ih fun y hy=>h y (by simp [hy])]
  simp
theorem val_lt (l:List Nat) (h: ∀x∈l,x<B):val l<B^l.length:=by
 induction l with
 |nil=>simp [val]
 |cons x l ih=>
  have hx:=h x (by simp)
  have hl:=ih fun y hy=>h y (by simp [hy])
  simp only [val,List.length_cons,Nat.pow_succ]
  have h1:B*(val l+1)≤B*B^l.length:=Nat.mul_le_mul_left B hl
  rw [Nat.mul_add,Nat.mul_one] at h1
  rw [Nat.mul_comm (B^l.length) B]
  omega
def limbsF:Nat→Nat→List Nat
 |0,_=> []
 |f+1,n=>if n=0 then [] else n%B::limbsF f (n/B)
def limbs (n:Nat):List Nat:=limbsF n n
theorem div_lt_self (n:Nat) (h:n≠0):n/B<n:=Nat.div_lt_self (Nat.pos_of_ne_zero h) B_one
theorem limbsF_eq: ∀(f g n:Nat),n≤f→n≤g→limbsF f n=limbsF g n:=by
 intro f
 induction f with
 |zero=>
  intro g n h _
  obtain rfl:n=0:=by omega
  cases g<;>simp [limbsF]
 |succ f ih=>
  intro g n h hg
  cases g with
  |zero=>
   obtain rfl:n=0:=by omega
   simp [limbsF]
  |succ g=>
   simp only [limbsF]
   by_cases h0:n=0
   ·simp [h0]
   ·rw [if_neg h0,if_neg h0]
    have:=div_lt_self n h0
    rw [ih g (n/B) (by omega) (by omega)]
theorem limbs_zero:limbs 0= []:=rfl
theorem limbs_pos (n:Nat) (h:n≠0):limbs n=n%B::limbs (n/B):=by
 unfold limbs
 cases n with
 |zero=>exact absurd rfl h
 |succ k=>
  rw [limbsF,if_neg h]
  have:=div_lt_self (k+1) h
  rw [limbsF_eq k ((k+1)/B) ((k+1)/B) (by omega) (Nat.le_refl _)]
theorem val_limbs (n:Nat):val (limbs n)=n:=by
 induction n using Nat.strongRecOn with
 |_ n ih=>
  by_cases h:n=0
  ·subst h;rfl
  ·rw [limbs_pos n h,val,ih _ (div_lt_self n h)]
   have:=Nat.mod_add_div n B
   omega
theorem limbs_lt (n:Nat): ∀x∈limbs n,x<B:=by
 induction n using Nat.strongRecOn with
 |_ n ih=>
  by_cases h:n=0
  ·subst h;simp [limbs_zero]
  ·rw [limbs_pos n h]
   intro x hx
   rcases List.mem_cons.1 hx with rfl|hx
   ·exact Nat.mod_lt _ B_pos
   ·exact ih _ (div_lt_self n h) x hx
theorem limbs_cons (x n:Nat) (hx:x<B) (h:x+B*n≠0):limbs (x+B*n)=x::limbs n:=by
 rw [limbs_pos _ h]
 have h1:(x+B*n)%B=x:=by rw [Nat.add_mul_mod_self_left,Nat.mod_eq_of_lt hx]
 have h2:(x+B*n)/B=n:=by rw [Nat.add_mul_div_left _ _ B_pos,Nat.div_eq_of_lt hx,Nat.zero_add]
 rw [h1,h2]
theorem limbs_val (l:List Nat) (h: ∀x∈l,x<B) (hl:l= []∨l.getLast?≠some 0):limbs (val l)=l:=by
 induction l with
 |nil=>rfl
 |cons x l ih=>
  have hx:=h x (by simp)
  have hr: ∀y∈l,y<B:=fun y hy=>h y (by simp [hy])
  have hlast:(x::l).getLast?≠some 0:=by
   rcases hl with hl|hl
   ·cases hl
   ·exact hl
  cases l with
  |nil=>
   have hx0:x≠0:=by simpa using hlast
   have:=limbs_cons x 0 hx (by omega)
   simpa [val,limbs_zero] using this
  |cons y r=>
   have hne:(y::r)= []∨(y::r).getLast?≠some 0:=Or.inr (by simpa using hlast)
   have e:=ih hr hne
   have hv:val (y::r)≠0:=by
    intro h0
    rw [h0] at e
    cases e
   rw [val,limbs_cons x _ hx (by have:=Nat.mul_pos B_pos (Nat.pos_of_ne_zero hv);omega),e]
theorem limbs_take (l:List Nat) (k:Nat) (hb: ∀x∈l,x<B) (hk:k≤l.length) (hz: ∀j,k≤j→j<l.length→l.getD j 0=0)
  (hl:k=0∨l.getD (k-1) 0≠0):limbs (val l)=l.take k:=by
 have h1:val l=val (l.take k):=by
  conv=>lhs;rw [←List.take_append_drop k l]
  rw [val_append,val_zeros (l.drop k),Nat.mul_zero,Nat.add_zero]
  intro x hx
  obtain ⟨i,hi,rfl⟩:=List.getElem_of_mem hx
  rw [List.getElem_drop]
  rw [List.length_drop] at hi
  have:=hz (k+i) (by omega) (by omega)
  rwa [List.getD_eq_getElem?_getD,List.getElem?_eq_getElem (by omega),Option.getD_some] at this
 rw [h1]
 refine limbs_val _ (fun x hx=>hb x (List.mem_of_mem_take hx)) ?_
 rcases Nat.eq_zero_or_pos k with h0|h0
 ·left;subst h0;simp
 ·right
  have h2:=hl.resolve_left (by omega)
  rw [List.getLast?_eq_getElem?,List.length_take,Nat.min_eq_left hk,List.getElem?_take,if_pos (by omega)]
  rw [List.getD_eq_getElem?_getD] at h2
  intro h3
  rw [h3] at h2
  exact h2 rfl
def len (n:Nat):Nat:=(limbs n).length
theorem lt_pow_len (n:Nat):n<B^len n:=by
 have:=val_lt (limbs n) (limbs_lt n)
 rwa [val_limbs] at this
theorem len_zero:len 0=0:=rfl
theorem len_pos (n:Nat) (h:n≠0):len n=len (n/B)+1:=by
 unfold len;rw [limbs_pos n h,List.length_cons]
theorem len_le_of_lt (k n:Nat) (h:n<B^k):len n≤k:=by
 induction k generalizing n with
 |zero=>
  obtain rfl:n=0:=by simpa using h
  simp [len_zero]
 |succ k ih=>
  by_cases h0:n=0
  ·subst h0;simp [len_zero]
  ·rw [len_pos n h0]
   have:n/B<B^k:=by
    rw [Nat.div_lt_iff_lt_mul B_pos]
    rwa [Nat.pow_succ] at h
   have:=ih _ this
   omega
theorem pow_le_of_len (n:Nat) (h:n≠0):B^(len n-1)≤n:=by
 rcases Nat.lt_or_ge n (B^(len n-1)) with hlt|hge
 ·have:=len_le_of_lt _ _ hlt
  have:=len_pos n h
  omega
 ·exact hge
theorem len_mono {n m:Nat} (h:n≤m):len n≤len m:=len_le_of_lt _ _ (Nat.lt_of_le_of_lt h (lt_pow_len m))
theorem lt_of_len {n m:Nat} (h:len n<len m):n<m:=by
 rcases Nat.lt_or_ge n m with hlt|hge
 ·exact hlt
 ·have:=len_mono hge
  omega
theorem len_add (n m:Nat):len (n+m)≤max (len n) (len m)+1:=by
 apply len_le_of_lt
 have h1:n<B^max (len n) (len m):=Nat.lt_of_lt_of_le (lt_pow_len n) (Nat.pow_le_pow_right B_pos (Nat.le_max_left _ _))
 have h2:m<B^max (len n) (len m):=Nat.lt_of_lt_of_le (lt_pow_len m) (Nat.pow_le_pow_right B_pos (Nat.le_max_right _ _))
 rw [Nat.pow_succ]
 have h3:B^max (len n) (len m)*2≤B^max (len n) (len m)*B:=Nat.mul_le_mul_left _ B_one
 omega
theorem len_mul (n m:Nat):len (n*m)≤len n+len m:=by
 apply len_le_of_lt
 rw [Nat.pow_add]
 exact Nat.mul_lt_mul'' (lt_pow_len n) (lt_pow_len m)
theorem len_val (l:List Nat) (h: ∀x∈l,x<B):len (val l)≤l.length:=len_le_of_lt _ _ (val_lt l h)
theorem len_sub (n m:Nat):len (n-m)≤len n:=len_mono (Nat.sub_le _ _)
theorem limbs_inj {n m:Nat} (h:limbs n=limbs m):n=m:=by rw [←val_limbs n,←val_limbs m,h]
theorem eq_zero_of_len {n:Nat} (h:len n=0):n=0:=by
 have:=lt_pow_len n
 rw [h] at this
 simpa using this
theorem limbs_ne {n:Nat} (h:0<len n):limbs n≠ []:=by
 intro e
 have:len n=0:=by unfold len;rw [e];rfl
 omega
theorem limbs_val_take (l:List Nat) (hb: ∀x∈l,x<B):limbs (val l)=l.take (len (val l)):=by
 obtain ⟨k,hk,hz,hl⟩: ∃k,k≤l.length∧(∀j,k≤j→j<l.length→l.getD j 0=0)∧(k=0∨l.getD (k-1) 0≠0):=by
  have key: ∀m,m≤l.length→(∀j,m≤j→j<l.length→l.getD j 0=0)→ ∃k,k≤l.length∧(∀j,k≤j→j<l.length→l.getD j 0=0)∧(k=0∨l.getD (k-1) 0≠0):=by
   intro m
   induction m with
   |zero=>intro h1 h2;exact ⟨0,h1,h2, .inl rfl⟩
   |succ m ih=>
    intro h1 h2
    by_cases h0:l.getD m 0=0
    ·refine ih (by omega) fun j h3 h4=> ?_
     rcases Nat.lt_or_ge m j with h5|h5
     ·exact h2 j (by omega) h4
     ·obtain rfl:j=m:=by omega
      exact h0
    ·exact ⟨m+1,h1,h2, .inr (by simpa using h0)⟩
  exact key l.length (Nat.le_refl _) fun j h1 h2=>by omega
 have e:=limbs_take l k hb hk hz hl
 have e2:len (val l)=k:=by unfold len;rw [e,List.length_take,Nat.min_eq_left hk]
 rw [e2,e]
theorem val_take_lt (l r:List Nat) (k:Nat) (hl:k<l.length) (hr:k<r.length) (hlen:l.length=r.length) (hb: ∀x∈l,x<B)
  (he: ∀j,k<j→l.getD j 0=r.getD j 0) (hlt:l.getD k 0<r.getD k 0):val l<val r:=by
 induction l generalizing r k with
 |nil=>simp at hl
 |cons x l ih=>
  cases r with
  |nil=>simp at hr
  |cons y r=>
   simp only [List.length_cons,Nat.add_right_cancel_iff] at hlen
   have hx:=hb x (by simp)
   have hbl: ∀z∈l,z<B:=fun z hz=>hb z (by simp [hz])
   simp only [val]
   cases k with
   |zero=>
    have e:l=r:=by
     apply List.ext_getElem hlen
     intro i h1 h2
     have:=he (i+1) (by omega)
     simp only [List.getD_cons_succ] at this
     rwa [List.getD_eq_getElem?_getD,List.getD_eq_getElem?_getD,List.getElem?_eq_getElem h1,List.getElem?_eq_getElem h2,Option.getD_some,Option.getD_some] at this
    subst e
    simp only [List.getD_cons_zero] at hlt
    omega
   |succ k=>
    have:=ih r k (by simpa using hl) (by simpa using hr) hlen hbl (fun j hj=>by have:=he (j+1) (by omega);simpa using this) (by simpa using hlt)
    have h2:B*(val l+1)≤B*val r:=Nat.mul_le_mul_left B this
    rw [Nat.mul_add] at h2
    omega
theorem ext_getD (l r:List Nat) (hlen:l.length=r.length) (he: ∀j,j<l.length→l.getD j 0=r.getD j 0):l=r:=by
 apply List.ext_getElem hlen
 intro i h1 h2
 have:=he i h1
 rwa [List.getD_eq_getElem?_getD,List.getD_eq_getElem?_getD,List.getElem?_eq_getElem h1,List.getElem?_eq_getElem h2,Option.getD_some,Option.getD_some] at this
theorem getD_lt (l:List Nat) (h: ∀x∈l,x<B) (j:Nat):l.getD j 0<B:=by
 rw [List.getD_eq_getElem?_getD]
 cases h1:l[j]? with
 |none=>exact B_pos
 |some x=>exact h x (List.mem_of_getElem? h1)
def cmp (n m:Nat):Int:=if n<m then -1 else if n=m then 0 else 1
theorem cmp_lt {n m:Nat} (h:n<m):cmp n m= -1:=if_pos h
theorem cmp_gt {n m:Nat} (h:m<n):cmp n m=1:=by unfold cmp;rw [if_neg (by omega),if_neg (by omega)]
theorem cmp_self (n:Nat):cmp n n=0:=by unfold cmp;rw [if_neg (by omega),if_pos rfl]
theorem cmp_eq {n m:Nat} (h:n=m):cmp n m=0:=by subst h;exact cmp_self n
theorem cmp_bd (n m:Nat): -1≤cmp n m∧cmp n m≤1:=by unfold cmp;split<;>(try split)<;>omega
def addLo (x y c:Nat):Nat:=(x+y+c)%B
def addHi (x y c:Nat):Nat:=(x+y+c)/B
theorem addLo_lt (x y c:Nat):addLo x y c<B:=Nat.mod_lt _ B_pos
theorem addHi_le {x y c:Nat} (hx:x<B) (hy:y<B) (hc:c≤1):addHi x y c≤1:=by
 have:addHi x y c<2:=by
  unfold addHi
  rw [Nat.div_lt_iff_lt_mul B_pos]
  omega
 omega
theorem add_split (x y c:Nat):addLo x y c+B*addHi x y c=x+y+c:=Nat.mod_add_div _ _
def addTo (l r:List Nat):Nat→List Nat×Nat
 |0=>([],0)
 |i+1=>((addTo l r i).1++ [addLo (l.getD i 0) (r.getD i 0) (addTo l r i).2],addHi (l.getD i 0) (r.getD i 0) (addTo l r i).2)
theorem addTo_length (l r:List Nat) (i:Nat):(addTo l r i).1.length=i:=by
 induction i with
 |zero=>rfl
 |succ i ih=>simp [addTo,ih]
theorem addTo_lt (l r:List Nat) (i:Nat): ∀x∈(addTo l r i).1,x<B:=by
 induction i with
 |zero=>simp [addTo]
 |succ i ih=>
  intro x hx
  simp only [addTo,List.mem_append,List.mem_singleton] at hx
  rcases hx with hx|rfl
  ·exact ih x hx
  ·exact addLo_lt _ _ _
theorem addTo_carry {l r:List Nat} (hl: ∀x∈l,x<B) (hr: ∀x∈r,x<B) (i:Nat):(addTo l r i).2≤1:=by
 induction i with
 |zero=>simp [addTo]
 |succ i ih=>exact addHi_le (getD_lt l hl i) (getD_lt r hr i) ih
theorem val_take_succ (l:List Nat) (i:Nat):val (l.take (i+1))=val (l.take i)+B^i*l.getD i 0:=by
 rcases Nat.lt_or_ge i l.length with h|h
 ·rw [List.take_succ_eq_append_getElem h,val_append,List.length_take,Nat.min_eq_left (by omega)]
  rw [List.getD_eq_getElem?_getD,List.getElem?_eq_getElem h]
  simp [val]
 ·rw [List.take_of_length_le (by omega),List.take_of_length_le h,List.getD_eq_getElem?_getD,List.getElem?_eq_none h]
  simp
theorem addTo_val (l r:List Nat) (i:Nat):val (addTo l r i).1+B^i*(addTo l r i).2=val (l.take i)+val (r.take i):=by
 induction i with
 |zero=>simp [addTo,val]
 |succ i ih=>
  rw [val_take_succ,val_take_succ]
  simp only [addTo]
  rw [val_append,addTo_length]
  have h:=add_split (l.getD i 0) (r.getD i 0) (addTo l r i).2
  generalize addLo (l.getD i 0) (r.getD i 0) (addTo l r i).2=lo at*
  generalize addHi (l.getD i 0) (r.getD i 0) (addTo l r i).2=hi at*
  simp only [val,Nat.mul_zero,Nat.add_zero,Nat.pow_succ]
  have h2:B^i*(lo+B*hi)=B^i*(l.getD i 0+r.getD i 0+(addTo l r i).2):=by rw [h]
  rw [Nat.mul_add,Nat.mul_add,Nat.mul_add] at h2
  rw [Nat.mul_assoc (B^i) B hi]
  omega
theorem addTo_all (l r:List Nat) (h:r.length≤l.length):val ((addTo l r l.length).1++ [(addTo l r l.length).2])=val l+val r:=by
 rw [val_append,addTo_length]
 have:=addTo_val l r l.length
 rw [List.take_length,List.take_of_length_le h] at this
 simpa [val] using this
def subLo (x y b:Nat):Nat:=(x+B-y-b)%B
def subHi (x y b:Nat):Nat:=if x<y+b then 1 else 0
theorem subLo_lt (x y b:Nat):subLo x y b<B:=Nat.mod_lt _ B_pos
theorem subHi_le (x y b:Nat):subHi x y b≤1:=by unfold subHi;split<;>omega
theorem sub_split {x y b:Nat} (hx:x<B) (hy:y<B) (hb:b≤1):subLo x y b+y+b=x+B*subHi x y b:=by
 unfold subLo subHi
 rw [B_eq] at*
 split<;>omega
def subTo (l r:List Nat):Nat→List Nat×Nat
 |0=>([],0)
 |i+1=>((subTo l r i).1++ [subLo (l.getD i 0) (r.getD i 0) (subTo l r i).2],subHi (l.getD i 0) (r.getD i 0) (subTo l r i).2)
theorem subTo_length (l r:List Nat) (i:Nat):(subTo l r i).1.length=i:=by
 induction i with
 |zero=>rfl
 |succ i ih=>simp [subTo,ih]
theorem subTo_lt (l r:List Nat) (i:Nat): ∀x∈(subTo l r i).1,x<B:=by
 induction i with
 |zero=>simp [subTo]
 |succ i ih=>
  intro x hx
  simp only [subTo,List.mem_append,List.mem_singleton] at hx
  rcases hx with hx|rfl
  ·exact ih x hx
  ·exact subLo_lt _ _ _
theorem subTo_borrow (l r:List Nat) (i:Nat):(subTo l r i).2≤1:=by
 cases i with
 |zero=>simp [subTo]
 |succ i=>exact subHi_le _ _ _
theorem sub_step {P lo y b x hi s rt lt:Nat} (h:lo+y+b=x+B*hi) (ih:s+rt=lt+P*b):s+P*lo+(rt+P*y)=lt+P*x+P*B*hi:=by
 have h2:P*(lo+y+b)=P*(x+B*hi):=by rw [h]
 rw [Nat.mul_add,Nat.mul_add,Nat.mul_add,←Nat.mul_assoc] at h2
 omega
theorem subTo_val {l r:List Nat} (hl: ∀x∈l,x<B) (hr: ∀x∈r,x<B) (i:Nat):val (subTo l r i).1+val (r.take i)=val (l.take i)+B^i*(subTo l r i).2:=by
 induction i with
 |zero=>simp [subTo,val]
 |succ i ih=>
  rw [val_take_succ,val_take_succ]
  have h:=sub_split (getD_lt l hl i) (getD_lt r hr i) (subTo_borrow l r i)
  have e1:(subTo l r (i+1)).1=(subTo l r i).1++ [subLo (l.getD i 0) (r.getD i 0) (subTo l r i).2]:=rfl
  have e2:(subTo l r (i+1)).2=subHi (l.getD i 0) (r.getD i 0) (subTo l r i).2:=rfl
  have e3:val [subLo (l.getD i 0) (r.getD i 0) (subTo l r i).2]=subLo (l.getD i 0) (r.getD i 0) (subTo l r i).2:=val_one _
  rw [e1,e2,val_append,subTo_length,e3,Nat.pow_succ]
  exact sub_step h ih
theorem subTo_all (l r:List Nat) (hl: ∀x∈l,x<B) (hr: ∀x∈r,x<B) (h:r.length≤l.length) (hle:val r≤val l):val (subTo l r l.length).1=val l-val r:=by
 have h1:=subTo_val hl hr l.length
 rw [List.take_length,List.take_of_length_le h] at h1
 have h2:=val_lt (subTo l r l.length).1 (subTo_lt l r _)
 rw [subTo_length] at h2
 have h3:=subTo_borrow l r l.length
 have h4:(subTo l r l.length).2=0:=by
  rcases Nat.eq_zero_or_pos (subTo l r l.length).2 with h0|h0
  ·exact h0
  ·have e:(subTo l r l.length).2=1:=by omega
   rw [e,Nat.mul_one] at h1
   omega
 rw [h4,Nat.mul_zero] at h1
 omega
def mulLo (x y:Nat):Nat:=x*y%B
def mulHi (x y:Nat):Nat:=x*y/B
def macLo (x y s c:Nat):Nat:=(x*y+s+c)%B
def macHi (x y s c:Nat):Nat:=(x*y+s+c)/B
theorem macLo_lt (x y s c:Nat):macLo x y s c<B:=Nat.mod_lt _ B_pos
theorem mac_split (x y s c:Nat):macLo x y s c+B*macHi x y s c=x*y+s+c:=Nat.mod_add_div _ _
theorem mac_bound {x y s c:Nat} (hx:x<B) (hy:y<B) (hs:s<B) (hc:c<B):x*y+s+c<B*B:=by
 have h:x*y≤(B-1)*(B-1):=Nat.mul_le_mul (by omega) (by omega)
 have h2:(B-1)*(B-1)+2*(B-1)+1=B*B:=by rw [B_eq]
 omega
theorem macHi_lt {x y s c:Nat} (hx:x<B) (hy:y<B) (hs:s<B) (hc:c<B):macHi x y s c<B:=by
 unfold macHi
 rw [Nat.div_lt_iff_lt_mul B_pos]
 exact mac_bound hx hy hs hc
theorem div_mod_unique {q r a:Nat} (h:r+B*q=a) (hr:r<B):r=a%B∧q=a/B:=by
 subst h
 exact ⟨by rw [Nat.add_mul_mod_self_left,Nat.mod_eq_of_lt hr],by rw [Nat.add_mul_div_left _ _ B_pos,Nat.div_eq_of_lt hr,Nat.zero_add]⟩
theorem mac_parts {x y s c l0 h0 a1 o1 a2 o2:Nat} (h1:l0+B*h0=x*y) (h2:a1+B*o1=l0+s) (h3:a2+B*o2=a1+c) (ha:a2<B):
  a2=macLo x y s c∧h0+o1+o2=macHi x y s c:=by
 apply div_mod_unique _ ha
 rw [Nat.mul_add,Nat.mul_add]
 omega
def mulTo (s l:List Nat) (x:Nat):Nat→List Nat×Nat
 |0=>([],0)
 |i+1=>((mulTo s l x i).1++ [macLo x (l.getD i 0) (s.getD i 0) (mulTo s l x i).2],macHi x (l.getD i 0) (s.getD i 0) (mulTo s l x i).2)
theorem mulTo_length (s l:List Nat) (x i:Nat):(mulTo s l x i).1.length=i:=by
 induction i with
 |zero=>rfl
 |succ i ih=>simp [mulTo,ih]
theorem mulTo_lt (s l:List Nat) (x i:Nat): ∀y∈(mulTo s l x i).1,y<B:=by
 induction i with
 |zero=>simp [mulTo]
 |succ i ih=>
  intro y hy
  simp only [mulTo,List.mem_append,List.mem_singleton] at hy
  rcases hy with hy|rfl
  ·exact ih y hy
  ·exact macLo_lt _ _ _ _
theorem mulTo_carry {s l:List Nat} {x:Nat} (hs: ∀y∈s,y<B) (hl: ∀y∈l,y<B) (hx:x<B) (i:Nat):(mulTo s l x i).2<B:=by
 induction i with
 |zero=>exact B_pos
 |succ i ih=>exact macHi_lt hx (getD_lt l hl i) (getD_lt s hs i) ih
theorem mul_step {P lo hi x y s c m st lt:Nat} (h:lo+B*hi=x*y+s+c) (ih:m+P*c=st+x*lt):m+P*lo+P*B*hi=st+P*s+x*(lt+P*y):=by
 have h2:P*(lo+B*hi)=P*(x*y+s+c):=by rw [h]
 rw [Nat.mul_add,Nat.mul_add,Nat.mul_add,←Nat.mul_assoc] at h2
 rw [Nat.mul_add x,Nat.mul_left_comm x P y]
 omega
theorem mulTo_val (s l:List Nat) (x i:Nat):val (mulTo s l x i).1+B^i*(mulTo s l x i).2=val (s.take i)+x*val (l.take i):=by
 induction i with
 |zero=>simp [mulTo,val]
 |succ i ih=>
  rw [val_take_succ,val_take_succ]
  have h:=mac_split x (l.getD i 0) (s.getD i 0) (mulTo s l x i).2
  have e1:(mulTo s l x (i+1)).1=(mulTo s l x i).1++ [macLo x (l.getD i 0) (s.getD i 0) (mulTo s l x i).2]:=rfl
  have e2:(mulTo s l x (i+1)).2=macHi x (l.getD i 0) (s.getD i 0) (mulTo s l x i).2:=rfl
  have e3:val [macLo x (l.getD i 0) (s.getD i 0) (mulTo s l x i).2]=macLo x (l.getD i 0) (s.getD i 0) (mulTo s l x i).2:=val_one _
  rw [e1,e2,val_append,mulTo_length,e3,Nat.pow_succ]
  exact mul_step h ih
theorem mulTo_congr {s t l:List Nat} {x:Nat} (i:Nat) (h: ∀j,j<i→s.getD j 0=t.getD j 0):mulTo s l x i=mulTo t l x i:=by
 induction i with
 |zero=>rfl
 |succ i ih=>
  have e:=ih fun j hj=>h j (by omega)
  have e2:=h i (by omega)
  show (_,_)=(_,_)
  rw [e,e2]
theorem mulTo_drop (Q Z l:List Nat) (x i:Nat) (h:i+l.length≤Q.length):mulTo ((Q++Z).drop i) l x l.length=mulTo (Q.drop i) l x l.length:=by
 apply mulTo_congr
 intro j hj
 rw [List.getD_eq_getElem?_getD,List.getD_eq_getElem?_getD,List.getElem?_drop,List.getElem?_drop,List.getElem?_append_left (by omega)]
def patch (L:List Nat) (o:Nat) (r:List Nat):List Nat:=L.take o++r++L.drop (o+r.length)
theorem patch_nil (L:List Nat) (o:Nat):patch L o []=L:=by simp [patch]
theorem patch_length {L r:List Nat} {o:Nat} (h:o+r.length≤L.length):(patch L o r).length=L.length:=by
 simp [patch];omega
theorem patch_getD {L r:List Nat} {o:Nat} (h:o+r.length<L.length):(patch L o r).getD (o+r.length) 0=L.getD (o+r.length) 0:=by
 unfold patch
 have h1:(L.take o).length=o:=by rw [List.length_take];omega
 rw [List.getD_eq_getElem?_getD,List.getD_eq_getElem?_getD,List.getElem?_append_right (by rw [List.length_append,h1];omega),List.length_append,h1,Nat.sub_self,List.getElem?_drop,Nat.add_zero]
theorem patch_set {L r:List Nat} {o x:Nat} (h:o+r.length<L.length):(patch L o r).set (o+r.length) x=patch L o (r++ [x]):=by
 unfold patch
 have h1:(L.take o).length=o:=by rw [List.length_take];omega
 rw [List.set_append_right _ _ (by rw [List.length_append,h1];omega),List.length_append,h1,Nat.sub_self]
 rw [List.drop_eq_getElem_cons h,List.set_cons_zero]
 simp [Nat.add_assoc]
def mulList (nl ml:List Nat):Nat→List Nat
 |0=>List.replicate ml.length 0
 |i+1=>(mulList nl ml i).take i++(mulTo ((mulList nl ml i).drop i) ml (nl.getD i 0) ml.length).1++ [(mulTo ((mulList nl ml i).drop i) ml (nl.getD i 0) ml.length).2]
theorem mulList_length (nl ml:List Nat) (i:Nat):(mulList nl ml i).length=i+ml.length:=by
 induction i with
 |zero=>simp [mulList]
 |succ i ih=>
  simp only [mulList,List.length_append,List.length_take,ih,mulTo_length,List.length_singleton]
  omega
theorem mulList_lt {nl ml:List Nat} (hn: ∀y∈nl,y<B) (hm: ∀y∈ml,y<B) (i:Nat): ∀y∈mulList nl ml i,y<B:=by
 induction i with
 |zero=>
  intro y hy
  simp only [mulList,List.mem_replicate] at hy
  rw [hy.2];exact B_pos
 |succ i ih=>
  intro y hy
  simp only [mulList,List.mem_append,List.mem_singleton] at hy
  rcases hy with (hy|hy)|rfl
  ·exact ih y (List.mem_of_mem_take hy)
  ·exact mulTo_lt _ _ _ _ y hy
  ·exact mulTo_carry (fun z hz=>ih z (List.mem_of_mem_drop hz)) hm (getD_lt nl hn i) _
theorem mulList_val (nl ml:List Nat) (i:Nat):val (mulList nl ml i)=val (nl.take i)*val ml:=by
 induction i with
 |zero=>simp [mulList,val_replicate,val]
 |succ i ih=>
  have hq:=mulList_length nl ml i
  have h1:((mulList nl ml i).take i).length=i:=by rw [List.length_take];omega
  have h2:=mulTo_val ((mulList nl ml i).drop i) ml (nl.getD i 0) ml.length
  rw [List.take_of_length_le (by rw [List.length_drop];omega),List.take_length] at h2
  have h3:val (mulList nl ml i)=val ((mulList nl ml i).take i)+B^i*val ((mulList nl ml i).drop i):=by
   conv=>lhs;rw [←List.take_append_drop i (mulList nl ml i)]
   rw [val_append,h1]
  rw [val_take_succ]
  have e:mulList nl ml (i+1)=(mulList nl ml i).take i++(mulTo ((mulList nl ml i).drop i) ml (nl.getD i 0) ml.length).1++ [(mulTo ((mulList nl ml i).drop i) ml (nl.getD i 0) ml.length).2]:=rfl
  rw [e,List.append_assoc,val_append,h1,val_append,mulTo_length,val_one,h2,Nat.mul_add,←Nat.add_assoc,←h3,ih,Nat.add_mul,Nat.mul_assoc (B^i)]
theorem mulList_all (n m:Nat):val (mulList (limbs n) (limbs m) (len n))=n*m:=by
 have:=mulList_val (limbs n) (limbs m) (len n)
 rw [show (limbs n).take (len n)=limbs n from List.take_length,val_limbs,val_limbs] at this
 exact this
end Go.Proofs.YthebilnlljkfeaaGreatDoor.Dx
namespace Go.Proofs.YthebilnlljkfeaaGreatDoor
open Go.RowKit
def IntB (w:World) (b:Nat):Prop:= ∃cs fr,w.heap[b]? =some (.cells cs 3 fr)
theorem IntB.lt {w:World} {b:Nat} (h:IntB w b):b<w.heap.size:=by
 obtain ⟨_,_,h⟩:=h
 exact (Array.getElem?_eq_some_iff.1 h).1
theorem IntB.grow {w w':World} {b:Nat} (h:IntB w b) (g:Grow w w'):IntB w' b:=by
 have hb:=h.lt
 obtain ⟨cs,fr,h⟩:=h
 exact ⟨cs,fr,(Below.block g b hb).trans h⟩
def CellsD (w:World) (A:Option Addr) (l:List Nat):Prop:=
 l≠ []→ ∃b o,A=some ⟨b,o,none⟩∧IntB w b∧ ∀j x:Nat,l[j]? =some x→w.cell? ⟨b,o+j,none⟩=some (.int .i64 (x:Int))
theorem CellsD.grow {w w':World} {A:Option Addr} {l:List Nat} (h:CellsD w A l) (g:Grow w w'):CellsD w' A l:=fun hn=>by
 obtain ⟨b,o,e,hb,hc⟩:=h hn
 exact ⟨b,o,e,hb.grow g,fun j x hx=>(g.cell (p:=⟨b,o+j,none⟩) hb.lt).trans (hc j x hx)⟩
theorem CellsD.nil (w:World) (A:Option Addr):CellsD w A []:=fun h=>absurd rfl h
theorem CellsD.take {w:World} {A:Option Addr} {l:List Nat} (h:CellsD w A l) (k:Nat):CellsD w A (l.take k):=fun hn=>by
 have hl:l≠ []:=fun e=>hn (by simp [e])
 obtain ⟨b,o,e,hb,hc⟩:=h hl
 refine ⟨b,o,e,hb,fun j x hx=>hc j x ?_⟩
 rw [List.getElem?_take] at hx
 split at hx
 ·exact hx
 ·cases hx
theorem CellsD.at {w:World} {A:Option Addr} {l:List Nat} (h:CellsD w A l) (hn:l≠ []): ∃b o,A=some ⟨b,o,none⟩∧b<w.heap.size∧ ∀j,j<l.length→w.cell? ⟨b,o+j,none⟩=some (.int .i64 (l.getD j 0:Nat)):=by
 obtain ⟨b,o,e,hb,hc⟩:=h hn
 exact ⟨b,o,e,hb.lt,fun j hj=>by rw [List.getD_eq_getElem?_getD,List.getElem?_eq_getElem hj,Option.getD_some];exact hc j _ (List.getElem?_eq_getElem hj)⟩
def DS (w:World) (v:Value) (l:List Nat):Prop:= ∃A c,v= .slice A l.length c∧l.length≤c∧(∀x∈l,x<Dx.B)∧CellsD w A l
def IsD (w:World) (v:Value) (n k:Nat):Prop:= ∃A c,v= .slice A (Dx.len n) c∧Dx.len n≤c∧CellsD w A (Dx.limbs n)∧Dx.len n≤k
theorem DS.grow {w w':World} {v:Value} {l:List Nat} (h:DS w v l) (g:Grow w w'):DS w' v l:=by
 obtain ⟨A,c,e,hc,hb,hl⟩:=h
 exact ⟨A,c,e,hc,hb,hl.grow g⟩
theorem IsD.grow {w w':World} {v:Value} {n k:Nat} (h:IsD w v n k) (g:Grow w w'):IsD w' v n k:=by
 obtain ⟨A,c,e,hc,hl,hk⟩:=h
 exact ⟨A,c,e,hc,hl.grow g,hk⟩
theorem IsD.more {w:World} {v:Value} {n k k':Nat} (h:IsD w v n k) (hk:k≤k'):IsD w v n k':=by
 obtain ⟨A,c,e,hc,hl,h2⟩:=h
 exact ⟨A,c,e,hc,hl,Nat.le_trans h2 hk⟩
theorem IsD.zero (w:World):IsD w (.slice none 0 0) 0 0:=⟨none,0,rfl,Nat.le_refl _,CellsD.nil _ _,Nat.le_refl _⟩
set_option maxHeartbeats 400000 in
theorem refAt_any (w:World) (A:Option Addr) (l:List Nat) (c i:Nat) (hl:CellsD w A l):
  Calls Tryz.prog 96 #[.slice A l.length c, .int .i64 (i:Int)] w fun e w'=>e= .returned (.int .i64 ((l.getD i 0:Nat):Int))∧w=w':=by
 by_cases h:i<l.length
 ·have hn:l≠ []:=by intro e;subst e;simp at h
  obtain ⟨b,o,rfl,hbl,hc⟩:=hl.at hn
  have hci:=hc i h
  clear hc
  generalize l.getD i 0=x at*
  go_enter Tryz.func96,Tryz.ntmps96
  go_wp2
  go_ret
  exact ⟨rfl,rfl⟩
 ·have e:l.getD i 0=0:=by rw [List.getD_eq_getElem?_getD,List.getElem?_eq_none (by omega)];rfl
  rw [e]
  clear e
  go_enter Tryz.func96,Tryz.ntmps96
  go_wp2
  go_ret
  exact ⟨rfl,rfl⟩
theorem dlen_of_noughts {l:List Nat} {k:Nat} (hb: ∀x∈l,x<Dx.B) (hk:k≤l.length) (hz:NoughtsFrom l k) (hl:k=0∨l.getD (k-1) 0≠0):Dx.len (Dx.val l)=k:=by
 unfold Dx.len
 rw [Dx.limbs_take l k hb hk hz hl,List.length_take,Nat.min_eq_left hk]
set_option maxHeartbeats 400000 in
theorem refTrim_any (w:World) (v:Value) (l:List Nat) (hm:l.length≤1152921504606846975) (h:DS w v l):
  Calls Tryz.prog 97 #[v] w fun e w'=> ∃v',e= .returned v'∧IsD w v' (Dx.val l) l.length∧w=w':=by
 obtain ⟨A,c,rfl,hc,hb,hl⟩:=h
 have HB:=Lib.hid hb
 clear hb
 go_enter Tryz.func97,Tryz.ntmps97
 go_wp2
 go_loop [3] (fun n=> ∃k:Nat,k≤l.length∧n= .int .i64 k∧NoughtsFrom l k) (fun n=>(intOf n).toNat)
 case atStart=>exact ⟨l.length,Nat.le_refl _,rfl,fun j h1 h2=>by omega⟩
 case round=>
  obtain ⟨k,hk,rfl,hz⟩:=hrel
  by_cases hpos:0<k
  ·have hn:l≠ []:=by intro e;subst e;simp at hk;omega
   obtain ⟨b,o,rfl,hbl,hcell⟩:=hl.at hn
   have hck:=hcell (k-1) (by omega)
   clear hcell
   generalize hx:l.getD (k-1) 0=x at hck
   have HX:=Lib.hid hx
   clear hx
   have hk1:(0:Int)<(k:Int):=by omega
   have hk2:((k:Int) -1).toNat=k-1:=by omega
   by_cases h0:x=0
   ·subst h0
    go_wp2
    go_round
    case rel=>exact ⟨k-1,by omega,by go_num,fun j h1 h2=>by
     rcases Nat.lt_or_ge j k with h3|h3
     ·obtain rfl:j=k-1:=by omega
      exact HX.out
     ·exact hz j h3 h2⟩
    case measure=>simp [intOf];omega
   ·have h0':((x:Int)==0)=false:=by simp;omega
    go_wp2
    go_ret
    refine ⟨_,rfl, ?_,rfl⟩
    have e:=dlen_of_noughts HB.out hk hz (.inr (by rw [HX.out];exact h0))
    refine ⟨_,c,by rw [e];rfl,by omega, ?_,by omega⟩
    rw [Dx.limbs_val_take l HB.out]
    exact hl.take _
  ·obtain rfl:k=0:=by omega
   go_wp2
   go_ret
   refine ⟨_,rfl, ?_,rfl⟩
   have e:=dlen_of_noughts HB.out hk hz (.inl rfl)
   refine ⟨A,c,by rw [e];rfl,by omega, ?_,by omega⟩
   rw [Dx.limbs_val_take l HB.out]
   exact hl.take _
theorem dcmp_of_same {n m k:Nat} (hlen:Dx.len n=Dx.len m) (hk:k=0) (h:SameFrom (Dx.limbs n) (Dx.limbs m) k):n=m:=
 Dx.limbs_inj (Dx.ext_getD _ _ hlen fun j _=>h j (by omega))
theorem dlt_of_limb {n m k:Nat} (hlen:Dx.len n=Dx.len m) (hk:k<Dx.len n) (h:SameFrom (Dx.limbs n) (Dx.limbs m) (k+1)) (hlt:(Dx.limbs n).getD k 0<(Dx.limbs m).getD k 0):n<m:=by
 have:=Dx.val_take_lt (Dx.limbs n) (Dx.limbs m) k hk (by unfold Dx.len at hlen hk;omega) hlen (Dx.limbs_lt n) (fun j hj=>h j hj) hlt
 rwa [Dx.val_limbs,Dx.val_limbs] at this
set_option maxHeartbeats 1000000 in
theorem refCmp_any (w:World) (va vb:Value) (n m k j:Nat) (hk:k≤4294967296) (ha:IsD w va n k) (hb:IsD w vb m j):
  Calls Tryz.prog 101 #[va,vb] w (Ret w fun v' _=>v'= .int .i64 (Mx.cmp n m)):=by
 obtain ⟨A,c,rfl,hc,hl,hkn⟩:=ha
 obtain ⟨D,d,rfl,hd,hr,_⟩:=hb
 rcases Nat.lt_trichotomy (Dx.len n) (Dx.len m) with hlen|hlen|hlen
 ·rw [Mx.cmp_lt (Dx.lt_of_len hlen)]
  have hne:(((Dx.len n:Nat):Int) !=((Dx.len m:Nat):Int))=true:=by simp;omega
  go_enter Tryz.func101,Tryz.ntmps101
  go_wp2
  go_ret
  exact Ret.mk rfl (Grow.refl _)
 ·have HL:=Lib.hid hlen
  have hne:(((Dx.len n:Nat):Int) !=((Dx.len m:Nat):Int))=false:=by simp;omega
  have hm2:Dx.len m≤4294967296:=by omega
  clear hlen
  go_enter Tryz.func101,Tryz.ntmps101
  go_wp2
  go_loopw [5] (fun i wr=> ∃k:Nat,k≤Dx.len n∧i= .int .i64 ((k:Int) -1)∧SameFrom (Dx.limbs n) (Dx.limbs m) k∧Grow w wr) (fun i _=>(intOf i+1).toNat)
  case atStart=>exact ⟨Dx.len n,Nat.le_refl _,rfl,fun j hj=>by
   have h1:(Dx.limbs n)[j]? =none:=List.getElem?_eq_none hj
   have h2:(Dx.limbs m)[j]? =none:=List.getElem?_eq_none (by have:=HL.out;unfold Dx.len at this hj;omega)
   rw [List.getD_eq_getElem?_getD,List.getD_eq_getElem?_getD,h1,h2],Grow.refl _⟩
  case round=>
   obtain ⟨k,hk,rfl,hs,hg⟩:=hrel
   rcases Nat.eq_zero_or_pos k with h0|h0
   ·subst h0
    go_wp2
    go_ret
    exact Ret.mk (by rw [Mx.cmp_eq (dcmp_of_same HL.out rfl hs)];rfl) hg
   ·obtain ⟨k,rfl⟩: ∃k',k=k'+1:=⟨k-1,by omega⟩
    rw [show (((k+1:Nat):Int) -1)=(k:Int) by omega]
    have hk1:(k:Int)<(Dx.len n:Int):=by omega
    have hk2:(k:Int)<(Dx.len m:Int):=by have:=HL.out;omega
    obtain ⟨b1,o1,rfl,hb1,hd1⟩:=(hl.grow hg).at (Dx.limbs_ne (by omega))
    obtain ⟨b2,o2,rfl,hb2,hd2⟩:=(hr.grow hg).at (Dx.limbs_ne (by omega))
    have hx:=hd1 k (show k<Dx.len n by omega)
    have hy:=hd2 k (show k<Dx.len m by omega)
    clear hd1 hd2
    generalize hex:(Dx.limbs n).getD k 0=x at hx
    generalize hey:(Dx.limbs m).getD k 0=y at hy
    have HX:=Lib.hid hex
    have HY:=Lib.hid hey
    clear hex hey
    rcases Nat.lt_trichotomy x y with hxy|hxy|hxy
    ·have hd1:decide (x<y)=true:=by simpa using hxy
     have hres:=dlt_of_limb HL.out (by omega) hs (by rw [HX.out,HY.out];exact hxy)
     have HR:=Lib.hid hres
     clear hres
     go_wp2
     go_quiet (fail)
     go_wp2
     go_ret
     exact Ret.mk (by rw [Mx.cmp_lt HR.out];rfl) (hg.drewN _)
    ·subst hxy
     have hd1:decide (x<x)=false:=by simp
     go_wp2
     go_quiet (fail)
     go_wp2
     go_quiet (fail)
     go_wp2
     go_roundw
     case rel=>exact ⟨k,by omega,rfl,fun j hj=>by
      rcases Nat.lt_or_ge k j with h3|h3
      ·exact hs j h3
      ·obtain rfl:j=k:=by omega
       rw [HX.out,HY.out],hg.drewN _⟩
     case measure=>simp [intOf]
    ·have hd1:decide (x<y)=false:=by simp;omega
     have hd2:decide (y<x)=true:=by simpa using hxy
     have hres:=dlt_of_limb HL.out.symm (by have:=HL.out;omega) (fun j hj=>(hs j hj).symm) (by rw [HX.out,HY.out];exact hxy)
     have HR:=Lib.hid hres
     clear hres
     go_wp2
     go_quiet (fail)
     go_wp2
     go_quiet (fail)
     go_wp2
     go_ret
     exact Ret.mk (by rw [Mx.cmp_gt HR.out];rfl) ((hg.drewN _).drewN _)
 ·rw [Mx.cmp_gt (Dx.lt_of_len hlen)]
  have hne:(((Dx.len n:Nat):Int) !=((Dx.len m:Nat):Int))=true:=by simp;omega
  have h': ¬(Dx.len n<Dx.len m):=by omega
  go_enter Tryz.func101,Tryz.ntmps101
  go_wp2
  go_ret
  exact Ret.mk rfl (Grow.refl _)
end Go.Proofs.YthebilnlljkfeaaGreatDoor
namespace Go.Proofs.YthebilnlljkfeaaGreatDoor
open Go.RowKit
def valsD (l:List Nat):List Value:=l.map fun x=>Value.int .i64 ((x:Nat):Int)
theorem valsD_length (l:List Nat):(valsD l).length=l.length:=by simp [valsD]
theorem valsD_get (l:List Nat) (j:Nat):(valsD l)[j]? =(l[j]?).map fun x=>Value.int .i64 ((x:Nat):Int):=by simp [valsD]
theorem valsD_snoc (l:List Nat) (x:Nat):valsD l++ [.int .i64 (x:Int)]=valsD (l++ [x]):=by simp [valsD]
theorem info3:(Tryz.prog.info? 3).map (fun i=>(i.zero,i.size,i.bytes))=some (some (.int .i64 0),1,8):=by kernel_rfl
theorem ds_of_own {w:World} {base n:Nat} {v:Value} {l:List Nat} (h:w.ownsRow base 3 1 v n (valsD l)) (hb: ∀x∈l,x<Dx.B):DS w v l:=by
 obtain ⟨h1,h2⟩:=h
 rw [valsD_length,Nat.mul_one] at h1
 subst h1
 rcases h2 with ⟨rfl,h0⟩|⟨g,cap,cur,rfl,_,hh,hc,_,hs,ht⟩
 ·have:l= []:=List.eq_nil_of_length_eq_zero h0
  subst this
  exact ⟨none,0,rfl,Nat.le_refl _,by simp,CellsD.nil _ _⟩
 ·refine ⟨_,cap,rfl,hc,hb,fun _=>⟨g,0,rfl,⟨_,_,hh⟩,fun j x hx=> ?_⟩⟩
  rw [cell_of_row w g (0+j) _ _ _ hh,Nat.zero_add]
  have hj:(valsD l)[j]? =some (.int .i64 (x:Int)):=by rw [valsD_get,hx];rfl
  rw [←ht,Nat.mul_one,List.getElem?_take] at hj
  split at hj
  ·rw [←hj];simp
  ·cases hj
theorem addTo_end {a b:List Nat} {i:Nat} (ha: ∀x∈a,x<Dx.B) (hb: ∀x∈b,x<Dx.B) (h1:a.length<i) (h2:b.length<i):(Dx.addTo a b i).2=0:=by
 obtain ⟨j,rfl⟩: ∃j,i=j+1:=⟨i-1,by omega⟩
 have e1:a.getD j 0=0:=by rw [List.getD_eq_getElem?_getD,List.getElem?_eq_none (by omega)];rfl
 have e2:b.getD j 0=0:=by rw [List.getD_eq_getElem?_getD,List.getElem?_eq_none (by omega)];rfl
 have hc:=Dx.addTo_carry ha hb j
 show Dx.addHi (a.getD j 0) (b.getD j 0) (Dx.addTo a b j).2=0
 rw [e1,e2]
 unfold Dx.addHi
 rw [Dx.B_eq]
 omega
theorem cells_one (w:World) (v:Value) (t:TypeId): ∀(j:Nat) (u:Value),[v][j]? =some u→(w.alloc (Obj.cells #[v] t)).cell? ((⟨w.heap.size,0,none⟩:Addr).add j)=some u:=by
 intro j u hj
 match j,hj with
 |0,hj=>simp at hj;subst hj;simp [Addr.add,go_sem]
theorem own_ge {w:World} {base e size n:Nat} {v:Value} {xs:List Value} (h:w.ownsRow base e size v n xs) {k:Nat} (hk:v.ownBlock=some k):base≤k:=by
 rcases h.2 with ⟨rfl,_⟩|⟨g,cap,cur,rfl,hg,_⟩
 ·cases hk
 ·simp [Value.ownBlock] at hk
  omega
set_option maxRecDepth 20000 in
set_option maxHeartbeats 2000000 in
theorem refAdd_any (w:World) (va vb:Value) (n m k j:Nat) (hk:k≤4294967296) (hj:j≤4294967296) (ha:IsD w va n k) (hb:IsD w vb m j):
  Calls Tryz.prog 100 #[va,vb] w (Ret w fun v' w'=>IsD w' v' (n+m) (max k j+1)):=by
 obtain ⟨A,c,rfl,hc,hl,hkn⟩:=ha
 obtain ⟨D,d,rfl,hd,hr,hjm⟩:=hb
 obtain ⟨i0,hi,hz0,hz1,hz2⟩:=info_parts info3
 go_enter Tryz.func100,Tryz.ntmps100
 go_wp2
 go_loopw [5,6,7] (fun ov cv iv wr=> ∃i:Nat,i≤max (Dx.len n) (Dx.len m)+1∧iv= .int .i64 i∧cv= .int .i64 ((Dx.addTo (Dx.limbs n) (Dx.limbs m) i).2:Nat)∧Grow w wr∧wr.ownsRow w.heap.size 3 1 ov i (valsD (Dx.addTo (Dx.limbs n) (Dx.limbs m) i).1)) (fun _ _ iv _=>max (Dx.len n) (Dx.len m)+1-(intOf iv).toNat)
 case atStart=>exact ⟨0,Nat.zero_le _,rfl,rfl,Grow.refl _,World.ownsRow_nil _ _ _ _⟩
 case round=>
  obtain ⟨i,hib,rfl,rfl,hg,hown⟩:=hrel
  have hlenS:=Dx.addTo_length (Dx.limbs n) (Dx.limbs m) i
  have hcar:=Dx.addTo_carry (Dx.limbs_lt n) (Dx.limbs_lt m) i
  by_cases hend:Dx.len n≤i∧Dx.len m≤i∧(Dx.addTo (Dx.limbs n) (Dx.limbs m) i).2=0
  ·obtain ⟨he1,he2,he3⟩:=hend
   have hval:=Dx.addTo_val (Dx.limbs n) (Dx.limbs m) i
   rw [he3,Nat.mul_zero,Nat.add_zero,List.take_of_length_le he1,List.take_of_length_le he2,Dx.val_limbs,Dx.val_limbs] at hval
   have hds:=ds_of_own hown (Dx.addTo_lt (Dx.limbs n) (Dx.limbs m) i)
   have HT:=Lib.hid (refTrim_any wr _ _ (by rw [hlenS];omega) hds)
   rw [hval,hlenS] at HT
   rw [he3]
   generalize (Dx.addTo (Dx.limbs n) (Dx.limbs m) i).1=ss at*
   clear hval hds hown hlenS he3 hcar
   go_wp2_with fail
   refine HT.out.mono ?_
   rintro e w' ⟨v',rfl,hD,rfl⟩
   clear HT
   go_wp2_with fail
   go_ret
   exact Ret.mk (hD.more (by omega)) hg
  ·have hiM:i≤max (Dx.len n) (Dx.len m):=by
    rcases Nat.lt_or_ge (max (Dx.len n) (Dx.len m)) i with h|h
    ·exact absurd ⟨by omega,by omega,addTo_end (Dx.limbs_lt n) (Dx.limbs_lt m) (by show Dx.len n<i;omega) (by show Dx.len m<i;omega)⟩ hend
    ·exact h
   have hstep:Dx.addTo (Dx.limbs n) (Dx.limbs m) (i+1)=((Dx.addTo (Dx.limbs n) (Dx.limbs m) i).1++ [Dx.addLo ((Dx.limbs n).getD i 0) ((Dx.limbs m).getD i 0) (Dx.addTo (Dx.limbs n) (Dx.limbs m) i).2],Dx.addHi ((Dx.limbs n).getD i 0) ((Dx.limbs m).getD i 0) (Dx.addTo (Dx.limbs n) (Dx.limbs m) i).2):=rfl
   have hx:=Dx.getD_lt _ (Dx.limbs_lt n) i
   have hy:=Dx.getD_lt _ (Dx.limbs_lt m) i
   have HA1:=Lib.hid (refAt_any wr A (Dx.limbs n) c i (hl.grow hg))
   have HA2:=Lib.hid (refAt_any wr D (Dx.limbs m) d i (hr.grow hg))
   generalize (Dx.limbs n).getD i 0=x at hstep hx HA1
   generalize (Dx.limbs m).getD i 0=y at hstep hy HA2
   generalize (Dx.addTo (Dx.limbs n) (Dx.limbs m) i).2=cr at*
   generalize (Dx.addTo (Dx.limbs n) (Dx.limbs m) i).1=ss at*
   rw [Dx.B_eq] at hx hy
   have hmod:((x:Int)+(y:Int)+(cr:Int))%10000=((Dx.addLo x y cr:Nat):Int):=by unfold Dx.addLo;rw [Dx.B_eq];omega
   have hdiv:((x:Int)+(y:Int)+(cr:Int))/10000=((Dx.addHi x y cr:Nat):Int):=by unfold Dx.addHi;rw [Dx.B_eq];omega
   generalize Dx.addLo x y cr=lo at*
   generalize Dx.addHi x y cr=hi' at*
   have HS:=Lib.hid hstep
   have HLS:=Lib.hid hlenS
   have hvl:(valsD ss).length=i:=by rw [valsD_length];exact hlenS
   have HVL:=Lib.hid hvl
   clear hstep hlenS hvl
   generalize hvs:valsD ss=vs at*
   have HVS:=Lib.hid hvs
   clear hvs
   have hcp:Dx.len n≤i→Dx.len m≤i→0<cr:=fun h1 h2=>by
    rcases Nat.eq_zero_or_pos cr with h|h
    ·exact absurd ⟨h1,h2,h⟩ hend
    ·exact h
   clear hend
   rcases Nat.lt_or_ge i (Dx.len n) with hc1|hc1
   ·clear hcp
    go_wp2_with fail
    refine HA1.out.mono ?_
    rintro e w' ⟨rfl,rfl⟩
    go_wp2_with fail
    refine HA2.out.mono ?_
    rintro e w' ⟨rfl,rfl⟩
    go_wp2_with (at_builtin;refine wpList_append_own _ rfl _ _ 29 rfl w.heap.size 3 i0 (.int .i64 0) 1 8 Tryz.underlying29 hi hz0 hz1 hz2 rfl (by decide) _ _ _ rfl (hown.alloc _) ⟨wr.heap.size,0,none⟩ 1 1 [.int .i64 (lo:Int)] rfl rfl (cells_one _ _ _) (by intro u hu;simp at hu;subst hu;rfl) (by unfold maxLen;omega) (by omega) (by have:=hg.size;simp;omega) ?_)
    intro v' w1 hown' hgrow _
    have R1:Grow w w1:=Below.grown (hg.alloc _) hgrow (by have:=hg.size;simp;omega) (fun k e=>own_ge hown e)
    rw [←HVS.out,valsD_snoc] at hown'
    have HO:=Lib.hid hown'
    clear hown' hgrow hown
    go_wp2
    go_roundw
    case rel=>exact ⟨i+1,by omega,by go_num,by rw [HS.out,hdiv],R1,by rw [HS.out];exact HO.out⟩
    case measure=>simp [intOf];omega
   rcases Nat.lt_or_ge i (Dx.len m) with hc2|hc2
   ·clear hcp
    go_wp2_with fail
    refine HA1.out.mono ?_
    rintro e w' ⟨rfl,rfl⟩
    go_wp2_with fail
    refine HA2.out.mono ?_
    rintro e w' ⟨rfl,rfl⟩
    go_wp2_with (at_builtin;refine wpList_append_own _ rfl _ _ 29 rfl w.heap.size 3 i0 (.int .i64 0) 1 8 Tryz.underlying29 hi hz0 hz1 hz2 rfl (by decide) _ _ _ rfl (hown.alloc _) ⟨wr.heap.size,0,none⟩ 1 1 [.int .i64 (lo:Int)] rfl rfl (cells_one _ _ _) (by intro u hu;simp at hu;subst hu;rfl) (by unfold maxLen;omega) (by omega) (by have:=hg.size;simp;omega) ?_)
    intro v' w1 hown' hgrow _
    have R1:Grow w w1:=Below.grown (hg.alloc _) hgrow (by have:=hg.size;simp;omega) (fun k e=>own_ge hown e)
    rw [←HVS.out,valsD_snoc] at hown'
    have HO:=Lib.hid hown'
    clear hown' hgrow hown
    go_wp2
    go_roundw
    case rel=>exact ⟨i+1,by omega,by go_num,by rw [HS.out,hdiv],R1,by rw [HS.out];exact HO.out⟩
    case measure=>simp [intOf];omega
   ·have hc3:=hcp hc1 hc2
    clear hcp
    go_wp2_with fail
    refine HA1.out.mono ?_
    rintro e w' ⟨rfl,rfl⟩
    go_wp2_with fail
    refine HA2.out.mono ?_
    rintro e w' ⟨rfl,rfl⟩
    go_wp2_with (at_builtin;refine wpList_append_own _ rfl _ _ 29 rfl w.heap.size 3 i0 (.int .i64 0) 1 8 Tryz.underlying29 hi hz0 hz1 hz2 rfl (by decide) _ _ _ rfl (hown.alloc _) ⟨wr.heap.size,0,none⟩ 1 1 [.int .i64 (lo:Int)] rfl rfl (cells_one _ _ _) (by intro u hu;simp at hu;subst hu;rfl) (by unfold maxLen;omega) (by omega) (by have:=hg.size;simp;omega) ?_)
    intro v' w1 hown' hgrow _
    have R1:Grow w w1:=Below.grown (hg.alloc _) hgrow (by have:=hg.size;simp;omega) (fun k e=>own_ge hown e)
    rw [←HVS.out,valsD_snoc] at hown'
    have HO:=Lib.hid hown'
    clear hown' hgrow hown
    go_wp2
    go_roundw
    case rel=>exact ⟨i+1,by omega,by go_num,by rw [HS.out,hdiv],R1,by rw [HS.out];exact HO.out⟩
    case measure=>simp [intOf];omega
end Go.Proofs.YthebilnlljkfeaaGreatDoor
namespace Go.Proofs.YthebilnlljkfeaaGreatDoor
open Go.RowKit
set_option maxRecDepth 20000
set_option maxHeartbeats 2000000 in
theorem refSub_any (w:World) (va vb:Value) (n m k j:Nat) (hk:k≤4294967296) (ha:IsD w va n k) (hb:IsD w vb m j) (hle:m≤n):
  Calls Tryz.prog 102 #[va,vb] w (Ret w fun v' w'=>IsD w' v' (n-m) k):=by
 obtain ⟨A,c,rfl,hc,hl,hkn⟩:=ha
 obtain ⟨D,d,rfl,hd,hr,hjm⟩:=hb
 obtain ⟨i0,hi,hz0,hz1,hz2⟩:=info_parts info3
 have HLE:=Lib.hid hle
 clear hle
 go_enter Tryz.func102,Tryz.ntmps102
 go_wp2
 go_loopw [5,6,7] (fun ov cv iv wr=> ∃i:Nat,i≤Dx.len n∧iv= .int .i64 i∧cv= .int .i64 ((Dx.subTo (Dx.limbs n) (Dx.limbs m) i).2:Nat)∧Grow w wr∧wr.ownsRow w.heap.size 3 1 ov i (valsD (Dx.subTo (Dx.limbs n) (Dx.limbs m) i).1)) (fun _ _ iv _=>Dx.len n-(intOf iv).toNat)
 case atStart=>exact ⟨0,Nat.zero_le _,rfl,rfl,Grow.refl _,World.ownsRow_nil _ _ _ _⟩
 case round=>
  obtain ⟨i,hib,rfl,rfl,hg,hown⟩:=hrel
  have hlenS:=Dx.subTo_length (Dx.limbs n) (Dx.limbs m) i
  have hcar:=Dx.subTo_borrow (Dx.limbs n) (Dx.limbs m) i
  by_cases hlt:i<Dx.len n
  ·have hstep:Dx.subTo (Dx.limbs n) (Dx.limbs m) (i+1)=((Dx.subTo (Dx.limbs n) (Dx.limbs m) i).1++ [Dx.subLo ((Dx.limbs n).getD i 0) ((Dx.limbs m).getD i 0) (Dx.subTo (Dx.limbs n) (Dx.limbs m) i).2],Dx.subHi ((Dx.limbs n).getD i 0) ((Dx.limbs m).getD i 0) (Dx.subTo (Dx.limbs n) (Dx.limbs m) i).2):=rfl
   have hx:=Dx.getD_lt _ (Dx.limbs_lt n) i
   have hy:=Dx.getD_lt _ (Dx.limbs_lt m) i
   obtain ⟨b1,o1,rfl,hb1,hd1⟩:=(hl.grow hg).at (Dx.limbs_ne (by omega))
   have hcx:=hd1 i hlt
   have HA2:=Lib.hid (refAt_any wr D (Dx.limbs m) d i (hr.grow hg))
   clear hd1
   generalize (Dx.limbs n).getD i 0=x at hstep hx hcx
   generalize (Dx.limbs m).getD i 0=y at hstep hy HA2
   generalize (Dx.subTo (Dx.limbs n) (Dx.limbs m) i).2=cr at*
   generalize (Dx.subTo (Dx.limbs n) (Dx.limbs m) i).1=ss at*
   rw [Dx.B_eq] at hx hy
   have hi1:(i:Int)<(Dx.len n:Int):=by omega
   have hvl:(valsD ss).length=i:=by rw [valsD_length];exact hlenS
   clear hlenS
   by_cases hbor:x<y+cr
   ·have hlo:(x:Int) -(y:Int) -(cr:Int)+10000=((Dx.subLo x y cr:Nat):Int):=by unfold Dx.subLo;rw [Dx.B_eq];omega
    have hhi:Dx.subHi x y cr=1:=if_pos hbor
    rw [hhi] at hstep
    have hneg:decide ((x:Int) -(y:Int) -(cr:Int)<0)=true:=by simp;omega
    generalize Dx.subLo x y cr=lo at*
    have HS:=Lib.hid hstep
    have HVL:=Lib.hid hvl
    clear hstep hhi hvl
    generalize hvs:valsD ss=vs at*
    have HVS:=Lib.hid hvs
    clear hvs
    go_wp2_with fail
    refine HA2.out.mono ?_
    rintro e w' ⟨rfl,rfl⟩
    go_wp2_with (at_builtin;refine wpList_append_own _ rfl _ _ 29 rfl w.heap.size 3 i0 (.int .i64 0) 1 8 Tryz.underlying29 hi hz0 hz1 hz2 rfl (by decide) _ _ _ rfl (hown.alloc _) ⟨wr.heap.size,0,none⟩ 1 1 [.int .i64 (lo:Int)] rfl rfl (cells_one _ _ _) (by intro u hu;simp at hu;subst hu;rfl) (by unfold maxLen;omega) (by omega) (by have:=hg.size;simp;omega) ?_)
    intro v' w1 hown' hgrow _
    have R1:Grow w w1:=Below.grown (hg.alloc _) hgrow (by have:=hg.size;simp;omega) (fun k e=>own_ge hown e)
    rw [←HVS.out,valsD_snoc] at hown'
    have HO:=Lib.hid hown'
    clear hown' hgrow hown
    go_wp2
    go_roundw
    case rel=>exact ⟨i+1,by omega,by go_num,by rw [HS.out];rfl,R1,by rw [HS.out];exact HO.out⟩
    case measure=>simp [intOf];omega
   ·have hlo:(x:Int) -(y:Int) -(cr:Int)=((Dx.subLo x y cr:Nat):Int):=by unfold Dx.subLo;rw [Dx.B_eq];omega
    have hhi:Dx.subHi x y cr=0:=if_neg hbor
    rw [hhi] at hstep
    have hneg:decide ((x:Int) -(y:Int) -(cr:Int)<0)=false:=by simp;omega
    generalize Dx.subLo x y cr=lo at*
    have HS:=Lib.hid hstep
    have HVL:=Lib.hid hvl
    have hneg2:decide ((lo:Int)<0)=false:=by simp
    clear hstep hhi hvl
    generalize hvs:valsD ss=vs at*
    have HVS:=Lib.hid hvs
    clear hvs
    go_wp2_with fail
    refine HA2.out.mono ?_
    rintro e w' ⟨rfl,rfl⟩
    go_wp2_with (at_builtin;refine wpList_append_own _ rfl _ _ 29 rfl w.heap.size 3 i0 (.int .i64 0) 1 8 Tryz.underlying29 hi hz0 hz1 hz2 rfl (by decide) _ _ _ rfl (hown.alloc _) ⟨wr.heap.size,0,none⟩ 1 1 [.int .i64 (lo:Int)] rfl rfl (cells_one _ _ _) (by intro u hu;simp at hu;subst hu;rfl) (by unfold maxLen;omega) (by omega) (by have:=hg.size;simp;omega) ?_)
    intro v' w1 hown' hgrow _
    have R1:Grow w w1:=Below.grown (hg.alloc _) hgrow (by have:=hg.size;simp;omega) (fun k e=>own_ge hown e)
    rw [←HVS.out,valsD_snoc] at hown'
    have HO:=Lib.hid hown'
    clear hown' hgrow hown
    go_wp2
    go_roundw
    case rel=>exact ⟨i+1,by omega,by go_num,by rw [HS.out];rfl,R1,by rw [HS.out];exact HO.out⟩
    case measure=>simp [intOf];omega
  ·obtain rfl:i=Dx.len n:=by omega
   have hall:=Dx.subTo_all (Dx.limbs n) (Dx.limbs m) (Dx.limbs_lt n) (Dx.limbs_lt m) (Dx.len_mono HLE.out) (by rw [Dx.val_limbs,Dx.val_limbs];exact HLE.out)
   rw [Dx.val_limbs,Dx.val_limbs,show (Dx.limbs n).length=Dx.len n from rfl] at hall
   have hds:=ds_of_own hown (Dx.subTo_lt (Dx.limbs n) (Dx.limbs m) (Dx.len n))
   have HT:=Lib.hid (refTrim_any wr _ _ (by rw [hlenS];omega) hds)
   rw [hall,hlenS] at HT
   generalize (Dx.subTo (Dx.limbs n) (Dx.limbs m) (Dx.len n)).1=ss at*
   generalize (Dx.subTo (Dx.limbs n) (Dx.limbs m) (Dx.len n)).2=cr at*
   clear hall hds hown hlenS hcar
   go_wp2_with fail
   refine HT.out.mono ?_
   rintro e w' ⟨v',rfl,hD,rfl⟩
   clear HT
   go_wp2_with fail
   go_ret
   exact Ret.mk (hD.more hkn) hg
set_option maxHeartbeats 2000000 in
theorem refSmall_any (w:World) (n:Nat) (hn:n≤9223372036854775807):Calls Tryz.prog 87 #[.int .i64 (n:Int)] w (Ret w fun v' w'=>IsD w' v' n 5):=by
 obtain ⟨i0,hi,hz0,hz1,hz2⟩:=info_parts info3
 have hlen:Dx.len n≤5:=Dx.len_le_of_lt 5 n (by rw [Dx.B_eq];omega)
 go_enter Tryz.func87,Tryz.ntmps87
 go_wp2
 go_loopw [3,0] (fun ov nv wr=> ∃(ds:List Nat) (r:Nat),r≤n∧nv= .int .i64 (r:Int)∧Hid (Dx.limbs n=ds++Dx.limbs r)∧Grow w wr∧wr.ownsRow w.heap.size 3 1 ov ds.length (valsD ds)) (fun _ nv _=>(intOf nv).toNat)
 case atStart=>exact ⟨[],n,Nat.le_refl _,rfl,show _=_ from rfl,Grow.refl _,World.ownsRow_nil _ _ _ _⟩
 case round=>
  obtain ⟨ds,r,hr,rfl,HD,hg,hown⟩:=hrel
  have hdl:ds.length≤5:=by
   have:=congrArg List.length HD.out
   rw [List.length_append] at this
   unfold Dx.len at hlen
   omega
  by_cases h0:r=0
  ·subst h0
   have e:Dx.limbs n=ds:=by have:=HD.out;rwa [Dx.limbs_zero,List.append_nil] at this
   have hds:=ds_of_own hown (by rw [←e];exact Dx.limbs_lt n)
   obtain ⟨A,c,rfl,hc,hb,hcl⟩:=hds
   have HE:=Lib.hid e
   have HB:=Lib.hid hb
   clear hown e HD hb
   go_wp2
   go_ret
   refine Ret.mk ⟨A,c,by unfold Dx.len;rw [HE.out];rfl,by unfold Dx.len;rw [HE.out];exact hc,by rw [HE.out];exact hcl,hlen⟩ hg
  ·have hpos:(0:Int)<(r:Int):=by omega
   have hst:Dx.limbs n=(ds++ [r%Dx.B])++Dx.limbs (r/Dx.B):=by rw [HD.out,Dx.limbs_pos r h0];simp
   have hm:(r:Int)%10000=((r%Dx.B:Nat):Int):=by rw [Dx.B_eq];omega
   have hd:(r:Int)/10000=((r/Dx.B:Nat):Int):=by rw [Dx.B_eq];omega
   have hrl:r/Dx.B<r:=Dx.div_lt_self r h0
   generalize r%Dx.B=lo at*
   generalize r/Dx.B=q at*
   have HST:=Lib.hid hst
   have hvl:(valsD ds).length=ds.length:=valsD_length ds
   have HVL:=Lib.hid hvl
   clear hst hvl h0
   generalize hvs:valsD ds=vs at*
   have HVS:=Lib.hid hvs
   clear hvs
   go_wp2_with (at_builtin;refine wpList_append_own _ rfl _ _ 29 rfl w.heap.size 3 i0 (.int .i64 0) 1 8 Tryz.underlying29 hi hz0 hz1 hz2 rfl (by decide) _ _ _ rfl (hown.alloc _) ⟨wr.heap.size,0,none⟩ 1 1 [.int .i64 (lo:Int)] rfl rfl (cells_one _ _ _) (by intro u hu;simp at hu;subst hu;rfl) (by unfold maxLen;omega) (by omega) (by have:=hg.size;simp;omega) ?_)
   intro v' w1 hown' hgrow _
   have R1:Grow w w1:=Below.grown (hg.alloc _) hgrow (by have:=hg.size;simp;omega) (fun k e=>own_ge hown e)
   rw [←HVS.out,valsD_snoc] at hown'
   have HO:=Lib.hid hown'
   clear hown' hgrow hown
   go_wp2
   go_roundw
   case rel=>exact ⟨ds++ [lo],q,by omega,rfl,HST.out,R1,by rw [List.length_append];exact HO.out⟩
   case measure=>simp [intOf];omega
end Go.Proofs.YthebilnlljkfeaaGreatDoor
namespace Go.Proofs.YthebilnlljkfeaaGreatDoor
open Go.RowKit
set_option maxRecDepth 20000
def BlkD (w:World) (g:Nat) (l:List Nat):Prop:=w.heap[g]? =some (.cells (valsD l).toArray 3 (0,0))
theorem BlkD.lt {w:World} {g:Nat} {l:List Nat} (h:BlkD w g l):g<w.heap.size:=lt_of_heap h
theorem BlkD.cell {w:World} {g:Nat} {l:List Nat} (h:BlkD w g l) {i:Nat} (hi:i<l.length):w.cell? ⟨g,i,none⟩=some (.int .i64 (l.getD i 0:Nat)):=by
 rw [cell_of_row w g i _ _ _ h]
 simp [valsD_get,List.getElem?_eq_getElem hi]
theorem BlkD.frozen {w:World} {g:Nat} {l:List Nat} (h:BlkD w g l) (i:Nat):w.frozen? ⟨g,i,none⟩=false:=by
 unfold BlkD at h
 simp [World.frozen?,h]
theorem BlkD.drewN {w:World} {g:Nat} {l:List Nat} (h:BlkD w g l) (n:Nat):BlkD (w.drewN n) g l:=h
theorem BlkD.set {w:World} {g:Nat} {l:List Nat} (h:BlkD w g l) (i x:Nat):BlkD (w.setCell ⟨g,i,none⟩ (.int .i64 (x:Int))) g (l.set i x):=by
 unfold BlkD at h⊢
 simp [World.setCell,Array.getElem?_modify,h,valsD,List.map_set]
theorem BlkD.ds {w:World} {g:Nat} {l:List Nat} (h:BlkD w g l) (hb: ∀x∈l,x<Dx.B):DS w (.slice (some ⟨g,0,none⟩) l.length l.length) l:=
 ⟨_,_,rfl,Nat.le_refl _,hb,fun _=>⟨g,0,rfl,⟨_,_,h⟩,fun j x hx=>by
  rw [cell_of_row w g (0+j) _ _ _ h]
  simp [valsD_get,hx]⟩⟩
theorem madeD (n:Nat):(madeCells #[Value.int .i64 0] n)=(valsD (List.replicate n 0)).toArray:=by
 apply Array.ext
 ·simp [size_madeCells,valsD]
 ·intro i h1 h2
  simp [madeCells,Nat.mod_one,valsD]
theorem BlkD.made (w:World) (n:Nat):BlkD (w.alloc (.cells (madeCells #[.int .i64 0] n) 3)) w.heap.size (List.replicate n 0):=by
 unfold BlkD
 rw [←madeD]
 exact heap_alloc_new w _
theorem dmul_round (nl ml:List Nat) (i k:Nat):(Dx.patch (Dx.mulList nl ml i++List.replicate (k+1) 0) i (Dx.mulTo (((Dx.mulList nl ml i)++List.replicate (k+1) 0).drop i) ml (nl.getD i 0) ml.length).1).set (i+ml.length) (Dx.mulTo (((Dx.mulList nl ml i)++List.replicate (k+1) 0).drop i) ml (nl.getD i 0) ml.length).2
  =Dx.mulList nl ml (i+1)++List.replicate k 0:=by
 have hq:=Dx.mulList_length nl ml i
 have e:=Dx.mulTo_drop (Dx.mulList nl ml i) (List.replicate (k+1) 0) ml (nl.getD i 0) i (by omega)
 rw [e]
 have hstep:Dx.mulList nl ml (i+1)=(Dx.mulList nl ml i).take i++(Dx.mulTo ((Dx.mulList nl ml i).drop i) ml (nl.getD i 0) ml.length).1++ [(Dx.mulTo ((Dx.mulList nl ml i).drop i) ml (nl.getD i 0) ml.length).2]:=rfl
 have hr:=Dx.mulTo_length ((Dx.mulList nl ml i).drop i) ml (nl.getD i 0) ml.length
 rw [hstep]
 generalize Dx.mulList nl ml i=Q at*
 generalize (Dx.mulTo (Q.drop i) ml (nl.getD i 0) ml.length).1=r at*
 generalize (Dx.mulTo (Q.drop i) ml (nl.getD i 0) ml.length).2=cr at*
 unfold Dx.patch
 have h1:(Q++List.replicate (k+1) 0).take i=Q.take i:=by rw [List.take_append_of_le_length (by omega)]
 have h2:(Q++List.replicate (k+1) 0).drop (i+r.length)=List.replicate (k+1) 0:=by
  rw [hr,←hq,List.drop_left]
 rw [h1,h2]
 have h3:(Q.take i++r).length=i+ml.length:=by rw [List.length_append,List.length_take,hr];omega
 rw [set_mid _ _ _ _ h3]
theorem set_self (l:List Nat) (j:Nat) (h:l.getD j 0=0):l.set j 0=l:=by
 apply List.ext_getElem?
 intro i
 rw [List.getElem?_set]
 split
 ·next e=>
  subst e
  split
  ·next hl=>
   rw [List.getD_eq_getElem?_getD,List.getElem?_eq_getElem hl,Option.getD_some] at h
   rw [List.getElem?_eq_getElem hl,h]
  ·next hl=>rw [List.getElem?_eq_none (by omega)]
 ·rfl
theorem inner_end (nl ml:List Nat) (i k t:Nat) (hk:i<nl.length) (ht:t=ml.length∨t=ml.length+1)
  (hz:(Dx.mulTo (((Dx.mulList nl ml i)++List.replicate (nl.length+1-i) 0).drop i) ml (nl.getD i 0) t).2=0) (hn: ∀x∈nl,x<Dx.B) (hm: ∀x∈ml,x<Dx.B) (hkk:k=nl.length+1-(i+1)):
  Dx.patch ((Dx.mulList nl ml i)++List.replicate (nl.length+1-i) 0) i (Dx.mulTo (((Dx.mulList nl ml i)++List.replicate (nl.length+1-i) 0).drop i) ml (nl.getD i 0) t).1=Dx.mulList nl ml (i+1)++List.replicate k 0:=by
 have e0:nl.length+1-i=k+1:=by omega
 rw [e0] at hz⊢
 have hq:=Dx.mulList_length nl ml i
 have hr:=Dx.mulTo_length (((Dx.mulList nl ml i)++List.replicate (k+1) 0).drop i) ml (nl.getD i 0) ml.length
 have hround:=dmul_round nl ml i k
 have hgd:((Dx.mulList nl ml i)++List.replicate (k+1) 0).getD (i+ml.length) 0=0:=by
  rw [List.getD_eq_getElem?_getD,List.getElem?_append_right (by omega),hq,Nat.sub_self]
  simp
 rcases ht with rfl|rfl
 ·rw [hz] at hround
  rw [set_self] at hround
  ·exact hround
  ·have:=Dx.patch_getD (L:=(Dx.mulList nl ml i)++List.replicate (k+1) 0) (o:=i) (r:=(Dx.mulTo (((Dx.mulList nl ml i)++List.replicate (k+1) 0).drop i) ml (nl.getD i 0) ml.length).1) (by rw [hr,List.length_append,hq,List.length_replicate];omega)
   rw [hr] at this
   rw [this,hgd]
 ·have hcar:=Dx.mulTo_carry (s:=((Dx.mulList nl ml i)++List.replicate (k+1) 0).drop i) (l:=ml) (x:=nl.getD i 0) (fun y hy=>by
   have:=List.mem_of_mem_drop hy
   rcases List.mem_append.1 this with h|h
   ·exact Dx.mulList_lt hn hm i y h
   ·rw [(List.mem_replicate.1 h).2];exact Dx.B_pos) hm (Dx.getD_lt nl hn i) ml.length
  have e1:ml.getD ml.length 0=0:=by rw [List.getD_eq_getElem?_getD,List.getElem?_eq_none (Nat.le_refl _)];rfl
  have e2:(((Dx.mulList nl ml i)++List.replicate (k+1) 0).drop i).getD ml.length 0=0:=by
   rw [List.getD_eq_getElem?_getD,List.getElem?_drop,←List.getD_eq_getElem?_getD]
   exact hgd
  have hlast:(Dx.mulTo (((Dx.mulList nl ml i)++List.replicate (k+1) 0).drop i) ml (nl.getD i 0) (ml.length+1)).1=(Dx.mulTo (((Dx.mulList nl ml i)++List.replicate (k+1) 0).drop i) ml (nl.getD i 0) ml.length).1++ [(Dx.mulTo (((Dx.mulList nl ml i)++List.replicate (k+1) 0).drop i) ml (nl.getD i 0) ml.length).2]:=by
   show _++ [Dx.macLo _ _ _ _]=_
   rw [e1,e2]
   unfold Dx.macLo
   rw [Nat.mul_zero,Nat.zero_add,Nat.mod_eq_of_lt hcar]
  rw [hlast,←Dx.patch_set (by rw [hr,List.length_append,hq,List.length_replicate];omega),hr]
  exact hround
theorem mac_small {x y s c:Nat} (hx:x<10000) (hy:y<10000) (hs:s<10000) (hc:c<10000):x*y≤99980001∧x*y+s+c≤100000000:=by
 have h:x*y≤9999*9999:=Nat.mul_le_mul (by omega) (by omega)
 omega
set_option maxHeartbeats 4000000 in
theorem refMul_any (w:World) (va vb:Value) (n m k j:Nat) (hk:k≤4294967296) (hj:j≤4294967296) (ha:IsD w va n k) (hb:IsD w vb m j):
  Calls Tryz.prog 72 #[va,vb] w (Ret w fun v' w'=>IsD w' v' (n*m) (k+j+1)):=by
 obtain ⟨A,c,rfl,hc,hl,hkn⟩:=ha
 obtain ⟨D,d,rfl,hd,hr,hjm⟩:=hb
 have hmk: ∀W,Sem.run Tryz.prog (Instr.makeSlice 29 (.int .i64 ((Dx.len n:Int)+(Dx.len m:Int)+1)) (.int .i64 ((Dx.len n:Int)+(Dx.len m:Int)+1))) W= .ok (.slice (some ⟨W.heap.size,0,none⟩) (Dx.len n+Dx.len m+1) (Dx.len n+Dx.len m+1)) (W.alloc (.cells (madeCells #[.int .i64 0] (Dx.len n+Dx.len m+1)) 3)):=fun W=>
  run_make_row' (P:=Tryz.prog) 29 3 (.int .i64 0) 8 Tryz.underlying29 info3 rfl .i64 .i64 (Dx.len n+Dx.len m+1) (by omega) (by omega) W
 go_enter Tryz.func72,Tryz.ntmps72
 go_wp2
 clear hmk
 go_loopw [6] (fun iv wr=> ∃i:Nat,i≤Dx.len n∧iv= .int .i64 i∧Grow w wr∧BlkD wr w.heap.size (Dx.mulList (Dx.limbs n) (Dx.limbs m) i++List.replicate (Dx.len n+1-i) 0)) (fun iv _=>Dx.len n-(intOf iv).toNat)
 case atStart=>
  refine ⟨0,Nat.zero_le _,rfl,(Grow.refl _).alloc _, ?_⟩
  have e:Dx.mulList (Dx.limbs n) (Dx.limbs m) 0++List.replicate (Dx.len n+1-0) 0=List.replicate (Dx.len n+Dx.len m+1) 0:=by
   show List.replicate (Dx.len m) 0++_=_
   rw [List.replicate_append_replicate]
   congr 1
   omega
  rw [e]
  exact BlkD.made _ _
 case round=>
  obtain ⟨i,hi,rfl,hg,hblk⟩:=hrel
  by_cases hlt:i<Dx.len n
  ·have hx:=Dx.getD_lt _ (Dx.limbs_lt n) i
   have hlen0:(Dx.mulList (Dx.limbs n) (Dx.limbs m) i++List.replicate (Dx.len n+1-i) 0).length=Dx.len n+Dx.len m+1:=by
    rw [List.length_append,Dx.mulList_length,List.length_replicate,show (Dx.limbs m).length=Dx.len m from rfl];omega
   have hbd: ∀y∈Dx.mulList (Dx.limbs n) (Dx.limbs m) i++List.replicate (Dx.len n+1-i) 0,y<Dx.B:=by
    intro y hy
    rcases List.mem_append.1 hy with hy|hy
    ·exact Dx.mulList_lt (Dx.limbs_lt n) (Dx.limbs_lt m) i y hy
    ·rw [(List.mem_replicate.1 hy).2];exact Dx.B_pos
   have HEnd:=Lib.hid (fun t ht hz=>inner_end (Dx.limbs n) (Dx.limbs m) i (Dx.len n+1-(i+1)) t hlt ht hz (Dx.limbs_lt n) (Dx.limbs_lt m) rfl)
   rw [show (Dx.limbs m).length=Dx.len m from rfl,show (Dx.limbs n).length=Dx.len n from rfl] at HEnd
   have hzl:(Dx.mulList (Dx.limbs n) (Dx.limbs m) i++List.replicate (Dx.len n+1-i) 0).getD (i+Dx.len m) 0=0:=by
    rw [List.getD_eq_getElem?_getD,List.getElem?_append_right (by rw [Dx.mulList_length];exact Nat.le_refl _),Dx.mulList_length,show (Dx.limbs m).length=Dx.len m from rfl,Nat.sub_self]
    rw [List.getElem?_replicate]
    split<;>rfl
   generalize Dx.mulList (Dx.limbs n) (Dx.limbs m) i++List.replicate (Dx.len n+1-i) 0=L at*
   have HBD:=Lib.hid hbd
   have HZL:=Lib.hid hzl
   have HL0:=Lib.hid hlen0
   have HBK:=Lib.hid hblk
   clear hbd hzl hlen0 hblk
   go_wp2
   go_loopw [7,8] (fun cv kv wq=> ∃t:Nat,t≤Dx.len m+1∧kv= .int .i64 t∧cv= .int .i64 ((Dx.mulTo (L.drop i) (Dx.limbs m) ((Dx.limbs n).getD i 0) t).2:Nat)∧Grow w wq∧BlkD wq w.heap.size (Dx.patch L i (Dx.mulTo (L.drop i) (Dx.limbs m) ((Dx.limbs n).getD i 0) t).1)) (fun _ kv _=>Dx.len m+1-(intOf kv).toNat)
   case atStart=>exact ⟨0,Nat.zero_le _,rfl,rfl,hg,by rw [show (Dx.mulTo (L.drop i) (Dx.limbs m) ((Dx.limbs n).getD i 0) 0).1= [] from rfl,Dx.patch_nil];exact HBK.out⟩
   case round=>
    obtain ⟨t,ht,rfl,rfl,hg',hbk⟩:=hrel
    have hlenS:=Dx.mulTo_length (L.drop i) (Dx.limbs m) ((Dx.limbs n).getD i 0) t
    have hcar:=Dx.mulTo_carry (s:=L.drop i) (l:=Dx.limbs m) (x:=(Dx.limbs n).getD i 0) (fun y hy=>HBD.out y (List.mem_of_mem_drop hy)) (Dx.limbs_lt m) hx t
    by_cases hend:Dx.len m≤t∧(Dx.mulTo (L.drop i) (Dx.limbs m) ((Dx.limbs n).getD i 0) t).2=0
    ·have hfin:=HEnd.out t (by omega) hend.2
     rw [hfin] at hbk
     rw [hend.2]
     obtain ⟨he1,_⟩:=hend
     have HB2:=Lib.hid hbk
     clear hbk hfin hcar hlenS
     generalize (Dx.mulTo (L.drop i) (Dx.limbs m) ((Dx.limbs n).getD i 0) t).1=ss at*
     have ht2: ¬(t<Dx.len m):=by omega
     go_wp2
     go_roundw
     case rel=>exact ⟨i+1,by omega,by go_num,hg',HB2.out⟩
     case measure=>simp [intOf];omega
    ·have htm:t≤Dx.len m:=by
      rcases Nat.lt_or_ge (Dx.len m) t with h|h
      ·obtain rfl:t=Dx.len m+1:=by omega
       refine absurd ⟨by omega, ?_⟩ hend
       have hc0:=Dx.mulTo_carry (s:=L.drop i) (l:=Dx.limbs m) (x:=(Dx.limbs n).getD i 0) (fun y hy=>HBD.out y (List.mem_of_mem_drop hy)) (Dx.limbs_lt m) hx (Dx.len m)
       show Dx.macHi _ ((Dx.limbs m).getD (Dx.len m) 0) ((L.drop i).getD (Dx.len m) 0) _=0
       have e1:(Dx.limbs m).getD (Dx.len m) 0=0:=by rw [List.getD_eq_getElem?_getD,List.getElem?_eq_none (by exact Nat.le_refl _)];rfl
       have e2:(L.drop i).getD (Dx.len m) 0=0:=by
        rw [List.getD_eq_getElem?_getD,List.getElem?_drop,←List.getD_eq_getElem?_getD]
        exact HZL.out
       rw [e1,e2]
       unfold Dx.macHi
       rw [Nat.mul_zero,Nat.zero_add]
       exact Nat.div_eq_of_lt hc0
      ·exact h
     have hstep:Dx.mulTo (L.drop i) (Dx.limbs m) ((Dx.limbs n).getD i 0) (t+1)=((Dx.mulTo (L.drop i) (Dx.limbs m) ((Dx.limbs n).getD i 0) t).1++ [Dx.macLo ((Dx.limbs n).getD i 0) ((Dx.limbs m).getD t 0) ((L.drop i).getD t 0) (Dx.mulTo (L.drop i) (Dx.limbs m) ((Dx.limbs n).getD i 0) t).2],Dx.macHi ((Dx.limbs n).getD i 0) ((Dx.limbs m).getD t 0) ((L.drop i).getD t 0) (Dx.mulTo (L.drop i) (Dx.limbs m) ((Dx.limbs n).getD i 0) t).2):=rfl
     have hsd:(L.drop i).getD t 0=L.getD (i+t) 0:=by rw [List.getD_eq_getElem?_getD,List.getD_eq_getElem?_getD,List.getElem?_drop]
     rw [hsd] at hstep
     have hs1:L.getD (i+t) 0<Dx.B:=Dx.getD_lt L HBD.out _
     have hy1:(Dx.limbs m).getD t 0<Dx.B:=Dx.getD_lt _ (Dx.limbs_lt m) _
     have hpg:(Dx.patch L i (Dx.mulTo (L.drop i) (Dx.limbs m) ((Dx.limbs n).getD i 0) t).1).getD (i+t) 0=L.getD (i+t) 0:=by
      have:=Dx.patch_getD (L:=L) (r:=(Dx.mulTo (L.drop i) (Dx.limbs m) ((Dx.limbs n).getD i 0) t).1) (o:=i) (by rw [hlenS,HL0.out];omega)
      rwa [hlenS] at this
     have hgc:=hbk.cell (i:=i+t) (by rw [Dx.patch_length (by rw [hlenS,HL0.out];omega),HL0.out];omega)
     rw [hpg] at hgc
     have hgf:=hbk.frozen (i+t)
     have hset:=hbk.set (i+t) (Dx.macLo ((Dx.limbs n).getD i 0) ((Dx.limbs m).getD t 0) (L.getD (i+t) 0) (Dx.mulTo (L.drop i) (Dx.limbs m) ((Dx.limbs n).getD i 0) t).2)
     have hps:=Dx.patch_set (L:=L) (r:=(Dx.mulTo (L.drop i) (Dx.limbs m) ((Dx.limbs n).getD i 0) t).1) (o:=i) (x:=Dx.macLo ((Dx.limbs n).getD i 0) ((Dx.limbs m).getD t 0) (L.getD (i+t) 0) (Dx.mulTo (L.drop i) (Dx.limbs m) ((Dx.limbs n).getD i 0) t).2) (by rw [hlenS,HL0.out];omega)
     rw [hlenS] at hps
     rw [hps] at hset
     obtain ⟨b1,o1,rfl,hb1,hd1⟩:=(hl.grow hg').at (Dx.limbs_ne (by omega))
     have hcx:=hd1 i hlt
     have HA2:=Lib.hid (refAt_any _ D (Dx.limbs m) d t (hr.grow hg'))
     have hcp:Dx.len m≤t→0<(Dx.mulTo (L.drop i) (Dx.limbs m) ((Dx.limbs n).getD i 0) t).2:=fun h1=>by
      rcases Nat.eq_zero_or_pos (Dx.mulTo (L.drop i) (Dx.limbs m) ((Dx.limbs n).getD i 0) t).2 with h|h
      ·exact absurd ⟨h1,h⟩ hend
      ·exact h
     clear hd1 hpg hsd hps hbk hend hlenS
     generalize (Dx.limbs m).getD t 0=y at*
     generalize L.getD (i+t) 0=s at*
     generalize (Dx.mulTo (L.drop i) (Dx.limbs m) ((Dx.limbs n).getD i 0) t).2=cr at*
     generalize (Dx.mulTo (L.drop i) (Dx.limbs m) ((Dx.limbs n).getD i 0) t).1=ss at*
     generalize hxx:(Dx.limbs n).getD i 0=x at*
     rw [Dx.B_eq] at hx hy1 hs1 hcar
     have hb:=mac_small hx hy1 hs1 hcar
     have hlo:Dx.macLo x y s cr=(x*y+s+cr)%10000:=rfl
     have hhi:Dx.macHi x y s cr=(x*y+s+cr)/10000:=rfl
     generalize Dx.macLo x y s cr=lo at*
     generalize Dx.macHi x y s cr=hi' at*
     have hw1:IntKind.i64.wrap ((x:Int)*(y:Int))=((x*y:Nat):Int):=by rw [←Int.natCast_mul];exact IntWalk.i64_in _ (by omega)
     generalize x*y=p at*
     have hw2:IntKind.i64.wrap ((s:Int)+(p:Int))=((s+p:Nat):Int):=by rw [←Int.natCast_add];exact IntWalk.i64_in _ (by omega)
     have hq:s+p≤100000000:=by omega
     have hw3:IntKind.i64.wrap (((s+p:Nat):Int)+(cr:Int))=((s+p+cr:Nat):Int):=by rw [←Int.natCast_add];exact IntWalk.i64_in _ (by omega)
     have hm:((s+p+cr:Nat):Int)%10000=(lo:Int):=by omega
     have hdv:((s+p+cr:Nat):Int)/10000=(hi':Int):=by omega
     have hT:s+p+cr≤100000000:=by omega
     generalize s+p+cr=T at*
     generalize s+p=q at*
     have HS:=Lib.hid hstep
     have HSet:=Lib.hid hset
     have HXX:=Lib.hid hxx
     clear hstep hset hlo hhi hxx hx hy1 hs1 hcar
     have hi1:(i:Int)<(Dx.len n:Int):=by omega
     have hi2:IntKind.i64.wrap ((i:Int)+(t:Int))=(i:Int)+(t:Int):=IntWalk.i64_in _ (by omega)
     have hi3:((i:Int)+(t:Int)).toNat=i+t:=by omega
     have hi4:(i:Int)+(t:Int)<(Dx.len n:Int)+(Dx.len m:Int)+1:=by omega
     have hi5:(0:Int)≤(i:Int)+(t:Int):=by omega
     rcases Nat.lt_or_ge t (Dx.len m) with hc1|hc1
     ·clear hcp
      go_wp2_with fail
      refine HA2.out.mono ?_
      rintro e w' ⟨rfl,rfl⟩
      go_wp2_with fail
      go_quiet (fail)
      go_wp2_with fail
      go_roundw
      case rel=>exact ⟨t+1,by omega,by go_num,by rw [HS.out],(hg'.drewN _).setCell (Nat.le_refl _) _,by rw [HS.out];exact HSet.out⟩
      case measure=>simp [intOf];omega
     ·have hc3:=hcp hc1
      clear hcp
      go_wp2_with fail
      refine HA2.out.mono ?_
      rintro e w' ⟨rfl,rfl⟩
      go_wp2_with fail
      go_quiet (fail)
      go_wp2_with fail
      go_roundw
      case rel=>exact ⟨t+1,by omega,by go_num,by rw [HS.out],(hg'.drewN _).setCell (Nat.le_refl _) _,by rw [HS.out];exact HSet.out⟩
      case measure=>simp [intOf];omega
  ·obtain rfl:i=Dx.len n:=by omega
   have hall:=Dx.mulList_all n m
   have hltA:=Dx.mulList_lt (Dx.limbs_lt n) (Dx.limbs_lt m) (Dx.len n)
   have hlenS:=Dx.mulList_length (Dx.limbs n) (Dx.limbs m) (Dx.len n)
   rw [show (Dx.limbs m).length=Dx.len m from rfl] at hlenS
   generalize Dx.mulList (Dx.limbs n) (Dx.limbs m) (Dx.len n)=ss at*
   rw [show Dx.len n+1-Dx.len n=1 by omega] at hblk
   have hv:Dx.val (ss++List.replicate 1 0)=n*m:=by rw [Dx.val_append,Dx.val_replicate,Nat.mul_zero,Nat.add_zero,hall]
   have hds:=hblk.ds (by
    intro y hy
    rcases List.mem_append.1 hy with hy|hy
    ·exact hltA y hy
    ·rw [(List.mem_replicate.1 hy).2];exact Dx.B_pos)
   have hl2:(ss++List.replicate 1 0).length=Dx.len n+Dx.len m+1:=by rw [List.length_append,hlenS];rfl
   have HT:=Lib.hid (refTrim_any wr _ _ (by rw [hl2];omega) hds)
   rw [hv,hl2] at HT
   clear hall hltA hlenS hblk hv hds hl2
   go_wp2_with fail
   refine HT.out.mono ?_
   rintro e w' ⟨v',rfl,hD,rfl⟩
   clear HT
   go_wp2_with fail
   go_ret
   exact Ret.mk (hD.more (by omega)) hg
end Go.Proofs.YthebilnlljkfeaaGreatDoor
namespace Go.Proofs.YthebilnlljkfeaaGreatDoor
open Go.RowKit
set_option maxRecDepth 20000
theorem IsD.tight {w:World} {v:Value} {n k k':Nat} (h:IsD w v n k) (hk:Dx.len n≤k'):IsD w v n k':=by
 obtain ⟨A,c,e,hc,hl,_⟩:=h
 exact ⟨A,c,e,hc,hl,hk⟩
theorem dlen_bound {n L:Nat} (h:n<Mx.B^L):Dx.len n≤8*L:=by
 apply Dx.len_le_of_lt
 refine Nat.lt_of_lt_of_le h ?_
 rw [Nat.pow_mul]
 exact Nat.pow_le_pow_left (by rw [Mx.B_eq,Dx.B_eq];decide) L
def partVal (V x q:Nat):Nat:=V*65536^(4-q)+x/65536^q
theorem part_start (V x:Nat) (hx:x<Mx.B):partVal V x 4=V:=by
 unfold partVal
 rw [Mx.B_eq] at hx
 rw [Nat.div_eq_of_lt hx,Nat.sub_self,Nat.pow_zero,Nat.mul_one,Nat.add_zero]
theorem part_end (V x:Nat):partVal V x 0=x+Mx.B*V:=by
 unfold partVal
 rw [Nat.pow_zero,Nat.div_one,Mx.B_eq,Nat.mul_comm,Nat.add_comm]
theorem part_bound {l:List Nat} {t x V:Nat} (q:Nat) (hb: ∀y∈l,y<Mx.B) (hv:Mx.val (l.drop t)=x+Mx.B*V):Dx.len (partVal V x q)≤8*l.length:=by
 apply dlen_bound
 unfold partVal
 have h1:=Mx.val_lt (l.drop t) (fun y hy=>hb y (List.mem_of_mem_drop hy))
 have h2:Mx.B^(l.drop t).length≤Mx.B^l.length:=Nat.pow_le_pow_right Mx.B_pos (by rw [List.length_drop];omega)
 have h3:V*65536^(4-q)≤V*Mx.B:=Nat.mul_le_mul_left V (Nat.le_trans (Nat.pow_le_pow_right (by omega) (by omega:4-q≤4)) (by rw [Mx.B_eq];decide))
 have h4:x/65536^q≤x:=Nat.div_le_self _ _
 rw [Nat.mul_comm V Mx.B] at h3
 omega
theorem part_step (V x q:Nat) (hq:q+1≤4):partVal V x (q+1)*65536+x/65536^q%65536=partVal V x q:=by
 unfold partVal
 have e1:65536^(4-q)=65536^(4-(q+1))*65536:=by rw [←Nat.pow_succ];congr 1;omega
 have e2:x/65536^(q+1)=x/65536^q/65536:=by rw [Nat.pow_succ,Nat.div_div_eq_div_mul]
 rw [e1,e2,Nat.add_mul,Nat.mul_assoc]
 have:=Nat.div_add_mod (x/65536^q) 65536
 omega
theorem part_0 (V x:Nat):partVal V x 1*65536+x%65536=partVal V x 0:=by
 have:=part_step V x 0 (by omega)
 rwa [Nat.pow_zero,Nat.div_one] at this
theorem part_1 (V x:Nat):partVal V x 2*65536+x/65536%65536=partVal V x 1:=by
 have:=part_step V x 1 (by omega)
 rwa [Nat.pow_one] at this
theorem part_2 (V x:Nat):partVal V x 3*65536+x/4294967296%65536=partVal V x 2:=part_step V x 2 (by omega)
theorem part_3 (V x:Nat):partVal V x 4*65536+x/281474976710656%65536=partVal V x 3:=part_step V x 3 (by omega)
theorem and_mask (a:Nat) (ha:a<18446744073709551616):wrap64 (bits .and .u64 (a:Int) 65535)=((a%65536:Nat):Int):=by
 have h:=bits_and_u64_nat a 65535 ha (by omega)
 have e:a&&& 65535=a%65536:=Nat.and_two_pow_sub_one_eq_mod a 16
 rw [e] at h
 rw [show ((65535:Nat):Int)=65535 from rfl] at h
 rw [h]
 unfold wrap64
 omega
end Go.Proofs.YthebilnlljkfeaaGreatDoor
namespace Go.Proofs.YthebilnlljkfeaaGreatDoor
open Go.RowKit
set_option maxRecDepth 20000
theorem IsD.ds {w:World} {v:Value} {n k:Nat} (h:IsD w v n k):DS w v (Dx.limbs n):=by
 obtain ⟨A,c,e,hc,hl,_⟩:=h
 exact ⟨A,c,e,hc,Dx.limbs_lt n,hl⟩
end Go.Proofs.YthebilnlljkfeaaGreatDoor
namespace Go.Proofs.YthebilnlljkfeaaGreatDoor
open Go.RowKit
namespace Rg
section
variable {ops:Array Oper} {Q:Exit→Act→World→Prop} {F:Facts} {a0:Act} {w0:World}
theorem st_D (n k:Nat):Stable (fun w v=>IsD w v n k):=fun _ _ _ h g=>h.grow g
theorem en_refCmp:Enters Tryz.prog 101:=enters_of Tryz.func101 (by kernel_rfl) rfl
theorem callRefCmp {i d x y n m k j:Nat} {ts:Array TypeId} (dx:depI ops i x=true) (dy:depI ops i y=true) (hx: ∀w v,F x w v→IsD w v n k) (hy: ∀w v,F y w v→IsD w v m j) (hk:k≤4294967296)
  (hF: ∀w v,v= .int .i64 (Mx.cmp n m)→F d w v):Owes Tryz.prog ops Q F a0 w0 i (some d) (.call {callee:= .value (.func 101),args:= #[.tmp x, .tmp y],argTypes:=ts}):=
 fun _ _ _ ho hd _ _ D=>call2 ho en_refCmp hd (refCmp_any _ _ _ _ _ _ _ hk (hx _ _ (D x dx)) (hy _ _ (D y dy))) fun _ _ ⟨v,e,h,g⟩=>⟨v,e,hF _ _ h,g⟩
theorem neg_cmp (n m:Nat):IntKind.i64.wrap (-(Mx.cmp n m))= -(Mx.cmp n m):=IntWalk.i64_in _ (by have:=Mx.cmp_bd n m;omega)
theorem negI {i d x:Nat} {m r:Int} (dx:depI ops i x=true) (hx: ∀w v,F x w v→v= .int .i64 m) (hr:IntKind.i64.wrap (-m)=r) (hF: ∀w v,v= .int .i64 r→F d w v):
  Owes Tryz.prog ops Q F a0 w0 i (some d) (.unOp .neg 3 (.tmp x)):=
 fun o a w ho hd hg ha D=>valOf (v:= .int .i64 r) (w':=w) (by
  have e:a.tmps.getD x undef= .int .i64 m:=hx _ _ (D x dx)
  simp only [Array.getD_eq_getD_getElem?] at e
  simp [execOp,ho,go_sem,Act.eval,e,hr]) hd (hF _ _ rfl) (Grow.refl w)
end
end Rg
end Go.Proofs.YthebilnlljkfeaaGreatDoor
