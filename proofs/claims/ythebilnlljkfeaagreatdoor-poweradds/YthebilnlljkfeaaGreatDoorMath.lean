/- Plain mathematics of numbers in limbs to the base 2^64: values, the canonical limbs of a number, order. No program is named here. -/
namespace Go.Proofs.YthebilnlljkfeaaGreatDoor.Mx
def B:Nat:=18446744073709551616
theorem B_eq:B=18446744073709551616:=rfl
theorem B_pos:0<B:=by rw [B_eq];omega
theorem B_one:1<B:=by rw [B_eq];omega
def val:List Nat→Nat
 | []=>0
 |x::l=>x+B*val l
theorem val_one (x:Nat):val [x]=x:=by simp [val]
theorem val_append (l r:List Nat):val (l++r)=val l+B^l.length*val r:=by
 induction l with
 |nil=>simp [val]
 |cons x l ih=>
  simp only [List.cons_append,val,ih,List.length_cons,Nat.pow_succ,Nat.mul_add]
  rw [Nat.add_assoc,Nat.mul_comm (B^l.length) B,Nat.mul_assoc]
theorem val_replicate (n:Nat):val (List.replicate n 0)=0:=by
 induction n with
 |zero=>rfl
 |succ n ih=>simp [List.replicate_succ,val,ih]
theorem val_zeros (l:List Nat) (h: ∀x∈l,x=0):val l=0:=by
 induction l with
 |nil=>rfl
 |cons x l ih=>
  simp only [val]
  rw [h x (by simp),ih fun y hy=>h y (by simp [hy])]
  simp
theorem val_lt (l:List Nat) (h: ∀x∈l,x<B):val l<B^l.length:=by
 induction l with
 |nil=>simp [val]
 |cons x l ih=>
  have hx:=h x (by simp)
  have hl:=ih fun y hy=>h y (by simp [hy])
  simp only [val,List.length_cons,Nat.pow_succ]
  have h1:B*(val l+1)≤B*B^l.length:=Nat.mul_le_mul_left B hl
  rw [Nat.mul_add,Nat.mul_one] at h1
  rw [Nat.mul_comm (B^l.length) B]
  omega
def limbsF:Nat→Nat→List Nat
 |0,_=> []
 |f+1,n=>if n=0 then [] else n%B::limbsF f (n/B)
def limbs (n:Nat):List Nat:=limbsF n n
theorem div_lt_self (n:Nat) (h:n≠0):n/B<n:=Nat.div_lt_self (Nat.pos_of_ne_zero h) B_one
theorem limbsF_eq: ∀(f g n:Nat),n≤f→n≤g→limbsF f n=limbsF g n:=by
 intro f
 induction f with
 |zero=>
  intro g n h _
  obtain rfl:n=0:=by omega
  cases g<;>simp [limbsF]
 |succ f ih=>
  intro g n h hg
  cases g with
  |zero=>
   obtain rfl:n=0:=by omega
   simp [limbsF]
  |succ g=>
   simp only [limbsF]
   by_cases h0:n=0
   ·simp [h0]
   ·rw [if_neg h0,if_neg h0]
    have:=div_lt_self n h0
    rw [ih g (n/B) (by omega) (by omega)]
theorem limbs_zero:limbs 0= []:=rfl
theorem limbs_pos (n:Nat) (h:n≠0):limbs n=n%B::limbs (n/B):=by
 unfold limbs
 cases n with
 |zero=>exact absurd rfl h
 |succ k=>
  rw [limbsF,if_neg h]
  have:=div_lt_self (k+1) h
  rw [limbsF_eq k ((k+1)/B) ((k+1)/B) (by omega) (Nat.le_refl _)]
theorem val_limbs (n:Nat):val (limbs n)=n:=by
 induction n using Nat.strongRecOn with
 |_ n ih=>
  by_cases h:n=0
  ·subst h;rfl
  ·rw [limbs_pos n h,val,ih _ (div_lt_self n h)]
   have:=Nat.mod_add_div n B
   omega
theorem limbs_lt (n:Nat): ∀x∈limbs n,x<B:=by
 induction n using Nat.strongRecOn with
 |_ n ih=>
  by_cases h:n=0
  ·subst h;simp [limbs_zero]
  ·rw [limbs_pos n h]
   intro x hx
   rcases List.mem_cons.1 hx with rfl|hx
   ·exact Nat.mod_lt _ B_pos
   ·exact ih _ (div_lt_self n h) x hx
theorem limbs_cons (x n:Nat) (hx:x<B) (h:x+B*n≠0):limbs (x+B*n)=x::limbs n:=by
 rw [limbs_pos _ h]
 have h1:(x+B*n)%B=x:=by rw [Nat.add_mul_mod_self_left,Nat.mod_eq_of_lt hx]
 have h2:(x+B*n)/B=n:=by rw [Nat.add_mul_div_left _ _ B_pos,Nat.div_eq_of_lt hx,Nat.zero_add]
 rw [h1,h2]
theorem limbs_val (l:List Nat) (h: ∀x∈l,x<B) (hl:l= []∨l.getLast?≠some 0):limbs (val l)=l:=by
 induction l with
 |nil=>rfl
 |cons x l ih=>
  have hx:=h x (by simp)
  have hr: ∀y∈l,y<B:=fun y hy=>h y (by simp [hy])
  have hlast:(x::l).getLast?≠some 0:=by
   rcases hl with hl|hl
   ·cases hl
   ·exact hl
  cases l with
  |nil=>
   have hx0:x≠0:=by simpa using hlast
   have:=limbs_cons x 0 hx (by omega)
   simpa [val,limbs_zero] using this
  |cons y r=>
   have hne:(y::r)= []∨(y::r).getLast?≠some 0:=Or.inr (by simpa using hlast)
   have e:=ih hr hne
   have hv:val (y::r)≠0:=by
    intro h0
    rw [h0] at e
    cases e
   rw [val,limbs_cons x _ hx (by have:=Nat.mul_pos B_pos (Nat.pos_of_ne_zero hv);omega),e]
theorem limbs_take (l:List Nat) (k:Nat) (hb: ∀x∈l,x<B) (hk:k≤l.length) (hz: ∀j,k≤j→j<l.length→l.getD j 0=0)
  (hl:k=0∨l.getD (k-1) 0≠0):limbs (val l)=l.take k:=by
 have h1:val l=val (l.take k):=by
  conv=>lhs;rw [←List.take_append_drop k l]
  rw [val_append,val_zeros (l.drop k),Nat.mul_zero,Nat.add_zero]
  intro x hx
  obtain ⟨i,hi,rfl⟩:=List.getElem_of_mem hx
  rw [List.getElem_drop]
  rw [List.length_drop] at hi
  have:=hz (k+i) (by omega) (by omega)
  rwa [List.getD_eq_getElem?_getD,List.getElem?_eq_getElem (by omega),Option.getD_some] at this
 rw [h1]
 refine limbs_val _ (fun x hx=>hb x (List.mem_of_mem_take hx)) ?_
 rcases Nat.eq_zero_or_pos k with h0|h0
 ·left;subst h0;simp
 ·right
  have h2:=hl.resolve_left (by omega)
  rw [List.getLast?_eq_getElem?,List.length_take,Nat.min_eq_left hk,List.getElem?_take,if_pos (by omega)]
  rw [List.getD_eq_getElem?_getD] at h2
  intro h3
  rw [h3] at h2
  exact h2 rfl
def len (n:Nat):Nat:=(limbs n).length
theorem lt_pow_len (n:Nat):n<B^len n:=by
 have:=val_lt (limbs n) (limbs_lt n)
 rwa [val_limbs] at this
theorem len_zero:len 0=0:=rfl
theorem len_pos (n:Nat) (h:n≠0):len n=len (n/B)+1:=by
 unfold len;rw [limbs_pos n h,List.length_cons]
theorem len_le_of_lt (k n:Nat) (h:n<B^k):len n≤k:=by
 induction k generalizing n with
 |zero=>
  obtain rfl:n=0:=by simpa using h
  simp [len_zero]
 |succ k ih=>
  by_cases h0:n=0
  ·subst h0;simp [len_zero]
  ·rw [len_pos n h0]
   have:n/B<B^k:=by
    rw [Nat.div_lt_iff_lt_mul B_pos]
    rwa [Nat.pow_succ] at h
   have:=ih _ this
   omega
theorem pow_le_of_len (n:Nat) (h:n≠0):B^(len n-1)≤n:=by
 rcases Nat.lt_or_ge n (B^(len n-1)) with hlt|hge
 ·have:=len_le_of_lt _ _ hlt
  have:=len_pos n h
  omega
 ·exact hge
theorem len_mono {n m:Nat} (h:n≤m):len n≤len m:=len_le_of_lt _ _ (Nat.lt_of_le_of_lt h (lt_pow_len m))
theorem lt_of_len {n m:Nat} (h:len n<len m):n<m:=by
 rcases Nat.lt_or_ge n m with hlt|hge
 ·exact hlt
 ·have:=len_mono hge
  omega
theorem len_add (n m:Nat):len (n+m)≤max (len n) (len m)+1:=by
 apply len_le_of_lt
 have h1:n<B^max (len n) (len m):=Nat.lt_of_lt_of_le (lt_pow_len n) (Nat.pow_le_pow_right B_pos (Nat.le_max_left _ _))
 have h2:m<B^max (len n) (len m):=Nat.lt_of_lt_of_le (lt_pow_len m) (Nat.pow_le_pow_right B_pos (Nat.le_max_right _ _))
 rw [Nat.pow_succ]
 have h3:B^max (len n) (len m)*2≤B^max (len n) (len m)*B:=Nat.mul_le_mul_left _ B_one
 omega
theorem len_mul (n m:Nat):len (n*m)≤len n+len m:=by
 apply len_le_of_lt
 rw [Nat.pow_add]
 exact Nat.mul_lt_mul'' (lt_pow_len n) (lt_pow_len m)
theorem len_val (l:List Nat) (h: ∀x∈l,x<B):len (val l)≤l.length:=len_le_of_lt _ _ (val_lt l h)
theorem len_sub (n m:Nat):len (n-m)≤len n:=len_mono (Nat.sub_le _ _)
theorem limbs_inj {n m:Nat} (h:limbs n=limbs m):n=m:=by rw [←val_limbs n,←val_limbs m,h]
theorem eq_zero_of_len {n:Nat} (h:len n=0):n=0:=by
 have:=lt_pow_len n
 rw [h] at this
 simpa using this
theorem limbs_ne {n:Nat} (h:0<len n):limbs n≠ []:=by
 intro e
 have:len n=0:=by unfold len;rw [e];rfl
 omega
theorem limbs_val_take (l:List Nat) (hb: ∀x∈l,x<B):limbs (val l)=l.take (len (val l)):=by
 obtain ⟨k,hk,hz,hl⟩: ∃k,k≤l.length∧(∀j,k≤j→j<l.length→l.getD j 0=0)∧(k=0∨l.getD (k-1) 0≠0):=by
  have key: ∀m,m≤l.length→(∀j,m≤j→j<l.length→l.getD j 0=0)→ ∃k,k≤l.length∧(∀j,k≤j→j<l.length→l.getD j 0=0)∧(k=0∨l.getD (k-1) 0≠0):=by
   intro m
   induction m with
   |zero=>intro h1 h2;exact ⟨0,h1,h2, .inl rfl⟩
   |succ m ih=>
    intro h1 h2
    by_cases h0:l.getD m 0=0
    ·refine ih (by omega) fun j h3 h4=> ?_
     rcases Nat.lt_or_ge m j with h5|h5
     ·exact h2 j (by omega) h4
     ·obtain rfl:j=m:=by omega
      exact h0
    ·exact ⟨m+1,h1,h2, .inr (by simpa using h0)⟩
  exact key l.length (Nat.le_refl _) fun j h1 h2=>by omega
 have e:=limbs_take l k hb hk hz hl
 have e2:len (val l)=k:=by unfold len;rw [e,List.length_take,Nat.min_eq_left hk]
 rw [e2,e]
theorem val_take_lt (l r:List Nat) (k:Nat) (hl:k<l.length) (hr:k<r.length) (hlen:l.length=r.length) (hb: ∀x∈l,x<B)
  (he: ∀j,k<j→l.getD j 0=r.getD j 0) (hlt:l.getD k 0<r.getD k 0):val l<val r:=by
 induction l generalizing r k with
 |nil=>simp at hl
 |cons x l ih=>
  cases r with
  |nil=>simp at hr
  |cons y r=>
   simp only [List.length_cons,Nat.add_right_cancel_iff] at hlen
   have hx:=hb x (by simp)
   have hbl: ∀z∈l,z<B:=fun z hz=>hb z (by simp [hz])
   simp only [val]
   cases k with
   |zero=>
    have e:l=r:=by
     apply List.ext_getElem hlen
     intro i h1 h2
     have:=he (i+1) (by omega)
     simp only [List.getD_cons_succ] at this
     rwa [List.getD_eq_getElem?_getD,List.getD_eq_getElem?_getD,List.getElem?_eq_getElem h1,List.getElem?_eq_getElem h2,Option.getD_some,Option.getD_some] at this
    subst e
    simp only [List.getD_cons_zero] at hlt
    omega
   |succ k=>
    have:=ih r k (by simpa using hl) (by simpa using hr) hlen hbl (fun j hj=>by have:=he (j+1) (by omega);simpa using this) (by simpa using hlt)
    have h2:B*(val l+1)≤B*val r:=Nat.mul_le_mul_left B this
    rw [Nat.mul_add] at h2
    omega
theorem ext_getD (l r:List Nat) (hlen:l.length=r.length) (he: ∀j,j<l.length→l.getD j 0=r.getD j 0):l=r:=by
 apply List.ext_getElem hlen
 intro i h1 h2
 have:=he i h1
 rwa [List.getD_eq_getElem?_getD,List.getD_eq_getElem?_getD,List.getElem?_eq_getElem h1,List.getElem?_eq_getElem h2,Option.getD_some,Option.getD_some] at this
theorem getD_lt (l:List Nat) (h: ∀x∈l,x<B) (j:Nat):l.getD j 0<B:=by
 rw [List.getD_eq_getElem?_getD]
 cases h1:l[j]? with
 |none=>exact B_pos
 |some x=>exact h x (List.mem_of_getElem? h1)
def cmp (n m:Nat):Int:=if n<m then -1 else if n=m then 0 else 1
theorem cmp_lt {n m:Nat} (h:n<m):cmp n m= -1:=if_pos h
theorem cmp_gt {n m:Nat} (h:m<n):cmp n m=1:=by unfold cmp;rw [if_neg (by omega),if_neg (by omega)]
theorem cmp_self (n:Nat):cmp n n=0:=by unfold cmp;rw [if_neg (by omega),if_pos rfl]
theorem cmp_eq {n m:Nat} (h:n=m):cmp n m=0:=by subst h;exact cmp_self n
theorem cmp_bd (n m:Nat): -1≤cmp n m∧cmp n m≤1:=by unfold cmp;split<;>(try split)<;>omega
def addLo (x y c:Nat):Nat:=(x+y+c)%B
def addHi (x y c:Nat):Nat:=(x+y+c)/B
theorem addLo_lt (x y c:Nat):addLo x y c<B:=Nat.mod_lt _ B_pos
theorem addHi_le {x y c:Nat} (hx:x<B) (hy:y<B) (hc:c≤1):addHi x y c≤1:=by
 have:addHi x y c<2:=by
  unfold addHi
  rw [Nat.div_lt_iff_lt_mul B_pos]
  omega
 omega
theorem add_split (x y c:Nat):addLo x y c+B*addHi x y c=x+y+c:=Nat.mod_add_div _ _
def addTo (l r:List Nat):Nat→List Nat×Nat
 |0=>([],0)
 |i+1=>((addTo l r i).1++ [addLo (l.getD i 0) (r.getD i 0) (addTo l r i).2],addHi (l.getD i 0) (r.getD i 0) (addTo l r i).2)
theorem addTo_length (l r:List Nat) (i:Nat):(addTo l r i).1.length=i:=by
 induction i with
 |zero=>rfl
 |succ i ih=>simp [addTo,ih]
theorem addTo_lt (l r:List Nat) (i:Nat): ∀x∈(addTo l r i).1,x<B:=by
 induction i with
 |zero=>simp [addTo]
 |succ i ih=>
  intro x hx
  simp only [addTo,List.mem_append,List.mem_singleton] at hx
  rcases hx with hx|rfl
  ·exact ih x hx
  ·exact addLo_lt _ _ _
theorem addTo_carry {l r:List Nat} (hl: ∀x∈l,x<B) (hr: ∀x∈r,x<B) (i:Nat):(addTo l r i).2≤1:=by
 induction i with
 |zero=>simp [addTo]
 |succ i ih=>exact addHi_le (getD_lt l hl i) (getD_lt r hr i) ih
theorem val_take_succ (l:List Nat) (i:Nat):val (l.take (i+1))=val (l.take i)+B^i*l.getD i 0:=by
 rcases Nat.lt_or_ge i l.length with h|h
 ·rw [List.take_succ_eq_append_getElem h,val_append,List.length_take,Nat.min_eq_left (by omega)]
  rw [List.getD_eq_getElem?_getD,List.getElem?_eq_getElem h]
  simp [val]
 ·rw [List.take_of_length_le (by omega),List.take_of_length_le h,List.getD_eq_getElem?_getD,List.getElem?_eq_none h]
  simp
theorem addTo_val (l r:List Nat) (i:Nat):val (addTo l r i).1+B^i*(addTo l r i).2=val (l.take i)+val (r.take i):=by
 induction i with
 |zero=>simp [addTo,val]
 |succ i ih=>
  rw [val_take_succ,val_take_succ]
  simp only [addTo]
  rw [val_append,addTo_length]
  have h:=add_split (l.getD i 0) (r.getD i 0) (addTo l r i).2
  generalize addLo (l.getD i 0) (r.getD i 0) (addTo l r i).2=lo at*
  generalize addHi (l.getD i 0) (r.getD i 0) (addTo l r i).2=hi at*
  simp only [val,Nat.mul_zero,Nat.add_zero,Nat.pow_succ]
  have h2:B^i*(lo+B*hi)=B^i*(l.getD i 0+r.getD i 0+(addTo l r i).2):=by rw [h]
  rw [Nat.mul_add,Nat.mul_add,Nat.mul_add] at h2
  rw [Nat.mul_assoc (B^i) B hi]
  omega
theorem addTo_all (l r:List Nat) (h:r.length≤l.length):val ((addTo l r l.length).1++ [(addTo l r l.length).2])=val l+val r:=by
 rw [val_append,addTo_length]
 have:=addTo_val l r l.length
 rw [List.take_length,List.take_of_length_le h] at this
 simpa [val] using this
def subLo (x y b:Nat):Nat:=(x+B-y-b)%B
def subHi (x y b:Nat):Nat:=if x<y+b then 1 else 0
theorem subLo_lt (x y b:Nat):subLo x y b<B:=Nat.mod_lt _ B_pos
theorem subHi_le (x y b:Nat):subHi x y b≤1:=by unfold subHi;split<;>omega
theorem sub_split {x y b:Nat} (hx:x<B) (hy:y<B) (hb:b≤1):subLo x y b+y+b=x+B*subHi x y b:=by
 unfold subLo subHi
 rw [B_eq] at*
 split<;>omega
def subTo (l r:List Nat):Nat→List Nat×Nat
 |0=>([],0)
 |i+1=>((subTo l r i).1++ [subLo (l.getD i 0) (r.getD i 0) (subTo l r i).2],subHi (l.getD i 0) (r.getD i 0) (subTo l r i).2)
theorem subTo_length (l r:List Nat) (i:Nat):(subTo l r i).1.length=i:=by
 induction i with
 |zero=>rfl
 |succ i ih=>simp [subTo,ih]
theorem subTo_lt (l r:List Nat) (i:Nat): ∀x∈(subTo l r i).1,x<B:=by
 induction i with
 |zero=>simp [subTo]
 |succ i ih=>
  intro x hx
  simp only [subTo,List.mem_append,List.mem_singleton] at hx
  rcases hx with hx|rfl
  ·exact ih x hx
  ·exact subLo_lt _ _ _
theorem subTo_borrow (l r:List Nat) (i:Nat):(subTo l r i).2≤1:=by
 cases i with
 |zero=>simp [subTo]
 |succ i=>exact subHi_le _ _ _
theorem sub_step {P lo y b x hi s rt lt:Nat} (h:lo+y+b=x+B*hi) (ih:s+rt=lt+P*b):s+P*lo+(rt+P*y)=lt+P*x+P*B*hi:=by
 have h2:P*(lo+y+b)=P*(x+B*hi):=by rw [h]
 rw [Nat.mul_add,Nat.mul_add,Nat.mul_add,←Nat.mul_assoc] at h2
 omega
theorem subTo_val {l r:List Nat} (hl: ∀x∈l,x<B) (hr: ∀x∈r,x<B) (i:Nat):val (subTo l r i).1+val (r.take i)=val (l.take i)+B^i*(subTo l r i).2:=by
 induction i with
 |zero=>simp [subTo,val]
 |succ i ih=>
  rw [val_take_succ,val_take_succ]
  have h:=sub_split (getD_lt l hl i) (getD_lt r hr i) (subTo_borrow l r i)
  have e1:(subTo l r (i+1)).1=(subTo l r i).1++ [subLo (l.getD i 0) (r.getD i 0) (subTo l r i).2]:=rfl
  have e2:(subTo l r (i+1)).2=subHi (l.getD i 0) (r.getD i 0) (subTo l r i).2:=rfl
  have e3:val [subLo (l.getD i 0) (r.getD i 0) (subTo l r i).2]=subLo (l.getD i 0) (r.getD i 0) (subTo l r i).2:=val_one _
  rw [e1,e2,val_append,subTo_length,e3,Nat.pow_succ]
  exact sub_step h ih
theorem subTo_all (l r:List Nat) (hl: ∀x∈l,x<B) (hr: ∀x∈r,x<B) (h:r.length≤l.length) (hle:val r≤val l):val (subTo l r l.length).1=val l-val r:=by
 have h1:=subTo_val hl hr l.length
 rw [List.take_length,List.take_of_length_le h] at h1
 have h2:=val_lt (subTo l r l.length).1 (subTo_lt l r _)
 rw [subTo_length] at h2
 have h3:=subTo_borrow l r l.length
 have h4:(subTo l r l.length).2=0:=by
  rcases Nat.eq_zero_or_pos (subTo l r l.length).2 with h0|h0
  ·exact h0
  ·have e:(subTo l r l.length).2=1:=by omega
   rw [e,Nat.mul_one] at h1
   omega
 rw [h4,Nat.mul_zero] at h1
 omega
def mulLo (x y:Nat):Nat:=x*y%B
def mulHi (x y:Nat):Nat:=x*y/B
def macLo (x y s c:Nat):Nat:=(x*y+s+c)%B
def macHi (x y s c:Nat):Nat:=(x*y+s+c)/B
theorem macLo_lt (x y s c:Nat):macLo x y s c<B:=Nat.mod_lt _ B_pos
theorem mac_split (x y s c:Nat):macLo x y s c+B*macHi x y s c=x*y+s+c:=Nat.mod_add_div _ _
theorem mac_bound {x y s c:Nat} (hx:x<B) (hy:y<B) (hs:s<B) (hc:c<B):x*y+s+c<B*B:=by
 have h:x*y≤(B-1)*(B-1):=Nat.mul_le_mul (by omega) (by omega)
 have h2:(B-1)*(B-1)+2*(B-1)+1=B*B:=by rw [B_eq]
 omega
theorem macHi_lt {x y s c:Nat} (hx:x<B) (hy:y<B) (hs:s<B) (hc:c<B):macHi x y s c<B:=by
 unfold macHi
 rw [Nat.div_lt_iff_lt_mul B_pos]
 exact mac_bound hx hy hs hc
theorem div_mod_unique {q r a:Nat} (h:r+B*q=a) (hr:r<B):r=a%B∧q=a/B:=by
 subst h
 exact ⟨by rw [Nat.add_mul_mod_self_left,Nat.mod_eq_of_lt hr],by rw [Nat.add_mul_div_left _ _ B_pos,Nat.div_eq_of_lt hr,Nat.zero_add]⟩
theorem mac_parts {x y s c l0 h0 a1 o1 a2 o2:Nat} (h1:l0+B*h0=x*y) (h2:a1+B*o1=l0+s) (h3:a2+B*o2=a1+c) (ha:a2<B):
  a2=macLo x y s c∧h0+o1+o2=macHi x y s c:=by
 apply div_mod_unique _ ha
 rw [Nat.mul_add,Nat.mul_add]
 omega
def mulTo (s l:List Nat) (x:Nat):Nat→List Nat×Nat
 |0=>([],0)
 |i+1=>((mulTo s l x i).1++ [macLo x (l.getD i 0) (s.getD i 0) (mulTo s l x i).2],macHi x (l.getD i 0) (s.getD i 0) (mulTo s l x i).2)
theorem mulTo_length (s l:List Nat) (x i:Nat):(mulTo s l x i).1.length=i:=by
 induction i with
 |zero=>rfl
 |succ i ih=>simp [mulTo,ih]
theorem mulTo_lt (s l:List Nat) (x i:Nat): ∀y∈(mulTo s l x i).1,y<B:=by
 induction i with
 |zero=>simp [mulTo]
 |succ i ih=>
  intro y hy
  simp only [mulTo,List.mem_append,List.mem_singleton] at hy
  rcases hy with hy|rfl
  ·exact ih y hy
  ·exact macLo_lt _ _ _ _
theorem mulTo_carry {s l:List Nat} {x:Nat} (hs: ∀y∈s,y<B) (hl: ∀y∈l,y<B) (hx:x<B) (i:Nat):(mulTo s l x i).2<B:=by
 induction i with
 |zero=>exact B_pos
 |succ i ih=>exact macHi_lt hx (getD_lt l hl i) (getD_lt s hs i) ih
theorem mul_step {P lo hi x y s c m st lt:Nat} (h:lo+B*hi=x*y+s+c) (ih:m+P*c=st+x*lt):m+P*lo+P*B*hi=st+P*s+x*(lt+P*y):=by
 have h2:P*(lo+B*hi)=P*(x*y+s+c):=by rw [h]
 rw [Nat.mul_add,Nat.mul_add,Nat.mul_add,←Nat.mul_assoc] at h2
 rw [Nat.mul_add x,Nat.mul_left_comm x P y]
 omega
theorem mulTo_val (s l:List Nat) (x i:Nat):val (mulTo s l x i).1+B^i*(mulTo s l x i).2=val (s.take i)+x*val (l.take i):=by
 induction i with
 |zero=>simp [mulTo,val]
 |succ i ih=>
  rw [val_take_succ,val_take_succ]
  have h:=mac_split x (l.getD i 0) (s.getD i 0) (mulTo s l x i).2
  have e1:(mulTo s l x (i+1)).1=(mulTo s l x i).1++ [macLo x (l.getD i 0) (s.getD i 0) (mulTo s l x i).2]:=rfl
  have e2:(mulTo s l x (i+1)).2=macHi x (l.getD i 0) (s.getD i 0) (mulTo s l x i).2:=rfl
  have e3:val [macLo x (l.getD i 0) (s.getD i 0) (mulTo s l x i).2]=macLo x (l.getD i 0) (s.getD i 0) (mulTo s l x i).2:=val_one _
  rw [e1,e2,val_append,mulTo_length,e3,Nat.pow_succ]
  exact mul_step h ih
theorem mulTo_congr {s t l:List Nat} {x:Nat} (i:Nat) (h: ∀j,j<i→s.getD j 0=t.getD j 0):mulTo s l x i=mulTo t l x i:=by
 induction i with
 |zero=>rfl
 |succ i ih=>
  have e:=ih fun j hj=>h j (by omega)
  have e2:=h i (by omega)
  show (_,_)=(_,_)
  rw [e,e2]
theorem mulTo_drop (Q Z l:List Nat) (x i:Nat) (h:i+l.length≤Q.length):mulTo ((Q++Z).drop i) l x l.length=mulTo (Q.drop i) l x l.length:=by
 apply mulTo_congr
 intro j hj
 rw [List.getD_eq_getElem?_getD,List.getD_eq_getElem?_getD,List.getElem?_drop,List.getElem?_drop,List.getElem?_append_left (by omega)]
def patch (L:List Nat) (o:Nat) (r:List Nat):List Nat:=L.take o++r++L.drop (o+r.length)
theorem patch_nil (L:List Nat) (o:Nat):patch L o []=L:=by simp [patch]
theorem patch_length {L r:List Nat} {o:Nat} (h:o+r.length≤L.length):(patch L o r).length=L.length:=by
 simp [patch];omega
theorem patch_getD {L r:List Nat} {o:Nat} (h:o+r.length<L.length):(patch L o r).getD (o+r.length) 0=L.getD (o+r.length) 0:=by
 unfold patch
 have h1:(L.take o).length=o:=by rw [List.length_take];omega
 rw [List.getD_eq_getElem?_getD,List.getD_eq_getElem?_getD,List.getElem?_append_right (by rw [List.length_append,h1];omega),List.length_append,h1,Nat.sub_self,List.getElem?_drop,Nat.add_zero]
theorem patch_set {L r:List Nat} {o x:Nat} (h:o+r.length<L.length):(patch L o r).set (o+r.length) x=patch L o (r++ [x]):=by
 unfold patch
 have h1:(L.take o).length=o:=by rw [List.length_take];omega
 rw [List.set_append_right _ _ (by rw [List.length_append,h1];omega),List.length_append,h1,Nat.sub_self]
 rw [List.drop_eq_getElem_cons h,List.set_cons_zero]
 simp [Nat.add_assoc]
def mulList (nl ml:List Nat):Nat→List Nat
 |0=>List.replicate ml.length 0
 |i+1=>(mulList nl ml i).take i++(mulTo ((mulList nl ml i).drop i) ml (nl.getD i 0) ml.length).1++ [(mulTo ((mulList nl ml i).drop i) ml (nl.getD i 0) ml.length).2]
theorem mulList_length (nl ml:List Nat) (i:Nat):(mulList nl ml i).length=i+ml.length:=by
 induction i with
 |zero=>simp [mulList]
 |succ i ih=>
  simp only [mulList,List.length_append,List.length_take,ih,mulTo_length,List.length_singleton]
  omega
theorem mulList_lt {nl ml:List Nat} (hn: ∀y∈nl,y<B) (hm: ∀y∈ml,y<B) (i:Nat): ∀y∈mulList nl ml i,y<B:=by
 induction i with
 |zero=>
  intro y hy
  simp only [mulList,List.mem_replicate] at hy
  rw [hy.2];exact B_pos
 |succ i ih=>
  intro y hy
  simp only [mulList,List.mem_append,List.mem_singleton] at hy
  rcases hy with (hy|hy)|rfl
  ·exact ih y (List.mem_of_mem_take hy)
  ·exact mulTo_lt _ _ _ _ y hy
  ·exact mulTo_carry (fun z hz=>ih z (List.mem_of_mem_drop hz)) hm (getD_lt nl hn i) _
theorem mulList_val (nl ml:List Nat) (i:Nat):val (mulList nl ml i)=val (nl.take i)*val ml:=by
 induction i with
 |zero=>simp [mulList,val_replicate,val]
 |succ i ih=>
  have hq:=mulList_length nl ml i
  have h1:((mulList nl ml i).take i).length=i:=by rw [List.length_take];omega
  have h2:=mulTo_val ((mulList nl ml i).drop i) ml (nl.getD i 0) ml.length
  rw [List.take_of_length_le (by rw [List.length_drop];omega),List.take_length] at h2
  have h3:val (mulList nl ml i)=val ((mulList nl ml i).take i)+B^i*val ((mulList nl ml i).drop i):=by
   conv=>lhs;rw [←List.take_append_drop i (mulList nl ml i)]
   rw [val_append,h1]
  rw [val_take_succ]
  have e:mulList nl ml (i+1)=(mulList nl ml i).take i++(mulTo ((mulList nl ml i).drop i) ml (nl.getD i 0) ml.length).1++ [(mulTo ((mulList nl ml i).drop i) ml (nl.getD i 0) ml.length).2]:=rfl
  rw [e,List.append_assoc,val_append,h1,val_append,mulTo_length,val_one,h2,Nat.mul_add,←Nat.add_assoc,←h3,ih,Nat.add_mul,Nat.mul_assoc (B^i)]
theorem mulList_all (n m:Nat):val (mulList (limbs n) (limbs m) (len n))=n*m:=by
 have:=mulList_val (limbs n) (limbs m) (len n)
 rw [show (limbs n).take (len n)=limbs n from List.take_length,val_limbs,val_limbs] at this
 exact this
def bits (n:Nat):Nat:=if n=0 then 0 else Nat.log2 n+1
theorem bits_zero:bits 0=0:=rfl
theorem bits_unique {n k:Nat} (h1:2^k≤n) (h2:n<2^(k+1)):bits n=k+1:=by
 have h0:n≠0:=by
  intro e;subst e
  have:=Nat.two_pow_pos k
  omega
 unfold bits
 rw [if_neg h0]
 have a:Nat.log2 n<k+1:=(Nat.log2_lt h0).2 h2
 have b:k≤Nat.log2 n:=by
  rcases Nat.lt_or_ge (Nat.log2 n) k with h|h
  ·have:=(Nat.log2_lt h0).1 h
   omega
  ·exact h
 omega
theorem bits_lt (n:Nat):n<2^bits n:=by
 unfold bits
 split
 ·next h=>subst h;simp
 ·next h=>exact (Nat.log2_lt h).1 (by omega)
theorem bits_le {n:Nat} (h:n≠0):2^(bits n-1)≤n:=by
 unfold bits
 rw [if_neg h,Nat.add_sub_cancel]
 exact Nat.log2_self_le h
theorem bits_pos {n:Nat} (h:n≠0):0<bits n:=by unfold bits;rw [if_neg h];omega
theorem bits_eq_zero {n:Nat}:bits n=0↔n=0:=by
 constructor
 ·intro h
  rcases Nat.eq_zero_or_pos n with h0|h0
  ·exact h0
  ·have:=bits_pos (n:=n) (by omega);omega
 ·rintro rfl;rfl
theorem bits_le_of_lt {n k:Nat} (h:n<2^k):bits n≤k:=by
 by_cases h0:n=0
 ·subst h0;simp [bits_zero]
 ·rcases Nat.lt_or_ge k (bits n) with h1|h1
  ·have h2:=bits_le h0
   have h3:2^k≤2^(bits n-1):=Nat.pow_le_pow_right (by omega) (by omega)
   omega
  ·exact h1
theorem bits_mono {n m:Nat} (h:n≤m):bits n≤bits m:=bits_le_of_lt (Nat.lt_of_le_of_lt h (bits_lt m))
theorem bits_double {n:Nat} (h:n≠0):bits (n+n)=bits n+1:=by
 have h1:=bits_le h
 have h2:=bits_lt n
 have h3:=bits_pos h
 refine bits_unique ?_ ?_
 ·have:2^bits n=2^(bits n-1)*2:=by rw [←Nat.pow_succ];congr 1;omega
  omega
 ·rw [Nat.pow_succ];omega
theorem bits_mul {n m:Nat} (hn:n≠0) (hm:m≠0):bits (n*m)=bits n+bits m∨bits (n*m)=bits n+bits m-1:=by
 have h1:=bits_le hn
 have h2:=bits_le hm
 have h3:=bits_lt n
 have h4:=bits_lt m
 have p1:=bits_pos hn
 have p2:=bits_pos hm
 have h5:n*m<2^(bits n+bits m):=by rw [Nat.pow_add];exact Nat.mul_lt_mul'' h3 h4
 have h6:2^(bits n-1+(bits m-1))≤n*m:=by rw [Nat.pow_add];exact Nat.mul_le_mul h1 h2
 rcases Nat.lt_or_ge (n*m) (2^(bits n+bits m-1)) with h|h
 ·right
  have:=bits_unique h6 (by rw [show bits n-1+(bits m-1)+1=bits n+bits m-1 by omega];exact h)
  omega
 ·left
  have:=bits_unique h (by rw [show bits n+bits m-1+1=bits n+bits m by omega];exact h5)
  omega
theorem B_pow (k:Nat):B^k=2^(64*k):=by rw [Nat.pow_mul];rfl
theorem bits_limbs {n:Nat} (h:n≠0):bits n=64*(len n-1)+bits ((limbs n).getD (len n-1) 0)∧(limbs n).getD (len n-1) 0≠0:=by
 have hl:0<len n:=by
  rcases Nat.eq_zero_or_pos (len n) with h0|h0
  ·exact absurd (eq_zero_of_len h0) h
  ·exact h0
 have e:n=val ((limbs n).take (len n-1))+B^(len n-1)*(limbs n).getD (len n-1) 0:=by
  have:=val_take_succ (limbs n) (len n-1)
  rw [show len n-1+1=len n by omega,show (limbs n).take (len n)=limbs n from List.take_length,val_limbs] at this
  exact this
 have hb:val ((limbs n).take (len n-1))<B^(len n-1):=by
  have:=val_lt ((limbs n).take (len n-1)) (fun x hx=>limbs_lt n x (List.mem_of_mem_take hx))
  rwa [List.length_take,Nat.min_eq_left (by unfold len;omega)] at this
 have hx0:(limbs n).getD (len n-1) 0≠0:=by
  intro hx
  rw [hx,Nat.mul_zero,Nat.add_zero] at e
  have:=pow_le_of_len n h
  omega
 refine ⟨?_,hx0⟩
 generalize (limbs n).getD (len n-1) 0=x at*
 generalize val ((limbs n).take (len n-1))=r at*
 generalize len n-1=k at*
 rw [B_pow] at e hb
 have h1:=bits_le hx0
 have h2:=bits_lt x
 have h3:=bits_pos hx0
 have e2:64*k+bits x=(64*k+(bits x-1))+1:=by omega
 rw [e2]
 refine bits_unique ?_ ?_
 ·rw [Nat.pow_add]
  have:=Nat.mul_le_mul_left (2^(64*k)) h1
  omega
 ·rw [←e2,Nat.pow_add]
  have:2^(64*k)*(x+1)≤2^(64*k)*2^bits x:=Nat.mul_le_mul_left _ h2
  rw [Nat.mul_add,Nat.mul_one] at this
  omega
theorem bits_len (n:Nat):bits n≤64*len n:=by
 apply bits_le_of_lt
 rw [←B_pow]
 exact lt_pow_len n
end Go.Proofs.YthebilnlljkfeaaGreatDoor.Mx
