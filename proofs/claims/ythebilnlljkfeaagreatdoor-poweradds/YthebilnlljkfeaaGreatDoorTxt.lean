/- Mathematics of decimal texts: a number's last k digits, its text, what a text says. No program. -/
import Derived.Test.YthebilnlljkfeaaGreatDoorMath
namespace Go.Proofs.YthebilnlljkfeaaGreatDoor.Tx
def dgt:Nat→Nat→List UInt8
 |0,_=> []
 |k+1,n=>dgt k (n/10)++ [UInt8.ofNat (48+n%10)]
theorem dgt_succ (k n:Nat):dgt (k+1) n=dgt k (n/10)++ [UInt8.ofNat (48+n%10)]:=rfl
theorem dgt_length: ∀k n:Nat,(dgt k n).length=k
 |0,_=>rfl
 |k+1,n=>by rw [dgt_succ,List.length_append,dgt_length k];rfl
theorem dgt_add (a:Nat): ∀b n:Nat,dgt (a+b) n=dgt a (n/10^b)++dgt b n
 |0,n=>by simp [dgt]
 |b+1,n=>by
  rw [←Nat.add_assoc,dgt_succ,dgt_succ,dgt_add a b,List.append_assoc,Nat.div_div_eq_div_mul,Nat.pow_succ,Nat.mul_comm 10]
theorem dgt_mod: ∀k n:Nat,dgt k (n%10^k)=dgt k n
 |0,_=>rfl
 |k+1,n=>by
  have h1:n%10^(k+1)/10=n/10%10^k:=by rw [Nat.pow_succ,Nat.mul_comm,Nat.mod_mul_right_div_self]
  have h2:n%10^(k+1)%10=n%10:=Nat.mod_mod_of_dvd _ (Nat.dvd_of_mod_eq_zero (by rw [Nat.pow_succ,Nat.mul_mod_left]))
  rw [dgt_succ,dgt_succ,h1,h2,dgt_mod k]
theorem digit_toNat (x:Nat):(UInt8.ofNat (48+x%10)).toNat=48+x%10:=by
 rw [UInt8.toNat_ofNat']
 omega
def isDig (b:UInt8):Prop:=48≤b.toNat∧b.toNat≤57
instance (b:UInt8):Decidable (isDig b):=inferInstanceAs (Decidable (_∧_))
theorem dgt_dig: ∀k n:Nat,∀b∈dgt k n,isDig b
 |0,_,_,h=>by cases h
 |k+1,n,b,h=>by
  rw [dgt_succ,List.mem_append] at h
  rcases h with h|h
  ·exact dgt_dig k _ b h
  ·rw [List.mem_singleton] at h
   subst h
   unfold isDig
   rw [digit_toNat]
   omega
def rd (l:List UInt8):Nat:=l.foldl (fun a b=>10*a+(b.toNat-48)) 0
theorem rd_snoc (l:List UInt8) (b:UInt8):rd (l++ [b])=10*rd l+(b.toNat-48):=by simp [rd]
theorem rd_nil:rd []=0:=rfl
theorem rd_append (a:List UInt8): ∀b:List UInt8,rd (a++b)=rd a*10^b.length+rd b:=by
 intro b
 generalize hk:b.length=k
 induction k generalizing b with
 |zero=>
  have:b= []:=List.length_eq_zero_iff.1 hk
  subst this
  simp [rd_nil]
 |succ k ih=>
  rcases List.eq_nil_or_concat b with rfl|⟨b',c,rfl⟩
  ·cases hk
  ·have hk':b'.length=k:=by simpa using hk
   rw [List.concat_eq_append,←List.append_assoc,rd_snoc,rd_snoc,ih b' hk',Nat.pow_succ,Nat.mul_add]
   grind
theorem rd_dgt: ∀k n:Nat,rd (dgt k n)=n%10^k
 |0,n=>by simp [dgt,rd,Nat.mod_one]
 |k+1,n=>by
  rw [dgt_succ,rd_snoc,rd_dgt k,digit_toNat,Nat.pow_succ,Nat.mul_comm (10^k),Nat.mod_mul]
  omega
theorem rd_lt: ∀l:List UInt8,(∀b∈l,isDig b)→rd l<10^l.length:=by
 intro l
 generalize hk:l.length=k
 induction k generalizing l with
 |zero=>
  have:l= []:=List.length_eq_zero_iff.1 hk
  subst this
  intro _
  decide
 |succ k ih=>
  intro h
  rcases List.eq_nil_or_concat l with rfl|⟨b',c,rfl⟩
  ·cases hk
  ·have hk':b'.length=k:=by simpa using hk
   have h1:=ih b' hk' (fun b hb=>h b (by simp [hb]))
   have h2:isDig c:=h c (by simp)
   rw [List.concat_eq_append,rd_snoc,Nat.pow_succ]
   unfold isDig at h2
   omega
theorem dgt_rd: ∀l:List UInt8,(∀b∈l,isDig b)→dgt l.length (rd l)=l:=by
 intro l
 generalize hk:l.length=k
 induction k generalizing l with
 |zero=>
  have:l= []:=List.length_eq_zero_iff.1 hk
  subst this
  intro _
  rfl
 |succ k ih=>
  intro h
  rcases List.eq_nil_or_concat l with rfl|⟨b',c,rfl⟩
  ·cases hk
  ·have hk':b'.length=k:=by simpa using hk
   have h1:=ih b' hk' (fun b hb=>h b (by simp [hb]))
   have h2:isDig c:=h c (by simp)
   unfold isDig at h2
   rw [List.concat_eq_append,rd_snoc,dgt_succ]
   have e1:(10*rd b'+(c.toNat-48))/10=rd b':=by omega
   have e2:48+(10*rd b'+(c.toNat-48))%10=c.toNat:=by omega
   rw [e1,e2,h1]
   simp
theorem dgt_zero: ∀k:Nat,dgt k 0=List.replicate k 48
 |0=>rfl
 |k+1=>by
  rw [dgt_succ,Nat.zero_div,dgt_zero k,List.replicate_succ']
  rfl
def digs (n:Nat):Nat:=if n<10 then 1 else digs (n/10)+1
theorem digs_small {n:Nat} (h:n<10):digs n=1:=by rw [digs,if_pos h]
theorem digs_great {n:Nat} (h:10≤n):digs n=digs (n/10)+1:=by rw [digs,if_neg (by omega)]
theorem digs_pos (n:Nat):1≤digs n:=by
 rw [digs];split<;>omega
theorem lt_digs (n:Nat):n<10^digs n:=by
 induction n using Nat.strongRecOn with
 |_ n ih=>
  rcases Nat.lt_or_ge n 10 with h|h
  ·rw [digs_small h];omega
  ·rw [digs_great h,Nat.pow_succ]
   have:=ih (n/10) (by omega)
   omega
theorem digs_le (n:Nat) (hn:n≠0):10^(digs n-1)≤n:=by
 induction n using Nat.strongRecOn with
 |_ n ih=>
  rcases Nat.lt_or_ge n 10 with h|h
  ·rw [digs_small h];simp;omega
  ·have h1:=ih (n/10) (by omega) (by omega)
   have h2:=digs_pos (n/10)
   rw [digs_great h,Nat.add_sub_cancel]
   have:digs (n/10)=digs (n/10) -1+1:=by omega
   rw [this,Nat.pow_succ]
   omega
theorem pow_lt {a b:Nat} (h:10^a<10^b):a<b:=(Nat.pow_lt_pow_iff_right (by decide)).1 h
theorem digs_unique {n k:Nat} (h1:10^k≤n) (h2:n<10^(k+1)):digs n=k+1:=by
 have hn:n≠0:=by
  have:0<10^k:=Nat.pow_pos (by decide)
  omega
 have a:=lt_digs n
 have b:=digs_le n hn
 have c:=pow_lt (Nat.lt_of_le_of_lt h1 a)
 have d:=pow_lt (Nat.lt_of_le_of_lt b h2)
 have:=digs_pos n
 omega
theorem digs_le_of_lt {n k:Nat} (hk:1≤k) (h:n<10^k):digs n≤k:=by
 rcases Nat.eq_zero_or_pos n with rfl|hn
 ·rw [digs_small (by decide)];exact hk
 ·have b:=digs_le n (by omega)
  have:=pow_lt (Nat.lt_of_le_of_lt b h)
  have:=digs_pos n
  omega
theorem digs_mul (n m:Nat) (hn:n≠0) (hm:m≠0):digs (n*m)+1=digs n+digs m∨digs (n*m)=digs n+digs m:=by
 have a1:=lt_digs n
 have a2:=lt_digs m
 have b1:=digs_le n hn
 have b2:=digs_le m hm
 have p1:=digs_pos n
 have p2:=digs_pos m
 have hnm:n*m≠0:=Nat.mul_ne_zero hn hm
 have c1:n*m<10^(digs n+digs m):=by
  rw [Nat.pow_add]
  exact Nat.mul_lt_mul'' a1 a2
 have c2:10^(digs n-1+(digs m-1))≤n*m:=by
  rw [Nat.pow_add]
  exact Nat.mul_le_mul b1 b2
 have d1:=pow_lt (Nat.lt_of_le_of_lt c2 (lt_digs _))
 have d2:=pow_lt (Nat.lt_of_le_of_lt (digs_le _ hnm) c1)
 have:=digs_pos (n*m)
 omega
theorem digs_pow (k:Nat):digs (10^k)=k+1:=
 digs_unique (Nat.le_refl _) (by rw [Nat.pow_succ];have:0<10^k:=Nat.pow_pos (by decide);omega)
def text (n:Nat):List UInt8:=dgt (digs n) n
theorem text_length (n:Nat):(text n).length=digs n:=dgt_length _ _
theorem text_zero:text 0= [48]:=by unfold text;rw [digs_small (by decide)];rfl
theorem text_dig (n:Nat): ∀b∈text n,isDig b:=dgt_dig _ _
theorem rd_text (n:Nat):rd (text n)=n:=by unfold text;rw [rd_dgt,Nat.mod_eq_of_lt (lt_digs n)]
theorem text_inj {n m:Nat} (h:text n=text m):n=m:=by rw [←rd_text n,h,rd_text]
theorem text_first (n:Nat) (hn:n≠0): ∃b r,text n=b::r∧b≠48:=by
 have p:=digs_pos n
 have e:digs n=1+(digs n-1):=by omega
 unfold text
 rw [e,dgt_add]
 have h1:=lt_digs n
 have h2:=digs_le n hn
 have h3:1≤n/10^(digs n-1):=(Nat.one_le_div_iff (Nat.pow_pos (by decide))).2 h2
 have h4:n/10^(digs n-1)<10:=by
  apply Nat.div_lt_of_lt_mul
  have:10^(digs n-1)*10=10^digs n:=by rw [←Nat.pow_succ];congr 1;omega
  omega
 generalize n/10^(digs n-1)=x at*
 refine ⟨UInt8.ofNat (48+x%10),dgt (digs n-1) n,rfl,fun hb=> ?_⟩
 have:=congrArg UInt8.toNat hb
 rw [digit_toNat] at this
 have e:(48:UInt8).toNat=48:=rfl
 omega
theorem text_ne_nil (n:Nat):text n≠ []:=fun h=>by
 have:=text_length n
 rw [h,List.length_nil] at this
 have:=digs_pos n
 omega
theorem drop_noughts (k:Nat) (l:List UInt8):(List.replicate k 48++l).dropWhile (· ==48)=l.dropWhile (· ==48):=by
 induction k with
 |zero=>rfl
 |succ k ih=>rw [List.replicate_succ,List.cons_append,List.dropWhile_cons,if_pos (by rfl),ih]
theorem trim_dgt {k n:Nat} (h:n<10^k) (hn:n≠0):(dgt k n).dropWhile (· ==48)=text n:=by
 have hk:1≤k:=by
  rcases Nat.eq_zero_or_pos k with rfl|h'
  ·simp at h;omega
  ·exact h'
 have hd:=digs_le_of_lt hk h
 have e:k=(k-digs n)+digs n:=by omega
 rw [e,dgt_add,Nat.div_eq_of_lt (lt_digs n),dgt_zero,drop_noughts]
 show (text n).dropWhile _=_
 obtain ⟨b,r,hbr,hb⟩:=text_first n hn
 rw [hbr,List.dropWhile_cons,if_neg (by simpa using hb)]
theorem trim_zero (k:Nat):(dgt k 0).dropWhile (· ==48)= []:=by
 have:=drop_noughts k []
 rw [List.append_nil] at this
 rw [dgt_zero,this]
 rfl
def okText (l:List UInt8):Prop:=(∀b∈l,isDig b)∧(l= [48]∨(l≠ []∧l.head?≠some 48))
theorem ok_text (n:Nat):okText (text n):=by
 refine ⟨text_dig n, ?_⟩
 rcases Nat.eq_zero_or_pos n with rfl|hn
 ·exact .inl text_zero
 ·obtain ⟨b,r,hbr,hb⟩:=text_first n (by omega)
  exact .inr ⟨text_ne_nil n,by rw [hbr];simpa using hb⟩
theorem text_rd {l:List UInt8} (h:okText l):text (rd l)=l:=by
 obtain ⟨hd,h⟩:=h
 rcases h with rfl|⟨hne,hh⟩
 ·exact text_zero
 ·have hlt:=rd_lt l hd
  have hl:=dgt_rd l hd
  rcases l with _|⟨b,r⟩
  ·exact absurd rfl hne
  have hb:b≠48:=by simpa using hh
  have hbd:=hd b (by simp)
  have hge:10^r.length≤rd (b::r):=by
   have e:=rd_append [b] r
   have e2:rd [b]=b.toNat-48:=by simp [rd]
   rw [List.singleton_append,e2] at e
   rw [e]
   unfold isDig at hbd
   have:b.toNat≠48:=fun h=>hb (UInt8.toNat_inj.1 h)
   have:1≤b.toNat-48:=by omega
   have:=Nat.mul_le_mul_right (10^r.length) this
   omega
  unfold text
  rw [digs_unique hge (by simpa using hlt)]
  simpa using hl
theorem digs_rd {l:List UInt8} (h:okText l):digs (rd l)=l.length:=by rw [←text_length,text_rd h]
end Go.Proofs.YthebilnlljkfeaaGreatDoor.Tx
