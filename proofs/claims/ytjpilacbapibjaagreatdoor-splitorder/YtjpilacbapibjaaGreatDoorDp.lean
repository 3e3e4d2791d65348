/- The calendar, for the package: the date of a number, the year that is looked for, numbers with noughts ahead. No program is named here. -/
import Derived.Test.YtjpilacbapibjaaGreatDoorDc
import Derived.Lib.ItoaNum
namespace Go.Proofs.YtjpilacbapibjaaGreatDoor.Da
def lo (p:Nat→Bool):Nat→Nat
 |0=>0
 |k+1=>if lo p k<k then lo p k else if p k then k else k+1
theorem lo_le (p:Nat→Bool): ∀k,lo p k≤k:=by
 intro k
 induction k with
 |zero=>exact Nat.le_refl _
 |succ k ih=>
  unfold lo
  repeat' split
  all_goals omega
theorem lo_no (p:Nat→Bool): ∀k j,j<lo p k→p j=false:=by
 intro k
 induction k with
 |zero=>intro j h;cases h
 |succ k ih=>
  intro j h
  have:=lo_le p k
  unfold lo at h
  split at h
  ·exact ih j h
  ·split at h
   ·exact ih j (by omega)
   ·next h1 h2=>
    rcases Nat.lt_or_ge j (lo p k) with h3|h3
    ·exact ih j h3
    ·have:j=k:=by omega
     rw [this]
     simpa using h2
theorem lo_yes (p:Nat→Bool): ∀k,lo p k<k→p (lo p k)=true:=by
 intro k
 induction k with
 |zero=>intro h;cases h
 |succ k ih=>
  intro h
  unfold lo at h⊢
  split
  ·next h1=>exact ih h1
  ·next h1=>
   rw [if_neg h1] at h
   split
   ·next h2=>exact h2
   ·next h2=>rw [if_neg h2] at h;omega
theorem lo_eq {p:Nat→Bool} {k j:Nat} (h1:j≤k) (h2: ∀i,i<j→p i=false) (h3:j<k→p j=true):j=lo p k:=by
 have a:=lo_le p k
 rcases Nat.lt_trichotomy j (lo p k) with h|h|h
 ·have:=lo_no p k j h
  rw [h3 (by omega)] at this
  cases this
 ·exact h
 ·have:=lo_yes p k (by omega)
  rw [h2 _ h] at this
  cases this
def yB (z:Int) (k:Nat):Bool:=decide (z≤yS k)
def yrN (z:Int):Nat:=lo (yB z) 9999
theorem yB_mono {z:Int} {i j:Nat} (h:i≤j) (hj:yB z j=false):yB z i=false:=by
 have h1:=yS_mono h
 have h2: ¬z≤yS j:=of_decide_eq_false hj
 exact decide_eq_false (by omega)
theorem yr_spec {z:Int} (h1:1≤z) (h2:z≤3652059):1≤yrN z∧yrN z≤9999∧yS (yrN z-1)<z∧z≤yS (yrN z):=by
 have a:=lo_le (yB z) 9999
 have hy:z≤yS (yrN z):=by
  rcases Nat.lt_or_ge (yrN z) 9999 with h|h
  ·exact of_decide_eq_true (lo_yes (yB z) 9999 h)
  ·have:yrN z=9999:=Nat.le_antisymm a h
   rw [this,yS_last]
   exact h2
 have h0:1≤yrN z:=by
  rcases Nat.eq_zero_or_pos (yrN z) with h|h
  ·rw [h] at hy
   have:yS 0=0:=rfl
   omega
  ·exact h
 have hn:=of_decide_eq_false (lo_no (yB z) 9999 (yrN z-1) (by unfold yrN at h0⊢;omega))
 exact ⟨h0,a,by omega,hy⟩
noncomputable def dtN (z:Int):Int×Int×Int:=open Classical in if h: ∃x:Int×Int×Int,rightI x.1 x.2.1 x.2.2∧numI x.1 x.2.1 x.2.2=z then h.choose else (0,0,0)
theorem dtN_eq {y m d:Int} (h:rightI y m d):dtN (numI y m d)=(y,m,d):=by
 have hx: ∃x:Int×Int×Int,rightI x.1 x.2.1 x.2.2∧numI x.1 x.2.1 x.2.2=numI y m d:=⟨(y,m,d),h,rfl⟩
 unfold dtN
 rw [dif_pos hx]
 obtain ⟨h1,h2⟩:=hx.choose_spec
 obtain ⟨e1,e2,e3⟩:=num_inj h1 h h2
 generalize hx.choose=x at*
 obtain ⟨a,b,c⟩:=x
 simp only at e1 e2 e3
 rw [e1,e2,e3]
theorem dtN_ok {z:Int} (h1:1≤z) (h2:z≤3652059):rightI (dtN z).1 (dtN z).2.1 (dtN z).2.2∧numI (dtN z).1 (dtN z).2.1 (dtN z).2.2=z:=by
 obtain ⟨y,m,d,hr,e⟩:=num_of h1 h2
 rw [←e,dtN_eq hr]
 exact ⟨hr,rfl⟩
theorem dtN_no {z:Int} (h: ¬(1≤z∧z≤3652059)):dtN z=(0,0,0):=by
 unfold dtN
 rw [dif_neg]
 rintro ⟨x,h1,h2⟩
 have:=num_in h1
 omega
theorem dtN_at {z:Int} {b:Nat} (h1:1≤z) (h2:z≤3652059) (hb:b<12) (h3:mS (yrN z) b<z-yS (yrN z-1)) (h4:z-yS (yrN z-1) -mS (yrN z) b≤dayI (yrN z) ((b:Int)+1)):dtN z=(((yrN z:Nat):Int),(b:Int)+1,z-yS (yrN z-1) -mS (yrN z) b):=by
 obtain ⟨a1,a2,a3,a4⟩:=yr_spec h1 h2
 have hr:rightI (yrN z) ((b:Int)+1) (z-yS (yrN z-1) -mS (yrN z) b):=⟨by omega,h4⟩
 have e:numI (yrN z) ((b:Int)+1) (z-yS (yrN z-1) -mS (yrN z) b)=z:=by
  unfold numI
  rw [show (((yrN z:Nat):Int) -1).toNat=yrN z-1 by omega,show ((b:Int)+1-1).toNat=b by omega]
  omega
 have:=dtN_eq hr
 rw [e] at this
 exact this
theorem dig_small {n:Nat} (h:n<10):UInt8.ofNat (48+n)=dig n:=by
 unfold dig
 rw [Nat.mod_eq_of_lt h]
theorem dgs_last (n:Nat): ∀k,dgs n (k+1)=dgs (n/10) k++ [dig n]:=by
 intro k
 induction k with
 |zero=>simp [dgs]
 |succ k ih=>
  show dig (n/10^(k+1))::dgs n (k+1)=(dig (n/10/10^k)::dgs (n/10) k)++ [dig n]
  rw [ih,List.cons_append]
  congr 2
  rw [Nat.div_div_eq_div_mul,Nat.pow_succ,Nat.mul_comm]
theorem dgs_zero: ∀k,dgs 0 k=List.replicate k 48:=by
 intro k
 induction k with
 |zero=>rfl
 |succ k ih=>
  show dig (0/10^k)::dgs 0 k=_
  rw [ih,Nat.zero_div]
  rfl
theorem pad_ok: ∀k n,n<10^(k+1)→(Lib.decDigits n).length≤k+1∧List.replicate (k+1-(Lib.decDigits n).length) 48++Lib.decDigits n=dgs n (k+1):=by
 intro k
 induction k with
 |zero=>
  intro n h
  have h:n<10:=by simpa using h
  rw [Lib.decDigits_one h,dig_small h]
  exact ⟨Nat.le_refl _,by rw [dgs_last];simp [dgs]⟩
 |succ k ih=>
  intro n h
  rcases Nat.lt_or_ge n 10 with h1|h1
  ·rw [Lib.decDigits_one h1,dig_small h1,dgs_last,show n/10=0 by omega,dgs_zero]
   exact ⟨by simp,rfl⟩
  ·obtain ⟨a,b⟩:=ih (n/10) (by rw [Nat.pow_succ] at h;omega)
   rw [Lib.decDigits,dif_neg (by omega),dgs_last,←b]
   have e:UInt8.ofNat (48+n%10)=dig n:=rfl
   rw [e]
   refine ⟨by simp;omega, ?_⟩
   rw [List.length_append,←List.append_assoc]
   congr 3
   simp
end Go.Proofs.YtjpilacbapibjaaGreatDoor.Da
