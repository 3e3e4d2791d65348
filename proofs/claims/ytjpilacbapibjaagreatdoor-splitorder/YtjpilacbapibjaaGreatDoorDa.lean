/- The calendar: leap years, months' days, a date's number; dates are in the order of their numbers, and each number is one date's. No program is named here. -/
import Derived.Test.YtjpilacbapibjaaGreatDoorMath
namespace Go.Proofs.YtjpilacbapibjaaGreatDoor.Da
def leapI (y:Int):Bool:=decide (1≤y∧y≤9999)&&(decide (y%400=0)||(decide (y%4=0)&& !decide (y%100=0)))
def dayI (y m:Int):Int:=if 1≤y∧y≤9999∧1≤m∧m≤12 then (if m=2 then (if leapI y then 29 else 28) else if m=4∨m=6∨m=9∨m=11 then 30 else 31) else 0
def rightI (y m d:Int):Prop:=1≤d∧d≤dayI y m
instance (y m d:Int):Decidable (rightI y m d):=inferInstanceAs (Decidable (_∧_))
theorem leap_iff {y:Int}:leapI y=true↔(1≤y∧y≤9999)∧(y%400=0∨(y%4=0∧ ¬y%100=0)):=by
 unfold leapI
 simp only [Bool.and_eq_true,Bool.or_eq_true,decide_eq_true_eq,Bool.not_eq_true',decide_eq_false_iff_not]
theorem day_of {y m:Int} (hy:1≤y∧y≤9999) (hm:1≤m∧m≤12):28≤dayI y m∧dayI y m≤31:=by
 unfold dayI
 rw [if_pos ⟨hy.1,hy.2,hm.1,hm.2⟩]
 repeat' split
 all_goals omega
theorem day_none {y m:Int} (h: ¬(1≤y∧y≤9999∧1≤m∧m≤12)):dayI y m=0:=by
 unfold dayI
 rw [if_neg h]
theorem right_in {y m d:Int} (h:rightI y m d):(1≤y∧y≤9999)∧(1≤m∧m≤12)∧1≤d∧d≤dayI y m∧d≤31:=by
 obtain ⟨h1,h2⟩:=h
 by_cases hx:1≤y∧y≤9999∧1≤m∧m≤12
 ·have:=(day_of ⟨hx.1,hx.2.1⟩ ⟨hx.2.2.1,hx.2.2.2⟩).2
  exact ⟨⟨hx.1,hx.2.1⟩,⟨hx.2.2.1,hx.2.2.2⟩,h1,h2,by omega⟩
 ·rw [day_none hx] at h2
  omega
def yrI (y:Int):Int:=if leapI y then 366 else 365
def yS:Nat→Int
 |0=>0
 |n+1=>yS n+yrI ((n:Int)+1)
theorem yS_eq: ∀n:Nat,n≤9999→yS n=365*(n:Int)+(n:Int)/4-(n:Int)/100+(n:Int)/400:=by
 intro n
 induction n with
 |zero=>intro _;rfl
 |succ n ih=>
  intro h
  have ih:=ih (by omega)
  show yS n+yrI ((n:Int)+1)=_
  unfold yrI
  have hl:=leap_iff (y:=(n:Int)+1)
  split
  ·next hx=>
   have:=hl.1 hx
   omega
  ·next hx=>
   have hx': ¬((1≤(n:Int)+1∧(n:Int)+1≤9999)∧(((n:Int)+1)%400=0∨(((n:Int)+1)%4=0∧ ¬((n:Int)+1)%100=0))):=fun e=>hx (hl.2 e)
   omega
theorem yr_lo (y:Int):365≤yrI y∧yrI y≤366:=by
 unfold yrI
 split<;>omega
theorem yS_mono: ∀{n m:Nat},n≤m→yS n+365*((m:Int) -n)≤yS m:=by
 intro n m h
 induction m with
 |zero=>
  obtain rfl:n=0:=by omega
  simp
 |succ m ih=>
  rcases Nat.lt_or_ge m n with h1|h1
  ·obtain rfl:n=m+1:=by omega
   simp
  ·have h2:=ih h1
   have h3:=yr_lo ((m:Int)+1)
   show _≤yS m+yrI ((m:Int)+1)
   omega
theorem yS_last:yS 9999=3652059:=by rw [yS_eq 9999 (by omega)];rfl
def mS (y:Int):Nat→Int
 |0=>0
 |n+1=>mS y n+dayI y ((n:Int)+1)
theorem mS_year {y:Int} (hy:1≤y∧y≤9999):mS y 12=yrI y:=by
 have hd: ∀m:Int,1≤m∧m≤12→dayI y m=(if m=2 then (if leapI y then 29 else 28) else if m=4∨m=6∨m=9∨m=11 then 30 else 31):=fun m hm=>by
  unfold dayI
  rw [if_pos ⟨hy.1,hy.2,hm.1,hm.2⟩]
 simp only [mS]
 rw [hd _ (by decide),hd _ (by decide),hd _ (by decide),hd _ (by decide),hd _ (by decide),hd _ (by decide),hd _ (by decide),hd _ (by decide),hd _ (by decide),hd _ (by decide),hd _ (by decide),hd _ (by decide)]
 unfold yrI
 cases leapI y<;>rfl
theorem mS_le {y:Int} (hy:1≤y∧y≤9999): ∀{n m:Nat},n≤m→m≤12→mS y n≤mS y m:=by
 intro n m h hm
 induction m with
 |zero=>
  obtain rfl:n=0:=by omega
  exact Int.le_refl _
 |succ m ih=>
  rcases Nat.lt_or_ge m n with h1|h1
  ·obtain rfl:n=m+1:=by omega
   exact Int.le_refl _
  ·have h2:=ih h1 (by omega)
   have h3:=(day_of hy (m:=(m:Int)+1) ⟨by omega,by omega⟩).1
   show _≤mS y m+dayI y ((m:Int)+1)
   omega
def numI (y m d:Int):Int:=yS (y-1).toNat+mS y (m-1).toNat+d
theorem num_year {y m d:Int} (h:rightI y m d):yS (y-1).toNat<numI y m d∧numI y m d≤yS y.toNat:=by
 obtain ⟨hy,hm,h1,h2,_⟩:=right_in h
 have a:=mS_le hy (n:=0) (m:=(m-1).toNat) (by omega) (by omega)
 have b:=mS_le hy (n:=m.toNat) (m:=12) (by omega) (by omega)
 rw [mS_year hy] at b
 have c:mS y m.toNat=mS y (m-1).toNat+dayI y m:=by
  obtain ⟨k,hk⟩: ∃k:Nat,m=(k:Int)+1:=⟨(m-1).toNat,by omega⟩
  subst hk
  rw [show ((k:Int)+1).toNat=k+1 by omega,show ((k:Int)+1-1).toNat=k by omega]
  rfl
 have e:yS y.toNat=yS (y-1).toNat+yrI y:=by
  obtain ⟨k,hk⟩: ∃k:Nat,y=(k:Int)+1:=⟨(y-1).toNat,by omega⟩
  subst hk
  rw [show ((k:Int)+1).toNat=k+1 by omega,show ((k:Int)+1-1).toNat=k by omega]
  rfl
 have z:mS y 0=0:=rfl
 unfold numI
 omega
theorem num_in {y m d:Int} (h:rightI y m d):1≤numI y m d∧numI y m d≤3652059:=by
 obtain ⟨h1,h2⟩:=num_year h
 obtain ⟨hy,_⟩:=right_in h
 have a:=yS_mono (n:=0) (m:=(y-1).toNat) (by omega)
 have b:=yS_mono (n:=y.toNat) (m:=9999) (by omega)
 rw [yS_last] at b
 have z:yS 0=0:=rfl
 omega
theorem mS_step {y m:Int} (hm:1≤m):mS y m.toNat=mS y (m-1).toNat+dayI y m:=by
 obtain ⟨k,hk⟩: ∃k:Nat,m=(k:Int)+1:=⟨(m-1).toNat,by omega⟩
 subst hk
 rw [show ((k:Int)+1).toNat=k+1 by omega,show ((k:Int)+1-1).toNat=k by omega]
 rfl
def before (y m d y' m' d':Int):Prop:=y<y'∨(y=y'∧(m<m'∨(m=m'∧d<d')))
theorem num_lt {y m d y' m' d':Int} (h:rightI y m d) (h':rightI y' m' d') (hb:before y m d y' m' d'):numI y m d<numI y' m' d':=by
 obtain ⟨hy,hm,h1,h2,_⟩:=right_in h
 obtain ⟨hy',hm',h1',h2',_⟩:=right_in h'
 rcases hb with hb|⟨rfl,hb|⟨rfl,hb⟩⟩
 ·have a:=(num_year h).2
  have b:=(num_year h').1
  have c:=yS_mono (n:=y.toNat) (m:=(y'-1).toNat) (by omega)
  omega
 ·have a:=mS_step (y:=y) hm.1
  have b:=mS_le hy (n:=m.toNat) (m:=(m'-1).toNat) (by omega) (by omega)
  unfold numI
  omega
 ·unfold numI
  omega
theorem before_or (y m d y' m' d':Int):before y m d y' m' d'∨(y=y'∧m=m'∧d=d')∨before y' m' d' y m d:=by
 unfold before
 omega
theorem num_inj {y m d y' m' d':Int} (h:rightI y m d) (h':rightI y' m' d') (e:numI y m d=numI y' m' d'):y=y'∧m=m'∧d=d':=by
 rcases before_or y m d y' m' d' with hb|hb|hb
 ·have:=num_lt h h' hb
  omega
 ·exact hb
 ·have:=num_lt h' h hb
  omega
theorem num_of {n:Int} (h1:1≤n) (h2:n≤3652059): ∃y m d,rightI y m d∧numI y m d=n:=by
 have key: ∀k:Nat,k≤9999→n≤yS k→ ∃j:Nat,j<k∧yS j<n∧n≤yS (j+1):=by
  intro k
  induction k with
  |zero=>intro _ h;have:yS 0=0:=rfl;omega
  |succ k ih=>
   intro hk h
   by_cases hx:n≤yS k
   ·obtain ⟨j,a,b,c⟩:=ih (by omega) hx
    exact ⟨j,by omega,b,c⟩
   ·exact ⟨k,by omega,by omega,h⟩
 obtain ⟨j,hj,a,b⟩:=key 9999 (Nat.le_refl _) (by rw [yS_last];exact h2)
 have hy:1≤(j:Int)+1∧(j:Int)+1≤9999:=by omega
 have b':n-yS j≤mS ((j:Int)+1) 12:=by
  rw [mS_year hy]
  have:yS (j+1)=yS j+yrI ((j:Int)+1):=rfl
  omega
 have key2: ∀k:Nat,k≤12→n-yS j≤mS ((j:Int)+1) k→ ∃i:Nat,i<k∧mS ((j:Int)+1) i<n-yS j∧n-yS j≤mS ((j:Int)+1) (i+1):=by
  intro k
  induction k with
  |zero=>intro _ h;have:mS ((j:Int)+1) 0=0:=rfl;omega
  |succ k ih=>
   intro hk h
   by_cases hx:n-yS j≤mS ((j:Int)+1) k
   ·obtain ⟨i,a,b,c⟩:=ih (by omega) hx
    exact ⟨i,by omega,b,c⟩
   ·exact ⟨k,by omega,by omega,h⟩
 obtain ⟨i,hi,c,d⟩:=key2 12 (Nat.le_refl _) b'
 have e:mS ((j:Int)+1) (i+1)=mS ((j:Int)+1) i+dayI ((j:Int)+1) ((i:Int)+1):=rfl
 refine ⟨(j:Int)+1,(i:Int)+1,n-yS j-mS ((j:Int)+1) i,⟨by omega,by omega⟩, ?_⟩
 unfold numI
 rw [show ((j:Int)+1-1).toNat=j by omega,show ((i:Int)+1-1).toNat=i by omega]
 omega
def nextI (y m d:Int):Int×Int×Int:=if d<dayI y m then (y,m,d+1) else if m<12 then (y,m+1,1) else (y+1,1,1)
theorem num_next {y m d:Int} (h:rightI y m d):numI (nextI y m d).1 (nextI y m d).2.1 (nextI y m d).2.2=numI y m d+1:=by
 obtain ⟨hy,hm,h1,h2,_⟩:=right_in h
 have s:=mS_step (y:=y) hm.1
 unfold nextI
 split
 ·show numI y m (d+1)=_
  unfold numI
  omega
 ·split
  ·show numI y (m+1) 1=_
   unfold numI
   rw [show (m+1-1)=m by omega]
   omega
  ·show numI (y+1) 1 1=_
   obtain rfl:m=12:=by omega
   have a:mS y (12:Int).toNat=yrI y:=mS_year hy
   have e:yS y.toNat=yS (y-1).toNat+yrI y:=by
    obtain ⟨k,hk⟩: ∃k:Nat,y=(k:Int)+1:=⟨(y-1).toNat,by omega⟩
    subst hk
    rw [show ((k:Int)+1).toNat=k+1 by omega,show ((k:Int)+1-1).toNat=k by omega]
    rfl
   have z:mS (y+1) ((1:Int) -1).toNat=0:=rfl
   unfold numI
   rw [show (y+1-1)=y by omega]
   omega
theorem right_next {y m d:Int} (h:rightI y m d) (hl:(nextI y m d).1≤9999):rightI (nextI y m d).1 (nextI y m d).2.1 (nextI y m d).2.2:=by
 obtain ⟨hy,hm,h1,h2,_⟩:=right_in h
 unfold nextI at hl⊢
 split
 ·exact ⟨by show 1≤d+1;omega,by show d+1≤dayI y m;omega⟩
 ·split
  ·have:=(day_of hy (m:=m+1) ⟨by omega,by omega⟩).1
   exact ⟨by show (1:Int)≤1;omega,by show 1≤dayI y (m+1);omega⟩
  ·rename_i a b
   rw [if_neg a,if_neg b] at hl
   have:=(day_of (y:=y+1) ⟨by omega,hl⟩ (m:=1) ⟨by omega,by omega⟩).1
   exact ⟨by show (1:Int)≤1;omega,by show 1≤dayI (y+1) 1;omega⟩
end Go.Proofs.YtjpilacbapibjaaGreatDoor.Da
