/- Parts of years: by months of 30 days, by days of 365 a year, by the years' own lengths. No program is named here. -/
import Derived.Test.YtjpilacbapibjaaGreatDoorMo
namespace Go.Proofs.YtjpilacbapibjaaGreatDoor.Da
def posQ (y m d:Int):Rat:=((y:Int):Rat)+((numI y m d-numI y 1 1:Int):Rat)/((yrI y:Int):Rat)
def thA (d:Int):Int:=if d=31 then 30 else d
def thB (d d':Int):Int:=if d'=31∧thA d=30 then 30 else d'
def thN (y m d y' m' d':Int):Int:=360*(y'-y)+30*(m'-m)+thB d d'-thA d
def yrQ (k y m d y' m' d':Int):Rat:=if k=0 then ((thN y m d y' m' d':Int):Rat)/((360:Int):Rat) else if k=1 then ((numI y' m' d'-numI y m d:Int):Rat)/((365:Int):Rat) else posQ y' m' d'-posQ y m d
theorem num_first (y:Int):numI y 1 1=yS (y-1).toNat+1:=by
 unfold numI
 show yS (y-1).toNat+mS y 0+1=_
 show yS (y-1).toNat+0+1=_
 omega
theorem num_next_year {y:Int} (hy:1≤y):numI (y+1) 1 1=numI y 1 1+yrI y:=by
 rw [num_first,num_first]
 obtain ⟨k,hk⟩: ∃k:Nat,y=(k:Int)+1:=⟨(y-1).toNat,by omega⟩
 subst hk
 rw [show ((k:Int)+1+1-1).toNat=k+1 by omega,show ((k:Int)+1-1).toNat=k by omega]
 show yS k+yrI ((k:Int)+1)+1=_
 omega
theorem num_of_year {y m d:Int} (h:rightI y m d):numI y 1 1≤numI y m d∧numI y m d<numI y 1 1+yrI y:=by
 have h1:=num_year h
 have h2:=right_in h
 rw [num_first]
 obtain ⟨k,hk⟩: ∃k:Nat,y=(k:Int)+1:=⟨(y-1).toNat,by omega⟩
 subst hk
 rw [show ((k:Int)+1-1).toNat=k by omega] at*
 rw [show ((k:Int)+1).toNat=k+1 by omega] at h1
 have e:yS (k+1)=yS k+yrI ((k:Int)+1):=rfl
 omega
theorem yr_pos (y:Int):(0:Rat)<((yrI y:Int):Rat):=by
 have:=(yr_lo y).1
 exact Rat.intCast_pos.2 (by omega)
theorem pos_first (y:Int):posQ y 1 1=((y:Int):Rat):=by
 unfold posQ
 rw [Int.sub_self]
 have h:=yr_pos y
 simp
 grind
theorem pos_same {y m d m' d':Int}:posQ y m' d'-posQ y m d=((numI y m' d'-numI y m d:Int):Rat)/((yrI y:Int):Rat):=by
 unfold posQ
 have h:=yr_pos y
 simp only [Rat.intCast_sub]
 grind
theorem pos_end {y m d:Int} (hy:1≤y):((y+1:Int):Rat) -posQ y m d=((numI (y+1) 1 1-numI y m d:Int):Rat)/((yrI y:Int):Rat):=by
 rw [num_next_year hy]
 unfold posQ
 have h:=yr_pos y
 simp only [Rat.intCast_sub,Rat.intCast_add]
 grind
theorem pos_in {y m d:Int} (h:rightI y m d):((y:Int):Rat)≤posQ y m d∧posQ y m d<((y+1:Int):Rat):=by
 have h1:=num_of_year h
 have hp:=yr_pos y
 have a:(0:Rat)≤((numI y m d-numI y 1 1:Int):Rat):=Rat.intCast_nonneg.2 (by omega)
 have b:((numI y m d-numI y 1 1:Int):Rat)<((yrI y:Int):Rat):=Rat.intCast_lt_intCast.2 (by omega)
 unfold posQ
 constructor
 ·have:0≤((numI y m d-numI y 1 1:Int):Rat)/((yrI y:Int):Rat):=by
   rw [Rat.div_def]
   exact Rat.mul_nonneg a (Rat.le_of_lt (Rat.inv_pos.2 hp))
  grind
 ·have:((numI y m d-numI y 1 1:Int):Rat)/((yrI y:Int):Rat)<1:=by
   rw [Rat.div_lt_iff hp]
   grind
  rw [Rat.intCast_add]
  grind
theorem pos_le {y m d y' m' d':Int} (h:rightI y m d) (h':rightI y' m' d') (hn:numI y m d≤numI y' m' d'):posQ y m d≤posQ y' m' d':=by
 rcases Int.lt_trichotomy y y' with e|e|e
 ·have h1:=(pos_in h).2
  have h2:=(pos_in h').1
  have h3:((y+1:Int):Rat)≤((y':Int):Rat):=Rat.intCast_le_intCast.2 (by omega)
  grind
 ·subst e
  have h1:=pos_same (y:=y) (m:=m) (d:=d) (m':=m') (d':=d')
  have a:(0:Rat)≤((numI y m' d'-numI y m d:Int):Rat):=Rat.intCast_nonneg.2 (by omega)
  have:0≤((numI y m' d'-numI y m d:Int):Rat)/((yrI y:Int):Rat):=by
   rw [Rat.div_def]
   exact Rat.mul_nonneg a (Rat.le_of_lt (Rat.inv_pos.2 (yr_pos y)))
  grind
 ·have:=num_lt h' h (.inl e)
  omega
theorem first_right {y:Int} (hy:1≤y∧y≤9999):rightI y 1 1:=⟨Int.le_refl _,by have:=day_of hy (m:=1) (by omega);omega⟩
theorem year_le {y m d y' m' d':Int} (h:rightI y m d) (h':rightI y' m' d') (hn:numI y m d≤numI y' m' d'):y≤y':=by
 rcases Int.lt_or_le y' y with e|e
 ·have:=num_lt h' h (.inl e)
  omega
 ·exact e
def sumQ (y m d y' m' d':Int) (b:Nat):Rat:=if b=0 then 0 else if y+((b:Nat):Int)≤y' then ((y+((b:Nat):Int):Int):Rat) -posQ y m d else posQ y' m' d'-posQ y m d
theorem sum_step {y m d y' m' d':Int} {b:Nat} (h:rightI y m d) (h':rightI y' m' d') (hb:y+((b:Nat):Int)≤y'):sumQ y m d y' m' d' b+((min (numI (y+((b:Nat):Int)) 1 1+yrI (y+((b:Nat):Int))) (numI y' m' d') -max (numI (y+((b:Nat):Int)) 1 1) (numI y m d):Int):Rat)/((yrI (y+((b:Nat):Int)):Int):Rat)=sumQ y m d y' m' d' (b+1):=by
 have q:=right_in h
 have q':=right_in h'
 have k:=num_of_year h
 have k':=num_of_year h'
 have hY:1≤y+((b:Nat):Int)∧y+((b:Nat):Int)≤9999:=by omega
 have hp:=yr_pos (y+((b:Nat):Int))
 have en:=num_next_year (y:=y+((b:Nat):Int)) (by omega)
 have e1:max (numI (y+((b:Nat):Int)) 1 1) (numI y m d)=if b=0 then numI y m d else numI (y+((b:Nat):Int)) 1 1:=by
  split
  ·next e=>
   subst e
   rw [show y+((0:Nat):Int)=y by omega]
   omega
  ·next e=>
   have:=num_lt h (first_right hY) (.inl (by omega))
   omega
 have e2:min (numI (y+((b:Nat):Int)) 1 1+yrI (y+((b:Nat):Int))) (numI y' m' d')=if y+((b:Nat):Int)=y' then numI y' m' d' else numI (y+((b:Nat):Int)) 1 1+yrI (y+((b:Nat):Int)):=by
  split
  ·next e=>
   rw [e]
   omega
  ·next e=>
   have f1:=first_right (y:=y+((b:Nat):Int)+1) (by omega)
   rcases Int.lt_or_le (y+((b:Nat):Int)+1) y' with e3|e3
   ·have:=num_lt f1 h' (.inl e3)
    omega
   ·obtain e4:y+((b:Nat):Int)+1=y':=by omega
    rw [e4] at en
    omega
 rw [e1,e2]
 unfold sumQ
 rw [if_neg (show ¬b+1=0 by omega)]
 by_cases c1:b=0
 ·subst c1
  simp only [show y+((0:Nat):Int)=y by omega] at*
  rw [if_pos trivial,if_pos trivial]
  by_cases c2:y=y'
  ·subst c2
   rw [if_pos rfl,if_neg (by omega),←pos_same]
   grind
  ·rw [if_neg c2,if_pos (by omega),←en,←pos_end (by omega)]
   show 0+_=((y+((0+1:Nat):Int):Int):Rat) -_
   rw [show y+((0+1:Nat):Int)=y+1 by omega]
   grind
 ·rw [if_neg c1,if_neg c1,if_pos hb]
  by_cases c2:y+((b:Nat):Int)=y'
  ·rw [if_pos c2,if_neg (by omega)]
   have e:=pos_same (y:=y') (m:=1) (d:=1) (m':=m') (d':=d')
   rw [pos_first] at e
   rw [c2,←e]
   grind
  ·rw [if_neg c2,if_pos (by omega),show numI (y+((b:Nat):Int)) 1 1+yrI (y+((b:Nat):Int)) -numI (y+((b:Nat):Int)) 1 1=yrI (y+((b:Nat):Int)) by omega,show y+((b+1:Nat):Int)=y+((b:Nat):Int)+1 by omega,Rat.intCast_add (y+((b:Nat):Int)) 1]
   generalize ((yrI (y+((b:Nat):Int)):Int):Rat)=s at*
   have:s/s=1:=by grind
   rw [this]
   grind
theorem sum_end {y m d y' m' d':Int} {b:Nat} (h:y≤y') (hb:y'<y+((b:Nat):Int)):sumQ y m d y' m' d' b=posQ y' m' d'-posQ y m d:=by
 unfold sumQ
 rw [if_neg (by omega),if_neg (by omega)]
def yrOk (k y m d y' m' d':Int):Prop:=(0≤k∧k≤2)∧(rightI y m d∧rightI y' m' d')∧numI y m d≤numI y' m' d'
instance (k y m d y' m' d':Int):Decidable (yrOk k y m d y' m' d'):=inferInstanceAs (Decidable (_∧_))
def yrA (k y m d y' m' d':Int):Rat:=if yrOk k y m d y' m' d' then yrQ k y m d y' m' d' else 0
def yrE (k y m d y' m' d':Int):Int:=if 0≤k∧k≤2 then (if rightI y m d∧rightI y' m' d' then (if numI y m d≤numI y' m' d' then 0 else 12) else 11) else 2
theorem yr_yes {k y m d y' m' d':Int} (h:yrOk k y m d y' m' d'):yrA k y m d y' m' d'=yrQ k y m d y' m' d'∧yrE k y m d y' m' d'=0:=by
 unfold yrA yrE
 rw [if_pos h,if_pos h.1,if_pos h.2.1,if_pos h.2.2]
 exact ⟨rfl,rfl⟩
theorem yr_arg {k y m d y' m' d':Int} (h: ¬(0≤k∧k≤2)):yrA k y m d y' m' d'=0∧yrE k y m d y' m' d'=2:=by
 unfold yrA yrE
 rw [if_neg (fun e=>h e.1),if_neg h]
 exact ⟨rfl,rfl⟩
theorem yr_wrong {k y m d y' m' d':Int} (h:0≤k∧k≤2) (h2: ¬(rightI y m d∧rightI y' m' d')):yrA k y m d y' m' d'=0∧yrE k y m d y' m' d'=11:=by
 unfold yrA yrE
 rw [if_neg (fun e=>h2 e.2.1),if_pos h,if_neg h2]
 exact ⟨rfl,rfl⟩
theorem yr_order {k y m d y' m' d':Int} (h:0≤k∧k≤2) (h2:rightI y m d∧rightI y' m' d') (h3: ¬numI y m d≤numI y' m' d'):yrA k y m d y' m' d'=0∧yrE k y m d y' m' d'=12:=by
 unfold yrA yrE
 rw [if_neg (fun e=>h3 e.2.2),if_pos h,if_pos h2,if_neg h3]
 exact ⟨rfl,rfl⟩
theorem yr_1 {y m d y' m' d':Int}:yrQ 1 y m d y' m' d'=((numI y' m' d'-numI y m d:Int):Rat)/((365:Int):Rat):=by
 unfold yrQ
 rw [if_neg (by decide),if_pos rfl]
theorem yr_2 {y m d y' m' d':Int}:yrQ 2 y m d y' m' d'=posQ y' m' d'-posQ y m d:=by
 unfold yrQ
 rw [if_neg (by decide),if_neg (by decide)]
theorem yr_0 {y m d y' m' d':Int}:yrQ 0 y m d y' m' d'=((thN y m d y' m' d':Int):Rat)/((360:Int):Rat):=by
 unfold yrQ
 rw [if_pos rfl]
theorem yr_add {k y m d y1 m1 d1 y' m' d':Int} (hk:k=1∨k=2):yrQ k y m d y1 m1 d1+yrQ k y1 m1 d1 y' m' d'=yrQ k y m d y' m' d':=by
 rcases hk with rfl|rfl
 ·rw [yr_1,yr_1,yr_1]
  simp only [Rat.intCast_sub]
  grind
 ·rw [yr_2,yr_2,yr_2]
  grind
theorem yr_self {k y m d:Int}:yrQ k y m d y m d=0:=by
 unfold yrQ thN
 have e:thB d d-thA d=0:=by
  unfold thB thA
  repeat' split
  all_goals omega
 split
 ·rw [show 360*(y-y)+30*(m-m)+thB d d-thA d=0 by omega]
  grind
 ·split
  ·rw [Int.sub_self]
   grind
  ·grind
theorem yr_nonneg {k y m d y' m' d':Int} (hk:k=1∨k=2) (h:rightI y m d) (h':rightI y' m' d') (hn:numI y m d≤numI y' m' d'):0≤yrQ k y m d y' m' d':=by
 rcases hk with rfl|rfl
 ·rw [yr_1]
  have a:(0:Rat)≤((numI y' m' d'-numI y m d:Int):Rat):=Rat.intCast_nonneg.2 (by omega)
  rw [Rat.div_def]
  exact Rat.mul_nonneg a (Rat.le_of_lt (Rat.inv_pos.2 (Rat.intCast_pos.2 (by decide))))
 ·rw [yr_2]
  have:=pos_le h h' hn
  grind
def ldI (y m d:Int):Int:=366*(numI y 1 1-1-365*(y-1))+if leapI y=true then numI y m d-numI y 1 1 else 0
theorem ld_yes {y m d:Int} (h:leapI y=true):ldI y m d=366*(numI y 1 1-1-365*(y-1))+(numI y m d-numI y 1 1):=by unfold ldI;rw [if_pos h]
theorem ld_no {y m d:Int} (h: ¬leapI y=true):ldI y m d=366*(numI y 1 1-1-365*(y-1)):=by unfold ldI;rw [if_neg h,Int.add_zero]
theorem ld_in {y m d:Int} (h:rightI y m d): -4000000000≤ldI y m d∧ldI y m d≤4000000000:=by
 have q:=right_in h
 have n1:=num_in h
 have n2:=num_in (first_right (y:=y) (by omega))
 unfold ldI
 split<;>omega
theorem pos_ld {y m d:Int}:posQ y m d=((ldI y m d:Int):Rat)/((366:Int):Rat)+((numI y m d-ldI y m d:Int):Rat)/((365:Int):Rat)+1-1/((365:Int):Rat):=by
 unfold posQ yrI
 by_cases h:leapI y=true
 ·rw [if_pos h,ld_yes h]
  simp only [Rat.intCast_sub,Rat.intCast_add,Rat.intCast_mul]
  grind
 ·rw [if_neg h,ld_no h]
  simp only [Rat.intCast_sub,Rat.intCast_mul]
  grind
theorem yr_ld {y m d y' m' d':Int}:yrQ 2 y m d y' m' d'=((ldI y' m' d'-ldI y m d:Int):Rat)/((366:Int):Rat)+((numI y' m' d'-numI y m d-(ldI y' m' d'-ldI y m d):Int):Rat)/((365:Int):Rat):=by
 rw [yr_2,pos_ld,pos_ld]
 simp only [Rat.intCast_sub]
 grind
end Go.Proofs.YtjpilacbapibjaaGreatDoor.Da
