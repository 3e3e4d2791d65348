/- The reference of layer 9. Written by a script (tools/laws). -/
import Derived.Test.YtjpilacbapibjaaGreatDoorLX
import Derived.Test.YtjpilacbapibjaaGreatDoorDc
namespace Go.Proofs.YtjpilacbapibjaaGreatDoor.X
open Go.Proofs.YtjpilacbapibjaaGreatDoor.Da
open Go.RowKit Go.Proofs.YtjpilacbapibjaaGreatDoor.Z
set_option linter.unusedVariables false
theorem leap_1 {y:Int} (h: ¬(1≤y∧y≤9999)):false=leapI y:=by
 rw [Bool.eq_iff_iff,leap_iff]
 simp only [Bool.false_eq_true,false_iff]
 omega
theorem leap_2 {y:Int} (h:1≤y∧y≤9999) (h4:y%400=0):true=leapI y:=by
 rw [Bool.eq_iff_iff,leap_iff]
 simp only [true_iff]
 omega
theorem leap_3 {y:Int} (h:1≤y∧y≤9999) (h4: ¬y%400=0):cond (decide (y%4=0)) (!decide (y%100=0)) false=leapI y:=by
 rw [Bool.eq_iff_iff,leap_iff]
 by_cases a:y%4=0<;>by_cases b:y%100=0<;>simp [a,b]<;>omega
theorem day_yes {y m n:Int} (hy:(1≤y∧y≤9999)∧1≤m∧m≤12) (h:n=if m=2 then (if leapI y then 29 else 28) else if m=4∨m=6∨m=9∨m=11 then 30 else 31):n=dayI y m:=by
 unfold dayI
 rw [if_pos ⟨hy.1.1,hy.1.2,hy.2.1,hy.2.2⟩]
 exact h
theorem refLeap_t {w:World} {v0:Value} {y:Int} (h0:(isE (.int .i64 y)) w v0):Calls Tryz.prog 93 #[v0] w (Ret w fun v w'=>(isE (.bool (leapI y))) w' v):=by
 exact fx ctb26 Tryz.func93 (hnX [(1,[(3,777777,none),(4,777777,none),(5,777777,none)]),(3,[(1,0,oS (eI (y%400)))]),(5,[(1,0,oS (eI (y%4))),(4,777777,none),(5,777777,oS (eI (y%100))),(6,777777,none),(7,777777,none)])]) [(0,eI y)] (.s (eB (leapI y))) ⟨h0,trivial⟩ (im2 (decide ((y:Int)<1)==false)∧(decide ((y:Int)<1)=false→(decide ((y:Int)<1)==false)=true)∧cnd (cond (decide ((y:Int)<1)) true (decide ((9999:Int)<y))) (false=leapI y) ((400≠(0:Int))∧tI (Int.tmod y 400) (y%400)∧cnd (decide ((y%400:Int)=0)) (true=leapI y) ((4≠(0:Int))∧tI (Int.tmod y 4) (y%4)∧((decide ((y%4:Int)=0)==true)=true→100≠(0:Int))∧((decide ((y%4:Int)=0)==true)=true→tI (Int.tmod y 100) (y%100))∧im2 (decide ((y%4:Int)=0)==true)∧im2 (decide ((y%4:Int)=0)==true)∧(decide ((y%4:Int)=0)=true→(decide ((y%4:Int)=0)==true)=true)∧cond (decide ((y%4:Int)=0)) (!decide ((y%100:Int)=0)) false=leapI y))) ⟨id,(fun hp=>by simp_all),(Classical.em (¬(1≤y∧y≤9999))).elim (fun hy=>cnd_t (by simp;omega) (by first|exact leap_1 hy|exact leap_2 (by omega) h4|exact leap_3 (by omega) h4)) (fun hy=>cnd_f (by simp;omega) ⟨(by decide),⟨rfl,Int.tmod_eq_emod_of_nonneg (by omega)⟩,(Classical.em (y%400=0)).elim (fun h4=>cnd_t (by simpa using h4) (by first|exact leap_1 hy|exact leap_2 (by omega) h4|exact leap_3 (by omega) h4)) (fun h4=>cnd_f (by simpa using h4) ⟨(by decide),⟨rfl,Int.tmod_eq_emod_of_nonneg (by omega)⟩,(fun hg=>(by decide)),(fun hg=>⟨rfl,Int.tmod_eq_emod_of_nonneg (by omega)⟩),id,id,(fun hp=>by simp_all),(by first|exact leap_1 hy|exact leap_2 (by omega) h4|exact leap_3 (by omega) h4)⟩)⟩)⟩
theorem day5 (y m:Int): ¬((1≤y∧y≤9999)∧1≤m∧m≤12)∨(((1≤y∧y≤9999)∧m=2)∧leapI y=true)∨(((1≤y∧y≤9999)∧m=2)∧leapI y=false)∨(((1≤y∧y≤9999)∧1≤m∧m≤12)∧ ¬m=2∧(m=4∨m=6∨m=9∨m=11))∨(((1≤y∧y≤9999)∧1≤m∧m≤12)∧ ¬m=2∧ ¬(m=4∨m=6∨m=9∨m=11)):=by
 cases leapI y<;>simp<;>omega
noncomputable def ctb27:List (Ct dk):= [
 ct1 93 0 en93 vI (fun x=> .s (eB (leapI x))) (fun x=> []) fun _ p _ _ h1=>refLeap_t h1]++ctb26
theorem refDays_t {w:World} {v0 v1:Value} {y m:Int} (h0:(isE (.int .i64 y)) w v0) (h1:(isE (.int .i64 m)) w v1):Calls Tryz.prog 70 #[v0,v1] w (Ret w fun v w'=>(isE (.int .i64 (dayI y m))) w' v):=by
 rcases day5 y m with h8|h8|h8|h8|h8
 ·exact fx ctb27 Tryz.func70 (hnX [(1,[(3,777777,none),(4,777777,none),(5,777777,none),(7,777777,none),(8,777777,none),(9,777777,none),(11,777777,none),(12,777777,none),(13,777777,oS (eB true))])]) [(0,eI y),(1,eI m)] (.s (eI (dayI y m))) ⟨h0,h1,trivial⟩ (im2 (decide ((y:Int)<1)==false)∧(decide ((y:Int)<1)=false→(decide ((y:Int)<1)==false)=true)∧im2 (cond (decide ((y:Int)<1)) true (decide ((9999:Int)<y))==false)∧(cond (decide ((y:Int)<1)) true (decide ((9999:Int)<y))=false→(cond (decide ((y:Int)<1)) true (decide ((9999:Int)<y))==false)=true)∧im2 (cond (cond (decide ((y:Int)<1)) true (decide ((9999:Int)<y))) true (decide ((m:Int)<1))==false)∧(cond (cond (decide ((y:Int)<1)) true (decide ((9999:Int)<y))) true (decide ((m:Int)<1))=false→(cond (cond (decide ((y:Int)<1)) true (decide ((9999:Int)<y))) true (decide ((m:Int)<1))==false)=true)∧cond (cond (cond (decide ((y:Int)<1)) true (decide ((9999:Int)<y))) true (decide ((m:Int)<1))) true (decide ((12:Int)<m))=true∧tI 0 (dayI y m)) ⟨id,(fun hp=>by simp_all),id,(fun hp=>by simp_all),id,(fun hp=>by simp_all),(by simp;omega),⟨rfl,by first|exact (day_none (by omega)).symm|(refine day_yes (by omega) ?_;rw [if_pos h8.1.2,h8.2];rfl)|(refine day_yes (by omega) ?_;rw [if_neg h8.2.1];first|rw [if_pos h8.2.2]|rw [if_neg h8.2.2])⟩⟩
 ·exact fx ctb27 Tryz.func70 (hnX [(1,[(3,777777,none),(4,777777,none),(5,777777,none),(7,777777,none),(8,777777,none),(9,777777,none),(11,777777,none),(12,777777,none),(13,777777,oS (eB false))]),(3,[(1,0,oS (eB true))]),(5,[(0,0,oS (eB true))])]) [(0,eI y),(1,eI m)] (.s (eI (dayI y m))) ⟨h0,h1,trivial⟩ (im2 (decide ((y:Int)<1)==false)∧(decide ((y:Int)<1)=false→(decide ((y:Int)<1)==false)=true)∧im2 (cond (decide ((y:Int)<1)) true (decide ((9999:Int)<y))==false)∧(cond (decide ((y:Int)<1)) true (decide ((9999:Int)<y))=false→(cond (decide ((y:Int)<1)) true (decide ((9999:Int)<y))==false)=true)∧im2 (cond (cond (decide ((y:Int)<1)) true (decide ((9999:Int)<y))) true (decide ((m:Int)<1))==false)∧(cond (cond (decide ((y:Int)<1)) true (decide ((9999:Int)<y))) true (decide ((m:Int)<1))=false→(cond (cond (decide ((y:Int)<1)) true (decide ((9999:Int)<y))) true (decide ((m:Int)<1))==false)=true)∧cond (cond (cond (decide ((y:Int)<1)) true (decide ((9999:Int)<y))) true (decide ((m:Int)<1))) true (decide ((12:Int)<m))=false∧decide ((m:Int)=2)=true∧leapI y=true∧tI 29 (dayI y m)) ⟨id,(fun hp=>by simp_all),id,(fun hp=>by simp_all),id,(fun hp=>by simp_all),(by simp;omega),(by simp;omega),h8.2,⟨rfl,by first|exact (day_none (by omega)).symm|(refine day_yes (by omega) ?_;rw [if_pos h8.1.2,h8.2];rfl)|(refine day_yes (by omega) ?_;rw [if_neg h8.2.1];first|rw [if_pos h8.2.2]|rw [if_neg h8.2.2])⟩⟩
 ·exact fx ctb27 Tryz.func70 (hnX [(1,[(3,777777,none),(4,777777,none),(5,777777,none),(7,777777,none),(8,777777,none),(9,777777,none),(11,777777,none),(12,777777,none),(13,777777,oS (eB false))]),(3,[(1,0,oS (eB true))]),(5,[(0,0,oS (eB false))])]) [(0,eI y),(1,eI m)] (.s (eI (dayI y m))) ⟨h0,h1,trivial⟩ (im2 (decide ((y:Int)<1)==false)∧(decide ((y:Int)<1)=false→(decide ((y:Int)<1)==false)=true)∧im2 (cond (decide ((y:Int)<1)) true (decide ((9999:Int)<y))==false)∧(cond (decide ((y:Int)<1)) true (decide ((9999:Int)<y))=false→(cond (decide ((y:Int)<1)) true (decide ((9999:Int)<y))==false)=true)∧im2 (cond (cond (decide ((y:Int)<1)) true (decide ((9999:Int)<y))) true (decide ((m:Int)<1))==false)∧(cond (cond (decide ((y:Int)<1)) true (decide ((9999:Int)<y))) true (decide ((m:Int)<1))=false→(cond (cond (decide ((y:Int)<1)) true (decide ((9999:Int)<y))) true (decide ((m:Int)<1))==false)=true)∧cond (cond (cond (decide ((y:Int)<1)) true (decide ((9999:Int)<y))) true (decide ((m:Int)<1))) true (decide ((12:Int)<m))=false∧decide ((m:Int)=2)=true∧leapI y=false∧tI 28 (dayI y m)) ⟨id,(fun hp=>by simp_all),id,(fun hp=>by simp_all),id,(fun hp=>by simp_all),(by simp;omega),(by simp;omega),h8.2,⟨rfl,by first|exact (day_none (by omega)).symm|(refine day_yes (by omega) ?_;rw [if_pos h8.1.2,h8.2];rfl)|(refine day_yes (by omega) ?_;rw [if_neg h8.2.1];first|rw [if_pos h8.2.2]|rw [if_neg h8.2.2])⟩⟩
 ·exact fx ctb27 Tryz.func70 (hnX [(1,[(3,777777,none),(4,777777,none),(5,777777,none),(7,777777,none),(8,777777,none),(9,777777,none),(11,777777,none),(12,777777,none),(13,777777,oS (eB false))]),(3,[(1,0,oS (eB false))]),(8,[(3,777777,none),(4,777777,none),(5,777777,none),(7,777777,none),(8,777777,none),(9,777777,none),(11,777777,none),(12,777777,none),(13,777777,oS (eB true))])]) [(0,eI y),(1,eI m)] (.s (eI (dayI y m))) ⟨h0,h1,trivial⟩ (im2 (decide ((y:Int)<1)==false)∧(decide ((y:Int)<1)=false→(decide ((y:Int)<1)==false)=true)∧im2 (cond (decide ((y:Int)<1)) true (decide ((9999:Int)<y))==false)∧(cond (decide ((y:Int)<1)) true (decide ((9999:Int)<y))=false→(cond (decide ((y:Int)<1)) true (decide ((9999:Int)<y))==false)=true)∧im2 (cond (cond (decide ((y:Int)<1)) true (decide ((9999:Int)<y))) true (decide ((m:Int)<1))==false)∧(cond (cond (decide ((y:Int)<1)) true (decide ((9999:Int)<y))) true (decide ((m:Int)<1))=false→(cond (cond (decide ((y:Int)<1)) true (decide ((9999:Int)<y))) true (decide ((m:Int)<1))==false)=true)∧cond (cond (cond (decide ((y:Int)<1)) true (decide ((9999:Int)<y))) true (decide ((m:Int)<1))) true (decide ((12:Int)<m))=false∧decide ((m:Int)=2)=false∧im2 (decide ((m:Int)=4)==false)∧(decide ((m:Int)=4)=false→(decide ((m:Int)=4)==false)=true)∧im2 (cond (decide ((m:Int)=4)) true (decide ((m:Int)=6))==false)∧(cond (decide ((m:Int)=4)) true (decide ((m:Int)=6))=false→(cond (decide ((m:Int)=4)) true (decide ((m:Int)=6))==false)=true)∧im2 (cond (cond (decide ((m:Int)=4)) true (decide ((m:Int)=6))) true (decide ((m:Int)=9))==false)∧(cond (cond (decide ((m:Int)=4)) true (decide ((m:Int)=6))) true (decide ((m:Int)=9))=false→(cond (cond (decide ((m:Int)=4)) true (decide ((m:Int)=6))) true (decide ((m:Int)=9))==false)=true)∧cond (cond (cond (decide ((m:Int)=4)) true (decide ((m:Int)=6))) true (decide ((m:Int)=9))) true (decide ((m:Int)=11))=true∧tI 30 (dayI y m)) ⟨id,(fun hp=>by simp_all),id,(fun hp=>by simp_all),id,(fun hp=>by simp_all),(by simp;omega),(by simp;omega),id,(fun hp=>by simp_all),id,(fun hp=>by simp_all),id,(fun hp=>by simp_all),(by simp;omega),⟨rfl,by first|exact (day_none (by omega)).symm|(refine day_yes (by omega) ?_;rw [if_pos h8.1.2,h8.2];rfl)|(refine day_yes (by omega) ?_;rw [if_neg h8.2.1];first|rw [if_pos h8.2.2]|rw [if_neg h8.2.2])⟩⟩
 ·exact fx ctb27 Tryz.func70 (hnX [(1,[(3,777777,none),(4,777777,none),(5,777777,none),(7,777777,none),(8,777777,none),(9,777777,none),(11,777777,none),(12,777777,none),(13,777777,oS (eB false))]),(3,[(1,0,oS (eB false))]),(8,[(3,777777,none),(4,777777,none),(5,777777,none),(7,777777,none),(8,777777,none),(9,777777,none),(11,777777,none),(12,777777,none),(13,777777,oS (eB false))])]) [(0,eI y),(1,eI m)] (.s (eI (dayI y m))) ⟨h0,h1,trivial⟩ (im2 (decide ((y:Int)<1)==false)∧(decide ((y:Int)<1)=false→(decide ((y:Int)<1)==false)=true)∧im2 (cond (decide ((y:Int)<1)) true (decide ((9999:Int)<y))==false)∧(cond (decide ((y:Int)<1)) true (decide ((9999:Int)<y))=false→(cond (decide ((y:Int)<1)) true (decide ((9999:Int)<y))==false)=true)∧im2 (cond (cond (decide ((y:Int)<1)) true (decide ((9999:Int)<y))) true (decide ((m:Int)<1))==false)∧(cond (cond (decide ((y:Int)<1)) true (decide ((9999:Int)<y))) true (decide ((m:Int)<1))=false→(cond (cond (decide ((y:Int)<1)) true (decide ((9999:Int)<y))) true (decide ((m:Int)<1))==false)=true)∧cond (cond (cond (decide ((y:Int)<1)) true (decide ((9999:Int)<y))) true (decide ((m:Int)<1))) true (decide ((12:Int)<m))=false∧decide ((m:Int)=2)=false∧im2 (decide ((m:Int)=4)==false)∧(decide ((m:Int)=4)=false→(decide ((m:Int)=4)==false)=true)∧im2 (cond (decide ((m:Int)=4)) true (decide ((m:Int)=6))==false)∧(cond (decide ((m:Int)=4)) true (decide ((m:Int)=6))=false→(cond (decide ((m:Int)=4)) true (decide ((m:Int)=6))==false)=true)∧im2 (cond (cond (decide ((m:Int)=4)) true (decide ((m:Int)=6))) true (decide ((m:Int)=9))==false)∧(cond (cond (decide ((m:Int)=4)) true (decide ((m:Int)=6))) true (decide ((m:Int)=9))=false→(cond (cond (decide ((m:Int)=4)) true (decide ((m:Int)=6))) true (decide ((m:Int)=9))==false)=true)∧cond (cond (cond (decide ((m:Int)=4)) true (decide ((m:Int)=6))) true (decide ((m:Int)=9))) true (decide ((m:Int)=11))=false∧tI 31 (dayI y m)) ⟨id,(fun hp=>by simp_all),id,(fun hp=>by simp_all),id,(fun hp=>by simp_all),(by simp;omega),(by simp;omega),id,(fun hp=>by simp_all),id,(fun hp=>by simp_all),id,(fun hp=>by simp_all),(by simp;omega),⟨rfl,by first|exact (day_none (by omega)).symm|(refine day_yes (by omega) ?_;rw [if_pos h8.1.2,h8.2];rfl)|(refine day_yes (by omega) ?_;rw [if_neg h8.2.1];first|rw [if_pos h8.2.2]|rw [if_neg h8.2.2])⟩⟩
def vDt:Vw (Int×Int×Int):=⟨fun| .E (.agg ⟨[.int .i64 a, .int .i64 b, .int .i64 c]⟩)=>some (a,b,c)|_=>none,fun a=>isE (.agg #[.int .i64 a.1, .int .i64 a.2.1, .int .i64 a.2.2]),fun k a h w v hv=>by
 split at h
 ·injection h with h
  subst h
  exact hv
 ·cases h⟩
theorem right_b {y m d:Int}:cond (decide ((1:Int)≤d)) (decide (d≤dayI y m)) false=decide (rightI y m d):=by
 rw [Bool.eq_iff_iff,decide_eq_true_eq]
 unfold rightI
 by_cases a:(1:Int)≤d<;>simp [a]
noncomputable def ctb28:List (Ct dk):= [
 ct2 70 0 en70 vI vI (fun x y=> .s (eI (dayI x y))) (fun x y=> []) fun _ _ p _ _ _ h1 h2=>refDays_t h1 h2]++ctb27
theorem refRight_t {w:World} {v0:Value} {y m d:Int} (h0:(f0 w (.s (eD y m d))).p w v0):Calls Tryz.prog 37 #[v0] w (Ret w fun v w'=>(isE (.bool (decide (rightI y m d)))) w' v):=by
 exact fx ctb28 Tryz.func37 (hnX [(2,[(4,777777,none),(5,777777,none),(6,777777,none),(7,777777,none),(8,777777,none)])]) [(0,eD y m d)] (.s (eB (decide (rightI y m d)))) ⟨h0,trivial⟩ (im2 (decide ((1:Int)≤d)==true)∧im2 (decide ((1:Int)≤d)==true)∧im2 (decide ((1:Int)≤d)==true)∧(decide ((1:Int)≤d)=true→(decide ((1:Int)≤d)==true)=true)∧cond (decide ((1:Int)≤d)) (decide ((d:Int)≤dayI y m)) false=decide (rightI y m d)) ⟨id,id,id,(fun hp=>by simp_all),right_b⟩
def nY (p:Nat) (y:Int):Nat→Int
 |0=>yS p
 |b+1=>nY p y b+dayI y ((b:Int)+1)
theorem nY_eq {p:Nat} {y:Int}: ∀b:Nat,nY p y b=yS p+mS y b:=by
 intro b
 induction b with
 |zero=>show yS p=yS p+0;omega
 |succ b ih=>
  show nY p y b+dayI y ((b:Int)+1)=yS p+(mS y b+dayI y ((b:Int)+1))
  omega
theorem yS_in {a:Nat} (h:a≤9999):0≤yS a∧yS a≤3652059:=by
 have h1:=yS_mono (n:=0) (m:=a) (by omega)
 have h2:=yS_mono h
 rw [yS_last] at h2
 have z:yS 0=0:=rfl
 omega
theorem nY_in {y:Int} (hy:1≤y∧y≤9999) {p b:Nat} (hp:p≤9999) (hb:b≤12):0≤nY p y b∧nY p y b≤3653000:=by
 rw [nY_eq]
 have h1:=yS_in hp
 have h2:=mS_le hy (n:=0) (m:=b) (by omega) hb
 have h3:=mS_le hy (n:=b) (m:=12) hb (by omega)
 rw [mS_year hy] at h3
 have h4:=yr_lo y
 have z:mS y 0=0:=rfl
 omega
theorem lt3 (a:Nat) (y:Int):(a<(y-1).toNat∧leapI ((a:Int)+1)=true)∨(a<(y-1).toNat∧leapI ((a:Int)+1)=false)∨(y-1).toNat≤a:=by
 rcases Nat.lt_or_ge a (y-1).toNat with h|h
 ·cases leapI ((a:Int)+1)
  ·exact .inr (.inl ⟨h,rfl⟩)
  ·exact .inl ⟨h,rfl⟩
 ·exact .inr (.inr h)
theorem yS_leap {a:Nat} (h:leapI ((a:Int)+1)=true):yS a+365+1=yS (a+1):=by
 show _=yS a+yrI ((a:Int)+1)
 unfold yrI
 rw [if_pos h]
 omega
theorem yS_flat {a:Nat} (h:leapI ((a:Int)+1)=false):yS a+365=yS (a+1):=by
 show _=yS a+yrI ((a:Int)+1)
 unfold yrI
 rw [if_neg (by rw [h];decide)]
noncomputable abbrev rrefNumber_t:=rX ctb28 Tryz.f92
noncomputable abbrev drefNumber_t (y m d:Int):=dX ctb28 Tryz.f92 (.s (eI (numI y m d)))
noncomputable def hrefNumber_t (y m d:Int):Nat→Hint K:=fun _=> []
noncomputable def irefNumber_t_0 (y m d:Int) (a:Nat):Sx K:=⟨[(2,eI 0),(4,eI ((a:Int)+1)),(3,eI (yS a))],[⟨1,28,eD y m d⟩]⟩
noncomputable def hrefNumber_t_0_0 (y m d:Int) (a:Nat):Nat→Hint K:=hnX [(3,[(3,0,oS (eB true))]),(4,[(1,0,oS (eI (((a+1:Nat):Int)+1)))]),(7,[(0,0,oS (eB true))]),(8,[(1,0,oS (eI (yS (a+1))))])]
noncomputable def hrefNumber_t_0_1 (y m d:Int) (a:Nat):Nat→Hint K:=hnX [(3,[(3,0,oS (eB true))]),(4,[(1,0,oS (eI (((a+1:Nat):Int)+1)))]),(6,[(1,0,oS (eI (yS (a+1))))]),(7,[(0,0,oS (eB false))])]
noncomputable def irefNumber_t_1 (y m d:Int) (g:Nat×Nat):Sx K:=⟨[(2,eI 0),(6,eI ((g.2:Int)+1)),(3,eI (nY g.1 y g.2))],[⟨1,28,eD y m d⟩]⟩
noncomputable def hrefNumber_t_1_0 (y m d:Int) (g:Nat×Nat):Nat→Hint K:=hnX [(10,[(3,0,oS (eB true))]),(11,[(1,0,oS (eI (((g.2+1:Nat):Int)+1)))])]
noncomputable def hrefNumber_t_1_1 (y m d:Int) (g:Nat×Nat):Nat→Hint K:=hnX [(10,[(3,0,oS (eB false))])]
noncomputable def hrefNumber_t_0_2 (y m d:Int) (a:Nat):Nat→Hint K:=hnX [(3,[(3,0,oS (eB false))])]
theorem refNumber_t {w:World} {v0:Value} {y m d:Int} (h0:(f0 w (.s (eD y m d))).p w v0) (hr:rightI y m d):Calls Tryz.prog 92 #[v0] w (Ret w fun v w'=>(isE (.int .i64 (numI y m d))) w' v):=by
 exact fx ctb28 Tryz.func92 (hrefNumber_t y m d) [(0,eD y m d)] (.s (eI (numI y m d))) ⟨h0,trivial⟩ (drefNumber_t y m d [1,0,1] [(hrefNumber_t y m d)] [] (rlX (rrefNumber_t (hrefNumber_t y m d)) [2,1] (ent Tryz.prog Tryz.f92 (κ:=K) [(0,eD y m d)]))) (lpI (fun h S' J=>drefNumber_t y m d [1,0,1,0,2] [(hrefNumber_t y m d),h] [J] S') (fun a:Nat=>a≤(y-1).toNat) (fun a=>(y-1).toNat-a) (irefNumber_t_0 y m d) (0) (rlX (rrefNumber_t (hrefNumber_t y m d)) [2,1] (ent Tryz.prog Tryz.f92 (κ:=K) [(0,eD y m d)])) (Nat.zero_le _) (fun a hC1 J1 hJ1=>(by
  have hq:=right_in hr
  have hyb:=yS_in (a:=a) (by omega)
  rcases lt3 a y with h8|h8|h8
  ·exact ⟨hrefNumber_t_0_0 y m d a,vcP (decide (((a:Int)+1:Int)<y)=true∧wp (yS a+365)∧leapI ((a:Int)+1)=true∧wp ((yS a+365)+1)∧tI ((yS a+365)+1) (yS (a+1))∧wp (((a:Int)+1)+1)∧tI (((a:Int)+1)+1) (((a+1:Nat):Int)+1)∧J1 (rlX (rrefNumber_t (hrefNumber_t_0_0 y m d a)) [4,8,7,6,5,3] (irefNumber_t_0 y m d a))) ⟨decide_eq_true (by omega),wi (by omega),h8.2,wi (by omega),⟨rfl,yS_leap h8.2⟩,wi (by omega),⟨rfl,by omega⟩,hJ1 (a+1) _ (by omega) (by omega) ⟨by kernel_rfl,by kernel_rfl⟩⟩⟩
  ·exact ⟨hrefNumber_t_0_1 y m d a,vcP (decide (((a:Int)+1:Int)<y)=true∧wp (yS a+365)∧tI (yS a+365) (yS (a+1))∧leapI ((a:Int)+1)=false∧wp (((a:Int)+1)+1)∧tI (((a:Int)+1)+1) (((a+1:Nat):Int)+1)∧J1 (rlX (rrefNumber_t (hrefNumber_t_0_1 y m d a)) [4,7,6,5,3] (irefNumber_t_0 y m d a))) ⟨decide_eq_true (by omega),wi (by omega),⟨rfl,yS_flat h8.2⟩,h8.2,wi (by omega),⟨rfl,by omega⟩,hJ1 (a+1) _ (by omega) (by omega) ⟨by kernel_rfl,by kernel_rfl⟩⟩⟩
  ·exact ⟨hrefNumber_t_0_2 y m d a,vcP (decide (((a:Int)+1:Int)<y)=false∧drefNumber_t y m d [1,1,0,1] [(hrefNumber_t y m d)] [] (rrefNumber_t (hrefNumber_t y m d) 9 (rrefNumber_t (hrefNumber_t_0_2 y m d a) 3 (irefNumber_t_0 y m d a)))) ⟨decide_eq_false (by omega),(have hC1:a=(y-1).toNat:=(by omega);(lpI (fun h S' J=>drefNumber_t y m d [1,1,0,1,0,2] [(hrefNumber_t y m d),h] [J] S') (fun g:Nat×Nat=>g.1=(y-1).toNat∧g.2≤(m-1).toNat) (fun g=>(m-1).toNat-g.2) (irefNumber_t_1 y m d) (a,0) (rrefNumber_t (hrefNumber_t y m d) 9 (rrefNumber_t (hrefNumber_t_0_2 y m d a) 3 (irefNumber_t_0 y m d a))) (⟨hC1,Nat.zero_le _⟩) (fun g hC1 J1 hJ1=>(by
  have hq:=right_in hr
  have hyb:=nY_in hq.1 (p:=g.1) (b:=g.2) (by omega) (by omega)
  have hdd:=day_of hq.1 (m:=(g.2:Int)+1)
  rcases Nat.lt_or_ge g.2 (m-1).toNat with h8|h8
  ·exact ⟨hrefNumber_t_1_0 y m d g,vcP (decide (((g.2:Int)+1:Int)<m)=true∧wp (nY g.1 y g.2+dayI y ((g.2:Int)+1))∧wp (((g.2:Int)+1)+1)∧tI (((g.2:Int)+1)+1) (((g.2+1:Nat):Int)+1)∧J1 (rlX (rrefNumber_t (hrefNumber_t_1_0 y m d g)) [11,13,12,10] (irefNumber_t_1 y m d g))) ⟨decide_eq_true (by omega),wi (by omega),wi (by omega),⟨rfl,by omega⟩,hJ1 (g.1,g.2+1) _ (⟨hC1.1,by omega⟩) (by omega) ⟨by kernel_rfl,by kernel_rfl⟩⟩⟩
  ·exact ⟨hrefNumber_t_1_1 y m d g,vcP (decide (((g.2:Int)+1:Int)<m)=false∧(wp (nY g.1 y g.2+d)∧tI (nY g.1 y g.2+d) (numI y m d))) ⟨decide_eq_false (by omega),(have hC1:g.1=(y-1).toNat∧g.2=(m-1).toNat:=(⟨hC1.1,by omega⟩);⟨wi (by omega),⟨rfl,by unfold numI;rw [nY_eq,hC1.1,hC1.2]⟩⟩)⟩⟩))))⟩⟩)))
def nextB (y m d:Int):Bool:=if d<dayI y m then true else if m<12 then true else decide (y<9999)
theorem nx_1 {y m d:Int} (h:d<dayI y m):nextI y m d=(y,m,d+1)∧nextB y m d=true:=by
 unfold nextI nextB
 rw [if_pos h,if_pos h]
 exact ⟨rfl,rfl⟩
theorem nx_2 {y m d:Int} (h: ¬d<dayI y m) (h2:m<12):nextI y m d=(y,m+1,1)∧nextB y m d=true:=by
 unfold nextI nextB
 rw [if_neg h,if_neg h,if_pos h2,if_pos h2]
 exact ⟨rfl,rfl⟩
theorem nx_3 {y m d:Int} (h: ¬d<dayI y m) (h2: ¬m<12):nextI y m d=(y+1,1,1)∧nextB y m d=decide (y<9999):=by
 unfold nextI nextB
 rw [if_neg h,if_neg h,if_neg h2,if_neg h2]
 exact ⟨rfl,rfl⟩
theorem tmod_in (z:Int) {k:Int} (hk:0<k): -k≤z.tmod k∧z.tmod k<k:=by
 have h:=wrap_mod (z:=z) hk
 have h1:=Int.emod_nonneg z (show k≠0 by omega)
 have h2:=Int.emod_lt_of_pos z hk
 split at h<;>omega
theorem wm_n {z k:Int} (hk:0<k) (h:z.tmod k<0):z.tmod k+k+1=z%k+1:=by
 have:=wrap_mod (z:=z) hk
 rw [if_pos h] at this
 omega
theorem wm_p {z k:Int} (hk:0<k) (h: ¬z.tmod k<0):z.tmod k+1=z%k+1:=by
 have:=wrap_mod (z:=z) hk
 rw [if_neg h] at this
 omega
theorem refMake_t {w:World} {v0 v1:Value} {a b c k:Int} (h0:(f0 w (.s (eD a b c))).p w v0) (h1:(isE (.int .i64 k)) w v1) (hk:1≤k∧k≤9999):Calls Tryz.prog 32 #[v0,v1] w (Ret w fun v w'=>(f0 w (.s (eD (mkY a k) (mkM b) (mkD (mkY a k) (mkM b) c)))).p w' v):=by
 have hy:=mk_y (a:=a) hk.1
 have hm:=mk_m (b:=b)
 have hd:=day_of (y:=mkY a k) ⟨hy.1,by omega⟩ hm
 have ta:=tmod_in a (k:=k) (by omega)
 have tb:=tmod_in b (k:=12) (by omega)
 have tc:=tmod_in c (k:=dayI (mkY a k) (mkM b)) (by omega)
 exact fx ctb28 Tryz.func32 (hnX [(7,[(1,0,oS (eI (mkY a k))),(3,0,oS (eI (mkM b)))]),(11,[(1,0,oS (eI (mkY a k))),(3,0,oS (eI (mkM b))),(5,0,oS (eI (mkD (mkY a k) (mkM b) c)))])]) [(0,eD a b c),(1,eI k)] (.s (eD (mkY a k) (mkM b) (mkD (mkY a k) (mkM b) c))) ⟨h0,h1,trivial⟩ ((k≠(0:Int))∧cnd (decide ((Int.tmod a k:Int)<0)) (wp (Int.tmod a k+k)∧(12≠(0:Int))∧cnd (decide ((Int.tmod b 12:Int)<0)) (wp (Int.tmod b 12+12)∧wp ((Int.tmod a k+k)+1)∧tI ((Int.tmod a k+k)+1) (mkY a k)∧wp ((Int.tmod b 12+12)+1)∧tI ((Int.tmod b 12+12)+1) (mkM b)∧((dayI (mkY a k) (mkM b))≠(0:Int))∧cnd (decide ((Int.tmod c (dayI (mkY a k) (mkM b)):Int)<0)) (wp (Int.tmod c (dayI (mkY a k) (mkM b))+dayI (mkY a k) (mkM b))∧wp ((Int.tmod a k+k)+1)∧tI ((Int.tmod a k+k)+1) (mkY a k)∧wp ((Int.tmod b 12+12)+1)∧tI ((Int.tmod b 12+12)+1) (mkM b)∧wp ((Int.tmod c (dayI (mkY a k) (mkM b))+dayI (mkY a k) (mkM b))+1)∧tI ((Int.tmod c (dayI (mkY a k) (mkM b))+dayI (mkY a k) (mkM b))+1) (mkD (mkY a k) (mkM b) c)∧tK (eD (mkY a k) (mkM b) (mkD (mkY a k) (mkM b) c)) (eD (mkY a k) (mkM b) (mkD (mkY a k) (mkM b) c))) (wp ((Int.tmod a k+k)+1)∧tI ((Int.tmod a k+k)+1) (mkY a k)∧wp ((Int.tmod b 12+12)+1)∧tI ((Int.tmod b 12+12)+1) (mkM b)∧wp (Int.tmod c (dayI (mkY a k) (mkM b))+1)∧tI (Int.tmod c (dayI (mkY a k) (mkM b))+1) (mkD (mkY a k) (mkM b) c)∧tK (eD (mkY a k) (mkM b) (mkD (mkY a k) (mkM b) c)) (eD (mkY a k) (mkM b) (mkD (mkY a k) (mkM b) c)))) (wp ((Int.tmod a k+k)+1)∧tI ((Int.tmod a k+k)+1) (mkY a k)∧wp (Int.tmod b 12+1)∧tI (Int.tmod b 12+1) (mkM b)∧((dayI (mkY a k) (mkM b))≠(0:Int))∧cnd (decide ((Int.tmod c (dayI (mkY a k) (mkM b)):Int)<0)) (wp (Int.tmod c (dayI (mkY a k) (mkM b))+dayI (mkY a k) (mkM b))∧wp ((Int.tmod a k+k)+1)∧tI ((Int.tmod a k+k)+1) (mkY a k)∧wp (Int.tmod b 12+1)∧tI (Int.tmod b 12+1) (mkM b)∧wp ((Int.tmod c (dayI (mkY a k) (mkM b))+dayI (mkY a k) (mkM b))+1)∧tI ((Int.tmod c (dayI (mkY a k) (mkM b))+dayI (mkY a k) (mkM b))+1) (mkD (mkY a k) (mkM b) c)∧tK (eD (mkY a k) (mkM b) (mkD (mkY a k) (mkM b) c)) (eD (mkY a k) (mkM b) (mkD (mkY a k) (mkM b) c))) (wp ((Int.tmod a k+k)+1)∧tI ((Int.tmod a k+k)+1) (mkY a k)∧wp (Int.tmod b 12+1)∧tI (Int.tmod b 12+1) (mkM b)∧wp (Int.tmod c (dayI (mkY a k) (mkM b))+1)∧tI (Int.tmod c (dayI (mkY a k) (mkM b))+1) (mkD (mkY a k) (mkM b) c)∧tK (eD (mkY a k) (mkM b) (mkD (mkY a k) (mkM b) c)) (eD (mkY a k) (mkM b) (mkD (mkY a k) (mkM b) c))))) ((12≠(0:Int))∧cnd (decide ((Int.tmod b 12:Int)<0)) (wp (Int.tmod b 12+12)∧wp (Int.tmod a k+1)∧tI (Int.tmod a k+1) (mkY a k)∧wp ((Int.tmod b 12+12)+1)∧tI ((Int.tmod b 12+12)+1) (mkM b)∧((dayI (mkY a k) (mkM b))≠(0:Int))∧cnd (decide ((Int.tmod c (dayI (mkY a k) (mkM b)):Int)<0)) (wp (Int.tmod c (dayI (mkY a k) (mkM b))+dayI (mkY a k) (mkM b))∧wp (Int.tmod a k+1)∧tI (Int.tmod a k+1) (mkY a k)∧wp ((Int.tmod b 12+12)+1)∧tI ((Int.tmod b 12+12)+1) (mkM b)∧wp ((Int.tmod c (dayI (mkY a k) (mkM b))+dayI (mkY a k) (mkM b))+1)∧tI ((Int.tmod c (dayI (mkY a k) (mkM b))+dayI (mkY a k) (mkM b))+1) (mkD (mkY a k) (mkM b) c)∧tK (eD (mkY a k) (mkM b) (mkD (mkY a k) (mkM b) c)) (eD (mkY a k) (mkM b) (mkD (mkY a k) (mkM b) c))) (wp (Int.tmod a k+1)∧tI (Int.tmod a k+1) (mkY a k)∧wp ((Int.tmod b 12+12)+1)∧tI ((Int.tmod b 12+12)+1) (mkM b)∧wp (Int.tmod c (dayI (mkY a k) (mkM b))+1)∧tI (Int.tmod c (dayI (mkY a k) (mkM b))+1) (mkD (mkY a k) (mkM b) c)∧tK (eD (mkY a k) (mkM b) (mkD (mkY a k) (mkM b) c)) (eD (mkY a k) (mkM b) (mkD (mkY a k) (mkM b) c)))) (wp (Int.tmod a k+1)∧tI (Int.tmod a k+1) (mkY a k)∧wp (Int.tmod b 12+1)∧tI (Int.tmod b 12+1) (mkM b)∧((dayI (mkY a k) (mkM b))≠(0:Int))∧cnd (decide ((Int.tmod c (dayI (mkY a k) (mkM b)):Int)<0)) (wp (Int.tmod c (dayI (mkY a k) (mkM b))+dayI (mkY a k) (mkM b))∧wp (Int.tmod a k+1)∧tI (Int.tmod a k+1) (mkY a k)∧wp (Int.tmod b 12+1)∧tI (Int.tmod b 12+1) (mkM b)∧wp ((Int.tmod c (dayI (mkY a k) (mkM b))+dayI (mkY a k) (mkM b))+1)∧tI ((Int.tmod c (dayI (mkY a k) (mkM b))+dayI (mkY a k) (mkM b))+1) (mkD (mkY a k) (mkM b) c)∧tK (eD (mkY a k) (mkM b) (mkD (mkY a k) (mkM b) c)) (eD (mkY a k) (mkM b) (mkD (mkY a k) (mkM b) c))) (wp (Int.tmod a k+1)∧tI (Int.tmod a k+1) (mkY a k)∧wp (Int.tmod b 12+1)∧tI (Int.tmod b 12+1) (mkM b)∧wp (Int.tmod c (dayI (mkY a k) (mkM b))+1)∧tI (Int.tmod c (dayI (mkY a k) (mkM b))+1) (mkD (mkY a k) (mkM b) c)∧tK (eD (mkY a k) (mkM b) (mkD (mkY a k) (mkM b) c)) (eD (mkY a k) (mkM b) (mkD (mkY a k) (mkM b) c)))))) ⟨(by omega),(Classical.em (a.tmod k<0)).elim (fun ha=>cnd_t (by simpa using ha) ⟨wi (by omega),(by decide),(Classical.em (b.tmod 12<0)).elim (fun hb=>cnd_t (by simpa using hb) ⟨wi (by omega),wi (by omega),⟨rfl,by first|exact wm_n (by omega) ha|exact wm_p (by omega) ha⟩,wi (by omega),⟨rfl,by first|exact wm_n (by omega) hb|exact wm_p (by omega) hb⟩,(by omega),(Classical.em (c.tmod (dayI (mkY a k) (mkM b))<0)).elim (fun hc=>cnd_t (by simpa using hc) ⟨wi (by omega),wi (by omega),⟨rfl,by first|exact wm_n (by omega) ha|exact wm_p (by omega) ha⟩,wi (by omega),⟨rfl,by first|exact wm_n (by omega) hb|exact wm_p (by omega) hb⟩,wi (by omega),⟨rfl,by first|exact wm_n (by omega) hc|exact wm_p (by omega) hc⟩,(fun _ _ _ _ _ h=>h)⟩) (fun hc=>cnd_f (by simpa using hc) ⟨wi (by omega),⟨rfl,by first|exact wm_n (by omega) ha|exact wm_p (by omega) ha⟩,wi (by omega),⟨rfl,by first|exact wm_n (by omega) hb|exact wm_p (by omega) hb⟩,wi (by omega),⟨rfl,by first|exact wm_n (by omega) hc|exact wm_p (by omega) hc⟩,(fun _ _ _ _ _ h=>h)⟩)⟩) (fun hb=>cnd_f (by simpa using hb) ⟨wi (by omega),⟨rfl,by first|exact wm_n (by omega) ha|exact wm_p (by omega) ha⟩,wi (by omega),⟨rfl,by first|exact wm_n (by omega) hb|exact wm_p (by omega) hb⟩,(by omega),(Classical.em (c.tmod (dayI (mkY a k) (mkM b))<0)).elim (fun hc=>cnd_t (by simpa using hc) ⟨wi (by omega),wi (by omega),⟨rfl,by first|exact wm_n (by omega) ha|exact wm_p (by omega) ha⟩,wi (by omega),⟨rfl,by first|exact wm_n (by omega) hb|exact wm_p (by omega) hb⟩,wi (by omega),⟨rfl,by first|exact wm_n (by omega) hc|exact wm_p (by omega) hc⟩,(fun _ _ _ _ _ h=>h)⟩) (fun hc=>cnd_f (by simpa using hc) ⟨wi (by omega),⟨rfl,by first|exact wm_n (by omega) ha|exact wm_p (by omega) ha⟩,wi (by omega),⟨rfl,by first|exact wm_n (by omega) hb|exact wm_p (by omega) hb⟩,wi (by omega),⟨rfl,by first|exact wm_n (by omega) hc|exact wm_p (by omega) hc⟩,(fun _ _ _ _ _ h=>h)⟩)⟩)⟩) (fun ha=>cnd_f (by simpa using ha) ⟨(by decide),(Classical.em (b.tmod 12<0)).elim (fun hb=>cnd_t (by simpa using hb) ⟨wi (by omega),wi (by omega),⟨rfl,by first|exact wm_n (by omega) ha|exact wm_p (by omega) ha⟩,wi (by omega),⟨rfl,by first|exact wm_n (by omega) hb|exact wm_p (by omega) hb⟩,(by omega),(Classical.em (c.tmod (dayI (mkY a k) (mkM b))<0)).elim (fun hc=>cnd_t (by simpa using hc) ⟨wi (by omega),wi (by omega),⟨rfl,by first|exact wm_n (by omega) ha|exact wm_p (by omega) ha⟩,wi (by omega),⟨rfl,by first|exact wm_n (by omega) hb|exact wm_p (by omega) hb⟩,wi (by omega),⟨rfl,by first|exact wm_n (by omega) hc|exact wm_p (by omega) hc⟩,(fun _ _ _ _ _ h=>h)⟩) (fun hc=>cnd_f (by simpa using hc) ⟨wi (by omega),⟨rfl,by first|exact wm_n (by omega) ha|exact wm_p (by omega) ha⟩,wi (by omega),⟨rfl,by first|exact wm_n (by omega) hb|exact wm_p (by omega) hb⟩,wi (by omega),⟨rfl,by first|exact wm_n (by omega) hc|exact wm_p (by omega) hc⟩,(fun _ _ _ _ _ h=>h)⟩)⟩) (fun hb=>cnd_f (by simpa using hb) ⟨wi (by omega),⟨rfl,by first|exact wm_n (by omega) ha|exact wm_p (by omega) ha⟩,wi (by omega),⟨rfl,by first|exact wm_n (by omega) hb|exact wm_p (by omega) hb⟩,(by omega),(Classical.em (c.tmod (dayI (mkY a k) (mkM b))<0)).elim (fun hc=>cnd_t (by simpa using hc) ⟨wi (by omega),wi (by omega),⟨rfl,by first|exact wm_n (by omega) ha|exact wm_p (by omega) ha⟩,wi (by omega),⟨rfl,by first|exact wm_n (by omega) hb|exact wm_p (by omega) hb⟩,wi (by omega),⟨rfl,by first|exact wm_n (by omega) hc|exact wm_p (by omega) hc⟩,(fun _ _ _ _ _ h=>h)⟩) (fun hc=>cnd_f (by simpa using hc) ⟨wi (by omega),⟨rfl,by first|exact wm_n (by omega) ha|exact wm_p (by omega) ha⟩,wi (by omega),⟨rfl,by first|exact wm_n (by omega) hb|exact wm_p (by omega) hb⟩,wi (by omega),⟨rfl,by first|exact wm_n (by omega) hc|exact wm_p (by omega) hc⟩,(fun _ _ _ _ _ h=>h)⟩)⟩)⟩)⟩
end Go.Proofs.YtjpilacbapibjaaGreatDoor.X
