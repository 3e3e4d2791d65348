/- The reference of layer 9. Written by a script (tools/laws). -/
import Derived.Test.YtdofjoijodjajaaDoorLX
import Derived.Test.YtdofjoijodjajaaDoorDc
namespace Go.Proofs.YtdofjoijodjajaaDoor.X
open Go.Proofs.YtdofjoijodjajaaDoor.Da
open Go.RowKit Go.Proofs.YtdofjoijodjajaaDoor.Z
set_option linter.unusedVariables false
theorem leap_1 {y:Int} (h: ¬(1≤y∧y≤9999)):false=leapI y:=by
 rw [Bool.eq_iff_iff,leap_iff]
 simp only [Bool.false_eq_true,false_iff]
 omega
theorem leap_2 {y:Int} (h:1≤y∧y≤9999) (h4:y%400=0):true=leapI y:=by
 rw [Bool.eq_iff_iff,leap_iff]
 simp only [true_iff]
 omega
theorem leap_3 {y:Int} (h:1≤y∧y≤9999) (h4: ¬y%400=0):cond (decide (y%4=0)) (!decide (y%100=0)) false=leapI y:=by
 rw [Bool.eq_iff_iff,leap_iff]
 by_cases a:y%4=0<;>by_cases b:y%100=0<;>simp [a,b]<;>omega
theorem day_yes {y m n:Int} (hy:(1≤y∧y≤9999)∧1≤m∧m≤12) (h:n=if m=2 then (if leapI y then 29 else 28) else if m=4∨m=6∨m=9∨m=11 then 30 else 31):n=dayI y m:=by
 unfold dayI
 rw [if_pos ⟨hy.1.1,hy.1.2,hy.2.1,hy.2.2⟩]
 exact h
theorem day5 (y m:Int): ¬((1≤y∧y≤9999)∧1≤m∧m≤12)∨(((1≤y∧y≤9999)∧m=2)∧leapI y=true)∨(((1≤y∧y≤9999)∧m=2)∧leapI y=false)∨(((1≤y∧y≤9999)∧1≤m∧m≤12)∧ ¬m=2∧(m=4∨m=6∨m=9∨m=11))∨(((1≤y∧y≤9999)∧1≤m∧m≤12)∧ ¬m=2∧ ¬(m=4∨m=6∨m=9∨m=11)):=by
 cases leapI y<;>simp<;>omega
def vDt:Vw (Int×Int×Int):=⟨fun| .E (.agg ⟨[.int .i64 a, .int .i64 b, .int .i64 c]⟩)=>some (a,b,c)|_=>none,fun a=>isE (.agg #[.int .i64 a.1, .int .i64 a.2.1, .int .i64 a.2.2]),fun k a h w v hv=>by
 split at h
 ·injection h with h
  subst h
  exact hv
 ·cases h⟩
theorem right_b {y m d:Int}:cond (decide ((1:Int)≤d)) (decide (d≤dayI y m)) false=decide (rightI y m d):=by
 rw [Bool.eq_iff_iff,decide_eq_true_eq]
 unfold rightI
 by_cases a:(1:Int)≤d<;>simp [a]
def nY (p:Nat) (y:Int):Nat→Int
 |0=>yS p
 |b+1=>nY p y b+dayI y ((b:Int)+1)
theorem nY_eq {p:Nat} {y:Int}: ∀b:Nat,nY p y b=yS p+mS y b:=by
 intro b
 induction b with
 |zero=>show yS p=yS p+0;omega
 |succ b ih=>
  show nY p y b+dayI y ((b:Int)+1)=yS p+(mS y b+dayI y ((b:Int)+1))
  omega
theorem yS_in {a:Nat} (h:a≤9999):0≤yS a∧yS a≤3652059:=by
 have h1:=yS_mono (n:=0) (m:=a) (by omega)
 have h2:=yS_mono h
 rw [yS_last] at h2
 have z:yS 0=0:=rfl
 omega
theorem nY_in {y:Int} (hy:1≤y∧y≤9999) {p b:Nat} (hp:p≤9999) (hb:b≤12):0≤nY p y b∧nY p y b≤3653000:=by
 rw [nY_eq]
 have h1:=yS_in hp
 have h2:=mS_le hy (n:=0) (m:=b) (by omega) hb
 have h3:=mS_le hy (n:=b) (m:=12) hb (by omega)
 rw [mS_year hy] at h3
 have h4:=yr_lo y
 have z:mS y 0=0:=rfl
 omega
theorem lt3 (a:Nat) (y:Int):(a<(y-1).toNat∧leapI ((a:Int)+1)=true)∨(a<(y-1).toNat∧leapI ((a:Int)+1)=false)∨(y-1).toNat≤a:=by
 rcases Nat.lt_or_ge a (y-1).toNat with h|h
 ·cases leapI ((a:Int)+1)
  ·exact .inr (.inl ⟨h,rfl⟩)
  ·exact .inl ⟨h,rfl⟩
 ·exact .inr (.inr h)
theorem yS_leap {a:Nat} (h:leapI ((a:Int)+1)=true):yS a+365+1=yS (a+1):=by
 show _=yS a+yrI ((a:Int)+1)
 unfold yrI
 rw [if_pos h]
 omega
theorem yS_flat {a:Nat} (h:leapI ((a:Int)+1)=false):yS a+365=yS (a+1):=by
 show _=yS a+yrI ((a:Int)+1)
 unfold yrI
 rw [if_neg (by rw [h];decide)]
def nextB (y m d:Int):Bool:=if d<dayI y m then true else if m<12 then true else decide (y<9999)
theorem nx_1 {y m d:Int} (h:d<dayI y m):nextI y m d=(y,m,d+1)∧nextB y m d=true:=by
 unfold nextI nextB
 rw [if_pos h,if_pos h]
 exact ⟨rfl,rfl⟩
theorem nx_2 {y m d:Int} (h: ¬d<dayI y m) (h2:m<12):nextI y m d=(y,m+1,1)∧nextB y m d=true:=by
 unfold nextI nextB
 rw [if_neg h,if_neg h,if_pos h2,if_pos h2]
 exact ⟨rfl,rfl⟩
theorem nx_3 {y m d:Int} (h: ¬d<dayI y m) (h2: ¬m<12):nextI y m d=(y+1,1,1)∧nextB y m d=decide (y<9999):=by
 unfold nextI nextB
 rw [if_neg h,if_neg h,if_neg h2,if_neg h2]
 exact ⟨rfl,rfl⟩
theorem tmod_in (z:Int) {k:Int} (hk:0<k): -k≤z.tmod k∧z.tmod k<k:=by
 have h:=wrap_mod (z:=z) hk
 have h1:=Int.emod_nonneg z (show k≠0 by omega)
 have h2:=Int.emod_lt_of_pos z hk
 split at h<;>omega
theorem wm_n {z k:Int} (hk:0<k) (h:z.tmod k<0):z.tmod k+k+1=z%k+1:=by
 have:=wrap_mod (z:=z) hk
 rw [if_pos h] at this
 omega
theorem wm_p {z k:Int} (hk:0<k) (h: ¬z.tmod k<0):z.tmod k+1=z%k+1:=by
 have:=wrap_mod (z:=z) hk
 rw [if_neg h] at this
 omega
end Go.Proofs.YtdofjoijodjajaaDoor.X
