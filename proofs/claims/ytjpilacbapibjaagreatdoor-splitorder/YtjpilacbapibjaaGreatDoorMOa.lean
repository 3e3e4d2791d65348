/- The reference of layer 10. Written by a script (tools/laws). -/
import Derived.Test.YtjpilacbapibjaaGreatDoorDYd
import Derived.Test.YtjpilacbapibjaaGreatDoorMo
namespace Go.Proofs.YtjpilacbapibjaaGreatDoor.X
open Go.Proofs.YtjpilacbapibjaaGreatDoor.Da
open Go.RowKit Go.Proofs.YtjpilacbapibjaaGreatDoor.Z
set_option linter.unusedVariables false
def adG (y m d n:Int):Int×Int×Int:=if moOk y m n then adT y m d n else (0,0,0)
theorem ag_yes {y m d n:Int} (h:moOk y m n):adG y m d n=adT y m d n:=by unfold adG;rw [if_pos h]
theorem ag_no {y m d n:Int} (h: ¬moOk y m n):adG y m d n=(0,0,0):=by unfold adG;rw [if_neg h]
def lY (y:Int) (k j:Nat):Int:=y+k-j
def lM (m n:Int) (k j:Nat):Int:=m+n-12*k+12*j
theorem lY_eq (y:Int) (k j:Nat):lY y k j=y+(k:Int) -(j:Int):=rfl
theorem lM_eq (m n:Int) (k j:Nat):lM m n k j=m+n-12*(k:Int)+12*(j:Int):=rfl
theorem l_end {y m n:Int} {k j:Nat} (h:1≤lM m n k j∧lM m n k j≤12):lY y k j=moY (moI y m n)∧lM m n k j=moM (moI y m n):=
 mo_of h (by unfold lY lM moI;omega)
theorem l_b {y m n:Int} {k j:Nat} (h:1≤lM m n k j∧lM m n k j≤12):cond (decide (lY y k j<(1:Int))) true (decide ((9999:Int)<lY y k j))= !decide (moOk y m n):=by
 have e:=(l_end (y:=y) h).1
 have e2:moOk y m n↔1≤lY y k j∧lY y k j≤9999:=by
  rw [e]
  unfold moOk moY
  omega
 rw [decide_eq_decide.2 e2]
 by_cases a:lY y k j<(1:Int)
 ·rw [decide_eq_true a,decide_eq_false (show ¬(1≤lY y k j∧lY y k j≤9999) by omega)]
  rfl
 ·by_cases b:(9999:Int)<lY y k j
  ·rw [decide_eq_false a,decide_eq_true b,decide_eq_false (show ¬(1≤lY y k j∧lY y k j≤9999) by omega)]
   rfl
  ·rw [decide_eq_false a,decide_eq_false b,decide_eq_true (show 1≤lY y k j∧lY y k j≤9999 by omega)]
   rfl
theorem ag_at {y m d n:Int} {k j:Nat} (h:1≤lM m n k j∧lM m n k j≤12) (ho: ¬ ¬moOk y m n):adG y m d n=(lY y k j,lM m n k j,min d (dayI (lY y k j) (lM m n k j))):=by
 rw [ag_yes (by simpa using ho),(l_end (y:=y) h).1,(l_end (y:=y) h).2]
 rfl
theorem mo_far {y m d n:Int} (hr:rightI y m d) (h: ¬(-200000≤n∧n≤200000)): ¬moOk y m n:=fun e=>by
 have h1:=mo_base hr
 have h2:=e.1
 have h3:=e.2
 unfold moI at h2 h3
 omega
theorem k4 (n k:Nat) (s:Int) (p:Prop) [Decidable p]:n≤k∨(k<n∧200000<s)∨(k<n∧s≤200000∧ ¬p)∨(k<n∧s≤200000∧p):=by
 by_cases h:p
 ·rcases Nat.lt_or_ge k n with h1|h1
  ·rcases Int.lt_or_le 200000 s with h2|h2
   ·exact .inr (.inl ⟨h1,h2⟩)
   ·exact .inr (.inr (.inr ⟨h1,h2,h⟩))
  ·exact .inl h1
 ·rcases Nat.lt_or_ge k n with h1|h1
  ·rcases Int.lt_or_le 200000 s with h2|h2
   ·exact .inr (.inl ⟨h1,h2⟩)
   ·exact .inr (.inr (.inl ⟨h1,h2,h⟩))
  ·exact .inl h1
theorem pr_in {k:Nat} {s:Int} (hk:k<1200) (hs:1≤s∧s≤200000):0≤((k:Int)+1)*s∧((k:Int)+1)*s≤240000000:=
 mul_in (A:=1200) (S:=200000) (by omega) (by omega)
end Go.Proofs.YtjpilacbapibjaaGreatDoor.X
