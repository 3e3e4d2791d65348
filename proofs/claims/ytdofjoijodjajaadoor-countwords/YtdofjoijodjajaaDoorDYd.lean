/- Package date, more: compared, the date of a number. Written by a script (tools/laws). -/
import Derived.Test.YtdofjoijodjajaaDoorDYc
namespace Go.Proofs.YtdofjoijodjajaaDoor.X
open Go.Proofs.YtdofjoijodjajaaDoor.Da
open Go.RowKit Go.Proofs.YtdofjoijodjajaaDoor.Z
set_option linter.unusedVariables false
theorem nan_t {w:World} {v0:Value} {a:Int} (h0:(isE (.int .i64 a)) w v0):Calls Tryd.prog 56 #[v0] w (Ret w fun v w'=>(isE (.bool false)) w' v):=by
 exact fx ctb16 Tryd.func56 (hnX [(1,[(2,0,oS (eB false))])]) [(0,eI a)] (.s (eB false)) ⟨h0,trivial⟩ ((!decide ((a:Int)=a))=false∧false=false) ⟨(by simp),rfl⟩
noncomputable def ctb17:List (Ct dk):= [
 ct1 56 0 en56 vI (fun x=> .s (eB false)) (fun x=> []) fun _ p _ _ h1=>nan_t h1]++ctb16
theorem compare_t {w:World} {v0 v1:Value} {a b:Int} (h0:(isE (.int .i64 a)) w v0) (h1:(isE (.int .i64 b)) w v1):Calls Tryd.prog 31 #[v0,v1] w (Ret w fun v w'=>(isE (.int .i64 (cmpZ a b))) w' v):=by
 exact fx ctb17 Tryd.func31 (fun _=> []) [(0,eI a),(1,eI b)] (.s (eI (cmpZ a b))) ⟨h0,h1,trivial⟩ (cnd (decide ((a:Int)<b)) (tI (-1) (cmpZ a b)) (cnd (decide ((b:Int)<a)) (tI 1 (cmpZ a b)) (tI 0 (cmpZ a b)))) ((Classical.em (a<b)).elim (fun hc=>cnd_t (decide_eq_true hc) ⟨rfl,by first|exact cmpZ_lt hc|exact cmpZ_gt hc hd|exact cmpZ_eq hc hd⟩) (fun hc=>cnd_f (decide_eq_false hc) ((Classical.em (b<a)).elim (fun hd=>cnd_t (decide_eq_true hd) ⟨rfl,by first|exact cmpZ_lt hc|exact cmpZ_gt hc hd|exact cmpZ_eq hc hd⟩) (fun hd=>cnd_f (decide_eq_false hd) ⟨rfl,by first|exact cmpZ_lt hc|exact cmpZ_gt hc hd|exact cmpZ_eq hc hd⟩))))
theorem of_no {z:Int} (h: ¬(1≤z∧z≤3652059)):dtN z=(0,0,0)∧ofE z=11:=⟨dtN_no h,by unfold ofE;rw [if_neg h]⟩
theorem of_yes {z:Int} (h:1≤z∧z≤3652059):ofE z=0:=by unfold ofE;rw [if_pos h]
theorem of_b {z:Int} {c:Bool} (h:c= !decide (1≤z∧z≤3652059)):cond (decide (z<(1:Int))) true (decide (yS 9999<z))=c:=by
 rw [h,yS_last,Bool.eq_iff_iff]
 by_cases h1:z<(1:Int)
 ·simp [h1]<;>omega
 ·by_cases h2:3652059<z
  ·simp [h1,h2]<;>omega
  ·simp [h1,h2]<;>omega
theorem dl4 (z:Int) (b:Nat):dayI ((yrN z:Nat):Int) ((b:Int)+1)<dl z b∨dl z b≤dayI ((yrN z:Nat):Int) ((b:Int)+1):=by omega
theorem nb_in {y m d:Int} (h: ¬ ¬rightI y m d):1≤nbI y m d∧nbI y m d≤3652059:=by
 have h':rightI y m d:=by simpa using h
 rw [(chk_1 h').2.1]
 exact num_in h'
end Go.Proofs.YtdofjoijodjajaaDoor.X
