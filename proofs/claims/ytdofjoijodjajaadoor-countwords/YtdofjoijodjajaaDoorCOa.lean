/- The reference of layer 11. Written by a script (tools/laws). -/
import Derived.Test.YtdofjoijodjajaaDoorMOb
import Derived.Test.YtdofjoijodjajaaDoorCo
namespace Go.Proofs.YtdofjoijodjajaaDoor.X
open Go.Proofs.YtdofjoijodjajaaDoor.Da
open Go.RowKit Go.Proofs.YtdofjoijodjajaaDoor.Z
set_option linter.unusedVariables false
theorem isR_re {w:World} {v:Value} {q r:Rat} {k j:Nat} (h:isR q k w v) (e:q=r) (e2:k≤j):isR r j w v:=by
 subst e
 exact IsR.weak h e2
theorem yrI_yes {y:Int} (h:leapI y=true):(366:Int)=yrI y:=by unfold yrI;rw [if_pos h]
theorem yrI_no {y:Int} (h:leapI y=false):(365:Int)=yrI y:=by unfold yrI;rw [if_neg (by rw [h];decide)]
theorem th5 (a b:Int):(a=31∧b=31)∨(a=31∧ ¬b=31)∨(¬a=31∧b=31∧a=30)∨(¬a=31∧b=31∧ ¬a=30)∨(¬a=31∧ ¬b=31):=by omega
theorem sum3 (b:Nat) (y y':Int):(y+(b:Int)≤y'∧leapI (y+(b:Int))=true)∨(y+(b:Int)≤y'∧leapI (y+(b:Int))=false)∨y'<y+(b:Int):=by
 rcases Int.lt_or_le y' (y+(b:Int)) with h|h
 ·exact .inr (.inr h)
 ·cases leapI (y+(b:Int))
  ·exact .inr (.inl ⟨h,rfl⟩)
  ·exact .inl ⟨h,rfl⟩
end Go.Proofs.YtdofjoijodjajaaDoor.X
