/- The reference of layer 3: Text, Pow; the laws' same. -/
import Derived.Test.YtpjmfbiihhbjhaaGreatDoorBDig
import Derived.Test.YtpjmfbiihhbjhaaGreatDoorBRef
namespace Go.Proofs.YtpjmfbiihhbjhaaGreatDoor
open Go.RowKit
set_option maxRecDepth 20000


theorem dlimbs_one : Dx.limbs 1 = [1] := by decide
theorem isD_1 (w : World) : IsD (w.alloc (Obj.cells #[.int .i64 1] 3)) (.slice (some ⟨w.heap.size, 0, none⟩) 1 1) 1 1 := by
  have e : Dx.len 1 = 1 := by unfold Dx.len; rw [dlimbs_one]; rfl
  refine ⟨some ⟨w.heap.size, 0, none⟩, 1, by rw [e], by rw [e]; exact Nat.le_refl _, ?_, by rw [e]; exact Nat.le_refl _⟩
  rw [dlimbs_one]
  exact fun _ => ⟨w.heap.size, 0, rfl, by simp, fun j x hj => by
    match j, hj with
    | 0, hj => simp at hj; subst hj; simp [go_sem]⟩


end Go.Proofs.YtpjmfbiihhbjhaaGreatDoor
