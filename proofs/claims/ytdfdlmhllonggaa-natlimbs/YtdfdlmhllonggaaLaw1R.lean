/- The call of wakes (layer 1), as a step of a region whose order is open. -/
import Derived.Test.YtdfdlmhllonggaaLaw1A
import Derived.Test.YtdfdlmhllonggaaRgNat
namespace Go.Proofs.Ytdfdlmhllonggaa.Rg
open Go.RowKit

section
variable {ops : Array Oper} {Q : Exit → Act → World → Prop} {F : Facts} {a0 : Act} {w0 : World}

theorem en_wakes : Enters Try.prog 14 := enters_of Try.func14 (by kernel_rfl) rfl
theorem callWakes {i d : Nat} {ts : Array TypeId} (hF : ∀ w v, v = .bool true → F d w v) :
    Owes Try.prog ops Q F a0 w0 i (some d) (.call { callee := .value (.func 14), args := #[], argTypes := ts }) :=
  fun _ _ w ho hd _ _ _ => call0 ho en_wakes hd (wakes_any w) fun _ _ ⟨v, e, h, g⟩ => ⟨v, e, hF _ _ h, g⟩
end
end Go.Proofs.Ytdfdlmhllonggaa.Rg
