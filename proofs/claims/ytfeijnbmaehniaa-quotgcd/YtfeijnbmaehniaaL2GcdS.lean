/- The law QuotGcd of layer 2: Gcd as a step of a region whose order is open. -/
import Derived.Test.YtfeijnbmaehniaaQuoQ
import Derived.Test.YtfeijnbmaehniaaLaw2R
namespace Go.Proofs.Ytfeijnbmaehniaa.Rg
open Go.RowKit
section
variable {ops : Array Oper} {Q : Exit → Act → World → Prop} {F : Facts} {a0 : Act} {w0 : World}
theorem callGcdN {i d x y n m k : Nat} {ts : Array TypeId} (dx : depI ops i x = true) (dy : depI ops i y = true) (hx : ∀ w v, F x w v → IsN w v n k) (hy : ∀ w v, F y w v → IsN w v m k) (hk : k ≤ 1073741824)
    (hF : ∀ w v, IsN w v (Nat.gcd n m) k → F d w v) : Owes Try.prog ops Q F a0 w0 i (some d) (.call { callee := .value (.func 24), args := #[.tmp x, .tmp y], argTypes := ts }) :=
  fun _ _ _ ho hd _ _ D => call2 ho en_gcd hd (gcd_n (hx _ _ (D x dx)) (hy _ _ (D y dy)) hk) fun _ _ ⟨v, e, h, g⟩ => ⟨v, e, hF _ _ h, g⟩
end
end Go.Proofs.Ytfeijnbmaehniaa.Rg
