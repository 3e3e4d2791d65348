/- Contracts of package nat: Sub; of the library: math/bits.Sub64. -/
import Derived.Test.YtckcjiojfpaikaaDoorNatC
import Derived.Shelf.Spec.BitsCarry
namespace Go.Proofs.YtckcjiojfpaikaaDoor
open Go.RowKit

theorem sub64_run (x y b : Nat) (hb : b ≤ 1) (w : World) : (callFunc 88 #[.int .u64 (x : Int), .int .u64 (y : Int), .int .u64 (b : Int)]).run Tryd.prog w =
    .ok (.value (.tuple #[.int .u64 ((Mx.subLo x y b : Nat) : Int), .int .u64 ((Mx.subHi x y b : Nat) : Int)])) w := by
  rw [run_callFunc_extern Tryd.func88 (by kernel_rfl) (by kernel_rfl) (by kernel_rfl) (e := sub64Entry) (by kernel_rfl), run_sub64 x y b hb]
  rfl


end Go.Proofs.YtckcjiojfpaikaaDoor
