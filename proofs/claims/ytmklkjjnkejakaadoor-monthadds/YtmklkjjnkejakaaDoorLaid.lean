/- A world in which the listed variables lie as their texts lay them: for the witness of a row that lists them. Written by a script. -/
import Derived.Test.YtmklkjjnkejakaaDoorRows
import Derived.WalkKit
import Derived.ProofKit
import Derived.OpenShut
import Derived.Deep.DeepHandedRow
import Derived.Lib.LaidTab
namespace Go.Proofs.YtmklkjjnkejakaaDoor
open Go.RowKit

/-- A block with other cells. -/
def withCells (cs : Array Value) : Obj → Obj
  | .cells _ t frozen => .cells cs t frozen
  | o => o
def litV {H : Type} : DataW H → Value
  | .lit (.int k z) => .int k z
  | .lit (.string z) => .string ⟨⟨z⟩⟩
  | _ => undef
def cellsD {H : Type} : DataW H → Array Value
  | .agg xs => (xs.map litV).toArray
  | _ => #[]
noncomputable def laidHeap (os : Os) : Array Obj := (Array.modify (World.holding Tryd.prog os ⟨#[], #[], []⟩).heap 0 (withCells (cellsD (Rows.laid_chattel_date_monthDays : DataW Unit))))
noncomputable def laidWorld (os : Os) : World := { World.holding Tryd.prog os ⟨#[], #[], []⟩ with heap := laidHeap os }
def laidList : List (String × DataW Unit) := [("chattel/date.monthDays", Rows.laid_chattel_date_monthDays)]
set_option maxRecDepth 100000 in
theorem laid_met (os : Os) (args : Array Value) : laidMet Tryd.prog laidList ((laidWorld os).forCall (fun _ _ => 0) ⟨#[], args, []⟩).memory :=
  laidMet_of_run' 8 (by kernel_rfl) (by kernel_rfl)
end Go.Proofs.YtmklkjjnkejakaaDoor
