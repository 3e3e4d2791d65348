/- A world in which the listed variables lie as their texts lay them: for the witness of a row that lists them. Written by a script. -/
import Derived.Test.YthebilnlljkfeaaGreatDoorRows
import Derived.WalkKit
import Derived.ProofKit
import Derived.OpenShut
import Derived.Deep.DeepHandedRow
import Derived.Lib.LaidTab
namespace Go.Proofs.YthebilnlljkfeaaGreatDoor
open Go.RowKit

/-- A block with other cells. -/
def withCells (cs : Array Value) : Obj → Obj
  | .cells _ t frozen => .cells cs t frozen
  | o => o
def litV {H : Type} : DataW H → Value
  | .lit (.int k z) => .int k z
  | .lit (.string z) => .string ⟨⟨z⟩⟩
  | _ => undef
def cellsN {H : Type} : Nat → DataW H → List Value
  | n + 1, .agg xs => (xs.map (cellsN n)).flatten
  | _, d => [litV d]
def cellsD {H : Type} (d : DataW H) : Array Value := (cellsN 4 d).toArray
noncomputable def laidHeap (os : Os) : Array Obj := (Array.modify (Array.modify (World.holding Tryz.prog os ⟨#[], #[], []⟩).heap 1 (withCells (cellsD (Rows.laid_unicode_utf8_acceptRanges : DataW Unit)))) 0 (withCells (cellsD (Rows.laid_unicode_utf8_first : DataW Unit))))
noncomputable def laidWorld (os : Os) : World := { World.holding Tryz.prog os ⟨#[], #[], []⟩ with heap := laidHeap os }
def laidList : List (String × DataW Unit) := [("unicode/utf8.acceptRanges", Rows.laid_unicode_utf8_acceptRanges), ("unicode/utf8.first", Rows.laid_unicode_utf8_first)]
set_option maxRecDepth 100000 in
theorem laid_met (os : Os) (args : Array Value) : laidMet Tryz.prog laidList ((laidWorld os).forCall (fun _ _ => 0) ⟨#[], args, []⟩).memory :=
  laidMet_of_run' 8 (by kernel_rfl) (by kernel_rfl)
end Go.Proofs.YthebilnlljkfeaaGreatDoor
