/- The listed tables of ints and texts: where they lie, what they hold. Written by a script (tools/tabs.py). -/
import Derived.Test.YthebilnlljkfeaaGreatDoorMath
import Derived.WalkKit
namespace Go.Proofs.YthebilnlljkfeaaGreatDoor.Z
open Go.RowKit
/-- Types of blocks that never turn: those of tables. -/
def tabTy (_ : TypeId) : Bool := false
/-- What a table holds: ints of a kind, or texts. -/
abbrev Tbl := (IntKind × List Int) ⊕ List (List UInt8)
def cellsT : Tbl → List Value
  | .inl (k, zs) => zs.map (Value.int k)
  | .inr zs => zs.map fun z => Value.string ⟨⟨z⟩⟩
/-- Each table: its variable, its type, its cells. -/
def tabs : List (Nat × Nat × Tbl) := []
end Go.Proofs.YthebilnlljkfeaaGreatDoor.Z
