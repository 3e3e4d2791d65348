/- Own mathematics and calculus that the laws of this seat lean on, part 5. -/
import Derived.Test.YtjpilacbapibjaaGreatDoorMO1
import Derived.WalkKit
namespace Go.Proofs.YtjpilacbapibjaaGreatDoor.Z
open Go.RowKit
/-- Types of blocks that never turn: those of tables. -/
def tabTy (t : TypeId) : Bool := Nat.beq t 187
/-- What a table holds: ints of a kind, or texts. -/
abbrev Tbl := (IntKind × List Int) ⊕ List (List UInt8)
def cellsT : Tbl → List Value
  | .inl (k, zs) => zs.map (Value.int k)
  | .inr zs => zs.map fun z => Value.string ⟨⟨z⟩⟩
def mdL : List Int := [31, 28, 31, 30, 31, 30, 31, 31, 30, 31, 30, 31]
/-- Each table: its variable, its type, its cells. -/
def tabs : List (Nat × Nat × Tbl) := [(0, 187, .inl (.i64, mdL))]
end Go.Proofs.YtjpilacbapibjaaGreatDoor.Z
