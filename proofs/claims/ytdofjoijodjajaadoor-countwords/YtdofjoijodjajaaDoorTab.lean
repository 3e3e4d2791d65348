/- The listed tables of ints and texts: where they lie, what they hold. Written by a script (tools/tabs.py). -/
import Derived.Test.YtdofjoijodjajaaDoorMath
import Derived.WalkKit
namespace Go.Proofs.YtdofjoijodjajaaDoor.Z
open Go.RowKit
/-- Types of blocks that never turn: those of tables. -/
def tabTy (t : TypeId) : Bool := Nat.beq t 29 || Nat.beq t 97
/-- What a table holds: ints of a kind, or texts. -/
abbrev Tbl := (IntKind × List Int) ⊕ List (List UInt8)
def cellsT : Tbl → List Value
  | .inl (k, zs) => zs.map (Value.int k)
  | .inr zs => zs.map fun z => Value.string ⟨⟨z⟩⟩
def mdL : List Int := [31, 28, 31, 30, 31, 30, 31, 31, 30, 31, 30, 31]
def wdC : List (List UInt8) := [[116, 104, 105, 114, 116, 121], [102, 105, 120, 101, 100], [97, 99, 116, 117, 97, 108]]
/-- Each table: its variable, its type, its cells. -/
def tabs : List (Nat × Nat × Tbl) := [(1, 97, .inl (.i64, mdL)), (0, 29, .inr wdC)]
end Go.Proofs.YtdofjoijodjajaaDoor.Z
