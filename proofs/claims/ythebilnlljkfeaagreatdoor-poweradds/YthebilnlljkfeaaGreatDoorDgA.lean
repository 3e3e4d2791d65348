/- Contracts of package digits: read, isText. -/
import Derived.Test.YthebilnlljkfeaaGreatDoorTxt
import Derived.Test.YthebilnlljkfeaaGreatDoorBNat
import Derived.Lib.TrimByte
import Derived.Lib.Strings
namespace Go.Proofs.YthebilnlljkfeaaGreatDoor
open Go.RowKit
abbrev bytesOf (s:ByteArray):List UInt8:=s.data.toList
theorem take_succ_at {l:List UInt8} {i:Nat} {b:UInt8} (h:l[i]? =some b):l.take (i+1)=l.take i++ [b]:=by
 rw [List.take_add_one,h];rfl
theorem byte_at (s:ByteArray) (i:Nat) (h:i<s.size):(bytesOf s)[i]? =some (s[i]'h):=by
 obtain ⟨⟨l⟩⟩:=s
 exact Lib.getElem_mk l i h
theorem read_word {n c:Nat} (hn:n<10^18) (hc:48≤c∧c≤57):IntKind.u64.wrap (IntKind.u64.wrap (10*(n:Int))+((c:Int) -48)%256)=((10*n+(c-48):Nat):Int):=by
 have e:(10:Nat)^18=1000000000000000000:=by decide
 rw [e] at hn
 rw [IntKind.wrap_u64,IntKind.wrap_u64]
 omega
end Go.Proofs.YthebilnlljkfeaaGreatDoor
