/- The last region of the law DigitsParse: whatever its order. Written by a script (tools/laws). -/
import Derived.Test.YtckcjiojfpaikaaDoorRgRef3
namespace Go.Proofs.YtckcjiojfpaikaaDoor.Rg
open Go.RowKit

/-- What each operation of the region yields. -/
def parse5Facts (x : Nat) (l : List UInt8) : List (Nat × (World → Value → Prop)) :=
  [(27, (fun _ v => v = .bool true)),
   (28, (fun _ v => v = .bool true)),
   (29, (fun _ v => v = .int .i64 0)),
   (30, (fun _ v => v = .bool true)),
   (31, (fun _ v => v = .bool true)),
   (32, (fun _ v => v = .bool true)),
   (33, (fun w v => IsN w v (x) (300))),
   (34, (fun _ v => v = .string (str (l)))),
   (35, (fun w v => IsD w v (Tx.rd l) (2000))),
   (36, (fun _ v => v = .bool true)),
   (37, (fun _ v => v = .bool true)),
   (38, (fun _ v => v = .bool true)),
   (39, (fun w v => IsN w v (x) (300))),
   (40, (fun _ v => v = .string (str (Tx.text x)))),
   (41, (fun _ v => v = .string (str (l)))),
   (42, (fun _ v => v = .bool true)),
   (43, (fun _ v => v = .bool true)),
   (2, (fun _ v => v = .bool true))]
theorem parse5Stable (x : Nat) (l : List UInt8) : AllStable (parse5Facts x l) := ⟨st_eq _, st_eq _, st_eq _, st_eq _, st_eq _, st_eq _, st_N _ _, st_eq _, st_D _ _, st_eq _, st_eq _, st_eq _, st_N _ _, st_eq _, st_eq _, st_eq _, st_eq _, st_eq _, trivial⟩

set_option maxRecDepth 100000 in
set_option maxHeartbeats 4000000 in
theorem parse5_region {Q : Exit → Act → World → Prop} {a0 : Act} {w0 : World} (x : Nat) (l : List UInt8) (hn : a0.tmps.size = 44)
   {b3 : Addr} {A3 : Option Addr} {L3 C3 : Nat} (p3 : a0.tmps.getD 3 undef = .pointer (some b3)) (c3 : w0.cell? b3 = some (.slice A3 L3 C3)) (n3 : IsN w0 (.agg #[.slice A3 L3 C3]) (x) 300)
   (e4 : a0.tmps.getD 4 undef = .int .i64 0)
   (e0 : a0.tmps.getD 0 undef = .string (str (l)))
   (hl : l.length ≤ 4096) (hdig : ∀ b ∈ l, Tx.isDig b) (hx : x = Tx.rd l) (ht : Tx.text x = l)
    (fin : ∀ a w, Grow w0 w → Agree (regionOps Tryd.f4 5) a0 a → a.tmps.getD 2 undef = .bool true → Q .normal a w) : (Code.region 5 (regionOps Tryd.f4 5) true).wp Tryd.prog Q a0 w0 := by
  have ext4 : ∀ {u : Value} {w : World}, u = a0.tmps.getD 4 undef → Grow w0 w → u = .int .i64 0 := fun h _ => h.trans e4
  have ext0 : ∀ {u : Value} {w : World}, u = a0.tmps.getD 0 undef → Grow w0 w → u = .string (str (l)) := fun h _ => h.trans e0
  refine region (n := 44) (F := look (parse5Facts x l)) (by kernel_rfl) hn (by kernel_rfl) (look_stable _ (parse5Stable x l)) (fun i hi => all_from 18 0 ?_ i (Nat.zero_le _) (Nat.lt_of_lt_of_eq hi (by kernel_rfl)))
    fun a w hg ha h => fin a w hg ha ?_
  · exact ⟨
    stepN (i := 0) (by kernel_rfl) (callWakes3 (d := 27) (ts := #[]) (fun _ _ h => h)),
    stepN (i := 1) (by kernel_rfl) (move (d := 28) (x := (.tmp 27)) fun _ _ _ _ D => D 27 (by kernel_rfl)),
    stepG (i := 2) (j := 1) (dj := 28) (b := true) (by kernel_rfl) (by kernel_rfl) (by kernel_rfl) (fun _ _ h => h) (move (d := 29) (x := (.tmp 4)) fun a w hg ha D => ext4 (ha.2.2 4 (by kernel_rfl)) hg),
    stepG (i := 3) (j := 1) (dj := 28) (b := true) (by kernel_rfl) (by kernel_rfl) (by kernel_rfl) (fun _ _ h => h) (eqlE (d := 30) (x := 29) (m := 0) (c := 0) (b := true) (by kernel_rfl) (fun _ _ h => h) (by rfl) (fun _ _ h => h)),
    stepN (i := 4) (by kernel_rfl) (pickT (d := 31) (c := 28) (x := (.tmp 30)) (y := (.const (.bool false))) (by kernel_rfl) (fun _ _ h => h) fun _ _ _ _ D => D 30 (by kernel_rfl)),
    stepN (i := 5) (by kernel_rfl) (move (d := 32) (x := (.tmp 31)) fun _ _ _ _ D => D 31 (by kernel_rfl)),
    stepG (i := 6) (j := 5) (dj := 32) (b := true) (by kernel_rfl) (by kernel_rfl) (by kernel_rfl) (fun _ _ h => h) (loadNat (d := 33) (p := 3) p3 (by kernel_rfl) c3 n3 (fun _ _ h => h)),
    stepG (i := 7) (j := 5) (dj := 32) (b := true) (by kernel_rfl) (by kernel_rfl) (by kernel_rfl) (fun _ _ h => h) (move (d := 34) (x := (.tmp 0)) fun a w hg ha D => ext0 (ha.2.2 0 (by kernel_rfl)) hg),
    stepG (i := 8) (j := 5) (dj := 32) (b := true) (by kernel_rfl) (by kernel_rfl) (by kernel_rfl) (fun _ _ h => h) (callRead (d := 35) (x := 34) (l := l) (ts := #[9]) (by kernel_rfl) (fun _ _ h => h) hl hdig (fun _ _ h => h)),
    stepG (i := 9) (j := 5) (dj := 32) (b := true) (by kernel_rfl) (by kernel_rfl) (by kernel_rfl) (fun _ _ h => h) (callSame3 (d := 36) (x := 33) (y := 35) (n := x) (m := (Tx.rd l)) (k := 300) (j := 2000) (ts := #[24, 32]) (by kernel_rfl) (by kernel_rfl) (fun _ _ h => h) (fun _ _ h => h) (by omega) (hx) (fun _ _ h => h)),
    stepN (i := 10) (by kernel_rfl) (pickT (d := 37) (c := 32) (x := (.tmp 36)) (y := (.const (.bool false))) (by kernel_rfl) (fun _ _ h => h) fun _ _ _ _ D => D 36 (by kernel_rfl)),
    stepN (i := 11) (by kernel_rfl) (move (d := 38) (x := (.tmp 37)) fun _ _ _ _ D => D 37 (by kernel_rfl)),
    stepG (i := 12) (j := 11) (dj := 38) (b := true) (by kernel_rfl) (by kernel_rfl) (by kernel_rfl) (fun _ _ h => h) (loadNat (d := 39) (p := 3) p3 (by kernel_rfl) c3 n3 (fun _ _ h => h)),
    stepG (i := 13) (j := 11) (dj := 38) (b := true) (by kernel_rfl) (by kernel_rfl) (by kernel_rfl) (fun _ _ h => h) (callPrint (d := 40) (x := 39) (n := x) (k := 300) (ts := #[24]) (by kernel_rfl) (fun _ _ h => h) (by omega) (fun _ _ h => h)),
    stepG (i := 14) (j := 11) (dj := 38) (b := true) (by kernel_rfl) (by kernel_rfl) (by kernel_rfl) (fun _ _ h => h) (move (d := 41) (x := (.tmp 0)) fun a w hg ha D => ext0 (ha.2.2 0 (by kernel_rfl)) hg),
    stepG (i := 15) (j := 11) (dj := 38) (b := true) (by kernel_rfl) (by kernel_rfl) (by kernel_rfl) (fun _ _ h => h) (eqlStrII (d := 42) (x := 40) (y := 41) (l := Tx.text x) (r := l) (b := true) (by kernel_rfl) (by kernel_rfl) (fun _ _ h => h) (fun _ _ h => h) (by rw [ht]; simp) (fun _ _ h => h)),
    stepN (i := 16) (by kernel_rfl) (pickT (d := 43) (c := 38) (x := (.tmp 42)) (y := (.const (.bool false))) (by kernel_rfl) (fun _ _ h => h) fun _ _ _ _ D => D 42 (by kernel_rfl)),
    stepN (i := 17) (by kernel_rfl) (assign (d := 2) (x := (.tmp 43)) fun _ _ _ _ D => D 43 (by kernel_rfl)), trivial⟩
  · have e : look (parse5Facts x l) 2 w (a.tmps.getD 2 undef) := h 2 (by kernel_rfl)
    exact e
end Go.Proofs.YtckcjiojfpaikaaDoor.Rg
