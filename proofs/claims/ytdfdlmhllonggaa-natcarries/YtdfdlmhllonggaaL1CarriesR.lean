/- The last region of the law NatCarries: whatever its order. Written by a script (tools/laws). -/
import Derived.Test.YtdfdlmhllonggaaLaw1R
import Derived.Test.YtdfdlmhllonggaaLaw1E
namespace Go.Proofs.Ytdfdlmhllonggaa.Rg
open Go.RowKit

/-- What each operation of the region yields. -/
def carriesFacts (X D k : Nat) : List (Nat × (World → Value → Prop)) :=
  [(31, (fun _ v => v = .bool true)),
   (32, (fun _ v => v = .bool true)),
   (33, (fun w v => IsN w v (X) (41))),
   (34, (fun w v => Sl w v (Mx.limbs X))),
   (35, (fun w v => Sl w v (List.replicate k 0 ++ [1]))),
   (36, (fun _ v => v = .bool true)),
   (37, (fun _ v => v = .bool true)),
   (38, (fun _ v => v = .bool true)),
   (39, (fun w v => IsN w v (X) (41))),
   (40, (fun _ v => v = .int .i64 ((Mx.bits X : Nat) : Int))),
   (41, (fun _ v => v = .int .i64 ((k : Nat) : Int))),
   (42, (fun _ v => v = .int .i64 ((64 * k : Nat) : Int))),
   (43, (fun _ v => v = .int .i64 (((64 * k + 1 : Nat) : Int)))),
   (44, (fun _ v => v = .bool true)),
   (45, (fun _ v => v = .bool true)),
   (46, (fun _ v => v = .bool true)),
   (47, (fun w v => IsN w v (X) (41))),
   (48, (fun w v => IsN w v (X) (41))),
   (49, (fun w v => IsN w v ((X * X)) ((41 + 41)))),
   (50, (fun _ v => v = .int .i64 ((k : Nat) : Int))),
   (51, (fun _ v => v = .int .i64 ((2 * k : Nat) : Int))),
   (52, (fun w v => Full w v (List.replicate (2 * k) 0))),
   (53, (fun w v => Sl w v ([1]))),
   (54, (fun w v => Sl w v (List.replicate (2 * k) 0 ++ [1]))),
   (55, (fun w v => IsN w v (Mx.val (List.replicate (2 * k) 0 ++ [1])) ((2 * k + 1)))),
   (56, (fun _ v => v = .int .i64 (Mx.cmp ((X * X)) (Mx.val (List.replicate (2 * k) 0 ++ [1]))))),
   (57, (fun _ v => v = .bool true)),
   (58, (fun _ v => v = .bool true)),
   (59, (fun _ v => v = .bool true)),
   (60, (fun _ v => v = .bool true)),
   (61, (fun _ v => v = .bool true)),
   (62, (fun _ v => v = .bool true)),
   (63, (fun w v => IsN w v (D) (41))),
   (64, (fun w v => Sl w v (Mx.limbs D))),
   (65, (fun w v => Sl w v (List.replicate k top))),
   (66, (fun _ v => v = .bool true)),
   (67, (fun _ v => v = .bool true)),
   (2, (fun _ v => v = .bool true))]
theorem carriesStable (X D k : Nat) : AllStable (carriesFacts X D k) := ⟨st_eq _, st_eq _, st_N _ _, st_S _, st_S _, st_eq _, st_eq _, st_eq _, st_N _ _, st_eq _, st_eq _, st_eq _, st_eq _, st_eq _, st_eq _, st_eq _, st_N _ _, st_N _ _, st_N _ _, st_eq _, st_eq _, st_F _, st_S _, st_S _, st_N _ _, st_eq _, st_eq _, st_eq _, st_eq _, st_eq _, st_eq _, st_eq _, st_N _ _, st_S _, st_S _, st_eq _, st_eq _, st_eq _, trivial⟩

set_option maxRecDepth 100000 in
set_option maxHeartbeats 4000000 in
theorem carries_region {Q : Exit → Act → World → Prop} {a0 : Act} {w0 : World} (X D k : Nat) (hn : a0.tmps.size = 68)
   {b5 : Addr} {A5 : Option Addr} {L5 C5 : Nat} (p5 : a0.tmps.getD 5 undef = .pointer (some b5)) (c5 : w0.cell? b5 = some (.slice A5 L5 C5)) (n5 : IsN w0 (.agg #[.slice A5 L5 C5]) (X) 41)
   {b7 : Addr} {A7 : Option Addr} {L7 C7 : Nat} (p7 : a0.tmps.getD 7 undef = .pointer (some b7)) (c7 : w0.cell? b7 = some (.slice A7 L7 C7)) (n7 : IsN w0 (.agg #[.slice A7 L7 C7]) (D) 41)
   (e3 : a0.tmps.getD 3 undef = .int .i64 ((k : Nat) : Int)) (s4 : Sl w0 (a0.tmps.getD 4 undef) (List.replicate k top)) (s6 : Sl w0 (a0.tmps.getD 6 undef) (List.replicate k 0 ++ [1])) (e8 : a0.tmps.getD 8 undef = .bool true)
    (hk : k ≤ 39) (hL : Mx.limbs X = List.replicate k 0 ++ [1]) (hB : Mx.bits X = 64 * k + 1) (hM : Mx.val (List.replicate (2 * k) 0 ++ [1]) = X * X) (hD : Mx.limbs D = List.replicate k top)
    (fin : ∀ a w, Grow w0 w → Agree (regionOps Try.f6 6) a0 a → a.tmps.getD 2 undef = .bool true → Q .normal a w) : (Code.region 6 (regionOps Try.f6 6) true).wp Try.prog Q a0 w0 := by
  have ext4 : ∀ {u : Value} {w : World}, u = a0.tmps.getD 4 undef → Grow w0 w → Sl w u (List.replicate k top) := fun h g => h ▸ s4.grow g
  have ext6 : ∀ {u : Value} {w : World}, u = a0.tmps.getD 6 undef → Grow w0 w → Sl w u (List.replicate k 0 ++ [1]) := fun h g => h ▸ s6.grow g
  have ext3 : ∀ {u : Value} {w : World}, u = a0.tmps.getD 3 undef → Grow w0 w → u = .int .i64 ((k : Nat) : Int) := fun h _ => h.trans e3
  have ext8 : ∀ {u : Value} {w : World}, u = a0.tmps.getD 8 undef → Grow w0 w → u = .bool true := fun h _ => h.trans e8
  refine region (n := 68) (F := look (carriesFacts X D k)) (by kernel_rfl) hn (by kernel_rfl) (look_stable _ (carriesStable X D k)) (fun i hi => all_from 38 0 ?_ i (Nat.zero_le _) (Nat.lt_of_lt_of_eq hi (by kernel_rfl)))
    fun a w hg ha h => fin a w hg ha ?_
  · exact ⟨
    stepN (i := 0) (by kernel_rfl) (callWakes (d := 31) (ts := #[]) (fun _ _ h => h)),
    stepN (i := 1) (by kernel_rfl) (move (d := 32) (x := (.tmp 31)) fun _ _ _ _ D => D 31 (by kernel_rfl)),
    stepG (i := 2) (j := 1) (dj := 32) (b := true) (by kernel_rfl) (by kernel_rfl) (by kernel_rfl) (fun _ _ h => h) (loadNat (d := 33) (p := 5) p5 (by kernel_rfl) c5 n5 (fun _ _ h => h)),
    stepG (i := 3) (j := 1) (dj := 32) (b := true) (by kernel_rfl) (by kernel_rfl) (by kernel_rfl) (fun _ _ h => h) (callLimbs (d := 34) (x := 33) (n := X) (k := 41) (ts := #[24]) (by kernel_rfl) (fun _ _ h => h) (by omega) (fun _ _ h => h)),
    stepG (i := 4) (j := 1) (dj := 32) (b := true) (by kernel_rfl) (by kernel_rfl) (by kernel_rfl) (fun _ _ h => h) (move (d := 35) (x := (.tmp 6)) fun a w hg ha D => ext6 (ha.2.2 6 (by kernel_rfl)) hg),
    stepG (i := 5) (j := 1) (dj := 32) (b := true) (by kernel_rfl) (by kernel_rfl) (by kernel_rfl) (fun _ _ h => h) (callEqual (d := 36) (x := 34) (y := 35) (l := Mx.limbs X) (r := List.replicate k 0 ++ [1]) (b := true) (ts := #[22, 22]) (by kernel_rfl) (by kernel_rfl) (fun _ _ h => h) (fun _ _ h => h) (by rw [hL]; simp; omega) (by rw [hL]; simp) (fun _ _ h => h)),
    stepN (i := 6) (by kernel_rfl) (pickT (d := 37) (c := 32) (x := (.tmp 36)) (y := (.const (.bool false))) (by kernel_rfl) (fun _ _ h => h) fun _ _ _ _ D => D 36 (by kernel_rfl)),
    stepN (i := 7) (by kernel_rfl) (move (d := 38) (x := (.tmp 37)) fun _ _ _ _ D => D 37 (by kernel_rfl)),
    stepG (i := 8) (j := 7) (dj := 38) (b := true) (by kernel_rfl) (by kernel_rfl) (by kernel_rfl) (fun _ _ h => h) (loadNat (d := 39) (p := 5) p5 (by kernel_rfl) c5 n5 (fun _ _ h => h)),
    stepG (i := 9) (j := 7) (dj := 38) (b := true) (by kernel_rfl) (by kernel_rfl) (by kernel_rfl) (fun _ _ h => h) (callBits (d := 40) (x := 39) (n := X) (k := 41) (ts := #[24]) (by kernel_rfl) (fun _ _ h => h) (by omega) (fun _ _ h => h)),
    stepG (i := 10) (j := 7) (dj := 38) (b := true) (by kernel_rfl) (by kernel_rfl) (by kernel_rfl) (fun _ _ h => h) (move (d := 41) (x := (.tmp 3)) fun a w hg ha D => ext3 (ha.2.2 3 (by kernel_rfl)) hg),
    stepG (i := 11) (j := 7) (dj := 38) (b := true) (by kernel_rfl) (by kernel_rfl) (by kernel_rfl) (fun _ _ h => h) (mulCI (d := 42) (x := 41) (m := ((k : Nat) : Int)) (c := 64) (r := ((64 * k : Nat) : Int)) (by kernel_rfl) (fun _ _ h => h) (by rw [IntWalk.i64_in _ (by omega)]; omega) (fun _ _ h => h)),
    stepG (i := 12) (j := 7) (dj := 38) (b := true) (by kernel_rfl) (by kernel_rfl) (by kernel_rfl) (fun _ _ h => h) (addI (d := 43) (x := 42) (m := ((64 * k : Nat) : Int)) (c := 1) (r := ((64 * k + 1 : Nat) : Int)) (by kernel_rfl) (fun _ _ h => h) (by rw [IntWalk.i64_in _ (by omega)]; omega) (fun _ _ h => h)),
    stepG (i := 13) (j := 7) (dj := 38) (b := true) (by kernel_rfl) (by kernel_rfl) (by kernel_rfl) (fun _ _ h => h) (eqlII (d := 44) (x := 40) (y := 43) (m := ((Mx.bits X : Nat) : Int)) (c := (((64 * k + 1 : Nat) : Int))) (b := true) (by kernel_rfl) (by kernel_rfl) (fun _ _ h => h) (fun _ _ h => h) (by rw [hB]; simp) (fun _ _ h => h)),
    stepN (i := 14) (by kernel_rfl) (pickT (d := 45) (c := 38) (x := (.tmp 44)) (y := (.const (.bool false))) (by kernel_rfl) (fun _ _ h => h) fun _ _ _ _ D => D 44 (by kernel_rfl)),
    stepN (i := 15) (by kernel_rfl) (move (d := 46) (x := (.tmp 45)) fun _ _ _ _ D => D 45 (by kernel_rfl)),
    stepG (i := 16) (j := 15) (dj := 46) (b := true) (by kernel_rfl) (by kernel_rfl) (by kernel_rfl) (fun _ _ h => h) (loadNat (d := 47) (p := 5) p5 (by kernel_rfl) c5 n5 (fun _ _ h => h)),
    stepG (i := 17) (j := 15) (dj := 46) (b := true) (by kernel_rfl) (by kernel_rfl) (by kernel_rfl) (fun _ _ h => h) (loadNat (d := 48) (p := 5) p5 (by kernel_rfl) c5 n5 (fun _ _ h => h)),
    stepG (i := 18) (j := 15) (dj := 46) (b := true) (by kernel_rfl) (by kernel_rfl) (by kernel_rfl) (fun _ _ h => h) (callMul (d := 49) (x := 47) (y := 48) (n := X) (m := X) (k := 41) (j := 41) (ts := #[24, 24]) (by kernel_rfl) (by kernel_rfl) (fun _ _ h => h) (fun _ _ h => h) (by omega) (by omega) (fun _ _ h => h)),
    stepG (i := 19) (j := 15) (dj := 46) (b := true) (by kernel_rfl) (by kernel_rfl) (by kernel_rfl) (fun _ _ h => h) (move (d := 50) (x := (.tmp 3)) fun a w hg ha D => ext3 (ha.2.2 3 (by kernel_rfl)) hg),
    stepG (i := 20) (j := 15) (dj := 46) (b := true) (by kernel_rfl) (by kernel_rfl) (by kernel_rfl) (fun _ _ h => h) (mulCI (d := 51) (x := 50) (m := ((k : Nat) : Int)) (c := 2) (r := ((2 * k : Nat) : Int)) (by kernel_rfl) (fun _ _ h => h) (by rw [IntWalk.i64_in _ (by omega)]; omega) (fun _ _ h => h)),
    stepG (i := 21) (j := 15) (dj := 46) (b := true) (by kernel_rfl) (by kernel_rfl) (by kernel_rfl) (fun _ _ h => h) (makeRow (d := 52) (x := 51) (k := 2 * k) (by kernel_rfl) (fun _ _ h => h) (by omega) (fun _ _ h => h)),
    stepG (i := 22) (j := 15) (dj := 46) (b := true) (by kernel_rfl) (by kernel_rfl) (by kernel_rfl) (fun _ _ h => h) (buildOne (d := 53) (c := 1) (by rw [Mx.B_eq]; omega) (fun _ _ h => h)),
    stepG (i := 23) (j := 15) (dj := 46) (b := true) (by kernel_rfl) (by kernel_rfl) (by kernel_rfl) (fun _ _ h => h) (appendOne (d := 54) (x := 52) (y := 53) (c := 1) (l := List.replicate (2 * k) 0) (by kernel_rfl) (by kernel_rfl) (fun _ _ h => h) (fun _ _ h => h) (by simp; omega) (fun y hy => by rw [(List.mem_replicate.1 hy).2]; exact Mx.B_pos) (fun _ _ h => h)),
    stepG (i := 24) (j := 15) (dj := 46) (b := true) (by kernel_rfl) (by kernel_rfl) (by kernel_rfl) (fun _ _ h => h) (callOf1 (d := 55) (x := 54) (l := List.replicate (2 * k) 0 ++ [1]) (k := (2 * k + 1)) (ts := #[22]) (by kernel_rfl) (fun _ _ h => h) (by simp) (by omega) (fun _ _ h => h)),
    stepG (i := 25) (j := 15) (dj := 46) (b := true) (by kernel_rfl) (by kernel_rfl) (by kernel_rfl) (fun _ _ h => h) (callCmp (d := 56) (x := 49) (y := 55) (n := (X * X)) (m := Mx.val (List.replicate (2 * k) 0 ++ [1])) (k := (41 + 41)) (j := (2 * k + 1)) (ts := #[24, 24]) (by kernel_rfl) (by kernel_rfl) (fun _ _ h => h) (fun _ _ h => h) (by omega) (fun _ _ h => h)),
    stepG (i := 26) (j := 15) (dj := 46) (b := true) (by kernel_rfl) (by kernel_rfl) (by kernel_rfl) (fun _ _ h => h) (eqlI (d := 57) (x := 56) (m := (Mx.cmp ((X * X)) (Mx.val (List.replicate (2 * k) 0 ++ [1])))) (c := 0) (b := true) (by kernel_rfl) (fun _ _ h => h) (by rw [hM, Mx.cmp_self]; rfl) (fun _ _ h => h)),
    stepN (i := 27) (by kernel_rfl) (pickT (d := 58) (c := 46) (x := (.tmp 57)) (y := (.const (.bool false))) (by kernel_rfl) (fun _ _ h => h) fun _ _ _ _ D => D 57 (by kernel_rfl)),
    stepN (i := 28) (by kernel_rfl) (move (d := 59) (x := (.tmp 58)) fun _ _ _ _ D => D 58 (by kernel_rfl)),
    stepG (i := 29) (j := 28) (dj := 59) (b := true) (by kernel_rfl) (by kernel_rfl) (by kernel_rfl) (fun _ _ h => h) (move (d := 60) (x := (.tmp 8)) fun a w hg ha D => ext8 (ha.2.2 8 (by kernel_rfl)) hg),
    stepN (i := 30) (by kernel_rfl) (pickT (d := 61) (c := 59) (x := (.tmp 60)) (y := (.const (.bool false))) (by kernel_rfl) (fun _ _ h => h) fun _ _ _ _ D => D 60 (by kernel_rfl)),
    stepN (i := 31) (by kernel_rfl) (move (d := 62) (x := (.tmp 61)) fun _ _ _ _ D => D 61 (by kernel_rfl)),
    stepG (i := 32) (j := 31) (dj := 62) (b := true) (by kernel_rfl) (by kernel_rfl) (by kernel_rfl) (fun _ _ h => h) (loadNat (d := 63) (p := 7) p7 (by kernel_rfl) c7 n7 (fun _ _ h => h)),
    stepG (i := 33) (j := 31) (dj := 62) (b := true) (by kernel_rfl) (by kernel_rfl) (by kernel_rfl) (fun _ _ h => h) (callLimbs (d := 64) (x := 63) (n := D) (k := 41) (ts := #[24]) (by kernel_rfl) (fun _ _ h => h) (by omega) (fun _ _ h => h)),
    stepG (i := 34) (j := 31) (dj := 62) (b := true) (by kernel_rfl) (by kernel_rfl) (by kernel_rfl) (fun _ _ h => h) (move (d := 65) (x := (.tmp 4)) fun a w hg ha D => ext4 (ha.2.2 4 (by kernel_rfl)) hg),
    stepG (i := 35) (j := 31) (dj := 62) (b := true) (by kernel_rfl) (by kernel_rfl) (by kernel_rfl) (fun _ _ h => h) (callEqual (d := 66) (x := 64) (y := 65) (l := Mx.limbs D) (r := List.replicate k top) (b := true) (ts := #[22, 22]) (by kernel_rfl) (by kernel_rfl) (fun _ _ h => h) (fun _ _ h => h) (by rw [hD]; simp; omega) (by rw [hD]; simp) (fun _ _ h => h)),
    stepN (i := 36) (by kernel_rfl) (pickT (d := 67) (c := 62) (x := (.tmp 66)) (y := (.const (.bool false))) (by kernel_rfl) (fun _ _ h => h) fun _ _ _ _ D => D 66 (by kernel_rfl)),
    stepN (i := 37) (by kernel_rfl) (assign (d := 2) (x := (.tmp 67)) fun _ _ _ _ D => D 67 (by kernel_rfl)), trivial⟩
  · have e : look (carriesFacts X D k) 2 w (a.tmps.getD 2 undef) := h 2 (by kernel_rfl)
    exact e
end Go.Proofs.Ytdfdlmhllonggaa.Rg
