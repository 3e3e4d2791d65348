/- The last region of wakes (layer 2): whatever its order. Written by a script (tools/laws). -/
import Derived.Test.YtfeijnbmaehniaaQuoN
namespace Go.Proofs.Ytfeijnbmaehniaa.Rg
open Go.RowKit

/-- What each operation of the region yields. -/
def wakes2Facts  : List (Nat × (World → Value → Prop)) :=
  [(32, (fun _ v => v = .int .i64 0)),
   (33, (fun _ v => v = .bool true)),
   (34, (fun _ v => v = .bool true)),
   (35, (fun w v => IsN w v (14) (1))),
   (36, (fun w v => Sl w v ([14]))),
   (37, (fun w v => IsN w v (Mx.val ([14])) (1))),
   (38, (fun _ v => v = .int .i64 (Mx.cmp 14 (Mx.val ([14]))))),
   (39, (fun _ v => v = .bool true)),
   (40, (fun _ v => v = .bool true)),
   (41, (fun _ v => v = .bool true)),
   (42, (fun w v => IsN w v (2) (1))),
   (43, (fun w v => Sl w v ([2]))),
   (44, (fun w v => IsN w v (Mx.val ([2])) (1))),
   (45, (fun _ v => v = .int .i64 (Mx.cmp 2 (Mx.val ([2]))))),
   (46, (fun _ v => v = .bool true)),
   (47, (fun _ v => v = .bool true)),
   (48, (fun _ v => v = .bool true)),
   (49, (fun _ v => v = .int .i64 8)),
   (50, (fun _ v => v = .bool true)),
   (51, (fun _ v => v = .bool true)),
   (52, (fun _ v => v = .bool true)),
   (53, (fun w v => Sl w v ([12]))),
   (54, (fun w v => IsN w v (Mx.val ([12])) (1))),
   (55, (fun w v => Sl w v ([18]))),
   (56, (fun w v => IsN w v (Mx.val ([18])) (1))),
   (57, (fun w v => IsN w v (Nat.gcd (Mx.val ([12])) (Mx.val ([18]))) (1))),
   (58, (fun w v => Sl w v ([6]))),
   (59, (fun w v => IsN w v (Mx.val ([6])) (1))),
   (60, (fun _ v => v = .int .i64 (Mx.cmp (Nat.gcd (Mx.val ([12])) (Mx.val ([18]))) (Mx.val ([6]))))),
   (61, (fun _ v => v = .bool true)),
   (62, (fun _ v => v = .bool true)),
   (63, (fun _ v => v = .bool true)),
   (64, (fun w v => IsN w v (2 ^ 64) (3))),
   (65, (fun _ v => v = .int .i64 ((Mx.bits (2 ^ 64) : Nat) : Int))),
   (66, (fun _ v => v = .bool true)),
   (67, (fun _ v => v = .bool true)),
   (68, (fun _ v => v = .bool true)),
   (69, (fun _ v => v = .int .i64 0)),
   (70, (fun _ v => v = .bool true)),
   (71, (fun _ v => v = .bool true)),
   (0, (fun _ v => v = .bool true))]
theorem wakes2Stable  : AllStable (wakes2Facts ) := ⟨st_eq _, st_eq _, st_eq _, st_N _ _, st_S _, st_N _ _, st_eq _, st_eq _, st_eq _, st_eq _, st_N _ _, st_S _, st_N _ _, st_eq _, st_eq _, st_eq _, st_eq _, st_eq _, st_eq _, st_eq _, st_eq _, st_S _, st_N _ _, st_S _, st_N _ _, st_N _ _, st_S _, st_N _ _, st_eq _, st_eq _, st_eq _, st_eq _, st_N _ _, st_eq _, st_eq _, st_eq _, st_eq _, st_eq _, st_eq _, st_eq _, st_eq _, trivial⟩

set_option maxRecDepth 100000 in
set_option maxHeartbeats 4000000 in
theorem wakes2_region {Q : Exit → Act → World → Prop} {a0 : Act} {w0 : World}  (hn : a0.tmps.size = 72)
   {b1 : Addr} {A1 : Option Addr} {L1 C1 : Nat} (p1 : a0.tmps.getD 1 undef = .pointer (some b1)) (c1 : w0.cell? b1 = some (.slice A1 L1 C1)) (n1 : IsN w0 (.agg #[.slice A1 L1 C1]) (14) 1)
   {b2 : Addr} {A2 : Option Addr} {L2 C2 : Nat} (p2 : a0.tmps.getD 2 undef = .pointer (some b2)) (c2 : w0.cell? b2 = some (.slice A2 L2 C2)) (n2 : IsN w0 (.agg #[.slice A2 L2 C2]) (2) 1)
   {b7 : Addr} {A7 : Option Addr} {L7 C7 : Nat} (p7 : a0.tmps.getD 7 undef = .pointer (some b7)) (c7 : w0.cell? b7 = some (.slice A7 L7 C7)) (n7 : IsN w0 (.agg #[.slice A7 L7 C7]) (2 ^ 64) 3)
   (e3 : a0.tmps.getD 3 undef = .int .i64 0)
   (e6 : a0.tmps.getD 6 undef = .int .i64 8)
   (e8 : a0.tmps.getD 8 undef = .int .i64 0)
   
    (fin : ∀ a w, Grow w0 w → Agree (regionOps Try.f12 4) a0 a → a.tmps.getD 0 undef = .bool true → Q .normal a w) : (Code.region 4 (regionOps Try.f12 4) true).wp Try.prog Q a0 w0 := by
  have ext3 : ∀ {u : Value} {w : World}, u = a0.tmps.getD 3 undef → Grow w0 w → u = .int .i64 0 := fun h _ => h.trans e3
  have ext6 : ∀ {u : Value} {w : World}, u = a0.tmps.getD 6 undef → Grow w0 w → u = .int .i64 8 := fun h _ => h.trans e6
  have ext8 : ∀ {u : Value} {w : World}, u = a0.tmps.getD 8 undef → Grow w0 w → u = .int .i64 0 := fun h _ => h.trans e8
  refine region (n := 72) (F := look (wakes2Facts )) (by kernel_rfl) hn (by kernel_rfl) (look_stable _ (wakes2Stable )) (fun i hi => all_from 41 0 ?_ i (Nat.zero_le _) (Nat.lt_of_lt_of_eq hi (by kernel_rfl)))
    fun a w hg ha h => fin a w hg ha ?_
  · exact ⟨
    stepN (i := 0) (by kernel_rfl) (move (d := 32) (x := (.tmp 3)) fun a w hg ha D => ext3 (ha.2.2 3 (by kernel_rfl)) hg),
    stepN (i := 1) (by kernel_rfl) (eqlE (d := 33) (x := 32) (m := 0) (c := 0) (b := true) (by kernel_rfl) (fun _ _ h => h) (by rfl) (fun _ _ h => h)),
    stepN (i := 2) (by kernel_rfl) (move (d := 34) (x := (.tmp 33)) fun _ _ _ _ D => D 33 (by kernel_rfl)),
    stepG (i := 3) (j := 2) (dj := 34) (b := true) (by kernel_rfl) (by kernel_rfl) (by kernel_rfl) (fun _ _ h => h) (loadNat (d := 35) (p := 1) p1 (by kernel_rfl) c1 n1 (fun _ _ h => h)),
    stepG (i := 4) (j := 2) (dj := 34) (b := true) (by kernel_rfl) (by kernel_rfl) (by kernel_rfl) (fun _ _ h => h) (buildOne (d := 36) (c := 14) (by rw [Mx.B_eq]; omega) (fun _ _ h => h)),
    stepG (i := 5) (j := 2) (dj := 34) (b := true) (by kernel_rfl) (by kernel_rfl) (by kernel_rfl) (fun _ _ h => h) (callOf1 (d := 37) (x := 36) (l := [14]) (k := 1) (ts := #[22]) (by kernel_rfl) (fun _ _ h => h) (by simp) (by omega) (fun _ _ h => h)),
    stepG (i := 6) (j := 2) (dj := 34) (b := true) (by kernel_rfl) (by kernel_rfl) (by kernel_rfl) (fun _ _ h => h) (callCmp (d := 38) (x := 35) (y := 37) (n := 14) (m := Mx.val ([14])) (k := 1) (j := 1) (ts := #[24, 24]) (by kernel_rfl) (by kernel_rfl) (fun _ _ h => h) (fun _ _ h => h) (by omega) (fun _ _ h => h)),
    stepG (i := 7) (j := 2) (dj := 34) (b := true) (by kernel_rfl) (by kernel_rfl) (by kernel_rfl) (fun _ _ h => h) (eqlI (d := 39) (x := 38) (m := (Mx.cmp 14 (Mx.val ([14])))) (c := 0) (b := true) (by kernel_rfl) (fun _ _ h => h) (by rw [Mx.cmp_eq ((Mx.val_one 14).symm)]; rfl) (fun _ _ h => h)),
    stepN (i := 8) (by kernel_rfl) (pickT (d := 40) (c := 34) (x := (.tmp 39)) (y := (.const (.bool false))) (by kernel_rfl) (fun _ _ h => h) fun _ _ _ _ D => D 39 (by kernel_rfl)),
    stepN (i := 9) (by kernel_rfl) (move (d := 41) (x := (.tmp 40)) fun _ _ _ _ D => D 40 (by kernel_rfl)),
    stepG (i := 10) (j := 9) (dj := 41) (b := true) (by kernel_rfl) (by kernel_rfl) (by kernel_rfl) (fun _ _ h => h) (loadNat (d := 42) (p := 2) p2 (by kernel_rfl) c2 n2 (fun _ _ h => h)),
    stepG (i := 11) (j := 9) (dj := 41) (b := true) (by kernel_rfl) (by kernel_rfl) (by kernel_rfl) (fun _ _ h => h) (buildOne (d := 43) (c := 2) (by rw [Mx.B_eq]; omega) (fun _ _ h => h)),
    stepG (i := 12) (j := 9) (dj := 41) (b := true) (by kernel_rfl) (by kernel_rfl) (by kernel_rfl) (fun _ _ h => h) (callOf1 (d := 44) (x := 43) (l := [2]) (k := 1) (ts := #[22]) (by kernel_rfl) (fun _ _ h => h) (by simp) (by omega) (fun _ _ h => h)),
    stepG (i := 13) (j := 9) (dj := 41) (b := true) (by kernel_rfl) (by kernel_rfl) (by kernel_rfl) (fun _ _ h => h) (callCmp (d := 45) (x := 42) (y := 44) (n := 2) (m := Mx.val ([2])) (k := 1) (j := 1) (ts := #[24, 24]) (by kernel_rfl) (by kernel_rfl) (fun _ _ h => h) (fun _ _ h => h) (by omega) (fun _ _ h => h)),
    stepG (i := 14) (j := 9) (dj := 41) (b := true) (by kernel_rfl) (by kernel_rfl) (by kernel_rfl) (fun _ _ h => h) (eqlI (d := 46) (x := 45) (m := (Mx.cmp 2 (Mx.val ([2])))) (c := 0) (b := true) (by kernel_rfl) (fun _ _ h => h) (by rw [Mx.cmp_eq ((Mx.val_one 2).symm)]; rfl) (fun _ _ h => h)),
    stepN (i := 15) (by kernel_rfl) (pickT (d := 47) (c := 41) (x := (.tmp 46)) (y := (.const (.bool false))) (by kernel_rfl) (fun _ _ h => h) fun _ _ _ _ D => D 46 (by kernel_rfl)),
    stepN (i := 16) (by kernel_rfl) (move (d := 48) (x := (.tmp 47)) fun _ _ _ _ D => D 47 (by kernel_rfl)),
    stepG (i := 17) (j := 16) (dj := 48) (b := true) (by kernel_rfl) (by kernel_rfl) (by kernel_rfl) (fun _ _ h => h) (move (d := 49) (x := (.tmp 6)) fun a w hg ha D => ext6 (ha.2.2 6 (by kernel_rfl)) hg),
    stepG (i := 18) (j := 16) (dj := 48) (b := true) (by kernel_rfl) (by kernel_rfl) (by kernel_rfl) (fun _ _ h => h) (eqlE (d := 50) (x := 49) (m := 8) (c := 8) (b := true) (by kernel_rfl) (fun _ _ h => h) (by rfl) (fun _ _ h => h)),
    stepN (i := 19) (by kernel_rfl) (pickT (d := 51) (c := 48) (x := (.tmp 50)) (y := (.const (.bool false))) (by kernel_rfl) (fun _ _ h => h) fun _ _ _ _ D => D 50 (by kernel_rfl)),
    stepN (i := 20) (by kernel_rfl) (move (d := 52) (x := (.tmp 51)) fun _ _ _ _ D => D 51 (by kernel_rfl)),
    stepG (i := 21) (j := 20) (dj := 52) (b := true) (by kernel_rfl) (by kernel_rfl) (by kernel_rfl) (fun _ _ h => h) (buildOne (d := 53) (c := 12) (by rw [Mx.B_eq]; omega) (fun _ _ h => h)),
    stepG (i := 22) (j := 20) (dj := 52) (b := true) (by kernel_rfl) (by kernel_rfl) (by kernel_rfl) (fun _ _ h => h) (callOf1 (d := 54) (x := 53) (l := [12]) (k := 1) (ts := #[22]) (by kernel_rfl) (fun _ _ h => h) (by simp) (by omega) (fun _ _ h => h)),
    stepG (i := 23) (j := 20) (dj := 52) (b := true) (by kernel_rfl) (by kernel_rfl) (by kernel_rfl) (fun _ _ h => h) (buildOne (d := 55) (c := 18) (by rw [Mx.B_eq]; omega) (fun _ _ h => h)),
    stepG (i := 24) (j := 20) (dj := 52) (b := true) (by kernel_rfl) (by kernel_rfl) (by kernel_rfl) (fun _ _ h => h) (callOf1 (d := 56) (x := 55) (l := [18]) (k := 1) (ts := #[22]) (by kernel_rfl) (fun _ _ h => h) (by simp) (by omega) (fun _ _ h => h)),
    stepG (i := 25) (j := 20) (dj := 52) (b := true) (by kernel_rfl) (by kernel_rfl) (by kernel_rfl) (fun _ _ h => h) (callGcdS (d := 57) (x := 54) (y := 56) (n := Mx.val ([12])) (m := Mx.val ([18])) (ts := #[24, 24]) (by kernel_rfl) (by kernel_rfl) (fun _ _ h => h) (fun _ _ h => h) (fun _ _ h => h)),
    stepG (i := 26) (j := 20) (dj := 52) (b := true) (by kernel_rfl) (by kernel_rfl) (by kernel_rfl) (fun _ _ h => h) (buildOne (d := 58) (c := 6) (by rw [Mx.B_eq]; omega) (fun _ _ h => h)),
    stepG (i := 27) (j := 20) (dj := 52) (b := true) (by kernel_rfl) (by kernel_rfl) (by kernel_rfl) (fun _ _ h => h) (callOf1 (d := 59) (x := 58) (l := [6]) (k := 1) (ts := #[22]) (by kernel_rfl) (fun _ _ h => h) (by simp) (by omega) (fun _ _ h => h)),
    stepG (i := 28) (j := 20) (dj := 52) (b := true) (by kernel_rfl) (by kernel_rfl) (by kernel_rfl) (fun _ _ h => h) (callCmp (d := 60) (x := 57) (y := 59) (n := Nat.gcd (Mx.val ([12])) (Mx.val ([18]))) (m := Mx.val ([6])) (k := 1) (j := 1) (ts := #[24, 24]) (by kernel_rfl) (by kernel_rfl) (fun _ _ h => h) (fun _ _ h => h) (by omega) (fun _ _ h => h)),
    stepG (i := 29) (j := 20) (dj := 52) (b := true) (by kernel_rfl) (by kernel_rfl) (by kernel_rfl) (fun _ _ h => h) (eqlI (d := 61) (x := 60) (m := (Mx.cmp (Nat.gcd (Mx.val ([12])) (Mx.val ([18]))) (Mx.val ([6])))) (c := 0) (b := true) (by kernel_rfl) (fun _ _ h => h) (by rw [Mx.cmp_eq (by rw [Mx.val_one, Mx.val_one, Mx.val_one]; rfl)]; rfl) (fun _ _ h => h)),
    stepN (i := 30) (by kernel_rfl) (pickT (d := 62) (c := 52) (x := (.tmp 61)) (y := (.const (.bool false))) (by kernel_rfl) (fun _ _ h => h) fun _ _ _ _ D => D 61 (by kernel_rfl)),
    stepN (i := 31) (by kernel_rfl) (move (d := 63) (x := (.tmp 62)) fun _ _ _ _ D => D 62 (by kernel_rfl)),
    stepG (i := 32) (j := 31) (dj := 63) (b := true) (by kernel_rfl) (by kernel_rfl) (by kernel_rfl) (fun _ _ h => h) (loadNat (d := 64) (p := 7) p7 (by kernel_rfl) c7 n7 (fun _ _ h => h)),
    stepG (i := 33) (j := 31) (dj := 63) (b := true) (by kernel_rfl) (by kernel_rfl) (by kernel_rfl) (fun _ _ h => h) (callBits (d := 65) (x := 64) (n := 2 ^ 64) (k := 3) (ts := #[24]) (by kernel_rfl) (fun _ _ h => h) (by omega) (fun _ _ h => h)),
    stepG (i := 34) (j := 31) (dj := 63) (b := true) (by kernel_rfl) (by kernel_rfl) (by kernel_rfl) (fun _ _ h => h) (eqlI (d := 66) (x := 65) (m := ((Mx.bits (2 ^ 64) : Nat) : Int)) (c := 65) (b := true) (by kernel_rfl) (fun _ _ h => h) (by rw [Mx.bits_unique (k := 64) (Nat.le_refl _) (by decide)]; rfl) (fun _ _ h => h)),
    stepN (i := 35) (by kernel_rfl) (pickT (d := 67) (c := 63) (x := (.tmp 66)) (y := (.const (.bool false))) (by kernel_rfl) (fun _ _ h => h) fun _ _ _ _ D => D 66 (by kernel_rfl)),
    stepN (i := 36) (by kernel_rfl) (move (d := 68) (x := (.tmp 67)) fun _ _ _ _ D => D 67 (by kernel_rfl)),
    stepG (i := 37) (j := 36) (dj := 68) (b := true) (by kernel_rfl) (by kernel_rfl) (by kernel_rfl) (fun _ _ h => h) (move (d := 69) (x := (.tmp 8)) fun a w hg ha D => ext8 (ha.2.2 8 (by kernel_rfl)) hg),
    stepG (i := 38) (j := 36) (dj := 68) (b := true) (by kernel_rfl) (by kernel_rfl) (by kernel_rfl) (fun _ _ h => h) (eqlE (d := 70) (x := 69) (m := 0) (c := 0) (b := true) (by kernel_rfl) (fun _ _ h => h) (by rfl) (fun _ _ h => h)),
    stepN (i := 39) (by kernel_rfl) (pickT (d := 71) (c := 68) (x := (.tmp 70)) (y := (.const (.bool false))) (by kernel_rfl) (fun _ _ h => h) fun _ _ _ _ D => D 70 (by kernel_rfl)),
    stepN (i := 40) (by kernel_rfl) (assign (d := 0) (x := (.tmp 71)) fun _ _ _ _ D => D 71 (by kernel_rfl)), trivial⟩
  · have e : look (wakes2Facts ) 0 w (a.tmps.getD 0 undef) := h 0 (by kernel_rfl)
    exact e
end Go.Proofs.Ytfeijnbmaehniaa.Rg
