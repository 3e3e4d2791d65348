/- The regions of the law DigitsAdd: whatever their order. Written by a script (tools/laws). -/
import Derived.Test.YtckcjiojfpaikaaDoorLaw3A
namespace Go.Proofs.YtckcjiojfpaikaaDoor.Rg
open Go.RowKit

/-- What each operation of the region yields. -/
def add8Facts (p q r t u ei : Nat) : List (Nat × (World → Value → Prop)) :=
  [(65, (fun _ v => v = .int .i64 0)),
   (66, (fun _ v => v = .bool false)),
   (67, (fun _ v => v = .bool false)),
   (68, (fun _ v => v = .int .i64 0)),
   (69, (fun _ v => v = .bool false)),
   (70, (fun _ v => v = .bool false)),
   (71, (fun _ v => v = .bool false)),
   (72, (fun _ v => v = .int .i64 0)),
   (73, (fun _ v => v = .bool false)),
   (74, (fun _ v => v = .bool false)),
   (75, (fun _ v => v = .bool false)),
   (76, (fun _ v => v = .int .i64 0)),
   (77, (fun _ v => v = .bool false)),
   (78, (fun _ v => v = .bool false)),
   (79, (fun _ v => v = .bool false)),
   (80, (fun _ v => v = .int .i64 0)),
   (81, (fun _ v => v = .bool false)),
   (82, (fun _ v => v = .bool false)),
   (83, (fun _ v => v = .bool false)),
   (84, (fun w v => IsN w v (p) (4097))),
   (85, (fun w v => IsN w v (q) (4097))),
   (86, (fun w v => IsN w v ((p * q)) ((4097 + 4097)))),
   (87, (fun w v => IsN w v (r) (4097))),
   (88, (fun _ v => v = .int .i64 (Mx.cmp ((p * q)) r))),
   (89, (fun _ v => v = .bool false)),
   (90, (fun _ v => v = .bool false)),
   (91, (fun _ v => v = .bool false)),
   (92, (fun w v => IsN w v (t) (4097))),
   (93, (fun w v => IsN w v (u) (4097))),
   (94, (fun _ v => v = .int .i64 (Mx.cmp t u))),
   (95, (fun _ v => v = .bool false)),
   (96, (fun _ v => v = .bool false)),
   (97, (fun _ v => v = .bool false)),
   (98, (fun w v => IsN w v (t) (4097))),
   (99, (fun _ v => v = .int .i64 ((Tx.digs t : Nat) : Int))),
   (100, (fun _ v => v = .int .i64 ((ei : Nat) : Int))),
   (101, (fun _ v => v = .int .i64 (((ei : Nat) : Int) + 1))),
   (102, (fun _ v => v = .bool false)),
   (103, (fun _ v => v = .bool false))]
theorem add8Stable (p q r t u ei : Nat) : AllStable (add8Facts p q r t u ei) := ⟨st_eq _, st_eq _, st_eq _, st_eq _, st_eq _, st_eq _, st_eq _, st_eq _, st_eq _, st_eq _, st_eq _, st_eq _, st_eq _, st_eq _, st_eq _, st_eq _, st_eq _, st_eq _, st_eq _, st_N _ _, st_N _ _, st_N _ _, st_N _ _, st_eq _, st_eq _, st_eq _, st_eq _, st_N _ _, st_N _ _, st_eq _, st_eq _, st_eq _, st_eq _, st_N _ _, st_eq _, st_eq _, st_eq _, st_eq _, st_eq _, trivial⟩

set_option maxRecDepth 100000 in
set_option maxHeartbeats 4000000 in
theorem add8_region {Q : Exit → Act → World → Prop} {a0 : Act} {w0 : World} (p q r t u ei : Nat) (hn : a0.tmps.size = 125)
   {b10 : Addr} {A10 : Option Addr} {L10 C10 : Nat} (p10 : a0.tmps.getD 10 undef = .pointer (some b10)) (c10 : w0.cell? b10 = some (.slice A10 L10 C10)) (n10 : IsN w0 (.agg #[.slice A10 L10 C10]) (p) 4097)
   {b12 : Addr} {A12 : Option Addr} {L12 C12 : Nat} (p12 : a0.tmps.getD 12 undef = .pointer (some b12)) (c12 : w0.cell? b12 = some (.slice A12 L12 C12)) (n12 : IsN w0 (.agg #[.slice A12 L12 C12]) (q) 4097)
   {b14 : Addr} {A14 : Option Addr} {L14 C14 : Nat} (p14 : a0.tmps.getD 14 undef = .pointer (some b14)) (c14 : w0.cell? b14 = some (.slice A14 L14 C14)) (n14 : IsN w0 (.agg #[.slice A14 L14 C14]) (r) 4097)
   {b16 : Addr} {A16 : Option Addr} {L16 C16 : Nat} (p16 : a0.tmps.getD 16 undef = .pointer (some b16)) (c16 : w0.cell? b16 = some (.slice A16 L16 C16)) (n16 : IsN w0 (.agg #[.slice A16 L16 C16]) (t) 4097)
   {b18 : Addr} {A18 : Option Addr} {L18 C18 : Nat} (p18 : a0.tmps.getD 18 undef = .pointer (some b18)) (c18 : w0.cell? b18 = some (.slice A18 L18 C18)) (n18 : IsN w0 (.agg #[.slice A18 L18 C18]) (u) 4097)
   (e11 : a0.tmps.getD 11 undef = .int .i64 0)
   (e13 : a0.tmps.getD 13 undef = .int .i64 0)
   (e15 : a0.tmps.getD 15 undef = .int .i64 0)
   (e17 : a0.tmps.getD 17 undef = .int .i64 0)
   (e19 : a0.tmps.getD 19 undef = .int .i64 0)
   (e8 : a0.tmps.getD 8 undef = .int .i64 ((ei : Nat) : Int))
   (hr : p * q = r) (hu : t = u) (hd : Tx.digs t = ei + 1) (hi : ei ≤ 1000)
    (fin : ∀ a w, Grow w0 w → Agree (regionOps Tryd.f7 8) a0 a → a.tmps.getD 103 undef = .bool false → Q .normal a w) : (Code.region 8 (regionOps Tryd.f7 8) true).wp Tryd.prog Q a0 w0 := by
  have ext11 : ∀ {u : Value} {w : World}, u = a0.tmps.getD 11 undef → Grow w0 w → u = .int .i64 0 := fun h _ => h.trans e11
  have ext13 : ∀ {u : Value} {w : World}, u = a0.tmps.getD 13 undef → Grow w0 w → u = .int .i64 0 := fun h _ => h.trans e13
  have ext15 : ∀ {u : Value} {w : World}, u = a0.tmps.getD 15 undef → Grow w0 w → u = .int .i64 0 := fun h _ => h.trans e15
  have ext17 : ∀ {u : Value} {w : World}, u = a0.tmps.getD 17 undef → Grow w0 w → u = .int .i64 0 := fun h _ => h.trans e17
  have ext19 : ∀ {u : Value} {w : World}, u = a0.tmps.getD 19 undef → Grow w0 w → u = .int .i64 0 := fun h _ => h.trans e19
  have ext8 : ∀ {u : Value} {w : World}, u = a0.tmps.getD 8 undef → Grow w0 w → u = .int .i64 ((ei : Nat) : Int) := fun h _ => h.trans e8
  refine region (n := 125) (F := look (add8Facts p q r t u ei)) (by kernel_rfl) hn (by kernel_rfl) (look_stable _ (add8Stable p q r t u ei)) (fun i hi => all_from 39 0 ?_ i (Nat.zero_le _) (Nat.lt_of_lt_of_eq hi (by kernel_rfl)))
    fun a w hg ha h => fin a w hg ha ?_
  · exact ⟨
    stepN (i := 0) (by kernel_rfl) (move (d := 65) (x := (.tmp 11)) fun a w hg ha D => ext11 (ha.2.2 11 (by kernel_rfl)) hg),
    stepN (i := 1) (by kernel_rfl) (neqE (d := 66) (x := 65) (m := 0) (c := 0) (b := false) (by kernel_rfl) (fun _ _ h => h) (by rfl) (fun _ _ h => h)),
    stepN (i := 2) (by kernel_rfl) (move (d := 67) (x := (.tmp 66)) fun _ _ _ _ D => D 66 (by kernel_rfl)),
    stepG (i := 3) (j := 2) (dj := 67) (b := false) (by kernel_rfl) (by kernel_rfl) (by kernel_rfl) (fun _ _ h => h) (move (d := 68) (x := (.tmp 13)) fun a w hg ha D => ext13 (ha.2.2 13 (by kernel_rfl)) hg),
    stepG (i := 4) (j := 2) (dj := 67) (b := false) (by kernel_rfl) (by kernel_rfl) (by kernel_rfl) (fun _ _ h => h) (neqE (d := 69) (x := 68) (m := 0) (c := 0) (b := false) (by kernel_rfl) (fun _ _ h => h) (by rfl) (fun _ _ h => h)),
    stepN (i := 5) (by kernel_rfl) (pickF (d := 70) (c := 67) (x := (.const (.bool true))) (y := (.tmp 69)) (by kernel_rfl) (fun _ _ h => h) fun _ _ _ _ D => D 69 (by kernel_rfl)),
    stepN (i := 6) (by kernel_rfl) (move (d := 71) (x := (.tmp 70)) fun _ _ _ _ D => D 70 (by kernel_rfl)),
    stepG (i := 7) (j := 6) (dj := 71) (b := false) (by kernel_rfl) (by kernel_rfl) (by kernel_rfl) (fun _ _ h => h) (move (d := 72) (x := (.tmp 15)) fun a w hg ha D => ext15 (ha.2.2 15 (by kernel_rfl)) hg),
    stepG (i := 8) (j := 6) (dj := 71) (b := false) (by kernel_rfl) (by kernel_rfl) (by kernel_rfl) (fun _ _ h => h) (neqE (d := 73) (x := 72) (m := 0) (c := 0) (b := false) (by kernel_rfl) (fun _ _ h => h) (by rfl) (fun _ _ h => h)),
    stepN (i := 9) (by kernel_rfl) (pickF (d := 74) (c := 71) (x := (.const (.bool true))) (y := (.tmp 73)) (by kernel_rfl) (fun _ _ h => h) fun _ _ _ _ D => D 73 (by kernel_rfl)),
    stepN (i := 10) (by kernel_rfl) (move (d := 75) (x := (.tmp 74)) fun _ _ _ _ D => D 74 (by kernel_rfl)),
    stepG (i := 11) (j := 10) (dj := 75) (b := false) (by kernel_rfl) (by kernel_rfl) (by kernel_rfl) (fun _ _ h => h) (move (d := 76) (x := (.tmp 17)) fun a w hg ha D => ext17 (ha.2.2 17 (by kernel_rfl)) hg),
    stepG (i := 12) (j := 10) (dj := 75) (b := false) (by kernel_rfl) (by kernel_rfl) (by kernel_rfl) (fun _ _ h => h) (neqE (d := 77) (x := 76) (m := 0) (c := 0) (b := false) (by kernel_rfl) (fun _ _ h => h) (by rfl) (fun _ _ h => h)),
    stepN (i := 13) (by kernel_rfl) (pickF (d := 78) (c := 75) (x := (.const (.bool true))) (y := (.tmp 77)) (by kernel_rfl) (fun _ _ h => h) fun _ _ _ _ D => D 77 (by kernel_rfl)),
    stepN (i := 14) (by kernel_rfl) (move (d := 79) (x := (.tmp 78)) fun _ _ _ _ D => D 78 (by kernel_rfl)),
    stepG (i := 15) (j := 14) (dj := 79) (b := false) (by kernel_rfl) (by kernel_rfl) (by kernel_rfl) (fun _ _ h => h) (move (d := 80) (x := (.tmp 19)) fun a w hg ha D => ext19 (ha.2.2 19 (by kernel_rfl)) hg),
    stepG (i := 16) (j := 14) (dj := 79) (b := false) (by kernel_rfl) (by kernel_rfl) (by kernel_rfl) (fun _ _ h => h) (neqE (d := 81) (x := 80) (m := 0) (c := 0) (b := false) (by kernel_rfl) (fun _ _ h => h) (by rfl) (fun _ _ h => h)),
    stepN (i := 17) (by kernel_rfl) (pickF (d := 82) (c := 79) (x := (.const (.bool true))) (y := (.tmp 81)) (by kernel_rfl) (fun _ _ h => h) fun _ _ _ _ D => D 81 (by kernel_rfl)),
    stepN (i := 18) (by kernel_rfl) (move (d := 83) (x := (.tmp 82)) fun _ _ _ _ D => D 82 (by kernel_rfl)),
    stepG (i := 19) (j := 18) (dj := 83) (b := false) (by kernel_rfl) (by kernel_rfl) (by kernel_rfl) (fun _ _ h => h) (loadNat (d := 84) (p := 10) p10 (by kernel_rfl) c10 n10 (fun _ _ h => h)),
    stepG (i := 20) (j := 18) (dj := 83) (b := false) (by kernel_rfl) (by kernel_rfl) (by kernel_rfl) (fun _ _ h => h) (loadNat (d := 85) (p := 12) p12 (by kernel_rfl) c12 n12 (fun _ _ h => h)),
    stepG (i := 21) (j := 18) (dj := 83) (b := false) (by kernel_rfl) (by kernel_rfl) (by kernel_rfl) (fun _ _ h => h) (callMul (d := 86) (x := 84) (y := 85) (n := p) (m := q) (k := 4097) (j := 4097) (ts := #[24, 24]) (by kernel_rfl) (by kernel_rfl) (fun _ _ h => h) (fun _ _ h => h) (by omega) (by omega) (fun _ _ h => h)),
    stepG (i := 22) (j := 18) (dj := 83) (b := false) (by kernel_rfl) (by kernel_rfl) (by kernel_rfl) (fun _ _ h => h) (loadNat (d := 87) (p := 14) p14 (by kernel_rfl) c14 n14 (fun _ _ h => h)),
    stepG (i := 23) (j := 18) (dj := 83) (b := false) (by kernel_rfl) (by kernel_rfl) (by kernel_rfl) (fun _ _ h => h) (callCmp (d := 88) (x := 86) (y := 87) (n := (p * q)) (m := r) (k := (4097 + 4097)) (j := 4097) (ts := #[24, 24]) (by kernel_rfl) (by kernel_rfl) (fun _ _ h => h) (fun _ _ h => h) (by omega) (fun _ _ h => h)),
    stepG (i := 24) (j := 18) (dj := 83) (b := false) (by kernel_rfl) (by kernel_rfl) (by kernel_rfl) (fun _ _ h => h) (neqI (d := 89) (x := 88) (m := (Mx.cmp ((p * q)) r)) (c := 0) (b := false) (by kernel_rfl) (fun _ _ h => h) (by rw [Mx.cmp_eq (hr)]; rfl) (fun _ _ h => h)),
    stepN (i := 25) (by kernel_rfl) (pickF (d := 90) (c := 83) (x := (.const (.bool true))) (y := (.tmp 89)) (by kernel_rfl) (fun _ _ h => h) fun _ _ _ _ D => D 89 (by kernel_rfl)),
    stepN (i := 26) (by kernel_rfl) (move (d := 91) (x := (.tmp 90)) fun _ _ _ _ D => D 90 (by kernel_rfl)),
    stepG (i := 27) (j := 26) (dj := 91) (b := false) (by kernel_rfl) (by kernel_rfl) (by kernel_rfl) (fun _ _ h => h) (loadNat (d := 92) (p := 16) p16 (by kernel_rfl) c16 n16 (fun _ _ h => h)),
    stepG (i := 28) (j := 26) (dj := 91) (b := false) (by kernel_rfl) (by kernel_rfl) (by kernel_rfl) (fun _ _ h => h) (loadNat (d := 93) (p := 18) p18 (by kernel_rfl) c18 n18 (fun _ _ h => h)),
    stepG (i := 29) (j := 26) (dj := 91) (b := false) (by kernel_rfl) (by kernel_rfl) (by kernel_rfl) (fun _ _ h => h) (callCmp (d := 94) (x := 92) (y := 93) (n := t) (m := u) (k := 4097) (j := 4097) (ts := #[24, 24]) (by kernel_rfl) (by kernel_rfl) (fun _ _ h => h) (fun _ _ h => h) (by omega) (fun _ _ h => h)),
    stepG (i := 30) (j := 26) (dj := 91) (b := false) (by kernel_rfl) (by kernel_rfl) (by kernel_rfl) (fun _ _ h => h) (neqI (d := 95) (x := 94) (m := (Mx.cmp t u)) (c := 0) (b := false) (by kernel_rfl) (fun _ _ h => h) (by rw [Mx.cmp_eq (hu)]; rfl) (fun _ _ h => h)),
    stepN (i := 31) (by kernel_rfl) (pickF (d := 96) (c := 91) (x := (.const (.bool true))) (y := (.tmp 95)) (by kernel_rfl) (fun _ _ h => h) fun _ _ _ _ D => D 95 (by kernel_rfl)),
    stepN (i := 32) (by kernel_rfl) (move (d := 97) (x := (.tmp 96)) fun _ _ _ _ D => D 96 (by kernel_rfl)),
    stepG (i := 33) (j := 32) (dj := 97) (b := false) (by kernel_rfl) (by kernel_rfl) (by kernel_rfl) (fun _ _ h => h) (loadNat (d := 98) (p := 16) p16 (by kernel_rfl) c16 n16 (fun _ _ h => h)),
    stepG (i := 34) (j := 32) (dj := 97) (b := false) (by kernel_rfl) (by kernel_rfl) (by kernel_rfl) (fun _ _ h => h) (callLength (d := 99) (x := 98) (n := t) (k := 4097) (ts := #[24]) (by kernel_rfl) (fun _ _ h => h) (by omega) (fun _ _ h => h)),
    stepG (i := 35) (j := 32) (dj := 97) (b := false) (by kernel_rfl) (by kernel_rfl) (by kernel_rfl) (fun _ _ h => h) (move (d := 100) (x := (.tmp 8)) fun a w hg ha D => ext8 (ha.2.2 8 (by kernel_rfl)) hg),
    stepG (i := 36) (j := 32) (dj := 97) (b := false) (by kernel_rfl) (by kernel_rfl) (by kernel_rfl) (fun _ _ h => h) (addI (d := 101) (x := 100) (m := ((ei : Nat) : Int)) (c := 1) (r := ((ei : Nat) : Int) + 1) (by kernel_rfl) (fun _ _ h => h) (IntWalk.i64_in _ (by omega)) (fun _ _ h => h)),
    stepG (i := 37) (j := 32) (dj := 97) (b := false) (by kernel_rfl) (by kernel_rfl) (by kernel_rfl) (fun _ _ h => h) (neqII (d := 102) (x := 99) (y := 101) (m := ((Tx.digs t : Nat) : Int)) (c := (((ei : Nat) : Int) + 1)) (b := false) (by kernel_rfl) (by kernel_rfl) (fun _ _ h => h) (fun _ _ h => h) (by rw [hd]; simp) (fun _ _ h => h)),
    stepN (i := 38) (by kernel_rfl) (pickF (d := 103) (c := 97) (x := (.const (.bool true))) (y := (.tmp 102)) (by kernel_rfl) (fun _ _ h => h) fun _ _ _ _ D => D 102 (by kernel_rfl)), trivial⟩
  · have e : look (add8Facts p q r t u ei) 103 w (a.tmps.getD 103 undef) := h 103 (by kernel_rfl)
    exact e

/-- What each operation of the region yields. -/
def add10Facts (p q r : Nat) : List (Nat × (World → Value → Prop)) :=
  [(104, (fun w v => IsN w v (p) (4097))),
   (105, (fun _ v => v = .int .i64 ((Tx.digs p : Nat) : Int))),
   (106, (fun w v => IsN w v (q) (4097))),
   (107, (fun _ v => v = .int .i64 ((Tx.digs q : Nat) : Int))),
   (108, (fun _ v => v = .int .i64 (((Tx.digs p : Nat) : Int) + ((Tx.digs q : Nat) : Int)))),
   (109, (fun w v => IsN w v (r) (4097))),
   (110, (fun _ v => v = .int .i64 ((Tx.digs r : Nat) : Int))),
   (111, (fun _ v => v = .int .i64 (((Tx.digs p : Nat) : Int) + ((Tx.digs q : Nat) : Int) - ((Tx.digs r : Nat) : Int)))),
   (20, (fun _ v => v = .int .i64 (((Tx.digs p : Nat) : Int) + ((Tx.digs q : Nat) : Int) - ((Tx.digs r : Nat) : Int))))]
theorem add10Stable (p q r : Nat) : AllStable (add10Facts p q r) := ⟨st_N _ _, st_eq _, st_N _ _, st_eq _, st_eq _, st_N _ _, st_eq _, st_eq _, st_eq _, trivial⟩

set_option maxRecDepth 100000 in
set_option maxHeartbeats 4000000 in
theorem add10_region {Q : Exit → Act → World → Prop} {a0 : Act} {w0 : World} (p q r : Nat) (hn : a0.tmps.size = 125)
   {b10 : Addr} {A10 : Option Addr} {L10 C10 : Nat} (p10 : a0.tmps.getD 10 undef = .pointer (some b10)) (c10 : w0.cell? b10 = some (.slice A10 L10 C10)) (n10 : IsN w0 (.agg #[.slice A10 L10 C10]) (p) 4097)
   {b12 : Addr} {A12 : Option Addr} {L12 C12 : Nat} (p12 : a0.tmps.getD 12 undef = .pointer (some b12)) (c12 : w0.cell? b12 = some (.slice A12 L12 C12)) (n12 : IsN w0 (.agg #[.slice A12 L12 C12]) (q) 4097)
   {b14 : Addr} {A14 : Option Addr} {L14 C14 : Nat} (p14 : a0.tmps.getD 14 undef = .pointer (some b14)) (c14 : w0.cell? b14 = some (.slice A14 L14 C14)) (n14 : IsN w0 (.agg #[.slice A14 L14 C14]) (r) 4097)
   (hp : Tx.digs p ≤ 1000000) (hq : Tx.digs q ≤ 1000000) (hr : Tx.digs r ≤ 1000000)
    (fin : ∀ a w, Grow w0 w → Agree (regionOps Tryd.f7 10) a0 a → a.tmps.getD 20 undef = .int .i64 (((Tx.digs p : Nat) : Int) + ((Tx.digs q : Nat) : Int) - ((Tx.digs r : Nat) : Int)) → Q .normal a w) : (Code.region 10 (regionOps Tryd.f7 10) true).wp Tryd.prog Q a0 w0 := by
  refine region (n := 125) (F := look (add10Facts p q r)) (by kernel_rfl) hn (by kernel_rfl) (look_stable _ (add10Stable p q r)) (fun i hi => all_from 9 0 ?_ i (Nat.zero_le _) (Nat.lt_of_lt_of_eq hi (by kernel_rfl)))
    fun a w hg ha h => fin a w hg ha ?_
  · exact ⟨
    stepN (i := 0) (by kernel_rfl) (loadNat (d := 104) (p := 10) p10 (by kernel_rfl) c10 n10 (fun _ _ h => h)),
    stepN (i := 1) (by kernel_rfl) (callLength (d := 105) (x := 104) (n := p) (k := 4097) (ts := #[24]) (by kernel_rfl) (fun _ _ h => h) (by omega) (fun _ _ h => h)),
    stepN (i := 2) (by kernel_rfl) (loadNat (d := 106) (p := 12) p12 (by kernel_rfl) c12 n12 (fun _ _ h => h)),
    stepN (i := 3) (by kernel_rfl) (callLength (d := 107) (x := 106) (n := q) (k := 4097) (ts := #[24]) (by kernel_rfl) (fun _ _ h => h) (by omega) (fun _ _ h => h)),
    stepN (i := 4) (by kernel_rfl) (addII (d := 108) (x := 105) (y := 107) (m := ((Tx.digs p : Nat) : Int)) (c := ((Tx.digs q : Nat) : Int)) (r := ((Tx.digs p : Nat) : Int) + ((Tx.digs q : Nat) : Int)) (by kernel_rfl) (by kernel_rfl) (fun _ _ h => h) (fun _ _ h => h) (IntWalk.i64_in _ (by omega)) (fun _ _ h => h)),
    stepN (i := 5) (by kernel_rfl) (loadNat (d := 109) (p := 14) p14 (by kernel_rfl) c14 n14 (fun _ _ h => h)),
    stepN (i := 6) (by kernel_rfl) (callLength (d := 110) (x := 109) (n := r) (k := 4097) (ts := #[24]) (by kernel_rfl) (fun _ _ h => h) (by omega) (fun _ _ h => h)),
    stepN (i := 7) (by kernel_rfl) (subII (d := 111) (x := 108) (y := 110) (m := (((Tx.digs p : Nat) : Int) + ((Tx.digs q : Nat) : Int))) (c := ((Tx.digs r : Nat) : Int)) (r := ((Tx.digs p : Nat) : Int) + ((Tx.digs q : Nat) : Int) - ((Tx.digs r : Nat) : Int)) (by kernel_rfl) (by kernel_rfl) (fun _ _ h => h) (fun _ _ h => h) (IntWalk.i64_in _ (by omega)) (fun _ _ h => h)),
    stepN (i := 8) (by kernel_rfl) (assign (d := 20) (x := (.tmp 111)) fun _ _ _ _ D => D 111 (by kernel_rfl)), trivial⟩
  · have e : look (add10Facts p q r) 20 w (a.tmps.getD 20 undef) := h 20 (by kernel_rfl)
    exact e
end Go.Proofs.YtckcjiojfpaikaaDoor.Rg
