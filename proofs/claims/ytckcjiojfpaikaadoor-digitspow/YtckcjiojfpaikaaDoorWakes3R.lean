/- The last region of wakes (layer 3): whatever its order. Written by a script (tools/laws). -/
import Derived.Test.YtckcjiojfpaikaaDoorBDig
namespace Go.Proofs.YtckcjiojfpaikaaDoor.Rg
open Go.RowKit

/-- What each operation of the region yields. -/
def wakes3Facts (N M : Nat) : List (Nat × (World → Value → Prop)) :=
  [(27, (fun _ v => v = .int .i64 0)),
   (28, (fun _ v => v = .bool true)),
   (29, (fun _ v => v = .bool true)),
   (30, (fun w v => IsN w v (N) (4097))),
   (31, (fun _ v => v = .string (str (Tx.text N)))),
   (32, (fun _ v => v = .bool true)),
   (33, (fun _ v => v = .bool true)),
   (34, (fun _ v => v = .bool true)),
   (35, (fun _ v => v = .int .i64 0)),
   (36, (fun _ v => v = .bool true)),
   (37, (fun _ v => v = .bool true)),
   (38, (fun _ v => v = .bool true)),
   (39, (fun w v => IsN w v (N) (20))),
   (40, (fun w v => IsN w v (N) (4097))),
   (41, (fun _ v => v = .int .i64 (Mx.cmp N N))),
   (42, (fun _ v => v = .bool true)),
   (43, (fun _ v => v = .bool true)),
   (44, (fun _ v => v = .bool true)),
   (45, (fun _ v => v = .int .i64 5)),
   (46, (fun _ v => v = .bool true)),
   (47, (fun _ v => v = .bool true)),
   (48, (fun _ v => v = .bool true)),
   (49, (fun w v => IsN w v (M) (4097))),
   (50, (fun w v => Sl w v ([1000]))),
   (51, (fun w v => IsN w v (Mx.val ([1000])) (1))),
   (52, (fun _ v => v = .int .i64 (Mx.cmp M (Mx.val ([1000]))))),
   (53, (fun _ v => v = .bool true)),
   (54, (fun _ v => v = .bool true)),
   (55, (fun _ v => v = .bool true)),
   (56, (fun _ v => v = .int .i64 0)),
   (57, (fun _ v => v = .bool true)),
   (58, (fun _ v => v = .bool true)),
   (59, (fun _ v => v = .bool true)),
   (60, (fun w v => IsN w v (N) (4097))),
   (61, (fun _ v => v = .int .i64 ((Tx.digs N : Nat) : Int))),
   (62, (fun _ v => v = .bool true)),
   (63, (fun _ v => v = .bool true)),
   (64, (fun _ v => v = .bool true)),
   (65, (fun w v => IsN w v (0) (0))),
   (66, (fun _ v => v = .string (str (Tx.text 0)))),
   (67, (fun _ v => v = .bool true)),
   (68, (fun _ v => v = .bool true)),
   (0, (fun _ v => v = .bool true))]
theorem wakes3Stable (N M : Nat) : AllStable (wakes3Facts N M) := ⟨st_eq _, st_eq _, st_eq _, st_N _ _, st_eq _, st_eq _, st_eq _, st_eq _, st_eq _, st_eq _, st_eq _, st_eq _, st_N _ _, st_N _ _, st_eq _, st_eq _, st_eq _, st_eq _, st_eq _, st_eq _, st_eq _, st_eq _, st_N _ _, st_S _, st_N _ _, st_eq _, st_eq _, st_eq _, st_eq _, st_eq _, st_eq _, st_eq _, st_eq _, st_N _ _, st_eq _, st_eq _, st_eq _, st_eq _, st_N _ _, st_eq _, st_eq _, st_eq _, st_eq _, trivial⟩

set_option maxRecDepth 100000 in
set_option maxHeartbeats 4000000 in
theorem wakes3_region {Q : Exit → Act → World → Prop} {a0 : Act} {w0 : World} (N M : Nat) (hn : a0.tmps.size = 69)
   {b1 : Addr} {A1 : Option Addr} {L1 C1 : Nat} (p1 : a0.tmps.getD 1 undef = .pointer (some b1)) (c1 : w0.cell? b1 = some (.slice A1 L1 C1)) (n1 : IsN w0 (.agg #[.slice A1 L1 C1]) (N) 4097)
   {b3 : Addr} {A3 : Option Addr} {L3 C3 : Nat} (p3 : a0.tmps.getD 3 undef = .pointer (some b3)) (c3 : w0.cell? b3 = some (.slice A3 L3 C3)) (n3 : IsN w0 (.agg #[.slice A3 L3 C3]) (N) 20)
   {b7 : Addr} {A7 : Option Addr} {L7 C7 : Nat} (p7 : a0.tmps.getD 7 undef = .pointer (some b7)) (c7 : w0.cell? b7 = some (.slice A7 L7 C7)) (n7 : IsN w0 (.agg #[.slice A7 L7 C7]) (M) 4097)
   (e2 : a0.tmps.getD 2 undef = .int .i64 0)
   (e4 : a0.tmps.getD 4 undef = .int .i64 0)
   (e6 : a0.tmps.getD 6 undef = .int .i64 5)
   (e8 : a0.tmps.getD 8 undef = .int .i64 0)
   (hN : Tx.text N = [49, 56, 52, 52, 54, 55, 52, 52, 48, 55, 51, 55, 48, 57, 53, 53, 49, 54, 49, 54]) (hD : Tx.digs N = 20) (hM : M = 1000)
    (fin : ∀ a w, Grow w0 w → Agree (regionOps Tryd.f11 5) a0 a → a.tmps.getD 0 undef = .bool true → Q .normal a w) : (Code.region 5 (regionOps Tryd.f11 5) true).wp Tryd.prog Q a0 w0 := by
  have ext2 : ∀ {u : Value} {w : World}, u = a0.tmps.getD 2 undef → Grow w0 w → u = .int .i64 0 := fun h _ => h.trans e2
  have ext4 : ∀ {u : Value} {w : World}, u = a0.tmps.getD 4 undef → Grow w0 w → u = .int .i64 0 := fun h _ => h.trans e4
  have ext6 : ∀ {u : Value} {w : World}, u = a0.tmps.getD 6 undef → Grow w0 w → u = .int .i64 5 := fun h _ => h.trans e6
  have ext8 : ∀ {u : Value} {w : World}, u = a0.tmps.getD 8 undef → Grow w0 w → u = .int .i64 0 := fun h _ => h.trans e8
  refine region (n := 69) (F := look (wakes3Facts N M)) (by kernel_rfl) hn (by kernel_rfl) (look_stable _ (wakes3Stable N M)) (fun i hi => all_from 43 0 ?_ i (Nat.zero_le _) (Nat.lt_of_lt_of_eq hi (by kernel_rfl)))
    fun a w hg ha h => fin a w hg ha ?_
  · exact ⟨
    stepN (i := 0) (by kernel_rfl) (move (d := 27) (x := (.tmp 2)) fun a w hg ha D => ext2 (ha.2.2 2 (by kernel_rfl)) hg),
    stepN (i := 1) (by kernel_rfl) (eqlE (d := 28) (x := 27) (m := 0) (c := 0) (b := true) (by kernel_rfl) (fun _ _ h => h) (by rfl) (fun _ _ h => h)),
    stepN (i := 2) (by kernel_rfl) (move (d := 29) (x := (.tmp 28)) fun _ _ _ _ D => D 28 (by kernel_rfl)),
    stepG (i := 3) (j := 2) (dj := 29) (b := true) (by kernel_rfl) (by kernel_rfl) (by kernel_rfl) (fun _ _ h => h) (loadNat (d := 30) (p := 1) p1 (by kernel_rfl) c1 n1 (fun _ _ h => h)),
    stepG (i := 4) (j := 2) (dj := 29) (b := true) (by kernel_rfl) (by kernel_rfl) (by kernel_rfl) (fun _ _ h => h) (callPrint (d := 31) (x := 30) (n := N) (k := 4097) (ts := #[24]) (by kernel_rfl) (fun _ _ h => h) (by omega) (fun _ _ h => h)),
    stepG (i := 5) (j := 2) (dj := 29) (b := true) (by kernel_rfl) (by kernel_rfl) (by kernel_rfl) (fun _ _ h => h) (eqlStr (d := 32) (x := 31) (l := Tx.text N) (r := [49, 56, 52, 52, 54, 55, 52, 52, 48, 55, 51, 55, 48, 57, 53, 53, 49, 54, 49, 54]) (b := true) (by kernel_rfl) (fun _ _ h => h) (by rw [hN]; rfl) (fun _ _ h => h)),
    stepN (i := 6) (by kernel_rfl) (pickT (d := 33) (c := 29) (x := (.tmp 32)) (y := (.const (.bool false))) (by kernel_rfl) (fun _ _ h => h) fun _ _ _ _ D => D 32 (by kernel_rfl)),
    stepN (i := 7) (by kernel_rfl) (move (d := 34) (x := (.tmp 33)) fun _ _ _ _ D => D 33 (by kernel_rfl)),
    stepG (i := 8) (j := 7) (dj := 34) (b := true) (by kernel_rfl) (by kernel_rfl) (by kernel_rfl) (fun _ _ h => h) (move (d := 35) (x := (.tmp 4)) fun a w hg ha D => ext4 (ha.2.2 4 (by kernel_rfl)) hg),
    stepG (i := 9) (j := 7) (dj := 34) (b := true) (by kernel_rfl) (by kernel_rfl) (by kernel_rfl) (fun _ _ h => h) (eqlE (d := 36) (x := 35) (m := 0) (c := 0) (b := true) (by kernel_rfl) (fun _ _ h => h) (by rfl) (fun _ _ h => h)),
    stepN (i := 10) (by kernel_rfl) (pickT (d := 37) (c := 34) (x := (.tmp 36)) (y := (.const (.bool false))) (by kernel_rfl) (fun _ _ h => h) fun _ _ _ _ D => D 36 (by kernel_rfl)),
    stepN (i := 11) (by kernel_rfl) (move (d := 38) (x := (.tmp 37)) fun _ _ _ _ D => D 37 (by kernel_rfl)),
    stepG (i := 12) (j := 11) (dj := 38) (b := true) (by kernel_rfl) (by kernel_rfl) (by kernel_rfl) (fun _ _ h => h) (loadNat (d := 39) (p := 3) p3 (by kernel_rfl) c3 n3 (fun _ _ h => h)),
    stepG (i := 13) (j := 11) (dj := 38) (b := true) (by kernel_rfl) (by kernel_rfl) (by kernel_rfl) (fun _ _ h => h) (loadNat (d := 40) (p := 1) p1 (by kernel_rfl) c1 n1 (fun _ _ h => h)),
    stepG (i := 14) (j := 11) (dj := 38) (b := true) (by kernel_rfl) (by kernel_rfl) (by kernel_rfl) (fun _ _ h => h) (callCmp (d := 41) (x := 39) (y := 40) (n := N) (m := N) (k := 20) (j := 4097) (ts := #[24, 24]) (by kernel_rfl) (by kernel_rfl) (fun _ _ h => h) (fun _ _ h => h) (by omega) (fun _ _ h => h)),
    stepG (i := 15) (j := 11) (dj := 38) (b := true) (by kernel_rfl) (by kernel_rfl) (by kernel_rfl) (fun _ _ h => h) (eqlI (d := 42) (x := 41) (m := (Mx.cmp N N)) (c := 0) (b := true) (by kernel_rfl) (fun _ _ h => h) (by rw [Mx.cmp_eq (rfl)]; rfl) (fun _ _ h => h)),
    stepN (i := 16) (by kernel_rfl) (pickT (d := 43) (c := 38) (x := (.tmp 42)) (y := (.const (.bool false))) (by kernel_rfl) (fun _ _ h => h) fun _ _ _ _ D => D 42 (by kernel_rfl)),
    stepN (i := 17) (by kernel_rfl) (move (d := 44) (x := (.tmp 43)) fun _ _ _ _ D => D 43 (by kernel_rfl)),
    stepG (i := 18) (j := 17) (dj := 44) (b := true) (by kernel_rfl) (by kernel_rfl) (by kernel_rfl) (fun _ _ h => h) (move (d := 45) (x := (.tmp 6)) fun a w hg ha D => ext6 (ha.2.2 6 (by kernel_rfl)) hg),
    stepG (i := 19) (j := 17) (dj := 44) (b := true) (by kernel_rfl) (by kernel_rfl) (by kernel_rfl) (fun _ _ h => h) (eqlE (d := 46) (x := 45) (m := 5) (c := 5) (b := true) (by kernel_rfl) (fun _ _ h => h) (by rfl) (fun _ _ h => h)),
    stepN (i := 20) (by kernel_rfl) (pickT (d := 47) (c := 44) (x := (.tmp 46)) (y := (.const (.bool false))) (by kernel_rfl) (fun _ _ h => h) fun _ _ _ _ D => D 46 (by kernel_rfl)),
    stepN (i := 21) (by kernel_rfl) (move (d := 48) (x := (.tmp 47)) fun _ _ _ _ D => D 47 (by kernel_rfl)),
    stepG (i := 22) (j := 21) (dj := 48) (b := true) (by kernel_rfl) (by kernel_rfl) (by kernel_rfl) (fun _ _ h => h) (loadNat (d := 49) (p := 7) p7 (by kernel_rfl) c7 n7 (fun _ _ h => h)),
    stepG (i := 23) (j := 21) (dj := 48) (b := true) (by kernel_rfl) (by kernel_rfl) (by kernel_rfl) (fun _ _ h => h) (buildOne (d := 50) (c := 1000) (by rw [Mx.B_eq]; omega) (fun _ _ h => h)),
    stepG (i := 24) (j := 21) (dj := 48) (b := true) (by kernel_rfl) (by kernel_rfl) (by kernel_rfl) (fun _ _ h => h) (callOf1 (d := 51) (x := 50) (l := [1000]) (k := 1) (ts := #[22]) (by kernel_rfl) (fun _ _ h => h) (by simp) (by omega) (fun _ _ h => h)),
    stepG (i := 25) (j := 21) (dj := 48) (b := true) (by kernel_rfl) (by kernel_rfl) (by kernel_rfl) (fun _ _ h => h) (callCmp (d := 52) (x := 49) (y := 51) (n := M) (m := Mx.val ([1000])) (k := 4097) (j := 1) (ts := #[24, 24]) (by kernel_rfl) (by kernel_rfl) (fun _ _ h => h) (fun _ _ h => h) (by omega) (fun _ _ h => h)),
    stepG (i := 26) (j := 21) (dj := 48) (b := true) (by kernel_rfl) (by kernel_rfl) (by kernel_rfl) (fun _ _ h => h) (eqlI (d := 53) (x := 52) (m := (Mx.cmp M (Mx.val ([1000])))) (c := 0) (b := true) (by kernel_rfl) (fun _ _ h => h) (by rw [Mx.cmp_eq (by rw [Mx.val_one]; exact hM)]; rfl) (fun _ _ h => h)),
    stepN (i := 27) (by kernel_rfl) (pickT (d := 54) (c := 48) (x := (.tmp 53)) (y := (.const (.bool false))) (by kernel_rfl) (fun _ _ h => h) fun _ _ _ _ D => D 53 (by kernel_rfl)),
    stepN (i := 28) (by kernel_rfl) (move (d := 55) (x := (.tmp 54)) fun _ _ _ _ D => D 54 (by kernel_rfl)),
    stepG (i := 29) (j := 28) (dj := 55) (b := true) (by kernel_rfl) (by kernel_rfl) (by kernel_rfl) (fun _ _ h => h) (move (d := 56) (x := (.tmp 8)) fun a w hg ha D => ext8 (ha.2.2 8 (by kernel_rfl)) hg),
    stepG (i := 30) (j := 28) (dj := 55) (b := true) (by kernel_rfl) (by kernel_rfl) (by kernel_rfl) (fun _ _ h => h) (eqlE (d := 57) (x := 56) (m := 0) (c := 0) (b := true) (by kernel_rfl) (fun _ _ h => h) (by rfl) (fun _ _ h => h)),
    stepN (i := 31) (by kernel_rfl) (pickT (d := 58) (c := 55) (x := (.tmp 57)) (y := (.const (.bool false))) (by kernel_rfl) (fun _ _ h => h) fun _ _ _ _ D => D 57 (by kernel_rfl)),
    stepN (i := 32) (by kernel_rfl) (move (d := 59) (x := (.tmp 58)) fun _ _ _ _ D => D 58 (by kernel_rfl)),
    stepG (i := 33) (j := 32) (dj := 59) (b := true) (by kernel_rfl) (by kernel_rfl) (by kernel_rfl) (fun _ _ h => h) (loadNat (d := 60) (p := 1) p1 (by kernel_rfl) c1 n1 (fun _ _ h => h)),
    stepG (i := 34) (j := 32) (dj := 59) (b := true) (by kernel_rfl) (by kernel_rfl) (by kernel_rfl) (fun _ _ h => h) (callLength (d := 61) (x := 60) (n := N) (k := 4097) (ts := #[24]) (by kernel_rfl) (fun _ _ h => h) (by omega) (fun _ _ h => h)),
    stepG (i := 35) (j := 32) (dj := 59) (b := true) (by kernel_rfl) (by kernel_rfl) (by kernel_rfl) (fun _ _ h => h) (eqlI (d := 62) (x := 61) (m := ((Tx.digs N : Nat) : Int)) (c := 20) (b := true) (by kernel_rfl) (fun _ _ h => h) (by rw [hD]; rfl) (fun _ _ h => h)),
    stepN (i := 36) (by kernel_rfl) (pickT (d := 63) (c := 59) (x := (.tmp 62)) (y := (.const (.bool false))) (by kernel_rfl) (fun _ _ h => h) fun _ _ _ _ D => D 62 (by kernel_rfl)),
    stepN (i := 37) (by kernel_rfl) (move (d := 64) (x := (.tmp 63)) fun _ _ _ _ D => D 63 (by kernel_rfl)),
    stepG (i := 38) (j := 37) (dj := 64) (b := true) (by kernel_rfl) (by kernel_rfl) (by kernel_rfl) (fun _ _ h => h) (buildNat0 (d := 65) (fun _ _ h => h)),
    stepG (i := 39) (j := 37) (dj := 64) (b := true) (by kernel_rfl) (by kernel_rfl) (by kernel_rfl) (fun _ _ h => h) (callPrint (d := 66) (x := 65) (n := 0) (k := 0) (ts := #[24]) (by kernel_rfl) (fun _ _ h => h) (by omega) (fun _ _ h => h)),
    stepG (i := 40) (j := 37) (dj := 64) (b := true) (by kernel_rfl) (by kernel_rfl) (by kernel_rfl) (fun _ _ h => h) (eqlStr (d := 67) (x := 66) (l := Tx.text 0) (r := [48]) (b := true) (by kernel_rfl) (fun _ _ h => h) (by rw [Tx.text_zero]; rfl) (fun _ _ h => h)),
    stepN (i := 41) (by kernel_rfl) (pickT (d := 68) (c := 64) (x := (.tmp 67)) (y := (.const (.bool false))) (by kernel_rfl) (fun _ _ h => h) fun _ _ _ _ D => D 67 (by kernel_rfl)),
    stepN (i := 42) (by kernel_rfl) (assign (d := 0) (x := (.tmp 68)) fun _ _ _ _ D => D 68 (by kernel_rfl)), trivial⟩
  · have e : look (wakes3Facts N M) 0 w (a.tmps.getD 0 undef) := h 0 (by kernel_rfl)
    exact e
end Go.Proofs.YtckcjiojfpaikaaDoor.Rg
