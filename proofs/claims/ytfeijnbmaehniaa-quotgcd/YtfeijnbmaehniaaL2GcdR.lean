/- The regions of the law QuotGcd: whatever their order. Written by a script (tools/laws). -/
import Derived.Test.YtfeijnbmaehniaaL2GcdS
namespace Go.Proofs.Ytfeijnbmaehniaa.Rg
open Go.RowKit

/-- What each operation of the region yields. -/
def gcd4Facts (lx ly : List Nat) : List (Nat × (World → Value → Prop)) :=
  [(41, (fun w v => IsN w v ((Nat.gcd (Mx.val lx) (Mx.val ly))) (4))),
   (42, (fun w v => Sl w v (lx))),
   (43, (fun w v => IsD w v (Mx.val lx) (80))),
   (44, (fun w v => Sl w v (ly))),
   (45, (fun w v => IsD w v (Mx.val ly) (80))),
   (46, (fun w v => IsD w v (Nat.gcd (Mx.val lx) (Mx.val ly)) (80))),
   (47, (fun _ v => v = .bool true)),
   (48, (fun _ v => v = .bool false))]
theorem gcd4Stable (lx ly : List Nat) : AllStable (gcd4Facts lx ly) := ⟨st_N _ _, st_S _, st_D _ _, st_S _, st_D _ _, st_D _ _, st_eq _, st_eq _, trivial⟩

set_option maxRecDepth 100000 in
set_option maxHeartbeats 4000000 in
theorem gcd4_region {Q : Exit → Act → World → Prop} {a0 : Act} {w0 : World} (lx ly : List Nat) (hn : a0.tmps.size = 97)
   {b10 : Addr} {A10 : Option Addr} {L10 C10 : Nat} (p10 : a0.tmps.getD 10 undef = .pointer (some b10)) (c10 : w0.cell? b10 = some (.slice A10 L10 C10)) (n10 : IsN w0 (.agg #[.slice A10 L10 C10]) (Nat.gcd (Mx.val lx) (Mx.val ly)) 4)
   (s0 : Sl w0 (a0.tmps.getD 0 undef) (lx))
   (s1 : Sl w0 (a0.tmps.getD 1 undef) (ly))
   (hlx : lx.length ≤ 4) (hly : ly.length ≤ 4)
    (fin : ∀ a w, Grow w0 w → Agree (regionOps Try.f6 4) a0 a → a.tmps.getD 48 undef = .bool false → Q .normal a w) : (Code.region 4 (regionOps Try.f6 4) true).wp Try.prog Q a0 w0 := by
  have ext0 : ∀ {u : Value} {w : World}, u = a0.tmps.getD 0 undef → Grow w0 w → Sl w u (lx) := fun h g => h ▸ s0.grow g
  have ext1 : ∀ {u : Value} {w : World}, u = a0.tmps.getD 1 undef → Grow w0 w → Sl w u (ly) := fun h g => h ▸ s1.grow g
  refine region (n := 97) (F := look (gcd4Facts lx ly)) (by kernel_rfl) hn (by kernel_rfl) (look_stable _ (gcd4Stable lx ly)) (fun i hi => all_from 8 0 ?_ i (Nat.zero_le _) (Nat.lt_of_lt_of_eq hi (by kernel_rfl)))
    fun a w hg ha h => fin a w hg ha ?_
  · exact ⟨
    stepN (i := 0) (by kernel_rfl) (loadNat (d := 41) (p := 10) p10 (by kernel_rfl) c10 n10 (fun _ _ h => h)),
    stepN (i := 1) (by kernel_rfl) (move (d := 42) (x := (.tmp 0)) fun a w hg ha D => ext0 (ha.2.2 0 (by kernel_rfl)) hg),
    stepN (i := 2) (by kernel_rfl) (callRefOf (d := 43) (x := 42) (l := lx) (k := 80) (ts := #[22]) (by kernel_rfl) (fun _ _ h => h) (by omega) (by omega) (fun _ _ h => h)),
    stepN (i := 3) (by kernel_rfl) (move (d := 44) (x := (.tmp 1)) fun a w hg ha D => ext1 (ha.2.2 1 (by kernel_rfl)) hg),
    stepN (i := 4) (by kernel_rfl) (callRefOf (d := 45) (x := 44) (l := ly) (k := 80) (ts := #[22]) (by kernel_rfl) (fun _ _ h => h) (by omega) (by omega) (fun _ _ h => h)),
    stepN (i := 5) (by kernel_rfl) (callRefGcd (d := 46) (x := 43) (y := 45) (n := (Mx.val lx)) (m := (Mx.val ly)) (k := 80) (ts := #[30, 30]) (by kernel_rfl) (by kernel_rfl) (fun _ _ h => h) (fun _ _ h => h) (by omega) (fun _ _ h => h)),
    stepN (i := 6) (by kernel_rfl) (callSame2 (d := 47) (x := 41) (y := 46) (n := ((Nat.gcd (Mx.val lx) (Mx.val ly)))) (m := (Nat.gcd (Mx.val lx) (Mx.val ly))) (k := 4) (j := 80) (ts := #[24, 30]) (by kernel_rfl) (by kernel_rfl) (fun _ _ h => h) (fun _ _ h => h) (by omega) (rfl) (fun _ _ h => h)),
    stepN (i := 7) (by kernel_rfl) (notB (d := 48) (x := 47) (b := true) (c := false) (by kernel_rfl) (fun _ _ h => h) rfl (fun _ _ h => h)), trivial⟩
  · have e : look (gcd4Facts lx ly) 48 w (a.tmps.getD 48 undef) := h 48 (by kernel_rfl)
    exact e

/-- What each operation of the region yields. -/
def gcd11Facts (x y z : Nat) : List (Nat × (World → Value → Prop)) :=
  [(74, (fun _ v => v = .bool true)),
   (75, (fun _ v => v = .bool true)),
   (76, (fun w v => IsN w v ((x)) (4))),
   (77, (fun w v => IsN w v ((z)) (3))),
   (78, (fun w v => IsN w v ((((x)) * ((z)))) ((4 + 3)))),
   (79, (fun w v => IsN w v ((y)) (4))),
   (80, (fun w v => IsN w v ((z)) (3))),
   (81, (fun w v => IsN w v ((((y)) * ((z)))) ((4 + 3)))),
   (82, (fun w v => IsN w v (Nat.gcd ((((x)) * ((z)))) ((((y)) * ((z))))) ((4 + 3)))),
   (83, (fun w v => IsN w v ((Nat.gcd x y)) (4))),
   (84, (fun w v => IsN w v ((z)) (3))),
   (85, (fun w v => IsN w v ((((Nat.gcd x y)) * ((z)))) ((4 + 3)))),
   (86, (fun _ v => v = .int .i64 (Mx.cmp (Nat.gcd ((((x)) * ((z)))) ((((y)) * ((z))))) ((((Nat.gcd x y)) * ((z))))))),
   (87, (fun _ v => v = .bool true)),
   (88, (fun _ v => v = .bool true)),
   (89, (fun _ v => v = .bool true)),
   (90, (fun w v => IsN w v ((y)) (4))),
   (91, (fun w v => IsN w v ((x)) (4))),
   (92, (fun w v => IsN w v (Nat.gcd ((y)) ((x))) (4))),
   (93, (fun w v => IsN w v ((Nat.gcd x y)) (4))),
   (94, (fun _ v => v = .int .i64 (Mx.cmp (Nat.gcd ((y)) ((x))) ((Nat.gcd x y))))),
   (95, (fun _ v => v = .bool true)),
   (96, (fun _ v => v = .bool true)),
   (6, (fun _ v => v = .bool true))]
theorem gcd11Stable (x y z : Nat) : AllStable (gcd11Facts x y z) := ⟨st_eq _, st_eq _, st_N _ _, st_N _ _, st_N _ _, st_N _ _, st_N _ _, st_N _ _, st_N _ _, st_N _ _, st_N _ _, st_N _ _, st_eq _, st_eq _, st_eq _, st_eq _, st_N _ _, st_N _ _, st_N _ _, st_N _ _, st_eq _, st_eq _, st_eq _, st_eq _, trivial⟩

set_option maxRecDepth 100000 in
set_option maxHeartbeats 4000000 in
theorem gcd11_region {Q : Exit → Act → World → Prop} {a0 : Act} {w0 : World} (x y z : Nat) (hn : a0.tmps.size = 97)
   {b7 : Addr} {A7 : Option Addr} {L7 C7 : Nat} (p7 : a0.tmps.getD 7 undef = .pointer (some b7)) (c7 : w0.cell? b7 = some (.slice A7 L7 C7)) (n7 : IsN w0 (.agg #[.slice A7 L7 C7]) (x) 4)
   {b8 : Addr} {A8 : Option Addr} {L8 C8 : Nat} (p8 : a0.tmps.getD 8 undef = .pointer (some b8)) (c8 : w0.cell? b8 = some (.slice A8 L8 C8)) (n8 : IsN w0 (.agg #[.slice A8 L8 C8]) (y) 4)
   {b9 : Addr} {A9 : Option Addr} {L9 C9 : Nat} (p9 : a0.tmps.getD 9 undef = .pointer (some b9)) (c9 : w0.cell? b9 = some (.slice A9 L9 C9)) (n9 : IsN w0 (.agg #[.slice A9 L9 C9]) (z) 3)
   {b10 : Addr} {A10 : Option Addr} {L10 C10 : Nat} (p10 : a0.tmps.getD 10 undef = .pointer (some b10)) (c10 : w0.cell? b10 = some (.slice A10 L10 C10)) (n10 : IsN w0 (.agg #[.slice A10 L10 C10]) (Nat.gcd x y) 4)
   
    (fin : ∀ a w, Grow w0 w → Agree (regionOps Try.f6 11) a0 a → a.tmps.getD 6 undef = .bool true → Q .normal a w) : (Code.region 11 (regionOps Try.f6 11) true).wp Try.prog Q a0 w0 := by
  refine region (n := 97) (F := look (gcd11Facts x y z)) (by kernel_rfl) hn (by kernel_rfl) (look_stable _ (gcd11Stable x y z)) (fun i hi => all_from 24 0 ?_ i (Nat.zero_le _) (Nat.lt_of_lt_of_eq hi (by kernel_rfl)))
    fun a w hg ha h => fin a w hg ha ?_
  · exact ⟨
    stepN (i := 0) (by kernel_rfl) (callWakes (d := 74) (ts := #[]) (fun _ _ h => h)),
    stepN (i := 1) (by kernel_rfl) (move (d := 75) (x := (.tmp 74)) fun _ _ _ _ D => D 74 (by kernel_rfl)),
    stepG (i := 2) (j := 1) (dj := 75) (b := true) (by kernel_rfl) (by kernel_rfl) (by kernel_rfl) (fun _ _ h => h) (loadNat (d := 76) (p := 7) p7 (by kernel_rfl) c7 n7 (fun _ _ h => h)),
    stepG (i := 3) (j := 1) (dj := 75) (b := true) (by kernel_rfl) (by kernel_rfl) (by kernel_rfl) (fun _ _ h => h) (loadNat (d := 77) (p := 9) p9 (by kernel_rfl) c9 n9 (fun _ _ h => h)),
    stepG (i := 4) (j := 1) (dj := 75) (b := true) (by kernel_rfl) (by kernel_rfl) (by kernel_rfl) (fun _ _ h => h) (callMul (d := 78) (x := 76) (y := 77) (n := (x)) (m := (z)) (k := 4) (j := 3) (ts := #[24, 24]) (by kernel_rfl) (by kernel_rfl) (fun _ _ h => h) (fun _ _ h => h) (by omega) (by omega) (fun _ _ h => h)),
    stepG (i := 5) (j := 1) (dj := 75) (b := true) (by kernel_rfl) (by kernel_rfl) (by kernel_rfl) (fun _ _ h => h) (loadNat (d := 79) (p := 8) p8 (by kernel_rfl) c8 n8 (fun _ _ h => h)),
    stepG (i := 6) (j := 1) (dj := 75) (b := true) (by kernel_rfl) (by kernel_rfl) (by kernel_rfl) (fun _ _ h => h) (loadNat (d := 80) (p := 9) p9 (by kernel_rfl) c9 n9 (fun _ _ h => h)),
    stepG (i := 7) (j := 1) (dj := 75) (b := true) (by kernel_rfl) (by kernel_rfl) (by kernel_rfl) (fun _ _ h => h) (callMul (d := 81) (x := 79) (y := 80) (n := (y)) (m := (z)) (k := 4) (j := 3) (ts := #[24, 24]) (by kernel_rfl) (by kernel_rfl) (fun _ _ h => h) (fun _ _ h => h) (by omega) (by omega) (fun _ _ h => h)),
    stepG (i := 8) (j := 1) (dj := 75) (b := true) (by kernel_rfl) (by kernel_rfl) (by kernel_rfl) (fun _ _ h => h) (callGcdN (d := 82) (x := 78) (y := 81) (n := (((x)) * ((z)))) (m := (((y)) * ((z)))) (k := (4 + 3)) (ts := #[24, 24]) (by kernel_rfl) (by kernel_rfl) (fun _ _ h => h) (fun _ _ h => h) (by omega) (fun _ _ h => h)),
    stepG (i := 9) (j := 1) (dj := 75) (b := true) (by kernel_rfl) (by kernel_rfl) (by kernel_rfl) (fun _ _ h => h) (loadNat (d := 83) (p := 10) p10 (by kernel_rfl) c10 n10 (fun _ _ h => h)),
    stepG (i := 10) (j := 1) (dj := 75) (b := true) (by kernel_rfl) (by kernel_rfl) (by kernel_rfl) (fun _ _ h => h) (loadNat (d := 84) (p := 9) p9 (by kernel_rfl) c9 n9 (fun _ _ h => h)),
    stepG (i := 11) (j := 1) (dj := 75) (b := true) (by kernel_rfl) (by kernel_rfl) (by kernel_rfl) (fun _ _ h => h) (callMul (d := 85) (x := 83) (y := 84) (n := (Nat.gcd x y)) (m := (z)) (k := 4) (j := 3) (ts := #[24, 24]) (by kernel_rfl) (by kernel_rfl) (fun _ _ h => h) (fun _ _ h => h) (by omega) (by omega) (fun _ _ h => h)),
    stepG (i := 12) (j := 1) (dj := 75) (b := true) (by kernel_rfl) (by kernel_rfl) (by kernel_rfl) (fun _ _ h => h) (callCmp (d := 86) (x := 82) (y := 85) (n := Nat.gcd ((((x)) * ((z)))) ((((y)) * ((z))))) (m := (((Nat.gcd x y)) * ((z)))) (k := (4 + 3)) (j := (4 + 3)) (ts := #[24, 24]) (by kernel_rfl) (by kernel_rfl) (fun _ _ h => h) (fun _ _ h => h) (by omega) (fun _ _ h => h)),
    stepG (i := 13) (j := 1) (dj := 75) (b := true) (by kernel_rfl) (by kernel_rfl) (by kernel_rfl) (fun _ _ h => h) (eqlI (d := 87) (x := 86) (m := (Mx.cmp (Nat.gcd ((((x)) * ((z)))) ((((y)) * ((z))))) ((((Nat.gcd x y)) * ((z)))))) (c := 0) (b := true) (by kernel_rfl) (fun _ _ h => h) (by rw [Mx.cmp_eq (Nat.gcd_mul_right x z y)]; rfl) (fun _ _ h => h)),
    stepN (i := 14) (by kernel_rfl) (pickT (d := 88) (c := 75) (x := (.tmp 87)) (y := (.const (.bool false))) (by kernel_rfl) (fun _ _ h => h) fun _ _ _ _ D => D 87 (by kernel_rfl)),
    stepN (i := 15) (by kernel_rfl) (move (d := 89) (x := (.tmp 88)) fun _ _ _ _ D => D 88 (by kernel_rfl)),
    stepG (i := 16) (j := 15) (dj := 89) (b := true) (by kernel_rfl) (by kernel_rfl) (by kernel_rfl) (fun _ _ h => h) (loadNat (d := 90) (p := 8) p8 (by kernel_rfl) c8 n8 (fun _ _ h => h)),
    stepG (i := 17) (j := 15) (dj := 89) (b := true) (by kernel_rfl) (by kernel_rfl) (by kernel_rfl) (fun _ _ h => h) (loadNat (d := 91) (p := 7) p7 (by kernel_rfl) c7 n7 (fun _ _ h => h)),
    stepG (i := 18) (j := 15) (dj := 89) (b := true) (by kernel_rfl) (by kernel_rfl) (by kernel_rfl) (fun _ _ h => h) (callGcdN (d := 92) (x := 90) (y := 91) (n := (y)) (m := (x)) (k := 4) (ts := #[24, 24]) (by kernel_rfl) (by kernel_rfl) (fun _ _ h => h) (fun _ _ h => h) (by omega) (fun _ _ h => h)),
    stepG (i := 19) (j := 15) (dj := 89) (b := true) (by kernel_rfl) (by kernel_rfl) (by kernel_rfl) (fun _ _ h => h) (loadNat (d := 93) (p := 10) p10 (by kernel_rfl) c10 n10 (fun _ _ h => h)),
    stepG (i := 20) (j := 15) (dj := 89) (b := true) (by kernel_rfl) (by kernel_rfl) (by kernel_rfl) (fun _ _ h => h) (callCmp (d := 94) (x := 92) (y := 93) (n := Nat.gcd ((y)) ((x))) (m := (Nat.gcd x y)) (k := 4) (j := 4) (ts := #[24, 24]) (by kernel_rfl) (by kernel_rfl) (fun _ _ h => h) (fun _ _ h => h) (by omega) (fun _ _ h => h)),
    stepG (i := 21) (j := 15) (dj := 89) (b := true) (by kernel_rfl) (by kernel_rfl) (by kernel_rfl) (fun _ _ h => h) (eqlI (d := 95) (x := 94) (m := (Mx.cmp (Nat.gcd ((y)) ((x))) ((Nat.gcd x y)))) (c := 0) (b := true) (by kernel_rfl) (fun _ _ h => h) (by rw [Mx.cmp_eq (Nat.gcd_comm y x)]; rfl) (fun _ _ h => h)),
    stepN (i := 22) (by kernel_rfl) (pickT (d := 96) (c := 89) (x := (.tmp 95)) (y := (.const (.bool false))) (by kernel_rfl) (fun _ _ h => h) fun _ _ _ _ D => D 95 (by kernel_rfl)),
    stepN (i := 23) (by kernel_rfl) (assign (d := 6) (x := (.tmp 96)) fun _ _ _ _ D => D 96 (by kernel_rfl)), trivial⟩
  · have e : look (gcd11Facts x y z) 6 w (a.tmps.getD 6 undef) := h 6 (by kernel_rfl)
    exact e
end Go.Proofs.Ytfeijnbmaehniaa.Rg
