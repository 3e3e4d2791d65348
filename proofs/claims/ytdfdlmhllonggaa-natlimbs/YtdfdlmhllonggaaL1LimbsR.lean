/- The last region of the law NatLimbs: whatever its order. Written by a script (tools/laws). -/
import Derived.Test.YtdfdlmhllonggaaLaw1R
import Derived.Test.YtdfdlmhllonggaaRgRef
namespace Go.Proofs.Ytdfdlmhllonggaa.Rg
open Go.RowKit
theorem cmp_neg (n m : Nat) : Mx.cmp n m = -(Mx.cmp m n) := by unfold Mx.cmp; split <;> split <;> (try split) <;> omega

/-- What each operation of the region yields. -/
def limbsFacts (la lb : List Nat) : List (Nat × (World → Value → Prop)) :=
  [(112, (fun _ v => v = .bool true)),
   (113, (fun _ v => v = .bool true)),
   (114, (fun w v => IsN w v (Mx.val la) (12))),
   (115, (fun w v => IsN w v (Mx.val lb) (12))),
   (116, (fun _ v => v = .int .i64 (Mx.cmp (Mx.val la) (Mx.val lb)))),
   (117, (fun w v => Sl w v (la))),
   (118, (fun w v => IsD w v (Mx.val la) ((8 * 12)))),
   (119, (fun w v => Sl w v (lb))),
   (120, (fun w v => IsD w v (Mx.val lb) ((8 * 12)))),
   (121, (fun _ v => v = .int .i64 (Mx.cmp (Mx.val la) (Mx.val lb)))),
   (122, (fun _ v => v = .bool true)),
   (123, (fun _ v => v = .bool true)),
   (124, (fun _ v => v = .bool true)),
   (125, (fun w v => IsN w v (Mx.val la) (12))),
   (126, (fun w v => IsN w v (Mx.val lb) (12))),
   (127, (fun _ v => v = .int .i64 (Mx.cmp (Mx.val la) (Mx.val lb)))),
   (128, (fun w v => IsN w v (Mx.val lb) (12))),
   (129, (fun w v => IsN w v (Mx.val la) (12))),
   (130, (fun _ v => v = .int .i64 (Mx.cmp (Mx.val lb) (Mx.val la)))),
   (131, (fun _ v => v = .int .i64 (-(Mx.cmp (Mx.val lb) (Mx.val la))))),
   (132, (fun _ v => v = .bool true)),
   (133, (fun _ v => v = .bool true)),
   (134, (fun _ v => v = .bool true)),
   (135, (fun w v => IsN w v (Mx.val la) (12))),
   (136, (fun w v => IsN w v (Mx.val la) (12))),
   (137, (fun _ v => v = .int .i64 (Mx.cmp (Mx.val la) (Mx.val la)))),
   (138, (fun _ v => v = .bool true)),
   (139, (fun _ v => v = .bool true)),
   (4, (fun _ v => v = .bool true))]
theorem limbsStable (la lb : List Nat) : AllStable (limbsFacts la lb) := ⟨st_eq _, st_eq _, st_N _ _, st_N _ _, st_eq _, st_S _, st_D _ _, st_S _, st_D _ _, st_eq _, st_eq _, st_eq _, st_eq _, st_N _ _, st_N _ _, st_eq _, st_N _ _, st_N _ _, st_eq _, st_eq _, st_eq _, st_eq _, st_eq _, st_N _ _, st_N _ _, st_eq _, st_eq _, st_eq _, st_eq _, trivial⟩

set_option maxRecDepth 100000 in
set_option maxHeartbeats 4000000 in
theorem limbs_region {Q : Exit → Act → World → Prop} {a0 : Act} {w0 : World} (la lb : List Nat) (hn : a0.tmps.size = 140)
   {b5 : Addr} {A5 : Option Addr} {L5 C5 : Nat} (p5 : a0.tmps.getD 5 undef = .pointer (some b5)) (c5 : w0.cell? b5 = some (.slice A5 L5 C5)) (n5 : IsN w0 (.agg #[.slice A5 L5 C5]) (Mx.val la) 12)
   {b6 : Addr} {A6 : Option Addr} {L6 C6 : Nat} (p6 : a0.tmps.getD 6 undef = .pointer (some b6)) (c6 : w0.cell? b6 = some (.slice A6 L6 C6)) (n6 : IsN w0 (.agg #[.slice A6 L6 C6]) (Mx.val lb) 12)
   (s0 : Sl w0 (a0.tmps.getD 0 undef) la) (s1 : Sl w0 (a0.tmps.getD 1 undef) lb) (h1 : la.length ≤ 12) (h2 : lb.length ≤ 12)
    (fin : ∀ a w, Grow w0 w → Agree (regionOps Try.f4 19) a0 a → a.tmps.getD 4 undef = .bool true → Q .normal a w) : (Code.region 19 (regionOps Try.f4 19) true).wp Try.prog Q a0 w0 := by
  have ext0 : ∀ {u : Value} {w : World}, u = a0.tmps.getD 0 undef → Grow w0 w → Sl w u la := fun h g => h ▸ s0.grow g
  have ext1 : ∀ {u : Value} {w : World}, u = a0.tmps.getD 1 undef → Grow w0 w → Sl w u lb := fun h g => h ▸ s1.grow g
  refine region (n := 140) (F := look (limbsFacts la lb)) (by kernel_rfl) hn (by kernel_rfl) (look_stable _ (limbsStable la lb)) (fun i hi => all_from 29 0 ?_ i (Nat.zero_le _) (Nat.lt_of_lt_of_eq hi (by kernel_rfl)))
    fun a w hg ha h => fin a w hg ha ?_
  · exact ⟨
    stepN (i := 0) (by kernel_rfl) (callWakes (d := 112) (ts := #[]) (fun _ _ h => h)),
    stepN (i := 1) (by kernel_rfl) (move (d := 113) (x := (.tmp 112)) fun _ _ _ _ D => D 112 (by kernel_rfl)),
    stepG (i := 2) (j := 1) (dj := 113) (b := true) (by kernel_rfl) (by kernel_rfl) (by kernel_rfl) (fun _ _ h => h) (loadNat (d := 114) (p := 5) p5 (by kernel_rfl) c5 n5 (fun _ _ h => h)),
    stepG (i := 3) (j := 1) (dj := 113) (b := true) (by kernel_rfl) (by kernel_rfl) (by kernel_rfl) (fun _ _ h => h) (loadNat (d := 115) (p := 6) p6 (by kernel_rfl) c6 n6 (fun _ _ h => h)),
    stepG (i := 4) (j := 1) (dj := 113) (b := true) (by kernel_rfl) (by kernel_rfl) (by kernel_rfl) (fun _ _ h => h) (callCmp (d := 116) (x := 114) (y := 115) (n := Mx.val la) (m := Mx.val lb) (k := 12) (j := 12) (ts := #[24, 24]) (by kernel_rfl) (by kernel_rfl) (fun _ _ h => h) (fun _ _ h => h) (by omega) (fun _ _ h => h)),
    stepG (i := 5) (j := 1) (dj := 113) (b := true) (by kernel_rfl) (by kernel_rfl) (by kernel_rfl) (fun _ _ h => h) (move (d := 117) (x := (.tmp 0)) fun a w hg ha D => ext0 (ha.2.2 0 (by kernel_rfl)) hg),
    stepG (i := 6) (j := 1) (dj := 113) (b := true) (by kernel_rfl) (by kernel_rfl) (by kernel_rfl) (fun _ _ h => h) (callRefOf (d := 118) (x := 117) (l := la) (k := (8 * 12)) (ts := #[22]) (by kernel_rfl) (fun _ _ h => h) (by omega) (by omega) (fun _ _ h => h)),
    stepG (i := 7) (j := 1) (dj := 113) (b := true) (by kernel_rfl) (by kernel_rfl) (by kernel_rfl) (fun _ _ h => h) (move (d := 119) (x := (.tmp 1)) fun a w hg ha D => ext1 (ha.2.2 1 (by kernel_rfl)) hg),
    stepG (i := 8) (j := 1) (dj := 113) (b := true) (by kernel_rfl) (by kernel_rfl) (by kernel_rfl) (fun _ _ h => h) (callRefOf (d := 120) (x := 119) (l := lb) (k := (8 * 12)) (ts := #[22]) (by kernel_rfl) (fun _ _ h => h) (by omega) (by omega) (fun _ _ h => h)),
    stepG (i := 9) (j := 1) (dj := 113) (b := true) (by kernel_rfl) (by kernel_rfl) (by kernel_rfl) (fun _ _ h => h) (callRefCmp (d := 121) (x := 118) (y := 120) (n := Mx.val la) (m := Mx.val lb) (k := (8 * 12)) (j := (8 * 12)) (ts := #[27, 27]) (by kernel_rfl) (by kernel_rfl) (fun _ _ h => h) (fun _ _ h => h) (by omega) (fun _ _ h => h)),
    stepG (i := 10) (j := 1) (dj := 113) (b := true) (by kernel_rfl) (by kernel_rfl) (by kernel_rfl) (fun _ _ h => h) (eqlII (d := 122) (x := 116) (y := 121) (m := (Mx.cmp (Mx.val la) (Mx.val lb))) (c := (Mx.cmp (Mx.val la) (Mx.val lb))) (b := true) (by kernel_rfl) (by kernel_rfl) (fun _ _ h => h) (fun _ _ h => h) (by simp) (fun _ _ h => h)),
    stepN (i := 11) (by kernel_rfl) (pickT (d := 123) (c := 113) (x := (.tmp 122)) (y := (.const (.bool false))) (by kernel_rfl) (fun _ _ h => h) fun _ _ _ _ D => D 122 (by kernel_rfl)),
    stepN (i := 12) (by kernel_rfl) (move (d := 124) (x := (.tmp 123)) fun _ _ _ _ D => D 123 (by kernel_rfl)),
    stepG (i := 13) (j := 12) (dj := 124) (b := true) (by kernel_rfl) (by kernel_rfl) (by kernel_rfl) (fun _ _ h => h) (loadNat (d := 125) (p := 5) p5 (by kernel_rfl) c5 n5 (fun _ _ h => h)),
    stepG (i := 14) (j := 12) (dj := 124) (b := true) (by kernel_rfl) (by kernel_rfl) (by kernel_rfl) (fun _ _ h => h) (loadNat (d := 126) (p := 6) p6 (by kernel_rfl) c6 n6 (fun _ _ h => h)),
    stepG (i := 15) (j := 12) (dj := 124) (b := true) (by kernel_rfl) (by kernel_rfl) (by kernel_rfl) (fun _ _ h => h) (callCmp (d := 127) (x := 125) (y := 126) (n := Mx.val la) (m := Mx.val lb) (k := 12) (j := 12) (ts := #[24, 24]) (by kernel_rfl) (by kernel_rfl) (fun _ _ h => h) (fun _ _ h => h) (by omega) (fun _ _ h => h)),
    stepG (i := 16) (j := 12) (dj := 124) (b := true) (by kernel_rfl) (by kernel_rfl) (by kernel_rfl) (fun _ _ h => h) (loadNat (d := 128) (p := 6) p6 (by kernel_rfl) c6 n6 (fun _ _ h => h)),
    stepG (i := 17) (j := 12) (dj := 124) (b := true) (by kernel_rfl) (by kernel_rfl) (by kernel_rfl) (fun _ _ h => h) (loadNat (d := 129) (p := 5) p5 (by kernel_rfl) c5 n5 (fun _ _ h => h)),
    stepG (i := 18) (j := 12) (dj := 124) (b := true) (by kernel_rfl) (by kernel_rfl) (by kernel_rfl) (fun _ _ h => h) (callCmp (d := 130) (x := 128) (y := 129) (n := Mx.val lb) (m := Mx.val la) (k := 12) (j := 12) (ts := #[24, 24]) (by kernel_rfl) (by kernel_rfl) (fun _ _ h => h) (fun _ _ h => h) (by omega) (fun _ _ h => h)),
    stepG (i := 19) (j := 12) (dj := 124) (b := true) (by kernel_rfl) (by kernel_rfl) (by kernel_rfl) (fun _ _ h => h) (negI (d := 131) (x := 130) (m := (Mx.cmp (Mx.val lb) (Mx.val la))) (r := -(Mx.cmp (Mx.val lb) (Mx.val la))) (by kernel_rfl) (fun _ _ h => h) (neg_cmp _ _) (fun _ _ h => h)),
    stepG (i := 20) (j := 12) (dj := 124) (b := true) (by kernel_rfl) (by kernel_rfl) (by kernel_rfl) (fun _ _ h => h) (eqlII (d := 132) (x := 127) (y := 131) (m := (Mx.cmp (Mx.val la) (Mx.val lb))) (c := (-(Mx.cmp (Mx.val lb) (Mx.val la)))) (b := true) (by kernel_rfl) (by kernel_rfl) (fun _ _ h => h) (fun _ _ h => h) (by rw [cmp_neg]; simp) (fun _ _ h => h)),
    stepN (i := 21) (by kernel_rfl) (pickT (d := 133) (c := 124) (x := (.tmp 132)) (y := (.const (.bool false))) (by kernel_rfl) (fun _ _ h => h) fun _ _ _ _ D => D 132 (by kernel_rfl)),
    stepN (i := 22) (by kernel_rfl) (move (d := 134) (x := (.tmp 133)) fun _ _ _ _ D => D 133 (by kernel_rfl)),
    stepG (i := 23) (j := 22) (dj := 134) (b := true) (by kernel_rfl) (by kernel_rfl) (by kernel_rfl) (fun _ _ h => h) (loadNat (d := 135) (p := 5) p5 (by kernel_rfl) c5 n5 (fun _ _ h => h)),
    stepG (i := 24) (j := 22) (dj := 134) (b := true) (by kernel_rfl) (by kernel_rfl) (by kernel_rfl) (fun _ _ h => h) (loadNat (d := 136) (p := 5) p5 (by kernel_rfl) c5 n5 (fun _ _ h => h)),
    stepG (i := 25) (j := 22) (dj := 134) (b := true) (by kernel_rfl) (by kernel_rfl) (by kernel_rfl) (fun _ _ h => h) (callCmp (d := 137) (x := 135) (y := 136) (n := Mx.val la) (m := Mx.val la) (k := 12) (j := 12) (ts := #[24, 24]) (by kernel_rfl) (by kernel_rfl) (fun _ _ h => h) (fun _ _ h => h) (by omega) (fun _ _ h => h)),
    stepG (i := 26) (j := 22) (dj := 134) (b := true) (by kernel_rfl) (by kernel_rfl) (by kernel_rfl) (fun _ _ h => h) (eqlI (d := 138) (x := 137) (m := (Mx.cmp (Mx.val la) (Mx.val la))) (c := 0) (b := true) (by kernel_rfl) (fun _ _ h => h) (by rw [Mx.cmp_self]; rfl) (fun _ _ h => h)),
    stepN (i := 27) (by kernel_rfl) (pickT (d := 139) (c := 134) (x := (.tmp 138)) (y := (.const (.bool false))) (by kernel_rfl) (fun _ _ h => h) fun _ _ _ _ D => D 138 (by kernel_rfl)),
    stepN (i := 28) (by kernel_rfl) (assign (d := 4) (x := (.tmp 139)) fun _ _ _ _ D => D 139 (by kernel_rfl)), trivial⟩
  · have e : look (limbsFacts la lb) 4 w (a.tmps.getD 4 undef) := h 4 (by kernel_rfl)
    exact e
end Go.Proofs.Ytdfdlmhllonggaa.Rg
