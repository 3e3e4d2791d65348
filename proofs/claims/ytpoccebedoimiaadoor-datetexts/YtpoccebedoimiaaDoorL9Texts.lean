/- DateTexts. Written by a script (tools/laws). -/
import Derived.Test.YtpoccebedoimiaaDoorL9S
namespace Go.Proofs.YtpoccebedoimiaaDoor.X
open Go.Proofs.YtpoccebedoimiaaDoor.Da
open Go.RowKit Go.Proofs.YtpoccebedoimiaaDoor.Z
set_option linter.unusedVariables false
theorem mk_ok (a b c : Int) : rightI (mkY a 9999) (mkM b) (mkD (mkY a 9999) (mkM b) c) := mk_right (by decide) (by decide)
/-- A date's text is parsed to it. -/
theorem tx_back {y m d : Int} (h : rightI y m d) : pYd (prT y m d) = y ∧ pMd (prT y m d) = m ∧ pDd (prT y m d) = d ∧ pEr (prT y m d) = 0 := by
  obtain ⟨hy, hm, h1, h2, h3⟩ := right_in h
  rw [(chk_1 h).2.2.2]
  have e1 : ((yOf (dText y.toNat m.toNat d.toNat) : Nat) : Int) = y := by rw [text_y (by omega)]; omega
  have e2 : ((mOf (dText y.toNat m.toNat d.toNat) : Nat) : Int) = m := by rw [text_m (by omega)]; omega
  have e3 : ((dOf (dText y.toNat m.toNat d.toNat) : Nat) : Int) = d := by rw [text_d (by omega)]; omega
  have := pz_ok (text_sh y.toNat m.toNat d.toNat) (by rw [e1, e2, e3]; exact h)
  rw [e1, e2, e3] at this
  exact this
theorem tx_no {l : List UInt8} (h : ¬ pEr l = 0) : pYd l = 0 ∧ pMd l = 0 ∧ pDd l = 0 := by
  cases hs : shB l with
  | false => exact ⟨(pz_no hs).1, (pz_no hs).2.1, (pz_no hs).2.2.1⟩
  | true =>
    by_cases hr : rightI ((yOf l : Nat) : Int) ((mOf l : Nat) : Int) ((dOf l : Nat) : Int)
    · exact absurd (pz_ok hs hr).2.2.2 h
    · exact ⟨(pz_wrong hs hr).1, (pz_wrong hs hr).2.1, (pz_wrong hs hr).2.2.1⟩
theorem tx_yes {l : List UInt8} (h : pEr l = 0) : rightI (pYd l) (pMd l) (pDd l) ∧ prT (pYd l) (pMd l) (pDd l) = l := by
  cases hs : shB l with
  | false => rw [(pz_no hs).2.2.2] at h; cases h
  | true =>
    by_cases hr : rightI ((yOf l : Nat) : Int) ((mOf l : Nat) : Int) ((dOf l : Nat) : Int)
    · obtain ⟨e1, e2, e3, _⟩ := pz_ok hs hr
      rw [e1, e2, e3]
      refine ⟨hr, ?_⟩
      rw [(chk_1 hr).2.2.2]
      exact text_of hs
    · rw [(pz_wrong hs hr).2.2.2] at h
      cases h
noncomputable def ctb17 : List (Ct dk) := [
  ct2 7 0 en7 vDt vI (fun x y => .s (.E (.agg ⟨[.int .i64 (mkY x.1 y), .int .i64 (mkM x.2.1), .int .i64 (mkD (mkY x.1 y) (mkM x.2.1) x.2.2)]⟩))) (fun x y => [1 ≤ y ∧ y ≤ 9999]) fun _ _ p _ _ _  h1 h2 => refMake_t h1 h2 p.1,
  ct1 25 0 en25 vT (fun x => .t [.E (.agg ⟨[.int .i64 (pYd x), .int .i64 (pMd x), .int .i64 (pDd x)]⟩), .E (.int .i64 (pEr x))]) (fun x => []) fun _ p _ _  h1 => refParse_t h1,
  ct0w 19 0 en19 (.O .Tb) isTbk isTbk_ok (.s (.E (.bool true))) fun _ _ hW => wakes9_t hW] ++ ctb16
theorem texts_t {w : World} {v0 v1 : Value} {l : List UInt8} {a b c : Int} (h0 : (isT l) w v0) (h1 : (f0 w (.s (.E (.agg ⟨[.int .i64 a, .int .i64 b, .int .i64 c]⟩)))).p w v1) (hw : isTb w v0)  : Calls Tryd.prog 6 #[v0, v1] w (Ret w fun v w' => (isE (.bool true)) w' v) := by
  exact fx ctb17 Tryd.func6 (fun ι => if ι = 6 then [(2, 0, some (.s (.E (.bool false)))), (6, 0, some (.s (.E (.bool false)))), (11, 0, some (.s (.E (.bool false)))), (15, 0, some (.s (.E (.bool false))))] else if ι = 9 then [(4, 0, some (.s (.E (.bool true))))] else if ι = 11 then [(3, 0, some (.s (.E (.bool true)))), (8, 0, some (.s (.E (.bool true))))] else []) [(0, .E (.string (str l))), (1, .E (.agg ⟨[.int .i64 a, .int .i64 b, .int .i64 c]⟩)), (1000000, .O .Tb)] (.s (.E (.bool true))) ⟨h0, h1, hw, trivial⟩ ((1 ≤ (9999 : Int) ∧ (9999 : Int) ≤ 9999) ∧ ((!(decide (((pYd l) : Int) = (pYd l)) && (decide (((pMd l) : Int) = (pMd l)) && (decide (((pDd l) : Int) = (pDd l)) && true)))) = false) ∧ ((!decide (((pEr l) : Int) = (pEr l))) = false) ∧ ((!(decide (((pYd (prT (mkY a (9999 : Int)) (mkM b) (mkD (mkY a (9999 : Int)) (mkM b) c))) : Int) = (mkY a (9999 : Int))) && (decide (((pMd (prT (mkY a (9999 : Int)) (mkM b) (mkD (mkY a (9999 : Int)) (mkM b) c))) : Int) = (mkM b)) && (decide (((pDd (prT (mkY a (9999 : Int)) (mkM b) (mkD (mkY a (9999 : Int)) (mkM b) c))) : Int) = (mkD (mkY a (9999 : Int)) (mkM b) c)) && true)))) = false) ∧ ((!decide (((pEr (prT (mkY a (9999 : Int)) (mkM b) (mkD (mkY a (9999 : Int)) (mkM b) c))) : Int) = 0)) = false) ∧ (cnd ((!decide (((pEr l) : Int) = 0))) (((decide (((pYd l) : Int) = 0) && (decide (((pMd l) : Int) = 0) && (decide (((pDd l) : Int) = 0) && true))) = true) ∧ (true = true)) (((decide (((chkI (pYd l) (pMd l) (pDd l)) : Int) = 0)) = true) ∧ (((prT (pYd l) (pMd l) (pDd l)) == l) = true) ∧ (true = true)))) ⟨(by decide), (by simp), (by simp), (by rw [(tx_back (mk_ok a b c)).1, (tx_back (mk_ok a b c)).2.1, (tx_back (mk_ok a b c)).2.2.1]; simp), (by rw [(tx_back (mk_ok a b c)).2.2.2]; rfl), ((Classical.em (¬ pEr l = 0)).elim (fun he => cnd_t (by rw [decide_eq_false he]; rfl) ⟨(by rw [(tx_no he).1, (tx_no he).2.1, (tx_no he).2.2]; rfl), rfl⟩) (fun he => cnd_f (by rw [decide_eq_true (by simpa using he)]; rfl) ⟨(decide_eq_true (chk_1 (tx_yes (by simpa using he)).1).1), (by rw [(tx_yes (by simpa using he)).2]; simp), rfl⟩))⟩
end Go.Proofs.YtpoccebedoimiaaDoor.X
