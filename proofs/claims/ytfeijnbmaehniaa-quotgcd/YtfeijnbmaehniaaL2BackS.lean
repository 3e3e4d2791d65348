/- The law QuotBack of layer 2: its region that divides a product and a rest. -/
import Derived.Test.YtfeijnbmaehniaaRgv
import Derived.Test.YtfeijnbmaehniaaLaw2V
namespace Go.Proofs.Ytfeijnbmaehniaa
open Go.RowKit

theorem IsN.store {w : World} {v : Value} {n b : Nat} (h : IsN w v n b) {p : Addr} {A' : Option Addr} {k c : Nat} (hp : w.cell? p = some (.slice A' k c)) (u : Value) : IsN (w.setCell p u) v n b := ⟨h.1.store hp u, h.2⟩
/-- A quotient, a rest, and no error. -/
def IsQR (w : World) (v : Value) (q r j k : Nat) : Prop := ∃ x y, v = .tuple #[x, y, .int .i64 0] ∧ IsN w x q j ∧ IsN w y r k
theorem IsQR.grow {w w' : World} {v : Value} {q r j k : Nat} (h : IsQR w v q r j k) (g : Grow w w') : IsQR w' v q r j k := by
  obtain ⟨x, y, e, h1, h2⟩ := h
  exact ⟨x, y, e, h1.grow g, h2.grow g⟩
theorem IsQR.store {w : World} {v : Value} {q r j b : Nat} (h : IsQR w v q r j b) {p : Addr} {A' : Option Addr} {k c : Nat} (hp : w.cell? p = some (.slice A' k c)) (u : Value) : IsQR (w.setCell p u) v q r j b := by
  obtain ⟨x, y, e, h1, h2⟩ := h
  exact ⟨x, y, e, h1.store hp u, h2.store hp u⟩

namespace Rg
section
variable {ops : Array Oper} {Q : Exit → Act → World → Prop} {F : Facts} {a0 : Act} {w0 : World} {V : VS}
theorem en_div : Enters Try.prog 8 := enters_of Try.func8 (by kernel_rfl) rfl
theorem callDiv {i d x y n m k j : Nat} {ts : Array TypeId} (dx : depI ops i x = true) (dy : depI ops i y = true) (hx : ∀ w v, F x w v → IsN w v n k) (hy : ∀ w v, F y w v → IsN w v m j) (hk : k ≤ 1073741824) (hm : m ≠ 0)
    (hF : ∀ w v, IsQR w v (n / m) (n % m) k j → F d w v) : Owes Try.prog ops Q F a0 w0 i (some d) (.call { callee := .value (.func 8), args := #[.tmp x, .tmp y], argTypes := ts }) :=
  fun _ _ _ ho hd _ _ D => call2 ho en_div hd (div_n (hx _ _ (D x dx)) (hy _ _ (D y dy)) hk hm) fun _ _ ⟨v, e, h, g⟩ => ⟨v, e, hF _ _ h, g⟩
theorem extract0 {i d x q r j k : Nat} (dx : depI ops i x = true) (hx : ∀ w v, F x w v → IsQR w v q r j k) (hF : ∀ w v, IsN w v q j → F d w v) : Owes Try.prog ops Q F a0 w0 i (some d) (.extract (.tmp x) 0) :=
  fun o a w ho hd hg ha D => by
    obtain ⟨u, z, e, h1, h2⟩ := hx _ _ (D x dx)
    refine valOf (v := u) (w' := w) ?_ hd (hF _ _ h1) (Grow.refl w)
    simp only [Array.getD_eq_getD_getElem?] at e
    simp [execOp, ho, go_sem, Act.eval, e]
theorem extract1 {i d x q r j k : Nat} (dx : depI ops i x = true) (hx : ∀ w v, F x w v → IsQR w v q r j k) (hF : ∀ w v, IsN w v r k → F d w v) : Owes Try.prog ops Q F a0 w0 i (some d) (.extract (.tmp x) 1) :=
  fun o a w ho hd hg ha D => by
    obtain ⟨u, z, e, h1, h2⟩ := hx _ _ (D x dx)
    refine valOf (v := z) (w' := w) ?_ hd (hF _ _ h2) (Grow.refl w)
    simp only [Array.getD_eq_getD_getElem?] at e
    simp [execOp, ho, go_sem, Act.eval, e]
theorem extract2 {i d x q r j k : Nat} (dx : depI ops i x = true) (hx : ∀ w v, F x w v → IsQR w v q r j k) (hF : ∀ w v, v = .int .i64 0 → F d w v) : Owes Try.prog ops Q F a0 w0 i (some d) (.extract (.tmp x) 2) :=
  fun o a w ho hd hg ha D => by
    obtain ⟨u, z, e, h1, h2⟩ := hx _ _ (D x dx)
    refine valOf (v := .int .i64 0) (w' := w) ?_ hd (hF _ _ rfl) (Grow.refl w)
    simp only [Array.getD_eq_getD_getElem?] at e
    simp [execOp, ho, go_sem, Act.eval, e]

/-- A step of Rg as a step among variables. -/
theorem step4N {i : Nat} {dst : Option Nat} {op : Op} (h : info ops i = some (dst, op, none)) (hal : ∀ d, (V.al.map (·.2)).contains d = true → ∀ w v, F d w v) (hs : Owes Try.prog ops Q F a0 w0 i dst op) : Step4 ops Q (fun d _ w v => F d w v) V [] a0 w0 i := by
  intro o ho a w hg ha hd
  obtain ⟨h1, h2, h3⟩ := info_parts h ho
  refine run_wanted ho (by simp [Region.wanted, h3]) (hs o a w h2 h1 hg.toGrow ha fun d hdi => ?_)
  cases hc : (V.al.map (·.2)).contains d with
  | true => exact hal d hc _ _
  | false => exact hd d (by rw [← depI_eq ho]; exact hdi) hc
end
end Rg

noncomputable def backOps6 : Array Oper := Rg.regionOps Try.f4 6
/-- What each operation yields. -/
def backF (x y r q s : Nat) : Rg.Facts := fun d w v =>
  match d with
  | 46 => IsN w v x 10
  | 47 => IsN w v y 10
  | 48 => IsN w v (x * y) (10 + 10)
  | 49 => IsN w v r 10
  | 50 => IsN w v (x * y + r) (max (10 + 10) 10 + 1)
  | 51 => IsN w v y 10
  | 52 => IsQR w v q s 21 10
  | 45 => IsQR w v q s 21 10
  | 53 => IsN w v q 21
  | 54 => IsN w v s 10
  | 55 => v = .int .i64 0
  | 18 => v = .int .i64 0
  | _ => True

set_option maxRecDepth 100000 in
set_option maxHeartbeats 1000000 in
theorem back_region6 {Q : Exit → Act → World → Prop} {a0 : Act} {w0 : World} {x y r q s : Nat} {p7 p8 p14 : Addr} {A7 A8 A14 : Option Addr} {l7 c7 l8 c8 l14 c14 : Nat} (hn : a0.tmps.size = 97)
    (h7 : a0.tmps.getD 7 undef = .pointer (some p7)) (h8 : a0.tmps.getD 8 undef = .pointer (some p8)) (h14 : a0.tmps.getD 14 undef = .pointer (some p14))
    (k7 : w0.cell? p7 = some (.slice A7 l7 c7)) (n7 : IsN w0 (.agg #[.slice A7 l7 c7]) x 10) (k8 : w0.cell? p8 = some (.slice A8 l8 c8)) (n8 : IsN w0 (.agg #[.slice A8 l8 c8]) y 10) (k14 : w0.cell? p14 = some (.slice A14 l14 c14)) (n14 : IsN w0 (.agg #[.slice A14 l14 c14]) r 10)
    (hy : y ≠ 0) (hq : (x * y + r) / y = q) (hs : (x * y + r) % y = s)
    (fin : ∀ f w i j, Grow w0 w → f 16 = .pointer (some ⟨i, 0, none⟩) → f 17 = .pointer (some ⟨j, 0, none⟩) → f 18 = .int .i64 0 → VarN w i q 21 → VarN w j s 10 → Q .normal (Rg.puts f [46, 47, 48, 49, 50, 51, 52, 45, 53, 54, 55, 16, 17, 18] a0) w) :
    (Code.region 6 backOps6 true).wp Try.prog Q a0 w0 := by
  refine Rg.region4 (n := 97) (F := fun d _ w v => backF x y r q s d w v) ⟨[(11, 16), (12, 17)], [(13, 16, 53), (14, 17, 54)], []⟩ [] [] [46, 47, 48, 49, 50, 51, 52, 45, 53, 54, 55, 16, 17, 18] (by kernel_rfl) hn (by kernel_rfl) (by kernel_rfl) (by kernel_rfl) (by kernel_rfl) ?_ ?_ ?_ ?_ (by intro p hp; cases hp) (by intro p q hp; cases hp)
    (fun i hi hna hns => ?_) ?_
  · intro d f w w' v h hg
    unfold backF at h ⊢
    split at h <;> first | exact h | exact h.grow hg
  · intro d f f' w v h _
    exact h
  · intro d f w v k A l c A' l' c' h hc
    unfold backF at h ⊢
    split at h <;> first | exact h | exact h.store hc _
  · intro i p z hz f w v h
    simp only [List.mem_cons, Prod.mk.injEq, List.not_mem_nil, or_false] at hz
    rcases hz with ⟨rfl, rfl, rfl⟩ | ⟨rfl, rfl, rfl⟩
    · exact IsN.cell (n := q) (k := 21) h
    · exact IsN.cell (n := s) (k := 10) h
  · have hal : ∀ d, (([(11, 16), (12, 17)] : List (Nat × Nat)).map (·.2)).contains d = true → ∀ w v, backF x y r q s d w v := by
      intro d hd w v
      have : d = 16 ∨ d = 17 := by simpa using hd
      rcases this with rfl | rfl <;> trivial
    have hi16 : i < 16 := Nat.lt_of_lt_of_eq hi (by kernel_rfl)
    match i, hi16 with
    | 0, _ => exact Rg.step4N (F := backF x y r q s) (by kernel_rfl) hal (Rg.loadNat (d := 46) (p := 7) h7 (by kernel_rfl) k7 n7 (fun _ _ h => h))
    | 1, _ => exact Rg.step4N (F := backF x y r q s) (by kernel_rfl) hal (Rg.loadNat (d := 47) (p := 8) h8 (by kernel_rfl) k8 n8 (fun _ _ h => h))
    | 2, _ => exact Rg.step4N (F := backF x y r q s) (by kernel_rfl) hal (Rg.callMul (d := 48) (x := 46) (y := 47) (n := x) (m := y) (k := 10) (j := 10) (ts := #[24, 24]) (by kernel_rfl) (by kernel_rfl) (fun _ _ h => h) (fun _ _ h => h) (by omega) (by omega) (fun _ _ h => h))
    | 3, _ => exact Rg.step4N (F := backF x y r q s) (by kernel_rfl) hal (Rg.loadNat (d := 49) (p := 14) h14 (by kernel_rfl) k14 n14 (fun _ _ h => h))
    | 4, _ => exact Rg.step4N (F := backF x y r q s) (by kernel_rfl) hal (Rg.callAdd (d := 50) (x := 48) (y := 49) (n := x * y) (m := r) (k := 10 + 10) (j := 10) (ts := #[24, 24]) (by kernel_rfl) (by kernel_rfl) (fun _ _ h => h) (fun _ _ h => h) (by omega) (by omega) (fun _ _ h => h))
    | 5, _ => exact Rg.step4N (F := backF x y r q s) (by kernel_rfl) hal (Rg.loadNat (d := 51) (p := 8) h8 (by kernel_rfl) k8 n8 (fun _ _ h => h))
    | 6, _ => exact Rg.step4N (F := backF x y r q s) (by kernel_rfl) hal (Rg.callDiv (d := 52) (x := 50) (y := 51) (n := x * y + r) (m := y) (k := max (10 + 10) 10 + 1) (j := 10) (ts := #[24, 24]) (by kernel_rfl) (by kernel_rfl) (fun _ _ h => h) (fun _ _ h => h) (by omega) hy (fun _ _ h => by rw [hq, hs] at h; exact h))
    | 7, _ => exact Rg.step4N (F := backF x y r q s) (by kernel_rfl) hal (Rg.move (d := 45) (x := .tmp 52) fun _ _ _ _ D => D 52 (by kernel_rfl))
    | 8, _ => exact Rg.step4N (F := backF x y r q s) (by kernel_rfl) hal (Rg.extract0 (d := 53) (x := 45) (q := q) (r := s) (j := 21) (k := 10) (by kernel_rfl) (fun _ _ h => h) (fun _ _ h => h))
    | 9, _ => exact Rg.step4N (F := backF x y r q s) (by kernel_rfl) hal (Rg.extract1 (d := 54) (x := 45) (q := q) (r := s) (j := 21) (k := 10) (by kernel_rfl) (fun _ _ h => h) (fun _ _ h => h))
    | 10, _ => exact Rg.step4N (F := backF x y r q s) (by kernel_rfl) hal (Rg.extract2 (d := 55) (x := 45) (q := q) (r := s) (j := 21) (k := 10) (by kernel_rfl) (fun _ _ h => h) (fun _ _ h => h))
    | 11, _ => exact absurd hna (by decide)
    | 12, _ => exact absurd hna (by decide)
    | 13, _ => exact absurd hns (by decide)
    | 14, _ => exact absurd hns (by decide)
    | 15, _ => exact Rg.step4N (F := backF x y r q s) (by kernel_rfl) hal (Rg.assign (d := 18) (x := .tmp 55) fun _ _ _ _ D => D 55 (by kernel_rfl))
    | i + 16, h => exact absurd h (by omega)
  · intro f w hg hf hl hap hh _
    obtain ⟨i, A, l, c, e1, e2, e3⟩ := hh 13 16 53 (by simp)
    obtain ⟨j, B, l', c', e4, e5, e6⟩ := hh 14 17 54 (by simp)
    have h53 : IsN w (f 53) q 21 := hf 53 rfl rfl
    have h54 : IsN w (f 54) s 10 := hf 54 rfl rfl
    rw [e2] at h53
    rw [e5] at h54
    exact fin f w i j hg.toGrow e1 e4 (hf 18 rfl rfl) ⟨A, l, c, e3, h53⟩ ⟨B, l', c', e6, h54⟩
end Go.Proofs.Ytfeijnbmaehniaa
