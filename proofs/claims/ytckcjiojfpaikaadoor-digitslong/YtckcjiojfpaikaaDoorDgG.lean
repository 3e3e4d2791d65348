/- strings.TrimLeft at a nought; the contracts of digits.Print and digits.Length. -/
import Derived.Test.YtckcjiojfpaikaaDoorDgF
import Derived.Shelf.Strings.Trim
import Derived.Laws.IdiomStrings
import Derived.Test.YtckcjiojfpaikaaDoorRgP
namespace Go.Proofs.YtckcjiojfpaikaaDoor
open Go.RowKit
set_option maxRecDepth 20000

def lays231_ren : Go.Shelf.Ren := ⟨fun | 231 => 52 | n => n, fun | 3 => 3 | 4 => 4 | 5 => 5 | 9 => 9 | n => n, fun | n => n⟩
theorem lays231 : Go.Proofs.Lays.n231 Tryd.prog lays231_ren := {
  mixed := by kernel_rfl
  f231 := Tryd.func52.trans (congrArg some (by kernel_rfl))
  t3 := Tryd.underlying3
  a3 := Tryd.isAgg3
  z3 := Tryd.sizeOf3
  v3 := Tryd.zeroValue3
  t4 := Tryd.underlying4
  a4 := Tryd.isAgg4
  z4 := Tryd.sizeOf4
  v4 := Tryd.zeroValue4
  t5 := Tryd.underlying5
  a5 := Tryd.isAgg5
  z5 := Tryd.sizeOf5
  v5 := Tryd.zeroValue5
  t9 := Tryd.underlying9
  a9 := Tryd.isAgg9
  z9 := Tryd.sizeOf9
  v9 := Tryd.zeroValue9 }
/-- The string of a list's bytes. -/
abbrev str (l : List UInt8) : ByteArray := ⟨l.toArray⟩
theorem bytesOf_str (l : List UInt8) : bytesOf (str l) = l := rfl
theorem trimByte_any (s : ByteArray) (w : World) :
    Calls Tryd.prog 52 #[.string s, .int .u8 48] w fun e w' => e = .returned (.string (str ((bytesOf s).dropWhile (· == 48)))) ∧ w = w' :=
  (Any.strings_trimLeftByte lays231 s 48 w).mono fun _ _ ⟨he, hw⟩ => ⟨he, hw.symm⟩

set_option maxHeartbeats 1000000 in
theorem trimLeft_any (s : ByteArray) (w : World) :
    Calls Tryd.prog 29 #[.string s, .string ⟨#[48]⟩] w fun e w' => e = .returned (.string (str ((bytesOf s).dropWhile (· == 48)))) ∧ w = w' := by
  have HT := Lib.hid (trimByte_any s w)
  by_cases h0 : s.toList = []
  · have h1 : bytesOf s = [] := by rw [bytesOf, ← Lib.toList_data]; exact h0
    have h0' : s.toList.isEmpty = true := by rw [h0]; rfl
    have h2 : str ((bytesOf s).dropWhile (· == 48)) = s := by
      rw [h1, List.dropWhile_nil]
      obtain ⟨⟨l⟩⟩ := s
      simp only [bytesOf] at h1
      rw [h1]
    rw [h2]
    clear HT h1 h2
    go_enter Tryd.func29, Tryd.ntmps29
    go_wp2_with fail
    go_ret
    exact ⟨rfl, rfl⟩
  · have h0' : s.toList.isEmpty = false := by
      cases h : s.toList with
      | nil => exact absurd h h0
      | cons a b => rfl
    have hcz : ((({ data := #[48] } : ByteArray)[0]'(by decide)).toNat : Int) = 48 := rfl
    generalize str ((bytesOf s).dropWhile (· == 48)) = r at *
    clear h0
    go_enter Tryd.func29, Tryd.ntmps29
    go_wp2_with fail
    refine HT.out.mono ?_
    rintro e w' ⟨rfl, rfl⟩
    go_wp2_with fail
    go_ret
    exact ⟨rfl, rfl⟩

theorem tex_string {w : World} {v : Value} {l : List UInt8} (h : Tex w v l) (hl : l ≠ []) : (convert 46 9 v).run Tryd.prog w = .ok (.string (str l)) w := by
  obtain ⟨g, c, e, _, hc⟩ := Own.cells h (by simpa [bvals] using hl)
  rw [bvals_length] at e
  subst e
  refine run_convert_bytes_back w _ _ 5 ⟨g, 0, none⟩ c l Tryd.underlying46 Tryd.underlying5 Tryd.underlying9 fun j hj => ?_
  rw [addr_add, Nat.zero_add]
  exact hc j _ (by simp [bvals, List.getElem?_eq_getElem hj])
/-- What is left of the digits without the noughts ahead; then the text. -/
theorem trim_text {k n : Nat} (h : n < 10 ^ k) (r : List UInt8) (hr : (Tx.dgt k n).dropWhile (· == 48) = r) : (r = [] ∧ Tx.text n = [48]) ∨ (r ≠ [] ∧ Tx.text n = r) := by
  by_cases h0 : n = 0
  · subst h0
    rw [Tx.trim_zero] at hr
    exact .inl ⟨hr.symm, Tx.text_zero⟩
  · rw [Tx.trim_dgt h h0] at hr
    subst hr
    exact .inr ⟨Tx.text_ne_nil n, rfl⟩
theorem str_empty {r : List UInt8} : (str r).toList.isEmpty = r.isEmpty := by rw [Lib.toList_data]

noncomputable def printOps1 : Array Oper := Rg.regionOps Tryd.f9 1
theorem en_cuts : Enters Tryd.prog 31 := enters_of Tryd.func31 (by kernel_rfl) rfl
theorem en_write : Enters Tryd.prog 30 := enters_of Tryd.func30 (by kernel_rfl) rfl
theorem en_trimLeft : Enters Tryd.prog 29 := enters_of Tryd.func29 (by kernel_rfl) rfl
/-- The text as TrimLeft leaves it. -/
def Trimmed (n : Nat) (v : Value) : Prop := ∃ r, v = .string (str r) ∧ ((r = [] ∧ Tx.text n = [48]) ∨ (r ≠ [] ∧ Tx.text n = r))
/-- What each operation yields. -/
def printF (n b : Nat) : Rg.Facts := fun d w v =>
  match d with
  | 4 => IsN w v n b
  | 5 => IsN w v n b
  | 6 => ∃ k, Cuts w v k (b + 1) ∧ n < cutAt k ∧ 19 * 2 ^ k ≤ 64 * b + 64
  | 7 => ∃ k, Tex w v (Tx.dgt (19 * 2 ^ k) n) ∧ n < cutAt k
  | 8 => ∃ k, v = .string (str (Tx.dgt (19 * 2 ^ k) n)) ∧ n < cutAt k
  | 9 => Trimmed n v
  | 3 => Trimmed n v
  | _ => True

set_option maxRecDepth 100000 in
set_option maxHeartbeats 1000000 in
theorem print_region1 {Q : Exit → Act → World → Prop} {a0 : Act} {w0 : World} {n b : Nat} {p1 : Addr} {A4 : Option Addr} {l4 c4 : Nat} (hn : a0.tmps.size = 13)
    (h1 : a0.tmps.getD 1 undef = .pointer (some p1)) (k1 : w0.cell? p1 = some (.slice A4 l4 c4)) (n1 : IsN w0 (.agg #[.slice A4 l4 c4]) n b) (hb : b ≤ 536870912)
    (fin : ∀ f w, Grow w0 w → Trimmed n (f 3) → Q .normal (Rg.puts f [4, 5, 6, 7, 8, 9, 3] a0) w) :
    (Code.region 1 printOps1 true).wp Tryd.prog Q a0 w0 := by
  refine Rg.regionP (n := 13) (F := printF n b) [4, 5, 6, 7, 8, 9, 3] (by kernel_rfl) hn (by kernel_rfl) (by kernel_rfl) ?_ (fun i hi => ?_) (fun f w hg hf => fin f w hg (hf 3 rfl))
  · intro d w w' v h hg
    unfold printF at h ⊢
    split at h
    · exact h.grow hg
    · exact h.grow hg
    · obtain ⟨k, h1, h2⟩ := h; exact ⟨k, h1.grow hg, h2⟩
    · obtain ⟨k, h1, h2⟩ := h; exact ⟨k, h1.grow hg, h2⟩
    all_goals exact h
  · have hi7 : i < 7 := Nat.lt_of_lt_of_eq hi (by kernel_rfl)
    match i, hi7 with
    | 0, _ => exact Rg.step2O (F := printF n b) (by kernel_rfl) (Rg.loadNat (d := 4) (p := 1) h1 (by kernel_rfl) k1 n1 (fun _ _ h => h))
    | 1, _ => exact Rg.step2O (F := printF n b) (by kernel_rfl) (Rg.loadNat (d := 5) (p := 1) h1 (by kernel_rfl) k1 n1 (fun _ _ h => h))
    | 2, _ =>
      refine Rg.step2O (F := printF n b) (dst := some 6) (op := .call { callee := .value (.func 31), args := #[.tmp 5], argTypes := #[24] }) (by kernel_rfl) fun o a w ho hd hg ha D => ?_
      have h5 : IsN w (a.tmps.getD 5 undef) n b := D 5 (by kernel_rfl)
      exact Rg.call1 ho en_cuts hd (cuts_any w _ n b h5 hb) fun e w' ⟨v, e1, h, g⟩ => ⟨v, e1, h, g⟩
    | 3, _ =>
      refine Rg.step2O (F := printF n b) (dst := some 7) (op := .call { callee := .value (.func 30), args := #[.const (.slice none 0 0), .tmp 4, .tmp 6], argTypes := #[46, 24, 55] }) (by kernel_rfl) fun o a w ho hd hg ha D => ?_
      have h4 : IsN w (a.tmps.getD 4 undef) n b := D 4 (by kernel_rfl)
      obtain ⟨k, h6, hlt, hle⟩ : ∃ k, Cuts w (a.tmps.getD 6 undef) k (b + 1) ∧ n < cutAt k ∧ 19 * 2 ^ k ≤ 64 * b + 64 := D 6 (by kernel_rfl)
      refine Rg.callOf ho en_write hd (R := WroteText w (.slice none 0 0) (Tx.dgt (19 * 2 ^ k) n)) ?_ fun e w' ⟨v, e1, h, g⟩ => ⟨v, e1, ⟨k, h, hlt⟩, g.grow⟩
      simp only [List.map_toArray, List.map_cons, List.map_nil, Act.eval]
      exact write_any k w _ _ _ [] _ n (b + 1) (Own.nil _ _ _) (h4.weak (Nat.le_succ b)) h6 hlt (by omega) (by simp only [List.length_nil]; omega) rfl
    | 4, _ =>
      refine Rg.step2O (F := printF n b) (dst := some 8) (op := .convert 46 9 (.tmp 7)) (by kernel_rfl) fun o a w ho hd hg ha D => ?_
      obtain ⟨k, h7, hlt⟩ : ∃ k, Tex w (a.tmps.getD 7 undef) (Tx.dgt (19 * 2 ^ k) n) ∧ n < cutAt k := D 7 (by kernel_rfl)
      refine Rg.valOf (v := .string (str (Tx.dgt (19 * 2 ^ k) n))) (w' := w) ?_ hd ⟨k, rfl, hlt⟩ (Grow.refl w)
      have hne : Tx.dgt (19 * 2 ^ k) n ≠ [] := fun e => by
        have h9 := congrArg List.length e
        rw [Tx.dgt_length, List.length_nil] at h9
        have : 0 < 2 ^ k := Nat.pow_pos (by decide)
        omega
      have hcv := tex_string h7 hne
      have e7 : a.eval (.tmp 7) = a.tmps.getD 7 undef := rfl
      simp only [execOp, ho, e7, Sem.run_bind, hcv]
      rfl
    | 5, _ =>
      refine Rg.step2O (F := printF n b) (dst := some 9) (op := .call { callee := .value (.func 29), args := #[.tmp 8, .const (.string ⟨#[48]⟩)], argTypes := #[9, 9] }) (by kernel_rfl) fun o a w ho hd hg ha D => ?_
      obtain ⟨k, h8, hlt⟩ : ∃ k, a.tmps.getD 8 undef = .string (str (Tx.dgt (19 * 2 ^ k) n)) ∧ n < cutAt k := D 8 (by kernel_rfl)
      refine Rg.callOf ho en_trimLeft hd (R := fun e w' => e = .returned (.string (str ((Tx.dgt (19 * 2 ^ k) n).dropWhile (· == 48)))) ∧ w = w') ?_ fun e w' ⟨e1, hw⟩ => ⟨_, e1, ⟨_, rfl, trim_text hlt _ rfl⟩, hw ▸ Grow.refl w⟩
      simp only [List.map_toArray, List.map_cons, List.map_nil, Act.eval]
      rw [h8]
      exact trimLeft_any (str (Tx.dgt (19 * 2 ^ k) n)) w
    | 6, _ => exact Rg.step2O (F := printF n b) (by kernel_rfl) (Rg.assign (d := 3) (x := .tmp 9) fun _ _ _ _ D => D 9 (by kernel_rfl))
    | i + 7, h => exact absurd h (by omega)

set_option maxHeartbeats 2000000 in
theorem print_any (w : World) (vn : Value) (n b : Nat) (hn : IsN w vn n b) (hb : b ≤ 536870912) :
    Calls Tryd.prog 9 #[vn] w (Ret w fun v' _ => v' = .string (str (Tx.text n))) := by
  obtain ⟨A4, l4, c4, rfl⟩ := hn.cell
  have HN := Lib.hid hn
  clear hn
  go_enter Tryd.func9, Tryd.ntmps9
  go_upto_region 1 with fail
  have gg : Grow w (w.alloc (Obj.cells #[Value.slice A4 l4 c4] 24)) := (Grow.refl _).alloc _
  have k4 := (Grow.new (Grow.refl (w.alloc (Obj.cells #[Value.slice A4 l4 c4] 24)))).1
  generalize w.alloc (Obj.cells #[Value.slice A4 l4 c4] 24) = w1 at *
  refine Rg.region_eq (ops' := printOps1) (by kernel_rfl) (print_region1 (n := n) (b := b) rfl rfl k4 (HN.out.grow gg) hb ?_)
  intro f w2 g2 h3
  have H := Lib.hid (gg.trans g2)
  obtain ⟨r, e3, hr⟩ := h3
  simp only [Rg.puts, Act.put, List.setIfInBounds_toArray, List.set_cons_succ, List.set_cons_zero]
  rw [e3]
  have hre := @str_empty r
  generalize hs : str r = sr at *
  clear g2 gg k4 HN e3
  rcases hr with ⟨h0, h1⟩ | ⟨h0, h1⟩
  · have hre' : sr.toList.isEmpty = true := by rw [hre, h0]; rfl
    have H1 := Lib.hid h1
    clear hre h0 hs h1
    go_wp2_with fail
    go_ret
    exact Ret.mk (by rw [H1.out]; rfl) H.out
  · have hre' : sr.toList.isEmpty = false := by
      rw [hre]
      cases r with
      | nil => exact absurd rfl h0
      | cons a b => rfl
    have H1 := Lib.hid (And.intro h1 hs)
    clear hre h0 hs h1
    go_wp2_with fail
    go_ret
    exact Ret.mk (by rw [H1.out.1, H1.out.2]; rfl) H.out
end Go.Proofs.YtckcjiojfpaikaaDoor
