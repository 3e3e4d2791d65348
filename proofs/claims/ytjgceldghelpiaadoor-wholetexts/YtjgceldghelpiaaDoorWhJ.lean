/- Package whole: Parse; of the library: strings.CutPrefix. -/
import Derived.Test.YtjgceldghelpiaaDoorWhI
namespace Go.Proofs.YtjgceldghelpiaaDoor
open Go.RowKit
set_option maxRecDepth 20000

set_option maxHeartbeats 1000000 in
theorem hasPrefix_no (w : World) (s : ByteArray) (hs : s.size ≤ 4611686018427387904) (h : ((s.extract 0 1).toList == [45]) = false) :
    Calls Tryd.prog 88 #[.string s, .string ⟨#[45]⟩] w fun e w' => e = .returned (.bool false) ∧ w = w' := by
  by_cases h0 : s.size = 0
  · go_enter Tryd.func88, Tryd.ntmps88
    go_wp2_with fail
    go_ret
    exact ⟨rfl, rfl⟩
  · have h1 : (1 : Int) ≤ (s.size : Int) := by omega
    go_enter Tryd.func88, Tryd.ntmps88
    go_wp2_with fail
    go_ret
    exact ⟨rfl, rfl⟩
set_option maxHeartbeats 1000000 in
theorem hasPrefix_yes (w : World) (s : ByteArray) (h1 : (1 : Int) ≤ (s.size : Int)) (h : ((s.extract 0 1).toList == [45]) = true) :
    Calls Tryd.prog 88 #[.string s, .string ⟨#[45]⟩] w fun e w' => e = .returned (.bool true) ∧ w = w' := by
  go_enter Tryd.func88, Tryd.ntmps88
  go_wp2_with fail
  go_ret
  exact ⟨rfl, rfl⟩
set_option maxHeartbeats 1000000 in
theorem cutPre_no (w : World) (s : ByteArray) (hs : s.size ≤ 4611686018427387904) (h : ((s.extract 0 1).toList == [45]) = false) :
    Calls Tryd.prog 73 #[.string s, .string ⟨#[45]⟩] w fun e w' => e = .returned (.tuple #[.string s, .bool false]) ∧ w = w' := by
  have H := Lib.hid (fun W => hasPrefix_no W s hs h)
  clear h
  go_enter Tryd.func73, Tryd.ntmps73
  go_wp2_with fail
  refine (H.out _).mono ?_
  rintro e w1 ⟨rfl, rfl⟩
  go_wp2_with fail
  exact bodyPost_ret (v := .tuple #[.string s, .bool false]) (by simp [results, Tryd.results73, go_sem]) rfl ⟨rfl, rfl⟩
set_option maxHeartbeats 1000000 in
theorem cutPre_yes (w : World) (s : ByteArray) (h1 : (1 : Int) ≤ (s.size : Int)) (h : ((s.extract 0 1).toList == [45]) = true) :
    Calls Tryd.prog 73 #[.string s, .string ⟨#[45]⟩] w fun e w' => e = .returned (.tuple #[.string (s.extract 1 s.size), .bool true]) ∧ w = w' := by
  have H := Lib.hid (fun W => hasPrefix_yes W s h1 h)
  clear h
  go_enter Tryd.func73, Tryd.ntmps73
  go_wp2_with fail
  refine (H.out _).mono ?_
  rintro e w1 ⟨rfl, rfl⟩
  go_wp2_with fail
  exact bodyPost_ret (v := .tuple #[.string (s.extract 1 s.size), .bool true]) (by simp [results, Tryd.results73, go_sem]) rfl ⟨rfl, rfl⟩
/-- Does a text begin with a minus? -/
def minusB (s : ByteArray) : Bool := (s.extract 0 1).toList == [45]
theorem cut_no (w : World) (s : ByteArray) (hs : s.size ≤ 4611686018427387904) (h : minusB s = false) :
    Calls Tryd.prog 52 #[.string s, .string ⟨#[45]⟩] w fun e w' => e = .returned (.tuple #[.string s, .bool false]) ∧ w = w' := by
  have H := Lib.hid (fun W => cutPre_no W s hs h)
  clear h
  go_enter Tryd.func52, Tryd.ntmps52
  go_wp2_with fail
  refine (H.out _).mono ?_
  rintro e w1 ⟨rfl, rfl⟩
  go_wp2_with fail
  exact bodyPost_ret (v := .tuple #[.string s, .bool false]) (by simp [results, Tryd.results52, go_sem]) rfl ⟨rfl, rfl⟩
theorem minusB_str (l : List UInt8) : minusB (str (45 :: l)) = true := by
  unfold minusB
  rw [Lib.toList_data]
  simp [str]
theorem tail_str (l : List UInt8) : (str (45 :: l)).extract 1 (str (45 :: l)).size = str l := by
  apply ByteArray.ext
  rw [str_size]
  simp [str]
theorem cut_yes (w : World) (l : List UInt8) :
    Calls Tryd.prog 52 #[.string (str (45 :: l)), .string ⟨#[45]⟩] w fun e w' => e = .returned (.tuple #[.string (str l), .bool true]) ∧ w = w' := by
  have H := Lib.hid (fun W => cutPre_yes W (str (45 :: l)) (by rw [str_size, List.length_cons]; omega) (minusB_str l))
  rw [tail_str] at H
  generalize str (45 :: l) = s at *
  generalize str l = t at *
  go_enter Tryd.func52, Tryd.ntmps52
  go_wp2_with fail
  refine (H.out _).mono ?_
  rintro e w1 ⟨rfl, rfl⟩
  go_wp2_with fail
  exact bodyPost_ret (v := .tuple #[.string t, .bool true]) (by simp [results, Tryd.results52, go_sem]) rfl ⟨rfl, rfl⟩

/-- A number and its error's number. -/
def IsWE (w : World) (v : Value) (z : Int) (k : Nat) (e : Int) : Prop := ∃ u, v = .tuple #[u, .int .i64 e] ∧ IsW w u z k
theorem IsWE.zero (w : World) (k : Nat) (e : Int) : IsWE w (.tuple #[.agg #[.slice none 0 0, .bool false], .int .i64 e]) 0 k e := ⟨_, rfl, none, 0, 0, rfl, (IsN.zero w).weak (Nat.zero_le _)⟩

/-- What Parse comes to, behind the cut of the minus: digits' error. -/
def CutTo (s t : ByteArray) (m : Bool) : Prop := ∀ W, Calls Tryd.prog 52 #[.string s, .string ⟨#[45]⟩] W fun e w' => e = .returned (.tuple #[.string t, .bool m]) ∧ W = w'

set_option maxHeartbeats 2000000 in
theorem parseW_bad (w : World) (s t : ByteArray) (m : Bool) (hc : CutTo s t m) (ht : t.size ≤ 4096) (hb : ¬ Tx.okText (bytesOf t)) (k : Nat) :
    Calls Tryd.prog 30 #[.string s] w (Ret w fun v w' => IsWE w' v 0 k 5) := by
  have HC := Lib.hid hc
  have HP := Lib.hid (fun W => parse_bad W t ht hb)
  clear hc hb ht
  unfold CutTo at HC
  go_enter Tryd.func30, Tryd.ntmps30
  go_wp2_with fail
  refine (HC.out _).mono ?_
  rintro e w1 ⟨rfl, rfl⟩
  go_wp2_with fail
  refine (HP.out _).mono ?_
  rintro e w2 ⟨v2, rfl, rfl, g2⟩
  have hwb : WB w2 w.heap.size := (WB.new w none 0 0 false 28).grow g2
  have G2 := Lib.hid (((Grow.refl w).alloc _).trans g2)
  have HB := Lib.hid (hwb.grow ((Grow.refl _).alloc (Obj.cells #[.slice none 0 0] 26)))
  clear g2 hwb
  obtain ⟨⟨A0, l0, c0, x0, m0, m1⟩, f0, f1⟩ := HB.out
  go_wp2_with fail
  obtain ⟨k0, k1⟩ := HB.out.cells none 0 0 false
  refine bodyPost_ret (v := .tuple #[.agg #[.slice none 0 0, .bool false], .int .i64 5]) (by simp only [stW] at k0 k1; simp [results, Tryd.results30, go_sem, k0, k1]) rfl (Ret.mk (IsWE.zero _ k 5) ?_)
  exact grow_stW (G2.out.alloc _) (b := w.heap.size) (Nat.le_refl _) none 0 0 false

set_option maxHeartbeats 2000000 in
theorem parseW_zero (w : World) (s t : ByteArray) (hc : CutTo s t true) (ht : t.size ≤ 4096) (hb : Tx.okText (bytesOf t)) (h0 : Tx.rd (bytesOf t) = 0) (k : Nat) :
    Calls Tryd.prog 30 #[.string s] w (Ret w fun v w' => IsWE w' v 0 k 5) := by
  have HC := Lib.hid hc
  have HP := Lib.hid (fun W => parse_ok W t ht hb)
  have H0 := Lib.hid h0
  clear hc hb ht h0
  unfold CutTo at HC
  go_enter Tryd.func30, Tryd.ntmps30
  go_wp2_with fail
  refine (HC.out _).mono ?_
  rintro e w1 ⟨rfl, rfl⟩
  go_wp2_with fail
  refine (HP.out _).mono ?_
  rintro e w2 ⟨v2, rfl, ⟨u2, rfl, n2⟩, g2⟩
  rw [H0.out] at n2
  obtain ⟨A2, l2, c2, rfl⟩ := n2.cell
  have G2 := Lib.hid ((((Grow.refl w).alloc (Obj.cells #[Value.slice none 0 0, Value.bool false] 28)).trans g2).alloc (Obj.cells #[.slice A2 l2 c2] 26))
  have HB := Lib.hid (((WB.new w none 0 0 false 28).grow g2).grow ((Grow.refl _).alloc (Obj.cells #[.slice A2 l2 c2] 26)))
  have N2 := Lib.hid (n2.grow ((Grow.refl _).alloc (Obj.cells #[.slice A2 l2 c2] 26)))
  clear g2 n2 HC HP H0
  go_wp2_with fail
  refine (zero_n N2.out).mono ?_
  rintro e w3 ⟨v3, rfl, rfl, g3⟩
  have G3 := Lib.hid (G2.out.trans g3)
  have HB3 := Lib.hid (HB.out.grow g3)
  clear g3 N2 HB G2
  obtain ⟨⟨A0, l0, c0, x0, m0, m1⟩, f0, f1⟩ := HB3.out
  simp only [BEq.rfl]
  go_wp2_with fail
  obtain ⟨k0, k1⟩ := HB3.out.cells none 0 0 false
  refine bodyPost_ret (v := .tuple #[.agg #[.slice none 0 0, .bool false], .int .i64 5]) (by simp only [stW] at k0 k1; simp [results, Tryd.results30, go_sem, k0, k1]) rfl (Ret.mk (IsWE.zero _ k 5) ?_)
  exact grow_stW G3.out (b := w.heap.size) (Nat.le_refl _) none 0 0 false

set_option maxHeartbeats 2000000 in
theorem parseW_neg (w : World) (s t : ByteArray) (hc : CutTo s t true) (ht : t.size ≤ 4096) (hb : Tx.okText (bytesOf t)) (h0 : Tx.rd (bytesOf t) ≠ 0) :
    Calls Tryd.prog 30 #[.string s] w (Ret w fun v w' => IsWE w' v (signed (Tx.rd (bytesOf t)) true) t.size 0) := by
  have HC := Lib.hid hc
  have HP := Lib.hid (fun W => parse_ok W t ht hb)
  have H0 := Lib.hid (show (Tx.rd (bytesOf t) == 0) = false by simpa using h0)
  clear hc hb ht h0
  unfold CutTo at HC
  unfold Parsed at HP
  generalize Tx.rd (bytesOf t) = n at *
  go_enter Tryd.func30, Tryd.ntmps30
  go_wp2_with fail
  refine (HC.out _).mono ?_
  rintro e w1 ⟨rfl, rfl⟩
  go_wp2_with fail
  refine (HP.out _).mono ?_
  rintro e w2 ⟨v2, rfl, ⟨u2, rfl, n2⟩, g2⟩
  obtain ⟨A2, l2, c2, rfl⟩ := n2.cell
  have G2 := Lib.hid ((((Grow.refl w).alloc (Obj.cells #[Value.slice none 0 0, Value.bool false] 28)).trans g2).alloc (Obj.cells #[.slice A2 l2 c2] 26))
  have HB := Lib.hid (((WB.new w none 0 0 false 28).grow g2).grow ((Grow.refl _).alloc (Obj.cells #[.slice A2 l2 c2] 26)))
  have VN := Lib.hid (VarN.new n2 (Grow.refl _))
  clear g2 n2 HC HP
  go_wp2_with fail
  obtain ⟨A5, l5, c5, h5, n5⟩ := VN.out
  refine (zero_n (n := n) (k := t.size) ?_).mono ?_
  · have e := h5
    simp [go_sem] at e
    obtain ⟨rfl, rfl, rfl⟩ := e
    exact n5
  rw [H0.out]
  rintro e w3 ⟨v3, rfl, rfl, g3⟩
  have G3 := Lib.hid (G2.out.trans g3)
  have HB3 := Lib.hid (HB.out.grow g3)
  have VN3 := Lib.hid (VN.out.grow g3)
  clear g3 HB G2 VN h5 n5
  obtain ⟨A6, l6, c6, h6, n6⟩ := VN3.out
  have N6 := Lib.hid n6
  clear n6 H0
  go_wp2_with fail
  refine (of_w (b := true) N6.out).mono ?_
  rintro e w4 ⟨v4, rfl, h4, g4⟩
  obtain ⟨A7, l7, c7, x7, rfl, _⟩ := h4.open
  have hwb := HB3.out.grow g4
  obtain ⟨k0, k1⟩ := hwb.cells A7 l7 c7 x7
  have HW := Lib.hid (h4.st hwb A7 l7 c7 x7)
  have HG := Lib.hid (grow_stW (G3.out.trans g4) (b := w.heap.size) (Nat.le_refl _) A7 l7 c7 x7)
  obtain ⟨⟨A0, l0, c0, x0, m0, m1⟩, f0, f1⟩ := hwb
  clear h4 g4 h6 N6 VN3 HB3 G3
  go_wp2_with fail
  refine bodyPost_ret (v := .tuple #[.agg #[.slice A7 l7 c7, .bool x7], .int .i64 0]) (by simp only [stW] at k0 k1; simp [results, Tryd.results30, go_sem, k0, k1]) rfl (Ret.mk ⟨_, rfl, HW.out⟩ HG.out)

set_option maxHeartbeats 2000000 in
theorem parseW_pos (w : World) (s t : ByteArray) (hc : CutTo s t false) (ht : t.size ≤ 4096) (hb : Tx.okText (bytesOf t)) :
    Calls Tryd.prog 30 #[.string s] w (Ret w fun v w' => IsWE w' v (signed (Tx.rd (bytesOf t)) false) t.size 0) := by
  have HC := Lib.hid hc
  have HP := Lib.hid (fun W => parse_ok W t ht hb)
  clear hc hb ht
  unfold CutTo at HC
  unfold Parsed at HP
  generalize Tx.rd (bytesOf t) = n at *
  go_enter Tryd.func30, Tryd.ntmps30
  go_wp2_with fail
  refine (HC.out _).mono ?_
  rintro e w1 ⟨rfl, rfl⟩
  go_wp2_with fail
  refine (HP.out _).mono ?_
  rintro e w2 ⟨v2, rfl, ⟨u2, rfl, n2⟩, g2⟩
  obtain ⟨A2, l2, c2, rfl⟩ := n2.cell
  have G2 := Lib.hid ((((Grow.refl w).alloc (Obj.cells #[Value.slice none 0 0, Value.bool false] 28)).trans g2).alloc (Obj.cells #[.slice A2 l2 c2] 26))
  have HB := Lib.hid (((WB.new w none 0 0 false 28).grow g2).grow ((Grow.refl _).alloc (Obj.cells #[.slice A2 l2 c2] 26)))
  have N2 := Lib.hid (n2.grow ((Grow.refl _).alloc (Obj.cells #[.slice A2 l2 c2] 26)))
  clear g2 n2 HC HP
  go_wp2_with fail
  refine (of_w (b := false) N2.out).mono ?_
  rintro e w4 ⟨v4, rfl, h4, g4⟩
  obtain ⟨A7, l7, c7, x7, rfl, _⟩ := h4.open
  have hwb := HB.out.grow g4
  obtain ⟨k0, k1⟩ := hwb.cells A7 l7 c7 x7
  have HW := Lib.hid (h4.st hwb A7 l7 c7 x7)
  have HG := Lib.hid (grow_stW (G2.out.trans g4) (b := w.heap.size) (Nat.le_refl _) A7 l7 c7 x7)
  obtain ⟨⟨A0, l0, c0, x0, m0, m1⟩, f0, f1⟩ := hwb
  clear h4 g4 N2 HB G2
  go_wp2_with fail
  refine bodyPost_ret (v := .tuple #[.agg #[.slice A7 l7 c7, .bool x7], .int .i64 0]) (by simp only [stW] at k0 k1; simp [results, Tryd.results30, go_sem, k0, k1]) rfl (Ret.mk ⟨_, rfl, HW.out⟩ HG.out)
end Go.Proofs.YtjgceldghelpiaaDoor
