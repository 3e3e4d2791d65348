/- The law WholeTexts of layer 4. -/
import Derived.Test.YtjgceldghelpiaaDoorLaw4T
namespace Go.Proofs.YtjgceldghelpiaaDoor
open Go.RowKit
set_option maxRecDepth 20000

set_option maxHeartbeats 4000000 in
theorem wholeTexts_walk (w : World) (A0 : Option Addr) (n0 c0 : Nat) (b0 : Bool) (l0 : List Nat) (h0 : Sl w (.slice A0 n0 c0) l0) (s : ByteArray) (hs : s.size ≤ 9223372036854775807) :
    Calls Tryd.prog 6 #[.agg #[.slice A0 n0 c0, .bool b0], .string s] w (Ret w fun v' _ => v' = .bool true) := by
  have HN0 := Lib.hid (fun W (g : Grow w W) => num_w (b := b0) (h0.grow g) _ _ _ rfl)
  generalize signed (Mx.val (l0.take 10)) b0 = z0 at *
  have HB : Hid (∀ W, Grow (w.alloc (Obj.cells #[Value.slice A0 n0 c0, Value.bool b0] 24)) W → (W.cell? ⟨w.heap.size, 0, none⟩ = some (.slice A0 n0 c0) ∧ W.cell? ⟨w.heap.size, 1, none⟩ = some (.bool b0))) := Lib.hid fun W g => ⟨g.cells1 (by simp [go_sem]), g.cells1 (by simp [go_sem])⟩
  have hg0 := (Grow.refl w).alloc (Obj.cells #[Value.slice A0 n0 c0, Value.bool b0] 24)
  clear h0
  go_enter Tryd.func6, Tryd.ntmps6
  go_upto_region 1 with fail
  generalize w.alloc (Obj.cells #[Value.slice A0 n0 c0, Value.bool b0] 24) = W0 at *
  have GW := Lib.hid hg0
  clear hg0
  obtain ⟨k0, k1⟩ := HB.out _ (Grow.refl _)
  go_wp2_with fail
  refine (HN0.out _ GW.out).mono ?_
  rintro e w3 ⟨v3, rfl, ⟨u3, t3, rfl, hu, ht⟩, g⟩
  obtain ⟨Au, lu, cu, xu, rfl, _⟩ := hu.open
  obtain ⟨At, lt, ct, xt, rfl, _⟩ := ht.open
  have hln : Mx.len z0.natAbs ≤ 10 := hu.base.2
  have HPZ := Lib.hid (fun W => parse_ztext W z0 hln)
  have HPR := Lib.hid (fun W v (h : IsW W v z0 10) => print_w h (by decide))
  have HPV := Lib.hid (fun W v (h : IsV W v z0 80) => printV h (by decide))
  have hZS : (str (ztext z0)).size ≤ 4096 := by
    rw [str_size]
    unfold ztext
    have := digs_lenW hln
    split <;> simp [Tx.text_length] <;> omega
  generalize str (ztext z0) = zt at *
  have V0 := Lib.hid (VarW.new (t := 28) hu ((Grow.refl _).alloc (Obj.cells #[.slice At lt ct, .bool xt] 31)))
  have hT := VarV.new (t := 31) (ht.grow ((Grow.refl w3).alloc (Obj.cells #[.slice Au lu cu, .bool xu] 28))) (Grow.refl _)
  rw [World.size_alloc] at hT
  have T0 := Lib.hid hT
  have GW := Lib.hid (GW.out.trans ((g.alloc (Obj.cells #[.slice Au lu cu, .bool xu] 28)).alloc (Obj.cells #[.slice At lt ct, .bool xt] 31)))
  clear hu ht hT g HN0 k0 k1 HB hln
  obtain ⟨Ax, lx, cx, xx, kx0, kx1, hX⟩ := V0.out
  have HX := Lib.hid hX
  clear hX
  go_wp2_with fail
  refine (HPR.out _ _ HX.out).mono ?_
  rintro e w4 ⟨v4, rfl, rfl, g⟩
  have V0 := Lib.hid (V0.out.grow g)
  have T0 := Lib.hid (T0.out.grow g)
  have GW := Lib.hid (GW.out.trans g)
  clear g kx0 kx1 HX HPR
  go_wp2_with fail
  refine (HPZ.out _).mono ?_
  rintro e w5 ⟨v5, rfl, ⟨u5, rfl, h5⟩, g⟩
  obtain ⟨A5, l5, c5, x5, rfl, _⟩ := h5.open
  have V8 := Lib.hid (VarW.new (t := 28) h5 (Grow.refl _))
  have hga := g.alloc (Obj.cells #[.slice A5 l5 c5, .bool x5] 28)
  have V0 := Lib.hid (V0.out.grow hga)
  have T0 := Lib.hid (T0.out.grow hga)
  have GW := Lib.hid (GW.out.trans hga)
  clear g h5 hga HPZ
  go_wp2_with fail
  have hs2 : (s.extract 0 (min (s.size : Int) 200).toNat).size ≤ 200 := by
    rw [ByteArray.size_extract]
    omega
  generalize s.extract 0 (min (s.size : Int) 200).toNat = S at *
  clear hs
  obtain ⟨l, rfl⟩ : ∃ l, S = str l := ⟨bytesOf S, rfl⟩
  have hl : l.length ≤ 200 := by rw [str_size] at hs2; exact hs2
  by_cases hm : ∃ m, l = 45 :: m
  · obtain ⟨m, rfl⟩ := hm
    have hml : m.length ≤ 199 := by simpa using hl
    have hpos : 0 < (str (45 :: m)).size := by rw [str_size]; simp
    have hpos' : (0 : Int) < ((str (45 :: m)).size : Int) := by omega
    have hpos1 : (1 : Int) ≤ ((str (45 :: m)).size : Int) := by omega
    have hby : (((str (45 :: m))[0]'hpos).toNat : Int) = 45 := rfl
    have hE : ((str (45 :: m)).toList == []) = false := by rw [Lib.toList_data]; rfl
    have hX := tail_str m
    have hNS : ((str m).toList == (str (45 :: m)).toList) = false := by
      rw [Lib.toList_data, Lib.toList_data]
      show (m == 45 :: m) = false
      rw [beq_eq_false_iff_ne]
      intro e
      have := congrArg List.length e
      simp at this
    have h48 : ((str m).toList == [48]) = (m == [48]) := by rw [Lib.toList_data]
    have hts : (str m).size ≤ 4096 := by rw [str_size]; omega
    by_cases hok : Tx.okText m
    · have HT := Lib.hid (fun W => refText_any W (str m) true (by omega) ⟨fun _ => hok, fun _ => rfl⟩)
      by_cases hz : Tx.rd m = 0
      · have hm48 := ok_zero hok hz
        have hN0 : ((str m).toList == [48]) = true := by rw [h48, hm48, beq_self_eq_true]
        have HP := Lib.hid (fun W => parseW_zero W (str (45 :: m)) (str m) (cutTo_yes m) hts hok hz 0)
        clear h48 hm48 hz hok hl hml hs2
        generalize str (45 :: m) = S at *
        generalize str m = T at *
        refine (HP.out _).mono ?_
        rintro e w6 ⟨v6, rfl, ⟨u6, rfl, h6⟩, g⟩
        obtain ⟨A6, l6, c6, x6, rfl, _⟩ := h6.open
        have V10 := Lib.hid (VarW.new (t := 28) h6 (Grow.refl _))
        have hga := g.alloc (Obj.cells #[.slice A6 l6 c6, .bool x6] 28)
        have V0 := Lib.hid (V0.out.grow hga)
        have T0 := Lib.hid (T0.out.grow hga)
        have V8 := Lib.hid (V8.out.grow hga)
        have GW := Lib.hid (GW.out.trans hga)
        clear g h6 hga HP
        go_wp2_with fail
        refine (HT.out _).mono ?_
        rintro e w7 ⟨rfl, rfl⟩
        clear HT
        go_wp2_with fail
        refine (wakes4_any _).mono ?_
        rintro e w8 ⟨v8, rfl, rfl, g⟩
        have V0 := Lib.hid (V0.out.grow g)
        have T0 := Lib.hid (T0.out.grow g)
        have V8 := Lib.hid (V8.out.grow g)
        have V10 := Lib.hid (V10.out.grow g)
        have GW := Lib.hid (GW.out.trans g)
        clear g
        obtain ⟨Ay, ly, cy, xy, ky0, ky1, hY⟩ := T0.out
        have HY := Lib.hid hY
        clear hY
        go_wp2_with fail
        refine (HPV.out _ _ HY.out).mono ?_
        rintro e w9 ⟨v9, rfl, rfl, g⟩
        have V0 := Lib.hid (V0.out.grow g)
        have V8 := Lib.hid (V8.out.grow g)
        have V10 := Lib.hid (V10.out.grow g)
        have GW := Lib.hid (GW.out.trans g)
        clear g ky0 ky1 HY T0 HPV
        obtain ⟨Ax, lx, cx, xx, kx0, kx1, hX⟩ := V8.out
        obtain ⟨Ay, ly, cy, xy, ky0, ky1, hY⟩ := V0.out
        have HX := Lib.hid (And.intro hX hY)
        clear hX hY
        go_wp2_with fail
        refine (cmp_w HX.out.1 HX.out.2 (by decide) (by decide)).mono ?_
        rw [Int.sub_self, Int.sign_zero]
        rintro e w10 ⟨v10, rfl, rfl, g⟩
        have V10 := Lib.hid (V10.out.grow g)
        have GW := Lib.hid (GW.out.trans g)
        clear g kx0 kx1 ky0 ky1 HX V0 V8
        obtain ⟨Ay, ly, cy, xy, ky0, ky1, hY⟩ := V10.out
        have HY := Lib.hid hY
        clear hY
        go_wp2_with fail
        refine (sign_w HY.out).mono ?_
        rw [Int.sign_zero]
        rintro e w11 ⟨v11, rfl, rfl, g⟩
        have GW := Lib.hid (GW.out.trans g)
        clear g ky0 ky1 HY V10
        go_wp2_with fail
        go_ret
        exact Ret.mk rfl GW.out
      · have hN0 : ((str m).toList == [48]) = false := by
          rw [h48, beq_eq_false_iff_ne]
          rintro rfl
          exact hz (by decide)
        have HP := Lib.hid (fun W => parseW_neg W (str (45 :: m)) (str m) (cutTo_yes m) hts hok hz)
        have HPS := Lib.hid (fun W v (h : IsW W v (signed (Tx.rd (bytesOf (str m))) true) (str m).size) => print_w h (by omega))
        rw [bytesOf_str m, ztext_neg hok hz] at HPS
        rw [bytesOf_str m] at HP
        generalize signed (Tx.rd m) true = zz at *
        clear h48 hz hok hl hml hs2
        generalize str (45 :: m) = S at *
        generalize str m = T at *
        refine (HP.out _).mono ?_
        rintro e w6 ⟨v6, rfl, ⟨u6, rfl, h6⟩, g⟩
        obtain ⟨A6, l6, c6, x6, rfl, _⟩ := h6.open
        have V10 := Lib.hid (VarW.new (t := 28) h6 (Grow.refl _))
        have hga := g.alloc (Obj.cells #[.slice A6 l6 c6, .bool x6] 28)
        have V0 := Lib.hid (V0.out.grow hga)
        have T0 := Lib.hid (T0.out.grow hga)
        have V8 := Lib.hid (V8.out.grow hga)
        have GW := Lib.hid (GW.out.trans hga)
        clear g h6 hga HP
        go_wp2_with fail
        refine (HT.out _).mono ?_
        rintro e w7 ⟨rfl, rfl⟩
        clear HT
        go_wp2_with fail
        refine (wakes4_any _).mono ?_
        rintro e w8 ⟨v8, rfl, rfl, g⟩
        have V0 := Lib.hid (V0.out.grow g)
        have T0 := Lib.hid (T0.out.grow g)
        have V8 := Lib.hid (V8.out.grow g)
        have V10 := Lib.hid (V10.out.grow g)
        have GW := Lib.hid (GW.out.trans g)
        clear g
        obtain ⟨Ay, ly, cy, xy, ky0, ky1, hY⟩ := T0.out
        have HY := Lib.hid hY
        clear hY
        go_wp2_with fail
        refine (HPV.out _ _ HY.out).mono ?_
        rintro e w9 ⟨v9, rfl, rfl, g⟩
        have V0 := Lib.hid (V0.out.grow g)
        have V8 := Lib.hid (V8.out.grow g)
        have V10 := Lib.hid (V10.out.grow g)
        have GW := Lib.hid (GW.out.trans g)
        clear g ky0 ky1 HY T0 HPV
        obtain ⟨Ax, lx, cx, xx, kx0, kx1, hX⟩ := V8.out
        obtain ⟨Ay, ly, cy, xy, ky0, ky1, hY⟩ := V0.out
        have HX := Lib.hid (And.intro hX hY)
        clear hX hY
        go_wp2_with fail
        refine (cmp_w HX.out.1 HX.out.2 (by decide) (by decide)).mono ?_
        rw [Int.sub_self, Int.sign_zero]
        rintro e w10 ⟨v10, rfl, rfl, g⟩
        have V10 := Lib.hid (V10.out.grow g)
        have GW := Lib.hid (GW.out.trans g)
        clear g kx0 kx1 ky0 ky1 HX V0 V8
        obtain ⟨Ay, ly, cy, xy, ky0, ky1, hY⟩ := V10.out
        have HY := Lib.hid hY
        clear hY
        go_wp2_with fail
        refine (HPS.out _ _ HY.out).mono ?_
        rintro e w11 ⟨v11, rfl, rfl, g⟩
        have GW := Lib.hid (GW.out.trans g)
        clear g ky0 ky1 HY V10
        go_wp2_with fail
        go_ret
        exact Ret.mk rfl GW.out
    · have HT := Lib.hid (fun W => refText_any W (str m) false (by omega) ⟨(fun h => by cases h), fun h => absurd h hok⟩)
      have HP := Lib.hid (fun W => parseW_bad W (str (45 :: m)) (str m) true (cutTo_yes m) hts hok 0)
      clear h48 hok hl hml hs2
      generalize str (45 :: m) = S at *
      generalize str m = T at *
      refine (HP.out _).mono ?_
      rintro e w6 ⟨v6, rfl, ⟨u6, rfl, h6⟩, g⟩
      obtain ⟨A6, l6, c6, x6, rfl, _⟩ := h6.open
      have V10 := Lib.hid (VarW.new (t := 28) h6 (Grow.refl _))
      have hga := g.alloc (Obj.cells #[.slice A6 l6 c6, .bool x6] 28)
      have V0 := Lib.hid (V0.out.grow hga)
      have T0 := Lib.hid (T0.out.grow hga)
      have V8 := Lib.hid (V8.out.grow hga)
      have GW := Lib.hid (GW.out.trans hga)
      clear g h6 hga HP
      go_wp2_with fail
      refine (HT.out _).mono ?_
      rintro e w7 ⟨rfl, rfl⟩
      clear HT
      go_wp2_with fail
      refine (wakes4_any _).mono ?_
      rintro e w8 ⟨v8, rfl, rfl, g⟩
      have V0 := Lib.hid (V0.out.grow g)
      have T0 := Lib.hid (T0.out.grow g)
      have V8 := Lib.hid (V8.out.grow g)
      have V10 := Lib.hid (V10.out.grow g)
      have GW := Lib.hid (GW.out.trans g)
      clear g
      obtain ⟨Ay, ly, cy, xy, ky0, ky1, hY⟩ := T0.out
      have HY := Lib.hid hY
      clear hY
      go_wp2_with fail
      refine (HPV.out _ _ HY.out).mono ?_
      rintro e w9 ⟨v9, rfl, rfl, g⟩
      have V0 := Lib.hid (V0.out.grow g)
      have V8 := Lib.hid (V8.out.grow g)
      have V10 := Lib.hid (V10.out.grow g)
      have GW := Lib.hid (GW.out.trans g)
      clear g ky0 ky1 HY T0 HPV
      obtain ⟨Ax, lx, cx, xx, kx0, kx1, hX⟩ := V8.out
      obtain ⟨Ay, ly, cy, xy, ky0, ky1, hY⟩ := V0.out
      have HX := Lib.hid (And.intro hX hY)
      clear hX hY
      go_wp2_with fail
      refine (cmp_w HX.out.1 HX.out.2 (by decide) (by decide)).mono ?_
      rw [Int.sub_self, Int.sign_zero]
      rintro e w10 ⟨v10, rfl, rfl, g⟩
      have V10 := Lib.hid (V10.out.grow g)
      have GW := Lib.hid (GW.out.trans g)
      clear g kx0 kx1 ky0 ky1 HX V0 V8
      obtain ⟨Ay, ly, cy, xy, ky0, ky1, hY⟩ := V10.out
      have HY := Lib.hid hY
      clear hY
      go_wp2_with fail
      refine (sign_w HY.out).mono ?_
      rw [Int.sign_zero]
      rintro e w11 ⟨v11, rfl, rfl, g⟩
      have GW := Lib.hid (GW.out.trans g)
      clear g ky0 ky1 HY V10
      go_wp2_with fail
      go_ret
      exact Ret.mk rfl GW.out
  · cases l with
    | nil =>
      have hok : ¬ Tx.okText [] := fun h => by
        rcases h.2 with h | h
        · cases h
        · exact h.1 rfl
      have HT := Lib.hid (fun W => refText_any W (str []) false (by decide) ⟨(fun h => by cases h), fun h => absurd h hok⟩)
      have HP := Lib.hid (fun W => parseW_bad W (str []) (str []) false (cutTo_no (by decide) minusB_nil) (by decide) hok 0)
      have hE : ((str []).toList == []) = true := by rw [Lib.toList_data]; rfl
      clear hok hl hs2 hm
      generalize str [] = S at *
      refine (HP.out _).mono ?_
      rintro e w6 ⟨v6, rfl, ⟨u6, rfl, h6⟩, g⟩
      obtain ⟨A6, l6, c6, x6, rfl, _⟩ := h6.open
      have V10 := Lib.hid (VarW.new (t := 28) h6 (Grow.refl _))
      have hga := g.alloc (Obj.cells #[.slice A6 l6 c6, .bool x6] 28)
      have V0 := Lib.hid (V0.out.grow hga)
      have T0 := Lib.hid (T0.out.grow hga)
      have V8 := Lib.hid (V8.out.grow hga)
      have GW := Lib.hid (GW.out.trans hga)
      clear g h6 hga HP
      go_wp2_with fail
      refine (HT.out _).mono ?_
      rintro e w7 ⟨rfl, rfl⟩
      clear HT
      go_wp2_with fail
      refine (wakes4_any _).mono ?_
      rintro e w8 ⟨v8, rfl, rfl, g⟩
      have V0 := Lib.hid (V0.out.grow g)
      have T0 := Lib.hid (T0.out.grow g)
      have V8 := Lib.hid (V8.out.grow g)
      have V10 := Lib.hid (V10.out.grow g)
      have GW := Lib.hid (GW.out.trans g)
      clear g
      obtain ⟨Ay, ly, cy, xy, ky0, ky1, hY⟩ := T0.out
      have HY := Lib.hid hY
      clear hY
      go_wp2_with fail
      refine (HPV.out _ _ HY.out).mono ?_
      rintro e w9 ⟨v9, rfl, rfl, g⟩
      have V0 := Lib.hid (V0.out.grow g)
      have V8 := Lib.hid (V8.out.grow g)
      have V10 := Lib.hid (V10.out.grow g)
      have GW := Lib.hid (GW.out.trans g)
      clear g ky0 ky1 HY T0 HPV
      obtain ⟨Ax, lx, cx, xx, kx0, kx1, hX⟩ := V8.out
      obtain ⟨Ay, ly, cy, xy, ky0, ky1, hY⟩ := V0.out
      have HX := Lib.hid (And.intro hX hY)
      clear hX hY
      go_wp2_with fail
      refine (cmp_w HX.out.1 HX.out.2 (by decide) (by decide)).mono ?_
      rw [Int.sub_self, Int.sign_zero]
      rintro e w10 ⟨v10, rfl, rfl, g⟩
      have V10 := Lib.hid (V10.out.grow g)
      have GW := Lib.hid (GW.out.trans g)
      clear g kx0 kx1 ky0 ky1 HX V0 V8
      obtain ⟨Ay, ly, cy, xy, ky0, ky1, hY⟩ := V10.out
      have HY := Lib.hid hY
      clear hY
      go_wp2_with fail
      refine (sign_w HY.out).mono ?_
      rw [Int.sign_zero]
      rintro e w11 ⟨v11, rfl, rfl, g⟩
      have GW := Lib.hid (GW.out.trans g)
      clear g ky0 ky1 HY V10
      go_wp2_with fail
      go_ret
      exact Ret.mk rfl GW.out
    | cons c m =>
      have hc : c ≠ 45 := fun e => hm ⟨m, by rw [e]⟩
      have hpos : 0 < (str (c :: m)).size := by rw [str_size]; simp
      have hpos' : (0 : Int) < ((str (c :: m)).size : Int) := by omega
      have hby : ¬ (((str (c :: m))[0]'hpos).toNat : Int) = 45 := by
        show ¬ ((c.toNat : Int) = 45)
        intro e
        exact hc (UInt8.toNat_inj.1 (by show c.toNat = 45; omega))
      have hE : ((str (c :: m)).toList == []) = false := by rw [Lib.toList_data]; rfl
      have hmb := minusB_cons c m hc
      by_cases hok : Tx.okText (c :: m)
      · have HT := Lib.hid (fun W => refText_any W (str (c :: m)) true (by omega) ⟨fun _ => hok, fun _ => rfl⟩)
        have HP := Lib.hid (fun W => parseW_pos W (str (c :: m)) (str (c :: m)) (cutTo_no (by omega) hmb) (by omega) hok)
        have HPS := Lib.hid (fun W v (h : IsW W v (signed (Tx.rd (bytesOf (str (c :: m)))) false) (str (c :: m)).size) => print_w h (by omega))
        rw [bytesOf_str (c :: m), ztext_pos hok] at HPS
        rw [bytesOf_str (c :: m)] at HP
        generalize signed (Tx.rd (c :: m)) false = zz at *
        clear hok hl hm hmb hc
        generalize str (c :: m) = S at *
        refine (HP.out _).mono ?_
        rintro e w6 ⟨v6, rfl, ⟨u6, rfl, h6⟩, g⟩
        obtain ⟨A6, l6, c6, x6, rfl, _⟩ := h6.open
        have V10 := Lib.hid (VarW.new (t := 28) h6 (Grow.refl _))
        have hga := g.alloc (Obj.cells #[.slice A6 l6 c6, .bool x6] 28)
        have V0 := Lib.hid (V0.out.grow hga)
        have T0 := Lib.hid (T0.out.grow hga)
        have V8 := Lib.hid (V8.out.grow hga)
        have GW := Lib.hid (GW.out.trans hga)
        clear g h6 hga HP
        go_wp2_with fail
        refine (HT.out _).mono ?_
        rintro e w7 ⟨rfl, rfl⟩
        clear HT
        go_wp2_with fail
        refine (wakes4_any _).mono ?_
        rintro e w8 ⟨v8, rfl, rfl, g⟩
        have V0 := Lib.hid (V0.out.grow g)
        have T0 := Lib.hid (T0.out.grow g)
        have V8 := Lib.hid (V8.out.grow g)
        have V10 := Lib.hid (V10.out.grow g)
        have GW := Lib.hid (GW.out.trans g)
        clear g
        obtain ⟨Ay, ly, cy, xy, ky0, ky1, hY⟩ := T0.out
        have HY := Lib.hid hY
        clear hY
        go_wp2_with fail
        refine (HPV.out _ _ HY.out).mono ?_
        rintro e w9 ⟨v9, rfl, rfl, g⟩
        have V0 := Lib.hid (V0.out.grow g)
        have V8 := Lib.hid (V8.out.grow g)
        have V10 := Lib.hid (V10.out.grow g)
        have GW := Lib.hid (GW.out.trans g)
        clear g ky0 ky1 HY T0 HPV
        obtain ⟨Ax, lx, cx, xx, kx0, kx1, hX⟩ := V8.out
        obtain ⟨Ay, ly, cy, xy, ky0, ky1, hY⟩ := V0.out
        have HX := Lib.hid (And.intro hX hY)
        clear hX hY
        go_wp2_with fail
        refine (cmp_w HX.out.1 HX.out.2 (by decide) (by decide)).mono ?_
        rw [Int.sub_self, Int.sign_zero]
        rintro e w10 ⟨v10, rfl, rfl, g⟩
        have V10 := Lib.hid (V10.out.grow g)
        have GW := Lib.hid (GW.out.trans g)
        clear g kx0 kx1 ky0 ky1 HX V0 V8
        obtain ⟨Ay, ly, cy, xy, ky0, ky1, hY⟩ := V10.out
        have HY := Lib.hid hY
        clear hY
        go_wp2_with fail
        refine (HPS.out _ _ HY.out).mono ?_
        rintro e w11 ⟨v11, rfl, rfl, g⟩
        have GW := Lib.hid (GW.out.trans g)
        clear g ky0 ky1 HY V10
        go_wp2_with fail
        go_ret
        exact Ret.mk rfl GW.out
      · have HT := Lib.hid (fun W => refText_any W (str (c :: m)) false (by omega) ⟨(fun h => by cases h), fun h => absurd h hok⟩)
        have HP := Lib.hid (fun W => parseW_bad W (str (c :: m)) (str (c :: m)) false (cutTo_no (by omega) hmb) (by omega) hok 0)
        clear hok hl hm hmb hc
        generalize str (c :: m) = S at *
        refine (HP.out _).mono ?_
        rintro e w6 ⟨v6, rfl, ⟨u6, rfl, h6⟩, g⟩
        obtain ⟨A6, l6, c6, x6, rfl, _⟩ := h6.open
        have V10 := Lib.hid (VarW.new (t := 28) h6 (Grow.refl _))
        have hga := g.alloc (Obj.cells #[.slice A6 l6 c6, .bool x6] 28)
        have V0 := Lib.hid (V0.out.grow hga)
        have T0 := Lib.hid (T0.out.grow hga)
        have V8 := Lib.hid (V8.out.grow hga)
        have GW := Lib.hid (GW.out.trans hga)
        clear g h6 hga HP
        go_wp2_with fail
        refine (HT.out _).mono ?_
        rintro e w7 ⟨rfl, rfl⟩
        clear HT
        go_wp2_with fail
        refine (wakes4_any _).mono ?_
        rintro e w8 ⟨v8, rfl, rfl, g⟩
        have V0 := Lib.hid (V0.out.grow g)
        have T0 := Lib.hid (T0.out.grow g)
        have V8 := Lib.hid (V8.out.grow g)
        have V10 := Lib.hid (V10.out.grow g)
        have GW := Lib.hid (GW.out.trans g)
        clear g
        obtain ⟨Ay, ly, cy, xy, ky0, ky1, hY⟩ := T0.out
        have HY := Lib.hid hY
        clear hY
        go_wp2_with fail
        refine (HPV.out _ _ HY.out).mono ?_
        rintro e w9 ⟨v9, rfl, rfl, g⟩
        have V0 := Lib.hid (V0.out.grow g)
        have V8 := Lib.hid (V8.out.grow g)
        have V10 := Lib.hid (V10.out.grow g)
        have GW := Lib.hid (GW.out.trans g)
        clear g ky0 ky1 HY T0 HPV
        obtain ⟨Ax, lx, cx, xx, kx0, kx1, hX⟩ := V8.out
        obtain ⟨Ay, ly, cy, xy, ky0, ky1, hY⟩ := V0.out
        have HX := Lib.hid (And.intro hX hY)
        clear hX hY
        go_wp2_with fail
        refine (cmp_w HX.out.1 HX.out.2 (by decide) (by decide)).mono ?_
        rw [Int.sub_self, Int.sign_zero]
        rintro e w10 ⟨v10, rfl, rfl, g⟩
        have V10 := Lib.hid (V10.out.grow g)
        have GW := Lib.hid (GW.out.trans g)
        clear g kx0 kx1 ky0 ky1 HX V0 V8
        obtain ⟨Ay, ly, cy, xy, ky0, ky1, hY⟩ := V10.out
        have HY := Lib.hid hY
        clear hY
        go_wp2_with fail
        refine (sign_w HY.out).mono ?_
        rw [Int.sign_zero]
        rintro e w11 ⟨v11, rfl, rfl, g⟩
        have GW := Lib.hid (GW.out.trans g)
        clear g ky0 ky1 HY V10
        go_wp2_with fail
        go_ret
        exact Ret.mk rfl GW.out
end Go.Proofs.YtjgceldghelpiaaDoor
