/- The law DigitsParse of layer 3. -/
import Derived.Test.YtckcjiojfpaikaaDoorL3ParseR
namespace Go.Proofs.YtckcjiojfpaikaaDoor
open Go.RowKit
set_option maxRecDepth 20000

theorem str_of (s : ByteArray) : str (bytesOf s) = s := Lib.mk_data s

set_option maxHeartbeats 2000000 in
theorem digitsParse_walk (w : World) (s : ByteArray) (hs : s.size ≤ 9223372036854775807) :
    Calls Tryd.prog 4 #[.string s] w (Ret w fun v' _ => v' = .bool true) := by
  obtain ⟨k, hk⟩ : ∃ k, min s.size 300 = k := ⟨_, rfl⟩
  have hmin : min (s.size : Int) 300 = (k : Int) := by omega
  have hk3 : k ≤ 300 := by omega
  have hks : k ≤ s.size := by omega
  have hes : (s.extract 0 k).size = k := by rw [ByteArray.size_extract]; omega
  obtain ⟨l, hl⟩ : ∃ l, bytesOf (s.extract 0 k) = l := ⟨_, rfl⟩
  have hsl : s.extract 0 k = str l := by rw [← hl, str_of]
  have hll : l.length = k := by rw [← hl, ← Lib.size_eq, hes]
  clear hk hl hes
  by_cases hok : Tx.okText l
  · have hsz : (str l).size = k := by rw [str_size, hll]
    have HP := Lib.hid (fun W => parse_ok W (str l) (by omega) hok)
    have HT := Lib.hid (fun W => refText_any W (str l) true (by omega) ⟨fun _ => hok, fun _ => rfl⟩)
    have HX := Lib.hid (And.intro hok.1 (Tx.text_rd hok))
    go_enter Tryd.func4, Tryd.ntmps4
    go_wp2_with fail
    refine (HP.out _).mono ?_
    rintro e w1 ⟨v1, rfl, ⟨u1, rfl, h1⟩, g1⟩
    have h1' : IsN w1 u1 (Tx.rd l) 300 := by
      have h2 : IsN w1 u1 (Tx.rd (bytesOf (str l))) k := by rw [← hsz]; exact h1
      exact h2.weak hk3
    clear h1
    obtain ⟨x, hx⟩ : ∃ x, Tx.rd l = x := ⟨_, rfl⟩
    rw [hx] at h1' HX
    have HXX := Lib.hid hx
    clear hx
    obtain ⟨A1, l1, c1, rfl⟩ := h1'.cell
    have V1 := Lib.hid (VarN.new h1' (Grow.refl _))
    have GW := Lib.hid (g1.alloc (Obj.cells #[Value.slice A1 l1 c1] 24))
    clear h1' g1 HP hok
    go_wp2_with fail
    refine (HT.out _).mono ?_
    rintro e w2 ⟨rfl, rfl⟩
    clear HT hsz
    go_wp2_with fail
    rename_i hK
    obtain ⟨B1, m1, d1, k1, n1⟩ := V1.out
    exact Rg.region_eq (by kernel_rfl) (Rg.parse5_region x l rfl rfl k1 n1 rfl rfl (by omega) HX.out.1 HXX.out.symm HX.out.2 fun a' w' hg ha h2 => hK a' w' (Rg.ret_slot (t := 2) Tryd.results4 ha.1 h2 (Ret.mk rfl (GW.out.trans hg))))
  · have hsz : (str l).size = k := by rw [str_size, hll]
    have HP := Lib.hid (fun W => parse_bad W (str l) (by omega) hok)
    have HT := Lib.hid (fun W => refText_any W (str l) false (by omega) ⟨fun h => (by cases h), fun h => absurd h hok⟩)
    clear hok hll
    go_enter Tryd.func4, Tryd.ntmps4
    go_wp2_with fail
    refine (HP.out _).mono ?_
    rintro e w1 ⟨v1, rfl, rfl, g1⟩
    have GW := Lib.hid (g1.alloc (Obj.cells #[Value.slice none 0 0] 24))
    clear g1 HP
    go_wp2_with fail
    refine (HT.out _).mono ?_
    rintro e w2 ⟨rfl, rfl⟩
    clear HT hsz
    go_wp2_with fail
    refine (wakes3_any _).mono ?_
    rintro e w3 ⟨v3, rfl, rfl, g3⟩
    have k2 := g3.new.1
    have GW := Lib.hid (GW.out.trans g3)
    clear g3
    go_wp2_with fail
    refine (zero_n (IsN.zero _)).mono ?_
    rintro e w4 ⟨v4, rfl, rfl, g4⟩
    have GW := Lib.hid (GW.out.trans g4)
    clear g4
    go_wp2_with fail
    go_ret
    exact Ret.mk rfl GW.out
end Go.Proofs.YtckcjiojfpaikaaDoor
