/- The reference of layer 3: Text, Pow; the laws' same. -/
import Derived.Test.YtjgceldghelpiaaDoorBDig
import Derived.Test.YtjgceldghelpiaaDoorBRef
namespace Go.Proofs.YtjgceldghelpiaaDoor
open Go.RowKit
set_option maxRecDepth 20000

set_option maxHeartbeats 1000000 in
theorem refText_any (w : World) (s : ByteArray) (b : Bool) (hs : s.size ≤ 4611686018427387904) (hb : b = true ↔ Tx.okText (bytesOf s)) :
    Calls Tryd.prog 31 #[.string s] w fun e w' => e = .returned (.bool b) ∧ w = w' := by
  have hsz : s.size = (bytesOf s).length := Lib.size_eq s
  by_cases h0 : s.size = 0
  · have hbf : b = false := by
      cases b with
      | false => rfl
      | true =>
        have h := hb.1 rfl
        have e : bytesOf s = [] := List.length_eq_zero_iff.1 (by omega)
        rw [e] at h
        rcases h.2 with h | h
        · cases h
        · exact absurd rfl h.1
    subst hbf
    have h0' : (s.size : Int) = 0 := by omega
    clear hb hsz h0
    go_enter Tryd.func31, Tryd.ntmps31
    go_wp2_with fail
    go_ret
    exact ⟨rfl, rfl⟩
  have hpos : 0 < s.size := by omega
  have hat0 := byte_at s 0 hpos
  have hhead : (bytesOf s).head? = some (s[0]'hpos) := by rw [List.head?_eq_getElem?]; exact hat0
  have h0' : ¬ (s.size : Int) = 0 := by omega
  have hk48 : (48 : UInt8).toNat = 48 := rfl
  by_cases h1 : 1 < s.size ∧ (s[0]'hpos) = 48
  · have hbf : b = false := by
      cases b with
      | false => rfl
      | true =>
        have h := hb.1 rfl
        rcases h.2 with h | h
        · rw [h, List.length_singleton] at hsz
          omega
        · rw [hhead, h1.2] at h
          exact absurd rfl h.2
    subst hbf
    have h1' : (1 : Int) < (s.size : Int) := by omega
    have h2' : ((s[0]'hpos).toNat : Int) = 48 := by rw [h1.2]; rfl
    clear hb hsz h0 hat0 hhead h1
    go_enter Tryd.func31, Tryd.ntmps31
    go_wp2_with fail
    go_ret
    exact ⟨rfl, rfl⟩
  have HB : Hid (b = true ↔ ∀ c ∈ bytesOf s, Tx.isDig c) := Lib.hid (hb.trans ⟨fun h => h.1, fun h => ⟨h, by
    by_cases h48 : (s[0]'hpos) = 48
    · refine .inl ?_
      have hl1 : (bytesOf s).length = 1 := by
        rcases Nat.lt_or_ge 1 s.size with h' | h'
        · exact absurd ⟨h', h48⟩ h1
        · omega
      rw [h48] at hhead
      obtain ⟨x, hx⟩ := List.length_eq_one_iff.1 hl1
      rw [hx] at hhead ⊢
      simpa using hhead
    · exact .inr ⟨fun e => by rw [e, List.length_nil] at hsz; omega, by rw [hhead]; simpa using h48⟩⟩⟩)
  have H1 : Hid (1 < s.size → ¬ ((s[0]'hpos).toNat : Int) = 48) := Lib.hid fun h e => h1 ⟨h, UInt8.toNat_inj.1 (by omega)⟩
  clear hb hat0 hhead h0 h1 hsz
  go_enter Tryd.func31, Tryd.ntmps31
  go_upto_region 1 with fail
  go_cut [16] (fun v W => v = .bool false ∧ w = W)
  case first =>
    by_cases h1 : 1 < s.size
    · have h1' : (1 : Int) < (s.size : Int) := by omega
      have h2' := H1.out h1
      go_wp2_with fail
      go_meet
      exact ⟨by rw [beq_eq_false_iff_ne.2 h2'], rfl⟩
    · have h1' : ¬ (1 : Int) < (s.size : Int) := by omega
      go_wp2_with fail
      go_meet
      exact ⟨rfl, rfl⟩
  case rest =>
    obtain ⟨rfl, rfl⟩ := hcut
    go_wp2_with fail
    go_loop [3] (fun iv => ∃ i : Nat, i ≤ s.size ∧ iv = .int .i64 i ∧ ∀ c ∈ (bytesOf s).take i, Tx.isDig c) (fun iv => s.size - (intOf iv).toNat)
    case atStart => exact ⟨0, Nat.zero_le _, rfl, by simp⟩
    case round =>
      obtain ⟨i, hi, rfl, hd⟩ := hrel
      have HD := Lib.hid hd
      clear hd
      by_cases hlt : i < s.size
      · have hat := byte_at s i hlt
        have HAT := Lib.hid hat
        clear hat
        by_cases h1 : (s[i]'hlt).toNat < 48
        · have h1' : ((s[i]'hlt).toNat : Int) < 48 := by omega
          have hb : b = false := by
            cases b with
            | false => rfl
            | true => exact absurd (HB.out.1 rfl _ (List.mem_of_getElem? HAT.out)).1 (by omega)
          clear HB
          subst hb
          go_wp2
          go_ret
          exact ⟨rfl, rfl⟩
        · have h1' : ¬ ((s[i]'hlt).toNat : Int) < 48 := by omega
          by_cases h2 : (s[i]'hlt).toNat > 57
          · have h2' : (57 : Int) < ((s[i]'hlt).toNat : Int) := by omega
            have hb : b = false := by
              cases b with
              | false => rfl
              | true => exact absurd (HB.out.1 rfl _ (List.mem_of_getElem? HAT.out)).2 (by omega)
            clear HB
            subst hb
            go_wp2
            go_ret
            exact ⟨rfl, rfl⟩
          · have h2' : ¬ (57 : Int) < ((s[i]'hlt).toNat : Int) := by omega
            have HX : Hid (Tx.isDig (s[i]'hlt)) := ⟨by omega, by omega⟩
            go_wp2
            refine ⟨⟨i + 1, by omega, rfl, fun c hc => ?_⟩, by simp [intOf]; omega⟩
            rw [take_succ_at HAT.out, List.mem_append] at hc
            rcases hc with hc | hc
            · exact HD.out c hc
            · rw [List.mem_singleton] at hc
              subst hc
              exact HX
      · have he : i = s.size := by omega
        have hb : b = true := HB.out.2 (by
          have := HD.out
          rw [he, Lib.size_eq, List.take_length] at this
          exact this)
        clear HB he HD
        subst hb
        go_wp2
        go_ret
        exact ⟨rfl, rfl⟩

theorem dlimbs_one : Dx.limbs 1 = [1] := by decide
theorem isD_one (w : World) : IsD (w.alloc (Obj.cells #[.int .i64 1] 3)) (.slice (some ⟨w.heap.size, 0, none⟩) 1 1) 1 1 := by
  have e : Dx.len 1 = 1 := by unfold Dx.len; rw [dlimbs_one]; rfl
  refine ⟨some ⟨w.heap.size, 0, none⟩, 1, by rw [e], by rw [e]; exact Nat.le_refl _, ?_, by rw [e]; exact Nat.le_refl _⟩
  rw [dlimbs_one]
  exact fun _ => ⟨w.heap.size, 0, rfl, by simp, fun j x hj => by
    match j, hj with
    | 0, hj => simp at hj; subst hj; simp [go_sem]⟩


end Go.Proofs.YtjgceldghelpiaaDoor
