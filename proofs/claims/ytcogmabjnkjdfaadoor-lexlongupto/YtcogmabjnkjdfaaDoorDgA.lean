/- Contracts of package digits: read, isText. -/
import Derived.Test.YtcogmabjnkjdfaaDoorTxt
import Derived.Test.YtcogmabjnkjdfaaDoorBNat
import Derived.Lib.TrimByte
import Derived.Lib.Strings
namespace Go.Proofs.YtcogmabjnkjdfaaDoor
open Go.RowKit

/-- The bytes of a string. -/
abbrev bytesOf (s : ByteArray) : List UInt8 := s.data.toList
theorem take_succ_at {l : List UInt8} {i : Nat} {b : UInt8} (h : l[i]? = some b) : l.take (i + 1) = l.take i ++ [b] := by
  rw [List.take_add_one, h]; rfl
theorem byte_at (s : ByteArray) (i : Nat) (h : i < s.size) : (bytesOf s)[i]? = some (s[i]'h) := by
  obtain ⟨⟨l⟩⟩ := s
  exact Lib.getElem_mk l i h
theorem read_word {n c : Nat} (hn : n < 10 ^ 18) (hc : 48 ≤ c ∧ c ≤ 57) : IntKind.u64.wrap (IntKind.u64.wrap (10 * (n : Int)) + ((c : Int) - 48) % 256) = ((10 * n + (c - 48) : Nat) : Int) := by
  have e : (10 : Nat) ^ 18 = 1000000000000000000 := by decide
  rw [e] at hn
  rw [IntKind.wrap_u64, IntKind.wrap_u64]
  omega

set_option maxHeartbeats 1000000 in
theorem read_any (w : World) (s : ByteArray) (hs : s.size ≤ 19) (hd : ∀ b ∈ bytesOf s, Tx.isDig b) :
    Calls Tryd.prog 72 #[.string s] w fun e w' => e = .returned (.int .u64 ((Tx.rd (bytesOf s) : Nat) : Int)) ∧ w = w' := by
  have HD := Lib.hid hd
  clear hd
  go_enter Tryd.func72, Tryd.ntmps72
  go_wp2
  go_loop [3, 7] (fun nv iv => ∃ i : Nat, i ≤ s.size ∧ iv = .int .i64 i ∧ nv = .int .u64 ((Tx.rd ((bytesOf s).take i) : Nat) : Int)) (fun _ iv => s.size - (intOf iv).toNat)
  case atStart => exact ⟨0, Nat.zero_le _, rfl, rfl⟩
  case round =>
    obtain ⟨i, hi, rfl, rfl⟩ := hrel
    by_cases hlt : i < s.size
    · have hb := byte_at s i hlt
      have hbd : Tx.isDig (s[i]'hlt) := HD.out _ (List.mem_of_getElem? hb)
      have hrs : Tx.rd ((bytesOf s).take (i + 1)) = 10 * Tx.rd ((bytesOf s).take i) + ((s[i]'hlt).toNat - 48) := by rw [take_succ_at hb, Tx.rd_snoc]
      have hrl := Tx.rd_lt ((bytesOf s).take i) (fun b hb => HD.out b (List.mem_of_mem_take hb))
      have hrl2 : Tx.rd ((bytesOf s).take i) < 10 ^ 18 := Nat.lt_of_lt_of_le hrl (Nat.pow_le_pow_right (by decide) (by rw [List.length_take]; omega))
      have HW := Lib.hid (read_word hrl2 hbd)
      clear hrl hrl2 hbd
      have HRS := Lib.hid hrs
      clear hrs hb
      generalize Tx.rd ((bytesOf s).take i) = x at *
      go_wp2
      exact ⟨⟨i + 1, by omega, rfl, by rw [HRS.out]; exact congrArg (Value.int .u64) HW.out⟩, by simp [intOf]; omega⟩
    · have he : i = s.size := by omega
      have HE := Lib.hid he
      clear he
      go_wp2
      go_ret
      refine ⟨?_, rfl⟩
      rw [HE.out, Lib.size_eq, List.take_length]
      rfl

set_option maxHeartbeats 1000000 in
theorem isText_any (w : World) (s : ByteArray) (b : Bool) (hs : s.size ≤ 4611686018427387904) (hb : b = true ↔ Tx.okText (bytesOf s)) :
    Calls Tryd.prog 70 #[.string s] w fun e w' => e = .returned (.bool b) ∧ w = w' := by
  have HB := Lib.hid hb
  clear hb
  go_enter Tryd.func70, Tryd.ntmps70
  go_wp2
  go_loop [6] (fun iv => ∃ i : Nat, i ≤ s.size ∧ iv = .int .i64 i ∧ ∀ c ∈ (bytesOf s).take i, Tx.isDig c) (fun iv => s.size - (intOf iv).toNat)
  case atStart => exact ⟨0, Nat.zero_le _, rfl, by simp⟩
  case round =>
    obtain ⟨i, hi, rfl, hd⟩ := hrel
    have HD := Lib.hid hd
    clear hd
    by_cases hlt : i < s.size
    · have hat := byte_at s i hlt
      have HAT := Lib.hid hat
      clear hat
      by_cases h1 : (s[i]'hlt).toNat < 48
      · have h1' : ((s[i]'hlt).toNat : Int) < 48 := by omega
        have hb : b = false := by
          cases b with
          | false => rfl
          | true => exact absurd ((HB.out.1 rfl).1 _ (List.mem_of_getElem? HAT.out)).1 (by omega)
        clear HB
        subst hb
        go_wp2
        go_ret
        exact ⟨rfl, rfl⟩
      · have h1' : ¬ ((s[i]'hlt).toNat : Int) < 48 := by omega
        by_cases h2 : (s[i]'hlt).toNat > 57
        · have h2' : (57 : Int) < ((s[i]'hlt).toNat : Int) := by omega
          have hb : b = false := by
            cases b with
            | false => rfl
            | true => exact absurd ((HB.out.1 rfl).1 _ (List.mem_of_getElem? HAT.out)).2 (by omega)
          clear HB
          subst hb
          go_wp2
          go_ret
          exact ⟨rfl, rfl⟩
        · have h2' : ¬ (57 : Int) < ((s[i]'hlt).toNat : Int) := by omega
          have HX : Hid (Tx.isDig (s[i]'hlt)) := ⟨by omega, by omega⟩
          go_wp2
          refine ⟨⟨i + 1, by omega, rfl, fun c hc => ?_⟩, by simp [intOf]; omega⟩
          rw [take_succ_at HAT.out, List.mem_append] at hc
          rcases hc with hc | hc
          · exact HD.out c hc
          · rw [List.mem_singleton] at hc
            subst hc
            exact HX
    · have he : i = s.size := by omega
      have hall : ∀ c ∈ bytesOf s, Tx.isDig c := by
        have := HD.out
        rw [he, Lib.size_eq, List.take_length] at this
        exact this
      have HALL := Lib.hid hall
      clear hall he HD
      by_cases h0 : s.toList = [48]
      · have hb : b = true := HB.out.2 ⟨HALL.out, .inl (by rw [bytesOf, ← Lib.toList_data]; exact h0)⟩
        clear HB HALL
        subst hb
        go_wp2
        go_ret
        exact ⟨rfl, rfl⟩
      · by_cases h1 : s.toList = []
        · have hb : b = false := by
            cases b with
            | false => rfl
            | true =>
              have h3 := (HB.out.1 rfl).2
              rw [bytesOf, ← Lib.toList_data] at h3
              rcases h3 with h3 | h3
              · exact absurd h3 h0
              · exact absurd h1 h3.1
          clear HB HALL
          subst hb
          go_wp2
          go_ret
          exact ⟨rfl, rfl⟩
        · have hsz : 0 < s.size := by
            rw [Lib.size_eq, ← Lib.toList_data]
            exact List.length_pos_iff.2 h1
          have hat := byte_at s 0 hsz
          have hhead : (bytesOf s).head? = some (s[0]'hsz) := by rw [List.head?_eq_getElem?]; exact hat
          have hb : b = decide (((s[0]'hsz).toNat : Int) ≠ 48) := by
            have hk : (48 : UInt8).toNat = 48 := rfl
            by_cases h2 : (s[0]'hsz) = 48
            · have e : decide (((s[0]'hsz).toNat : Int) ≠ 48) = false := by rw [h2]; rfl
              rw [e]
              cases b with
              | false => rfl
              | true =>
                have h3 := (HB.out.1 rfl).2
                rw [hhead] at h3
                rw [bytesOf, ← Lib.toList_data] at h3
                rcases h3 with h3 | h3
                · exact absurd h3 h0
                · exact absurd (by rw [h2]) h3.2
            · have h3 : ¬ (s[0]'hsz).toNat = 48 := fun h => h2 (UInt8.toNat_inj.1 (by rw [h, hk]))
              have e : decide (((s[0]'hsz).toNat : Int) ≠ 48) = true := by simp; omega
              rw [e]
              exact HB.out.2 ⟨HALL.out, .inr ⟨by rw [bytesOf, ← Lib.toList_data]; exact h1, by rw [hhead]; simpa using h2⟩⟩
          clear HB HALL hat hhead
          subst hb
          by_cases h2 : ((s[0]'hsz).toNat : Int) = 48
          · go_wp2
            go_ret
            exact ⟨by simp [h0], rfl⟩
          · go_wp2
            go_ret
            exact ⟨by simp [h1, h2], rfl⟩
end Go.Proofs.YtcogmabjnkjdfaaDoor
