/- What the library's functions answer, for layer 7: IndexByte, TrimLeft, Repeat; digits.Parse. -/
import Derived.Test.YtcogmabjnkjdfaaDoorBK
import Derived.Test.YtcogmabjnkjdfaaDoorBRd
import Derived.Test.YtcogmabjnkjdfaaDoorBDig
import Derived.Test.YtcogmabjnkjdfaaDoorBRf
import Derived.Test.YtcogmabjnkjdfaaDoorRepS
import Derived.Lib.Bytealg
namespace Go.Proofs.YtcogmabjnkjdfaaDoor
open Go.RowKit
set_option maxRecDepth 20000

/-- Where the first point is; -1 if there is none. -/
def ixT (l : List UInt8) : Int := if partB l = true then ((aheadT l).length : Int) else -1
theorem ix_at : ∀ l : List UInt8, Lib.indexByte l 46 = ixT l
  | [] => rfl
  | b :: l => by
    unfold Lib.indexByte
    rw [ix_at l]
    by_cases hb : b = 46
    · subst hb
      rw [if_pos (by decide)]
      unfold ixT partB aheadT restT
      simp
    · rw [if_neg (by simpa using hb)]
      have h1 : restT (b :: l) = restT l := by unfold restT; rw [List.dropWhile_cons, if_pos (by simpa using hb)]
      have h2 : aheadT (b :: l) = b :: aheadT l := by unfold aheadT; rw [List.takeWhile_cons, if_pos (by simpa using hb)]
      unfold ixT partB
      rw [h1, h2]
      by_cases hp : (restT l).isEmpty
      · simp [hp]
      · simp [hp]
theorem repeatL_one (c : UInt8) : ∀ k, Lib.repeatL [c] k = List.replicate k c
  | 0 => rfl
  | k + 1 => by
    show [c] ++ Lib.repeatL [c] k = _
    rw [repeatL_one c k]
    rfl
theorem repeat_any (w : World) (c : UInt8) (k : Nat) (hk : k ≤ 1000000) : Calls Tryd.prog 13 #[.string (str [c]), .int .i64 (k : Int)] w (Ret w fun v _ => v = .string (str (List.replicate k c))) :=
  (Any.strings_Repeat lays105 extra105 (str [c]) k w (by omega) (by rw [str_size]; simp; omega)).mono fun _ _ ⟨he, hb⟩ => ⟨_, he, by rw [← repeatL_one], hb⟩
set_option maxHeartbeats 1000000 in
theorem ixb_any (s : ByteArray) (c : Int) (w : World) : Calls Tryd.prog 47 #[.string s, .int .u8 c] w fun e w' => e = .returned (.int .i64 (Lib.indexByte s.data.toList c.toNat.toUInt8)) ∧ w' = w := by
  go_enter Tryd.func47, Tryd.ntmps47
  go_wp2
  rw [run_callFunc_extern Tryd.func57 (by kernel_rfl) (by kernel_rfl) (by kernel_rfl) (e := Extern.BytealgIndexByte.indexByte) (by kernel_rfl), Lib.run_indexByteString]
  simp only [Result.andThen]
  rw [Oper.upon_value]
  go_wp2
  go_ret
  exact ⟨rfl, rfl⟩
namespace Z
variable {w : World} {v u : Value} {l : List UInt8}
theorem ixb_t (h1 : isT l w v) (h2 : isE (.int .u8 46) w u) : Calls Tryd.prog 47 #[v, u] w (Ret w fun v' w' => isE (.int .i64 (ixT l)) w' v') := by
  cases h1
  cases h2
  exact (ixb_any (str l) 46 w).mono fun _ _ ⟨e, h⟩ => ⟨_, e, congrArg _ (ix_at l), by rw [h]; exact Grow.refl w⟩
theorem trim_t (h1 : isT l w v) (h2 : isT [48] w u) : Calls Tryd.prog 75 #[v, u] w (Ret w fun v' w' => isT (l.dropWhile (· == 48)) w' v') := by
  cases h1
  cases h2
  exact (trimLeft_any (str l) w).mono fun _ _ ⟨e, h⟩ => ⟨_, e, rfl, by rw [h]; exact Grow.refl _⟩
theorem rep_t {c : UInt8} {k : Nat} (h1 : isT [c] w v) (h2 : isE (.int .i64 (k : Int)) w u) (hk : k ≤ 1000000) : Calls Tryd.prog 13 #[v, u] w (Ret w fun v' w' => isT (List.replicate k c) w' v') := by
  cases h1
  cases h2
  exact repeat_any w c k hk
theorem dparse_ok (h : isT l w v) (hl : l.length ≤ 4096) (ho : Tx.okText l) : Calls Tryd.prog 60 #[v] w (Ret w fun v' w' => (Kd.T (cx := Z.cxA w) [kN (Tx.rd l) 4096, .E (.int .i64 0)]).p w' v') := by
  cases h
  exact (parse_ok w (str l) (by rw [str_size]; exact hl) ho).mono fun _ _ r => r.mono fun _ _ ⟨_, e, h⟩ => by
    rw [e]
    exact tup2 (k := kN _ _) (l := .E _) (h.weak (by rw [str_size]; exact hl)) rfl
theorem dparse_bad (h : isT l w v) (hl : l.length ≤ 4096) (ho : ¬ Tx.okText l) : Calls Tryd.prog 60 #[v] w (Ret w fun v' w' => (Kd.T (cx := Z.cxA w) [kN 0 0, .E (.int .i64 5)]).p w' v') := by
  cases h
  exact (parse_bad w (str l) (by rw [str_size]; exact hl) ho).mono fun _ _ r => r.mono fun _ _ e => by
    rw [e]
    exact tup2 (k := kN _ _) (l := .E _) (IsN.zero _) rfl
end Z
end Go.Proofs.YtcogmabjnkjdfaaDoor
