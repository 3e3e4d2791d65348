/- What the library's functions answer, for layer 7: IndexByte, TrimLeft, Repeat; digits.Parse. -/
import Derived.Test.YtpoccebedoimiaaDoorBK
import Derived.Test.YtpoccebedoimiaaDoorBRd
import Derived.Test.YtpoccebedoimiaaDoorBDig
import Derived.Test.YtpoccebedoimiaaDoorBRf
import Derived.Test.YtpoccebedoimiaaDoorRepS
import Derived.Lib.Bytealg
namespace Go.Proofs.YtpoccebedoimiaaDoor
open Go.RowKit
set_option maxRecDepth 20000

/-- Where the first point is; -1 if there is none. -/
def ixT (l : List UInt8) : Int := if partB l = true then ((aheadT l).length : Int) else -1
theorem ix_at : ∀ l : List UInt8, Lib.indexByte l 46 = ixT l
  | [] => rfl
  | b :: l => by
    unfold Lib.indexByte
    rw [ix_at l]
    by_cases hb : b = 46
    · subst hb
      rw [if_pos (by decide)]
      unfold ixT partB aheadT restT
      simp
    · rw [if_neg (by simpa using hb)]
      have h1 : restT (b :: l) = restT l := by unfold restT; rw [List.dropWhile_cons, if_pos (by simpa using hb)]
      have h2 : aheadT (b :: l) = b :: aheadT l := by unfold aheadT; rw [List.takeWhile_cons, if_pos (by simpa using hb)]
      unfold ixT partB
      rw [h1, h2]
      by_cases hp : (restT l).isEmpty
      · simp [hp]
      · simp [hp]
theorem repeatL_one (c : UInt8) : ∀ k, Lib.repeatL [c] k = List.replicate k c
  | 0 => rfl
  | k + 1 => by
    show [c] ++ Lib.repeatL [c] k = _
    rw [repeatL_one c k]
    rfl
theorem repeat_any (w : World) (c : UInt8) (k : Nat) (hk : k ≤ 1000000) : Calls Tryd.prog 36 #[.string (str [c]), .int .i64 (k : Int)] w (Ret w fun v _ => v = .string (str (List.replicate k c))) :=
  (Any.strings_Repeat lays105 extra105 (str [c]) k w (by omega) (by rw [str_size]; simp; omega)).mono fun _ _ ⟨he, hb⟩ => ⟨_, he, by rw [← repeatL_one], hb⟩
namespace Z
variable {w : World} {v u : Value} {l : List UInt8}
theorem rep_t {c : UInt8} {k : Nat} (h1 : isT [c] w v) (h2 : isE (.int .i64 (k : Int)) w u) (hk : k ≤ 1000000) : Calls Tryd.prog 36 #[v, u] w (Ret w fun v' w' => isT (List.replicate k c) w' v') := by
  cases h1
  cases h2
  exact repeat_any w c k hk
end Z
end Go.Proofs.YtpoccebedoimiaaDoor
