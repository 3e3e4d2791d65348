/- Contracts of the library: math/bits.LeadingZeros64; math/bits.Div64 by a divisor whose first bit is set. -/
import Derived.Test.YtckcjiojfpaikaaDoorQuoC
import Derived.Deep.CutBlock
import Derived.Deep.DeepCutAuto
import Derived.BigGuard
import Derived.BigGuardPart
namespace Go.Proofs.YtckcjiojfpaikaaDoor
open Go.RowKit

set_option maxHeartbeats 400000 in
theorem leadingZeros64_any (x : Nat) (hx : x < Mx.B) (w : World) : Calls Tryd.prog 71 #[.int .u64 (x : Int)] w fun e w' => e = .returned (.int .i64 ((64 - Mx.bits x : Nat) : Int)) ∧ w = w' := by
  have HL := Lib.hid (fun W => len64_any x hx W)
  have hbx : Mx.bits x ≤ 64 := Mx.bits_le_of_lt (by rw [Mx.B_eq] at hx; omega)
  generalize Mx.bits x = y at *
  have h1 : ((64 - y : Nat) : Int) = 64 - (y : Int) := by omega
  rw [h1]
  clear h1
  go_enter Tryd.func71, Tryd.ntmps71
  go_wp2_with (go_at_call 44; refine (HL.out _).mono ?_; rintro e w' ⟨rfl, rfl⟩)
  go_ret
  exact ⟨rfl, rfl⟩

namespace Half
/-- Half a limb. -/
def D : Nat := 4294967296
theorem D_eq : D = 4294967296 := rfl
theorem D_pos : 0 < D := by rw [D_eq]; omega

/-- What is known at the head of the loop that puts a half's guess right: the divisor is h and z, the first one great. -/
structure Inv (u u1 h z q r : Nat) : Prop where
  sum : q * h + r = u
  low : r < D
  top : (u * D + u1) / (h * D + z) ≤ q

variable {u u1 h z q r : Nat}
theorem pos (hh : 0 < h) : 0 < h * D + z := Nat.lt_of_lt_of_le (Nat.mul_pos hh D_pos) (Nat.le_add_right _ _)
theorem first (hh : 0 < h) (hD : h ≤ D) (h1 : u1 < D) : Inv u u1 h z (u / h) (u - u / h * h) := by
  have e1 := Nat.mod_add_div u h
  rw [Nat.mul_comm] at e1
  have e2 : u % h < h := Nat.mod_lt _ hh
  refine ⟨by omega, by omega, ?_⟩
  rw [Nat.le_div_iff_mul_le hh]
  have e3 := Nat.div_mul_le_self (u * D + u1) (h * D + z)
  generalize (u * D + u1) / (h * D + z) = Q at *
  rw [Nat.mul_add, ← Nat.mul_assoc] at e3
  have e4 : Q * h * D < (u + 1) * D := by rw [Nat.succ_mul]; omega
  have := Nat.lt_of_mul_lt_mul_right e4
  omega
theorem stay (hh : 0 < h) (I : Inv u u1 h z q r) (ht : q * z ≤ D * r + u1) : (u * D + u1) / (h * D + z) = q := by
  apply Nat.le_antisymm I.top
  rw [Nat.le_div_iff_mul_le (pos hh), Nat.mul_add, ← Nat.mul_assoc, ← I.sum, Nat.add_mul, Nat.mul_comm r D]
  omega
theorem over (hh : 0 < h) (hu : u < h * D + z) (h1 : u1 < D) (I : Inv u u1 h z q r) (ht : D ≤ q ∨ D * r + u1 < q * z) : (u * D + u1) / (h * D + z) < q := by
  rw [Nat.div_lt_iff_lt_mul (pos hh)]
  rcases ht with ht | ht
  · have e1 : (u + 1) * D ≤ (h * D + z) * D := Nat.mul_le_mul_right _ hu
    have e2 : D * (h * D + z) ≤ q * (h * D + z) := Nat.mul_le_mul_right _ ht
    rw [Nat.succ_mul] at e1
    rw [Nat.mul_comm D] at e2
    omega
  · rw [Nat.mul_add, ← Nat.mul_assoc, ← I.sum, Nat.add_mul, Nat.mul_comm r D]
    omega
theorem next (hh : 0 < h) (hu : u < h * D + z) (h1 : u1 < D) (I : Inv u u1 h z q r) (ht : D ≤ q ∨ D * r + u1 < q * z) (hr : r + h < D) : Inv u u1 h z (q - 1) (r + h) := by
  have ho := over hh hu h1 I ht
  refine ⟨?_, hr, by omega⟩
  have e := I.sum
  have hq0 : 0 < q := Nat.lt_of_le_of_lt (Nat.zero_le _) ho
  obtain ⟨k, rfl⟩ : ∃ k, q = k + 1 := ⟨q - 1, by omega⟩
  rw [Nat.succ_mul] at e
  rw [Nat.add_sub_cancel]
  omega
theorem done (hh : 2147483648 ≤ h) (hz : z < D) (hu : u < h * D + z) (h1 : u1 < D) (I : Inv u u1 h z q r) (ht : D ≤ q ∨ D * r + u1 < q * z) (hr : D ≤ r + h) : (u * D + u1) / (h * D + z) = q - 1 := by
  have ho := over (by omega) hu h1 I ht
  apply Nat.le_antisymm (by omega)
  have e := I.sum
  have hq0 : 0 < q := Nat.lt_of_le_of_lt (Nat.zero_le _) ho
  obtain ⟨k, rfl⟩ : ∃ k, q = k + 1 := ⟨q - 1, by omega⟩
  rw [Nat.succ_mul] at e
  rw [Nat.add_sub_cancel, Nat.le_div_iff_mul_le (pos (by omega)), Nat.mul_add, ← Nat.mul_assoc]
  have hk : k ≤ D + 1 := by
    rcases Nat.lt_or_ge (D + 1) k with hlt | hge
    · exfalso
      have e2 : (D + 2) * h ≤ k * h := Nat.mul_le_mul_right _ hlt
      rw [Nat.add_mul, Nat.mul_comm D h] at e2
      rw [D_eq] at hz
      omega
    · exact hge
  have e3 : k * z ≤ (D + 1) * (D - 1) := Nat.mul_le_mul hk (by omega)
  have e4 : (k * h) * D + (r + h) * D = u * D := by rw [← Nat.add_mul]; congr 1; omega
  have e5 : D * D ≤ (r + h) * D := Nat.mul_le_mul_right _ hr
  have e6 : (D + 1) * (D - 1) ≤ D * D := by rw [D_eq]; decide
  omega
/-- Two halves of the quotient. -/
theorem both (y v u0 : Nat) (hy : 0 < y) : (v * D + u0) / y = v / y * D + ((v % y) * D + u0) / y := by
  have e : v * D + u0 = ((v % y) * D + u0) + y * (v / y * D) := by
    have := Nat.mod_add_div v y
    rw [← Nat.mul_assoc]
    calc v * D + u0 = (v % y + y * (v / y)) * D + u0 := by rw [this]
      _ = _ := by rw [Nat.add_mul]; omega
  rw [e, Nat.add_mul_div_left _ _ hy, Nat.add_comm]
end Half

/-- The words of the walk, put together. -/
theorem div_rest (u u1 y Q : Nat) (hy : y < Mx.B) (hy0 : 0 < y) (hQ : (u * Half.D + u1) / y = Q) :
    IntKind.u64.wrap (IntKind.u64.wrap (IntKind.u64.wrap ((u : Int) * 4294967296) + (u1 : Int)) - IntKind.u64.wrap ((Q : Int) * (y : Int))) = (((u * Half.D + u1) % y : Nat) : Int) := by
  have h1 := Nat.mod_add_div (u * Half.D + u1) y
  have h2 := Nat.mod_lt (u * Half.D + u1) hy0
  rw [hQ] at h1
  rw [Half.D_eq] at *
  rw [Mx.B_eq] at hy
  simp only [IntKind.wrap_u64]
  have e : (Q : Int) * (y : Int) = ((y * Q : Nat) : Int) := by rw [Int.natCast_mul, Int.mul_comm]
  rw [e]
  omega

set_option maxRecDepth 100000 in
set_option maxHeartbeats 1000000 in
theorem div64_any (hi lo y : Nat) (hhi : hi < y) (hlo : lo < Mx.B) (hy : y < Mx.B) (hyt : 9223372036854775808 ≤ y) (w : World) :
    Calls Tryd.prog 87 #[.int .u64 (hi : Int), .int .u64 (lo : Int), .int .u64 (y : Int)] w fun e w' => (∃ r, e = .returned (.tuple #[.int .u64 (((hi * Mx.B + lo) / y : Nat) : Int), r])) ∧ ∃ m, w' = w.drewN m := by
  have hb : Mx.bits y = 64 := Mx.bits_unique (k := 63) hyt (by rw [Mx.B_eq] at hy; omega)
  have HL := Lib.hid (fun W => leadingZeros64_any y hy W)
  rw [hb] at HL
  rw [Mx.B_eq] at hy hlo
  by_cases h0 : hi = 0
  · subst h0
    clear HL
    go_enter Tryd.func87, Tryd.ntmps87
    go_wp2
    go_quiet (fail)
    have e1 : IntKind.u64.wrap ((lo : Int) / (y : Int)) = (((0 * Mx.B + lo) / y : Nat) : Int) := by
      have h1 : (lo : Int) / (y : Int) = ((lo / y : Nat) : Int) := (Int.natCast_ediv lo y).symm
      have h2 := Nat.div_le_self lo y
      rw [h1, Nat.zero_mul, Nat.zero_add]
      exact Mul64.wrapN _ (Nat.lt_of_le_of_lt h2 hlo)
    rw [e1]
    go_wp2
    go_ret2
    exact ⟨⟨_, rfl⟩, nq, rfl⟩
  · have h0' : ((hi : Int) == 0) = false := by simp; omega
    have hOR : bits .or .u64 (hi : Int) ((lo : Int) / 18446744073709551616) = (hi : Int) := by
      have h1 : (lo : Int) / 18446744073709551616 = ((0 : Nat) : Int) := by omega
      rw [h1]
      exact (bits_or_u64_nat hi 0 (by omega) (by omega)).trans (by simp)
    have hY1 : (y : Int) / 4294967296 = ((y / Half.D : Nat) : Int) := by rw [Half.D_eq]; omega
    have hL1 : (lo : Int) / 4294967296 = ((lo / Half.D : Nat) : Int) := by rw [Half.D_eq]; omega
    have hY0 := Mul64.maskN y hy
    have hL0 := Mul64.maskN lo hlo
    rw [← Half.D_eq] at hY0 hL0
    have hT1 : ((hi : Int)).tdiv ((y / Half.D : Nat) : Int) = ((hi / (y / Half.D) : Nat) : Int) := rfl
    have hT2 : IntKind.u64.wrap ((hi / (y / Half.D) : Nat) : Int) = ((hi / (y / Half.D) : Nat) : Int) := by
      have := Nat.div_le_self hi (y / Half.D)
      exact Mul64.wrapN _ (by omega)
    have hT3 : IntKind.u64.wrap ((hi : Int) - IntKind.u64.wrap (((hi / (y / Half.D) : Nat) : Int) * ((y / Half.D : Nat) : Int))) = ((hi - hi / (y / Half.D) * (y / Half.D) : Nat) : Int) := by
      have h1 := Nat.div_mul_le_self hi (y / Half.D)
      rw [Mul64.mulN, Mul64.wrapN _ (by omega), ← Int.ofNat_sub h1]
      exact Mul64.wrapN _ (by omega)
    have hhb : 2147483648 ≤ y / Half.D := by rw [Half.D_eq]; omega
    have hhD : y / Half.D ≤ Half.D := by rw [Half.D_eq]; omega
    have hl1 : lo / Half.D < Half.D := by rw [Half.D_eq]; omega
    have hl0 : lo % Half.D < Half.D := Nat.mod_lt _ Half.D_pos
    have hz0 : y % Half.D < Half.D := Nat.mod_lt _ Half.D_pos
    have hysp : y = y / Half.D * Half.D + y % Half.D := by rw [Nat.mul_comm]; exact (Nat.div_add_mod y Half.D).symm
    have hlsp : lo = lo / Half.D * Half.D + lo % Half.D := by rw [Nat.mul_comm]; exact (Nat.div_add_mod lo Half.D).symm
    have HS := Lib.hid (And.intro hysp hlsp)
    clear hysp hlsp
    have HF := Lib.hid (Half.first (u := hi) (u1 := lo / Half.D) (h := y / Half.D) (z := y % Half.D) (by omega) hhD hl1)
    have HT := Lib.hid (And.intro hOR (And.intro hY1 (And.intro hL1 (And.intro hY0 (And.intro hL0 (And.intro hT1 (And.intro hT2 hT3)))))))
    clear hOR hY1 hL1 hY0 hL0 hT1 hT2 hT3
    go_enter Tryd.func87, Tryd.ntmps87
    go_upto_block 0 with (go_at_call 71; refine (HL.out _).mono ?_; rintro e w' ⟨rfl, rfl⟩)
    obtain ⟨hOR, hY1, hL1, hY0, hL0, hT1, hT2, hT3⟩ := HT.out
    rw [hOR, hY1, hL1, hY0, hL0, hT1, hT2, hT3]
    clear hOR hY1 hL1 hY0 hL0 hT1 hT2 hT3 HT HL
    have hF := HF.out
    generalize hq0 : hi / (y / Half.D) = q0 at *
    generalize hr0 : hi - q0 * (y / Half.D) = r0 at *
    have HQ := Lib.hid (And.intro hq0 hr0)
    clear hq0 hr0 HF
    generalize hhy : y / Half.D = h at *
    generalize hzy : y % Half.D = z at *
    generalize hla : lo / Half.D = l1 at *
    generalize hlb : lo % Half.D = l0 at *
    clear hhy hzy hla hlb
    have hD := Lib.hid Half.D_eq
    rw [Half.D_eq] at hhD hz0 hl1 hl0
    go_cut [15] (fun qv W => W = w ∧ ∃ Q : Nat, qv = .int .u64 (Q : Int) ∧ (hi * Half.D + l1) / (h * Half.D + z) = Q)
    case first =>
      go_wp2_with fail
      go_loopw [15, 16] (fun qv rv wr => wr = w ∧ ∃ q r : Nat, qv = .int .u64 (q : Int) ∧ rv = .int .u64 (r : Int) ∧ Half.Inv hi l1 h z q r) (fun qv _ _ => (intOf qv).toNat)
      case atStart => exact ⟨rfl, q0, r0, rfl, rfl, hF⟩
      case round =>
        have hu_ : hi < h * Half.D + z := by rw [← HS.out.1]; exact hhi
        have hl_ : l1 < Half.D := hl1
        have hz_ : z < Half.D := hz0
        have HU := Lib.hid (And.intro hu_ (And.intro hl_ hz_))
        clear hu_ hl_ hz_
        obtain ⟨rfl, q, r, rfl, rfl, I⟩ := hrel
        have hsum := I.sum
        have hlow : r < 4294967296 := I.low
        have hqU : q < 18446744073709551616 := by have := Nat.le_mul_of_pos_right q (show 0 < h by omega); omega
        have HI := Lib.hid I
        by_cases hqD : 4294967296 ≤ q
        · have hqB : decide ((4294967296 : Int) ≤ (q : Int)) = true := decide_eq_true (by omega)
          have hT : Half.D ≤ q ∨ Half.D * r + l1 < q * z := .inl hqD
          by_cases hrD : 4294967296 ≤ r + h
          · have HR := Lib.hid (Half.done hhb HU.out.2.2 HU.out.1 HU.out.2.1 I hT hrD)
            have hrB : decide ((4294967296 : Int) ≤ (r : Int) + (h : Int)) = true := decide_eq_true (by omega)
            clear I hsum hT
            have hq1 : ((q - 1 : Nat) : Int) = (q : Int) - 1 := by omega
            repeat (first | go_values | go_skip | go_guarded | go_step | go_upon | go_back)
            go_meet
            case rel => exact ⟨rfl, q - 1, by rw [hq1], HR.out⟩
          · have HR := Lib.hid (Half.next (by omega) HU.out.1 HU.out.2.1 I hT (by rw [hD.out]; omega))
            have hrB : decide ((4294967296 : Int) ≤ (r : Int) + (h : Int)) = false := decide_eq_false (by omega)
            clear I hsum hT
            have hq1 : ((q - 1 : Nat) : Int) = (q : Int) - 1 := by omega
            repeat (first | go_values | go_skip | go_guarded | go_step | go_upon | go_back)
            go_roundw
            case rel => exact ⟨trivial, q - 1, r + h, by rw [hq1], by rw [Int.natCast_add], HR.out⟩
            case measure => simp [intOf]; omega
        · have hqB : decide ((4294967296 : Int) ≤ (q : Int)) = false := decide_eq_false (by omega)
          have hqz : q * z ≤ 4294967295 * 4294967295 := Nat.mul_le_mul (by omega) (by omega)
          have hP : IntKind.u64.wrap ((q : Int) * (z : Int)) = ((q * z : Nat) : Int) := by rw [Mul64.mulN]; exact Mul64.wrapN _ (by omega)
          have hOv := Half.next (u := hi) (u1 := l1) (h := h) (z := z) (q := q) (r := r) (by omega) HU.out.1 HU.out.2.1 I
          have hDn := Half.done (u := hi) (u1 := l1) (h := h) (z := z) (q := q) (r := r) hhb HU.out.2.2 HU.out.1 HU.out.2.1 I
          have hSt := Half.stay (u := hi) (u1 := l1) (h := h) (z := z) (q := q) (r := r) (by omega) I
          have hover := Half.over (u := hi) (u1 := l1) (h := h) (z := z) (q := q) (r := r) (by omega) HU.out.1 HU.out.2.1 I
          generalize q * z = pz at *
          rw [show Half.D * r + l1 = 4294967296 * r + l1 from rfl] at hOv hDn hSt hover
          by_cases hcmp : 4294967296 * r + l1 < pz
          · have hcB : decide (4294967296 * (r : Int) + (l1 : Int) < (pz : Int)) = true := decide_eq_true (by omega)
            have hq0 : 0 < q := Nat.lt_of_le_of_lt (Nat.zero_le _) (hover (.inr hcmp))
            have hq1 : ((q - 1 : Nat) : Int) = (q : Int) - 1 := by omega
            by_cases hrD : 4294967296 ≤ r + h
            · have HR := Lib.hid (hDn (.inr hcmp) hrD)
              have hrB : decide ((4294967296 : Int) ≤ (r : Int) + (h : Int)) = true := decide_eq_true (by omega)
              clear I hsum hOv hDn hSt hover
              repeat (first | go_values | go_skip | go_guarded | go_step | go_upon | go_back)
              go_meet
              case rel => exact ⟨rfl, q - 1, by rw [hq1], HR.out⟩
            · have HR := Lib.hid (hOv (.inr hcmp) (by rw [hD.out]; omega))
              have hrB : decide ((4294967296 : Int) ≤ (r : Int) + (h : Int)) = false := decide_eq_false (by omega)
              clear I hsum hOv hDn hSt hover
              repeat (first | go_values | go_skip | go_guarded | go_step | go_upon | go_back)
              go_roundw
              case rel => exact ⟨trivial, q - 1, r + h, by rw [hq1], by rw [Int.natCast_add], HR.out⟩
              case measure => simp [intOf]; omega
          · have HR := Lib.hid (hSt (by omega))
            have hcB : decide (4294967296 * (r : Int) + (l1 : Int) < (pz : Int)) = false := decide_eq_false (by omega)
            clear I hsum hOv hDn hSt hover
            repeat (first | go_values | go_skip | go_guarded | go_step | go_upon | go_back)
            go_meet
            case rel => exact ⟨rfl, q, rfl, HR.out⟩
    case rest =>
      obtain ⟨rfl, Q, rfl, hQ⟩ := hcut
      obtain ⟨hs1, hs2⟩ := HS.out
      have hy0 : 0 < y := by omega
      rw [← hs1] at hQ
      have hvlt := Nat.mod_lt (hi * Half.D + l1) hy0
      have hdr := div_rest hi l1 y Q hy hy0 hQ
      have hQD : Q < 4294967296 := by
        rw [← hQ, Nat.div_lt_iff_lt_mul hy0]
        have e1 : (hi + 1) * Half.D ≤ y * Half.D := Nat.mul_le_mul_right _ hhi
        rw [Nat.succ_mul] at e1
        have := hD.out
        rw [this] at e1 ⊢
        omega
      have hbo := Half.both y (hi * Half.D + l1) l0 hy0
      rw [hQ] at hbo
      have hfull : (hi * Half.D + l1) * Half.D + l0 = hi * Mx.B + lo := by
        rw [hs2, Nat.add_mul, Nat.mul_assoc]; show hi * Mx.B + l1 * Half.D + l0 = _; omega
      rw [hfull] at hbo
      generalize (hi * Half.D + l1) % y = v at *
      have hT1 : ((v : Int)).tdiv (h : Int) = ((v / h : Nat) : Int) := rfl
      have hT2 : IntKind.u64.wrap ((v / h : Nat) : Int) = ((v / h : Nat) : Int) := by
        have := Nat.div_le_self v h
        exact Mul64.wrapN _ (by omega)
      have hT3 : IntKind.u64.wrap ((v : Int) - IntKind.u64.wrap (((v / h : Nat) : Int) * (h : Int))) = ((v - v / h * h : Nat) : Int) := by
        have h1 := Nat.div_mul_le_self v h
        rw [Mul64.mulN, Mul64.wrapN _ (by omega), ← Int.ofNat_sub h1]
        exact Mul64.wrapN _ (by omega)
      have hF := Half.first (u := v) (u1 := l0) (h := h) (z := z) (by omega) (by rw [hD.out]; omega) hl0
      have HT := Lib.hid (And.intro hdr (And.intro hT1 (And.intro hT2 hT3)))
      have HBO := Lib.hid hbo
      have HV := Lib.hid (by rw [← hs1]; exact hvlt : v < h * Half.D + z)
      clear hQ hs1 hs2 hdr hbo hT1 hT2 hT3 hfull
      generalize v / h = q0' at *
      generalize v - q0' * h = r0' at *
      go_upto_block 2 with fail
      obtain ⟨hT0, hT1, hT2, hT3⟩ := HT.out
      rw [hT0, hT1, hT2, hT3]
      clear hT0 hT1 hT2 hT3 HT
      go_cut [18] (fun qv W => W = wc ∧ ∃ Q : Nat, qv = .int .u64 (Q : Int) ∧ (v * Half.D + l0) / (h * Half.D + z) = Q)
      case first =>
        go_wp2_with fail
        go_loopw [18, 16] (fun qv rv wr => wr = wc ∧ ∃ q r : Nat, qv = .int .u64 (q : Int) ∧ rv = .int .u64 (r : Int) ∧ Half.Inv v l0 h z q r) (fun qv _ _ => (intOf qv).toNat)
        case atStart => exact ⟨rfl, q0', r0', rfl, rfl, hF⟩
        case round =>
          have hu_ : v < h * Half.D + z := HV.out
          have hl_ : l0 < Half.D := hl0
          have hz_ : z < Half.D := hz0
          have HU := Lib.hid (And.intro hu_ (And.intro hl_ hz_))
          clear hu_ hl_ hz_
          obtain ⟨rfl, q, r, rfl, rfl, I⟩ := hrel
          have hsum := I.sum
          have hlow : r < 4294967296 := I.low
          have hqU : q < 18446744073709551616 := by have := Nat.le_mul_of_pos_right q (show 0 < h by omega); omega
          have HI := Lib.hid I
          by_cases hqD : 4294967296 ≤ q
          · have hqB : decide ((4294967296 : Int) ≤ (q : Int)) = true := decide_eq_true (by omega)
            have hT : Half.D ≤ q ∨ Half.D * r + l0 < q * z := .inl hqD
            by_cases hrD : 4294967296 ≤ r + h
            · have HR := Lib.hid (Half.done hhb HU.out.2.2 HU.out.1 HU.out.2.1 I hT hrD)
              have hrB : decide ((4294967296 : Int) ≤ (r : Int) + (h : Int)) = true := decide_eq_true (by omega)
              clear I hsum hT
              have hq1 : ((q - 1 : Nat) : Int) = (q : Int) - 1 := by omega
              repeat (first | go_values | go_skip | go_guarded | go_step | go_upon | go_back)
              go_meet
              case rel => exact ⟨rfl, q - 1, by rw [hq1], HR.out⟩
            · have HR := Lib.hid (Half.next (by omega) HU.out.1 HU.out.2.1 I hT (by rw [hD.out]; omega))
              have hrB : decide ((4294967296 : Int) ≤ (r : Int) + (h : Int)) = false := decide_eq_false (by omega)
              clear I hsum hT
              have hq1 : ((q - 1 : Nat) : Int) = (q : Int) - 1 := by omega
              repeat (first | go_values | go_skip | go_guarded | go_step | go_upon | go_back)
              go_roundw
              case rel => exact ⟨trivial, q - 1, r + h, by rw [hq1], by rw [Int.natCast_add], HR.out⟩
              case measure => simp [intOf]; omega
          · have hqB : decide ((4294967296 : Int) ≤ (q : Int)) = false := decide_eq_false (by omega)
            have hqz : q * z ≤ 4294967295 * 4294967295 := Nat.mul_le_mul (by omega) (by omega)
            have hP : IntKind.u64.wrap ((q : Int) * (z : Int)) = ((q * z : Nat) : Int) := by rw [Mul64.mulN]; exact Mul64.wrapN _ (by omega)
            have hOv := Half.next (u := v) (u1 := l0) (h := h) (z := z) (q := q) (r := r) (by omega) HU.out.1 HU.out.2.1 I
            have hDn := Half.done (u := v) (u1 := l0) (h := h) (z := z) (q := q) (r := r) hhb HU.out.2.2 HU.out.1 HU.out.2.1 I
            have hSt := Half.stay (u := v) (u1 := l0) (h := h) (z := z) (q := q) (r := r) (by omega) I
            have hover := Half.over (u := v) (u1 := l0) (h := h) (z := z) (q := q) (r := r) (by omega) HU.out.1 HU.out.2.1 I
            generalize q * z = pz at *
            rw [show Half.D * r + l0 = 4294967296 * r + l0 from rfl] at hOv hDn hSt hover
            by_cases hcmp : 4294967296 * r + l0 < pz
            · have hcB : decide (4294967296 * (r : Int) + (l0 : Int) < (pz : Int)) = true := decide_eq_true (by omega)
              have hq0 : 0 < q := Nat.lt_of_le_of_lt (Nat.zero_le _) (hover (.inr hcmp))
              have hq1 : ((q - 1 : Nat) : Int) = (q : Int) - 1 := by omega
              by_cases hrD : 4294967296 ≤ r + h
              · have HR := Lib.hid (hDn (.inr hcmp) hrD)
                have hrB : decide ((4294967296 : Int) ≤ (r : Int) + (h : Int)) = true := decide_eq_true (by omega)
                clear I hsum hOv hDn hSt hover
                repeat (first | go_values | go_skip | go_guarded | go_step | go_upon | go_back)
                go_meet
                case rel => exact ⟨rfl, q - 1, by rw [hq1], HR.out⟩
              · have HR := Lib.hid (hOv (.inr hcmp) (by rw [hD.out]; omega))
                have hrB : decide ((4294967296 : Int) ≤ (r : Int) + (h : Int)) = false := decide_eq_false (by omega)
                clear I hsum hOv hDn hSt hover
                repeat (first | go_values | go_skip | go_guarded | go_step | go_upon | go_back)
                go_roundw
                case rel => exact ⟨trivial, q - 1, r + h, by rw [hq1], by rw [Int.natCast_add], HR.out⟩
                case measure => simp [intOf]; omega
            · have HR := Lib.hid (hSt (by omega))
              have hcB : decide (4294967296 * (r : Int) + (l0 : Int) < (pz : Int)) = false := decide_eq_false (by omega)
              clear I hsum hOv hDn hSt hover
              repeat (first | go_values | go_skip | go_guarded | go_step | go_upon | go_back)
              go_meet
              case rel => exact ⟨rfl, q, rfl, HR.out⟩
      case rest =>
        obtain ⟨rfl, R, rfl, hR⟩ := hcut
        rw [← HS.out.1] at hR
        have hRD : R < 4294967296 := by
          rw [← hR, Nat.div_lt_iff_lt_mul hy0]
          have e1 : (v + 1) * Half.D ≤ y * Half.D := Nat.mul_le_mul_right _ hvlt
          rw [Nat.succ_mul] at e1
          have := hD.out
          rw [this] at e1 ⊢
          omega
        have hbo := HBO.out
        rw [hR, hD.out] at hbo
        have hbi : (((hi * Mx.B + lo) / y : Nat) : Int) = (Q : Int) * 4294967296 + (R : Int) := by rw [hbo]; omega
        have HBI := Lib.hid hbi
        clear hR hbo hbi HBO
        repeat (first | go_values | go_skip | go_guarded | go_step | go_upon | go_back)
        go_ret2
        exact ⟨⟨_, by rw [HBI.out]; rfl⟩, 0, rfl⟩
end Go.Proofs.YtckcjiojfpaikaaDoor
