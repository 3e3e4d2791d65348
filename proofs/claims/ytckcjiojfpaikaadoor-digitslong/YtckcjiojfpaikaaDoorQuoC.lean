/- Contracts of package quot: add, subTimes. -/
import Derived.Test.YtckcjiojfpaikaaDoorQuoB
namespace Go.Proofs.YtckcjiojfpaikaaDoor
open Go.RowKit

theorem drop_getD (L : List Nat) (o i : Nat) : (L.drop o).getD i 0 = L.getD (o + i) 0 := by rw [List.getD_eq_getElem?_getD, List.getD_eq_getElem?_getD, List.getElem?_drop]

theorem add_step {s l out : List Nat} {i c lo hi y : Nat} (hl : out.length = i) (hv : Mx.val out + Mx.B ^ i * c = Mx.val (s.take i) + Mx.val (l.take i)) (hy : y = l.getD i 0) (h : lo + Mx.B * hi = s.getD i 0 + y + c) :
    Mx.val (out ++ [lo]) + Mx.B ^ (i + 1) * hi = Mx.val (s.take (i + 1)) + Mx.val (l.take (i + 1)) := by
  rw [Mx.val_append, Mx.val_one, hl, Mx.val_take_succ, Mx.val_take_succ, Nat.pow_succ, Nat.mul_assoc, ← hy]
  have h2 : Mx.B ^ i * lo + Mx.B ^ i * (Mx.B * hi) = Mx.B ^ i * s.getD i 0 + Mx.B ^ i * y + Mx.B ^ i * c := by rw [← Nat.mul_add, h, Nat.mul_add, Nat.mul_add]
  omega

theorem sub_step2 {s l out : List Nat} {i c b lo lo2 c' b' x y : Nat} (hl : out.length = i) (hv : Mx.val out + x * Mx.val (l.take i) = Mx.val (s.take i) + Mx.B ^ i * (b + c)) (hy : y = l.getD i 0)
    (h1 : lo2 + Mx.B * c' = y * x + c) (h2 : lo + lo2 + b = s.getD i 0 + Mx.B * b') :
    Mx.val (out ++ [lo]) + x * Mx.val (l.take (i + 1)) = Mx.val (s.take (i + 1)) + Mx.B ^ (i + 1) * (b' + c') := by
  rw [Mx.val_append, Mx.val_one, hl, Mx.val_take_succ, Mx.val_take_succ, Nat.pow_succ, Nat.mul_assoc, ← hy]
  have e1 : x * (Mx.val (l.take i) + Mx.B ^ i * y) = x * Mx.val (l.take i) + Mx.B ^ i * (y * x) := by rw [Nat.mul_add, Nat.mul_left_comm x, Nat.mul_comm x y]
  have e2 : Mx.B ^ i * (lo + y * x + (b + c)) = Mx.B ^ i * (s.getD i 0 + Mx.B * (b' + c')) := by congr 1; rw [Nat.mul_add]; omega
  rw [e1]
  simp only [Nat.mul_add] at e2 hv ⊢
  omega
theorem sub_last {s l out : List Nat} {n c b lo b' x : Nat} (hn : n = l.length) (hl : out.length = n) (hv : Mx.val out + x * Mx.val (l.take n) = Mx.val (s.take n) + Mx.B ^ n * (b + c)) (h2 : lo + c + b = s.getD n 0 + Mx.B * b') :
    Mx.val (out ++ [lo]) + x * Mx.val l = Mx.val (s.take (n + 1)) + Mx.B ^ (n + 1) * b' := by
  rw [Mx.val_append, Mx.val_one, hl, Mx.val_take_succ, Nat.pow_succ, Nat.mul_assoc]
  rw [hn, List.take_length, ← hn] at hv
  have e2 : Mx.B ^ n * (lo + (b + c)) = Mx.B ^ n * (s.getD n 0 + Mx.B * b') := by congr 1; omega
  simp only [Nat.mul_add] at e2 hv ⊢
  omega
theorem take_zero_more (l : List Nat) (n : Nat) (hn : n = l.length) : Mx.val (l.take (n + 1)) = Mx.val l ∧ Mx.val (l.take n) = Mx.val l ∧ l.getD n 0 = 0 := by
  subst hn
  refine ⟨by rw [List.take_of_length_le (by omega)], by rw [List.take_length], by simp [List.getD_eq_getElem?_getD]⟩

theorem snoc_lt {out : List Nat} {y : Nat} (h : ∀ x ∈ out, x < Mx.B) (hy : y < Mx.B) : ∀ x ∈ out ++ [y], x < Mx.B := by
  intro z hz
  rcases List.mem_append.1 hz with hz | hz
  · exact h z hz
  · rw [List.mem_singleton.1 hz]; exact hy

set_option maxHeartbeats 1000000 in
theorem quotAdd_any (w : World) (g o cp : Nat) (L : List Nat) (A : Option Addr) (l : List Nat) (c : Nat) (hk : l.length ≤ 17592186044416) (hcp : l.length + 1 ≤ cp) (hfit : o + l.length + 1 ≤ L.length) (hblk : Blk w g L) (hL : ∀ y ∈ L, y < Mx.B)
    (hl : Cells w A l) (hb : ∀ y ∈ l, y < Mx.B) (hne : l ≠ [] → ∀ b p, A = some ⟨b, p, none⟩ → b ≠ g) :
    Calls Tryd.prog 81 #[.slice (some ⟨g, o, none⟩) (l.length + 1) cp, .slice A l.length c] w fun e w' =>
      ∃ (out : List Nat) (cr : Nat), e = .returned (.bool ((cr : Int) != 0)) ∧ out.length = l.length + 1 ∧ (∀ y ∈ out, y < Mx.B) ∧ cr ≤ 1 ∧ Mx.val out + Mx.B ^ (l.length + 1) * cr = Mx.val ((L.drop o).take (l.length + 1)) + Mx.val l ∧
        w.grownBy w' (some g) ∧ Blk w' g (Mx.patch L o out) := by
  have HL := Lib.hid hL
  have HB := Lib.hid hb
  have HNE := Lib.hid hne
  clear hL hb hne
  go_enter Tryd.func81, Tryd.ntmps81
  go_wp2
  go_loopw [5, 11] (fun cv iv wr => ∃ (i : Nat) (out : List Nat) (cr : Nat), i ≤ l.length ∧ iv = .int .i64 i ∧ cv = .int .u64 (cr : Int) ∧ out.length = i ∧ (∀ y ∈ out, y < Mx.B) ∧ cr ≤ 1 ∧ Mx.val out + Mx.B ^ i * cr = Mx.val ((L.drop o).take i) + Mx.val (l.take i) ∧ w.grownBy wr (some g) ∧ Blk wr g (Mx.patch L o out)) (fun _ iv _ => l.length - (intOf iv).toNat)
  case atStart => exact ⟨0, [], 0, Nat.zero_le _, rfl, rfl, rfl, by simp, by omega, by simp [Mx.val], only_refl _ _, by rw [Mx.patch_nil]; exact hblk⟩
  case round =>
    obtain ⟨i, out, cr, hi, rfl, rfl, hlen, hlt, hcar, hval, hg, hbk⟩ := hrel
    have hs1 : L.getD (o + i) 0 < Mx.B := Mx.getD_lt L HL.out _
    have hsd := drop_getD L o i
    have hpg : (Mx.patch L o out).getD (o + i) 0 = L.getD (o + i) 0 := by
      have := Mx.patch_getD (L := L) (r := out) (o := o) (by omega)
      rwa [hlen] at this
    have hgc := hbk.cell (i := o + i) (by rw [Mx.patch_length (by omega)]; omega)
    rw [hpg] at hgc
    have hgf := hbk.frozen (o + i)
    by_cases hik : i < l.length
    · have hy1 : l.getD i 0 < Mx.B := Mx.getD_lt l HB.out _
      have hnn : l ≠ [] := by intro e; subst e; simp at hik
      obtain ⟨b1, o1, rfl, hb1, hd1⟩ := hl.at hnn
      have hcx := (only_cell hg (p := ⟨b1, o1 + i, none⟩) hb1 (HNE.out hnn b1 o1 rfl)).trans (hd1 i hik)
      have hset := hbk.set (o + i) (Mx.addLo (L.getD (o + i) 0) (l.getD i 0) cr)
      have hps := Mx.patch_set (L := L) (r := out) (o := o) (x := Mx.addLo (L.getD (o + i) 0) (l.getD i 0) cr) (by omega)
      rw [hlen] at hps
      rw [hps] at hset
      have hst := add_step hlen hval rfl (by rw [hsd]; exact Mx.add_split (L.getD (o + i) 0) (l.getD i 0) cr)
      clear hd1 hpg hsd hps hbk
      generalize l.getD i 0 = y at *
      generalize L.getD (o + i) 0 = s at *
      have HA := Lib.hid (fun W => add64_run s y cr hs1 hy1 hcar W)
      have hlo := Mx.addLo_lt s y cr
      have hhi := Mx.addHi_le hs1 hy1 hcar
      generalize Mx.addLo s y cr = lo at *
      generalize Mx.addHi s y cr = h' at *
      have HS := Lib.hid hst
      have HSet := Lib.hid hset
      have hi1 : (i : Int) < (l.length : Int) := by omega
      have hi2 : (i : Int) < (l.length : Int) + 1 := by omega
      clear hst hset hs1 hy1 hval
      go_wp2_with (simp only [HA.out])
      go_roundw
      case rel => exact ⟨i + 1, out ++ [lo], h', by omega, by go_num, rfl, by simp [hlen], snoc_lt hlt hlo, hhi, HS.out, only_set hg _ _, HSet.out⟩
      case measure => simp [intOf]; omega
    · obtain rfl : i = l.length := by omega
      obtain ⟨ht1, ht2, ht3⟩ := take_zero_more l l.length rfl
      have hset := hbk.set (o + l.length) (Mx.addLo (L.getD (o + l.length) 0) 0 cr)
      have hps := Mx.patch_set (L := L) (r := out) (o := o) (x := Mx.addLo (L.getD (o + l.length) 0) 0 cr) (by omega)
      rw [hlen] at hps
      rw [hps] at hset
      have hst := add_step hlen hval ht3.symm (by rw [hsd]; exact Mx.add_split (L.getD (o + l.length) 0) 0 cr)
      rw [ht1] at hst
      clear hpg hsd hps hbk
      generalize L.getD (o + l.length) 0 = s at *
      have HA := Lib.hid (fun W => add64_run s 0 cr hs1 Mx.B_pos hcar W)
      simp only [Int.natCast_zero] at HA
      have hlo := Mx.addLo_lt s 0 cr
      have hhi := Mx.addHi_le hs1 Mx.B_pos hcar
      generalize Mx.addLo s 0 cr = lo at *
      generalize Mx.addHi s 0 cr = h' at *
      have HS := Lib.hid hst
      have HSet := Lib.hid hset
      have hi2 : (l.length : Int) < (l.length : Int) + 1 := by omega
      clear hst hset hs1 hval ht1 ht2 ht3
      go_wp2_with (simp only [HA.out])
      go_ret
      exact ⟨out ++ [lo], h', rfl, by simp [hlen], snoc_lt hlt hlo, hhi, HS.out, only_set hg _ _, HSet.out⟩

theorem sub_word {y x c : Nat} (hy : y < Mx.B) (hx : x < Mx.B) (hc : c < Mx.B) :
    Mx.addLo (Mx.mulLo y x) c 0 + Mx.B * (Mx.mulHi y x + Mx.addHi (Mx.mulLo y x) c 0) = y * x + c ∧ Mx.mulHi y x + Mx.addHi (Mx.mulLo y x) c 0 < Mx.B := by
  have h1 : Mx.mulLo y x + Mx.B * Mx.mulHi y x = y * x := Nat.mod_add_div _ _
  have h2 := Mx.add_split (Mx.mulLo y x) c 0
  have e : Mx.addLo (Mx.mulLo y x) c 0 + Mx.B * (Mx.mulHi y x + Mx.addHi (Mx.mulLo y x) c 0) = y * x + c := by rw [Nat.mul_add]; omega
  refine ⟨e, ?_⟩
  have h3 := Mx.mac_bound hy hx hc Mx.B_pos
  rw [Nat.add_zero, ← e] at h3
  exact Nat.lt_of_mul_lt_mul_left (a := Mx.B) (by omega)

set_option maxHeartbeats 1000000 in
theorem subTimes_any (w : World) (g o cp : Nat) (L : List Nat) (A : Option Addr) (l : List Nat) (c x : Nat) (hk : l.length ≤ 17592186044416) (hcp : l.length + 1 ≤ cp) (hfit : o + l.length + 1 ≤ L.length) (hblk : Blk w g L) (hL : ∀ y ∈ L, y < Mx.B)
    (hl : Cells w A l) (hb : ∀ y ∈ l, y < Mx.B) (hx : x < Mx.B) (hne : l ≠ [] → ∀ b p, A = some ⟨b, p, none⟩ → b ≠ g) :
    Calls Tryd.prog 80 #[.slice (some ⟨g, o, none⟩) (l.length + 1) cp, .slice A l.length c, .int .u64 (x : Int)] w fun e w' =>
      ∃ (out : List Nat) (br : Nat), e = .returned (.bool ((br : Int) != 0)) ∧ out.length = l.length + 1 ∧ (∀ y ∈ out, y < Mx.B) ∧ br ≤ 1 ∧ Mx.val out + x * Mx.val l = Mx.val ((L.drop o).take (l.length + 1)) + Mx.B ^ (l.length + 1) * br ∧
        w.grownBy w' (some g) ∧ Blk w' g (Mx.patch L o out) := by
  have HL := Lib.hid hL
  have HB := Lib.hid hb
  have HNE := Lib.hid hne
  clear hL hb hne
  go_enter Tryd.func80, Tryd.ntmps80
  go_wp2
  go_loopw [7, 8, 17] (fun cv bv iv wr => ∃ (i : Nat) (out : List Nat) (cr br : Nat), i ≤ l.length ∧ iv = .int .i64 i ∧ cv = .int .u64 (cr : Int) ∧ bv = .int .u64 (br : Int) ∧ out.length = i ∧ (∀ y ∈ out, y < Mx.B) ∧ cr < Mx.B ∧ br ≤ 1 ∧ Mx.val out + x * Mx.val (l.take i) = Mx.val ((L.drop o).take i) + Mx.B ^ i * (br + cr) ∧ w.grownBy wr (some g) ∧ Blk wr g (Mx.patch L o out)) (fun _ _ iv _ => l.length - (intOf iv).toNat)
  case atStart => exact ⟨0, [], 0, 0, Nat.zero_le _, rfl, rfl, rfl, rfl, by simp, Mx.B_pos, by omega, by simp [Mx.val], only_refl _ _, by rw [Mx.patch_nil]; exact hblk⟩
  case round =>
    obtain ⟨i, out, cr, br, hi, rfl, rfl, rfl, hlen, hlt, hcar, hbr, hval, hg, hbk⟩ := hrel
    have hs1 : L.getD (o + i) 0 < Mx.B := Mx.getD_lt L HL.out _
    have hsd := drop_getD L o i
    have hpg : (Mx.patch L o out).getD (o + i) 0 = L.getD (o + i) 0 := by
      have := Mx.patch_getD (L := L) (r := out) (o := o) (by omega)
      rwa [hlen] at this
    have hgc := hbk.cell (i := o + i) (by rw [Mx.patch_length (by omega)]; omega)
    rw [hpg] at hgc
    have hgf := hbk.frozen (o + i)
    by_cases hik : i < l.length
    · have hy1 : l.getD i 0 < Mx.B := Mx.getD_lt l HB.out _
      have hnn : l ≠ [] := by intro e; subst e; simp at hik
      obtain ⟨b1, o1, rfl, hb1, hd1⟩ := hl.at hnn
      have hcx := (only_cell hg (p := ⟨b1, o1 + i, none⟩) hb1 (HNE.out hnn b1 o1 rfl)).trans (hd1 i hik)
      obtain ⟨hw1, hw2⟩ := sub_word hy1 hx hcar
      have hml : Mx.mulLo (l.getD i 0) x < Mx.B := Nat.mod_lt _ Mx.B_pos
      have hst : ∀ lo b', lo + Mx.addLo (Mx.mulLo (l.getD i 0) x) cr 0 + br = L.getD (o + i) 0 + Mx.B * b' → _ := fun lo b' h => sub_step2 (lo := lo) (b' := b') hlen hval rfl hw1 (by rw [hsd]; exact h)
      have hset := fun z => hbk.set (o + i) z
      have hps := fun z => Mx.patch_set (L := L) (r := out) (o := o) (x := z) (by omega)
      simp only [hlen] at hps
      simp only [hps] at hset
      clear hd1 hpg hsd hps hbk
      generalize l.getD i 0 = y at *
      generalize L.getD (o + i) 0 = s at *
      have HM := Lib.hid (fun W => mul64_any y x hy1 hx W)
      have HA := Lib.hid (fun W => add64_run (Mx.mulLo y x) cr 0 hml hcar (by omega) W)
      simp only [Int.natCast_zero] at HA
      have hlo2 := Mx.addLo_lt (Mx.mulLo y x) cr 0
      generalize Mx.mulLo y x = ml at *
      generalize Mx.mulHi y x = mh at *
      generalize Mx.addLo ml cr 0 = lo2 at *
      generalize Mx.addHi ml cr 0 = ov at *
      have hw3 := wrap_sum mh ov hw2
      generalize mh + ov = c' at *
      have HSB := Lib.hid (fun W => sub64_run s lo2 br hbr W)
      have hst := hst _ _ (Mx.sub_split hs1 hlo2 hbr)
      have hset := hset (Mx.subLo s lo2 br)
      have hlo := Mx.subLo_lt s lo2 br
      have hhi := Mx.subHi_le s lo2 br
      generalize Mx.subLo s lo2 br = lo at *
      generalize Mx.subHi s lo2 br = h' at *
      have HS := Lib.hid hst
      have HSet := Lib.hid hset
      have hi1 : (i : Int) < (l.length : Int) := by omega
      have hi2 : (i : Int) < (l.length : Int) + 1 := by omega
      clear hst hset hs1 hy1 hval hw1 hml hlo2 hcar
      go_wp2_with (first | (go_at_call 64; refine (HM.out _).mono ?_; rintro e w' ⟨rfl, rfl⟩) | (simp only [HA.out]) | (simp only [HSB.out]))
      go_roundw
      case rel => exact ⟨i + 1, out ++ [lo], c', h', by omega, by go_num, rfl, rfl, by simp [hlen], snoc_lt hlt hlo, hw2, hhi, HS.out, only_set hg _ _, HSet.out⟩
      case measure => simp [intOf]; omega
    · obtain rfl : i = l.length := by omega
      have hset := fun z => hbk.set (o + l.length) z
      have hps := fun z => Mx.patch_set (L := L) (r := out) (o := o) (x := z) (by omega)
      simp only [hlen] at hps
      simp only [hps] at hset
      have hst := sub_last rfl hlen hval (by rw [hsd]; exact Mx.sub_split hs1 hcar hbr)
      have hset := hset (Mx.subLo (L.getD (o + l.length) 0) cr br)
      clear hpg hsd hps hbk
      generalize L.getD (o + l.length) 0 = s at *
      have HSB := Lib.hid (fun W => sub64_run s cr br hbr W)
      have hlo := Mx.subLo_lt s cr br
      have hhi := Mx.subHi_le s cr br
      generalize Mx.subLo s cr br = lo at *
      generalize Mx.subHi s cr br = h' at *
      have HS := Lib.hid hst
      have HSet := Lib.hid hset
      have hi2 : (l.length : Int) < (l.length : Int) + 1 := by omega
      clear hst hset hs1 hval
      go_wp2_with (simp only [HSB.out])
      go_ret
      exact ⟨out ++ [lo], h', rfl, by simp [hlen], snoc_lt hlt hlo, hhi, HS.out, only_set hg _ _, HSet.out⟩
end Go.Proofs.YtckcjiojfpaikaaDoor
