/- Package frac: Den, Num, Sign, Neg, From, Cmp, Of. Written by a script (tools/laws). -/
import Derived.Test.YtlkiikchjeapfaaDoorFrB
namespace Go.Proofs.YtlkiikchjeapfaaDoor.Z
open Go.RowKit Go.Proofs.YtlkiikchjeapfaaDoor.Rg
set_option maxRecDepth 100000 in
set_option maxHeartbeats 4000000 in
theorem den_f0 {w : World} {v0 : Value} {z : Int} {n k : Nat} (h0 : (isF z n k) w v0) (hn : n = 0) : Calls Tryd.prog 28 #[v0] w (Ret w fun v w' => (isN 1 1) w' v) := by
  refine enter (s := soft) (n := 10) (c := (.seq (.region 0 (regionOps Tryd.f28 0) false) (.seq (.seq (.region 1 (regionOps Tryd.f28 1) false) (.cond (.tmp 5) (.seq (.region 2 (regionOps Tryd.f28 2) false) .ret) .skip)) (.seq (.region 3 (regionOps Tryd.f28 3) false) .ret)))) Tryd.func28 (by kernel_rfl) (by kernel_rfl) (by simp) [(0, (isF z n k))] ⟨⟨by simp, h0⟩, trivial⟩ ?_
  intro kf a hS
  refine plain_seq (m := 2) (by kernel_rfl) ?_
  refine box0 (p := 1) (y := 0) (t := 30) (q := (isF z n k)) hS (by kernel_rfl) rfl rfl rfl (List.Mem.head _) shF trivial ⟨(stb_F _ _ _), trivial⟩ ?_
  clear hS kf a
  try clear w
  intro kf a w hS
  refine alloc0 (p := 2) (t := 26) hS (by kernel_rfl) rfl rfl rfl (by kernel_rfl) ⟨(stb_F _ _ _), trivial⟩ ⟨(stb_F _ _ _), trivial⟩ ?_
  clear hS kf a
  try clear w
  intro kf a w hS
  refine plain_end ?_
  refine wp_seq ?_
  refine region_seq (s := soft) (kf0 := kf) (by kernel_rfl) hS (Rg.look [(3, (isE (.pointer (some ⟨kf 1, 2, none⟩)))),
      (4, (isN n k)),
      (5, (isE (.bool (n == 0))))])
    ⟨[], []⟩ [⟨2, 26, isX⟩, ⟨1, 30, (isF z n k)⟩] [(0, (isF z n k)), (5, (isE (.bool (n == 0))))] (by kernel_rfl) (by kernel_rfl) (look_stb _ ⟨(stb_eq _), (stb_N _ _), (stb_eq _), trivial⟩) ⟨stb_true, (stb_F _ _ _), trivial⟩ ⟨(stb_F _ _ _), trivial⟩ trivial trivial
    ⟨.inr (.inl ⟨rfl, _, (List.Mem.head _), rfl, rfl, (fun _ _ h => h)⟩), .inr (.inl ⟨rfl, _, (List.Mem.tail _ (List.Mem.head _)), rfl, rfl, (fun _ _ h => h)⟩), trivial⟩
    ⟨.inr ⟨(by kernel_rfl), _, (List.Mem.head _), rfl, (fun _ _ h => h)⟩, .inl ⟨(by kernel_rfl), rfl, (fun _ _ h => h)⟩, trivial⟩
    (steps (m := 3) (by kernel_rfl) ⟨stepN (i := 0) (dst := some 3) (op := (.fieldAddr 30 (.tmp 1) 1)) (by kernel_rfl) (fieldV (off := 2) (sz := 1) (List.Mem.tail _ (List.Mem.head _)) (by kernel_rfl) (fun _ _ h => h)),
      stepN (i := 1) (dst := some 4) (op := (.load 26 (.tmp 3))) (by kernel_rfl) (loadF (sz := 1) (r := (isN n k)) (by kernel_rfl) (fun _ _ h => h) (List.Mem.tail _ (List.Mem.head _)) (by kernel_rfl) (by kernel_rfl) (by kernel_rfl) rfl fldFN (fun _ _ h => h)),
      stepN (i := 2) (dst := some 5) (op := (.call { callee := .value (.func 22), args := #[(.tmp 4)], argTypes := #[26] })) (by kernel_rfl) (call1 (enters_of Tryd.func22 (by kernel_rfl) rfl) (argT (p := (isN n k)) (by kernel_rfl) (fun _ _ h => h)) (fun w u1 h1 => zero_n h1) (fun _ _ h => h)), trivial⟩) ?_
  clear hS kf a
  try clear w
  intro kf a w hS
  refine cond_true (q := (isE (.bool (n == 0)))) hS (List.Mem.tail _ (List.Mem.head _)) (fun _ _ h => h.trans (congrArg _ (by simp [hn]))) ?_
  refine region_seq (s := soft) (kf0 := kf) (by kernel_rfl) hS (Rg.look [(6, (isS ([1]))),
      (7, (isN 1 1))])
    ⟨[], [(2, 2, 7, 26)]⟩ [⟨2, 26, (isN 1 1)⟩, ⟨1, 30, (isF z n k)⟩] [(0, (isF z n k)), (5, (isE (.bool (n == 0))))] (by kernel_rfl) (by kernel_rfl) (look_stb _ ⟨(stb_S _), (stb_N _ _), trivial⟩) ⟨stb_true, (stb_F _ _ _), trivial⟩ ⟨(stb_F _ _ _), (stb_eq _), trivial⟩ trivial ⟨shN, trivial⟩
    ⟨.inl ⟨_, (List.Mem.head _), rfl, rfl, (fun _ _ h => h)⟩, .inr (.inl ⟨rfl, _, (List.Mem.tail _ (List.Mem.head _)), rfl, rfl, (fun _ _ h => h)⟩), trivial⟩
    ⟨.inr ⟨(by kernel_rfl), _, (List.Mem.head _), rfl, (fun _ _ h => h)⟩, .inr ⟨(by kernel_rfl), _, (List.Mem.tail _ (List.Mem.head _)), rfl, (fun _ _ h => h)⟩, trivial⟩
    (steps (m := 3) (by kernel_rfl) ⟨stepN (i := 0) (dst := some 6) (op := (.buildSlice 22 1 #[(0, (.const (.int .u64 1)))])) (by kernel_rfl) (buildOneZ (x := 1) (small_lt (by decide)) (fun _ _ h => h)),
      stepN (i := 1) (dst := some 7) (op := (.call { callee := .value (.func 21), args := #[(.tmp 6)], argTypes := #[22] })) (by kernel_rfl) (call1 (enters_of Tryd.func21 (by kernel_rfl) rfl) (argT (p := (isS ([1]))) (by kernel_rfl) (fun _ _ h => h)) (fun w u1 h1 => of_one h1) (fun _ _ h => h)),
      isStore rfl, trivial⟩) ?_
  clear hS kf a
  try clear w
  intro kf a w hS
  exact wp_ret (ret_c (q := (isN 1 1)) (by kernel_rfl) hS (List.Mem.head _) (fun v h => ⟨v, rfl, h, hS.grow⟩))
set_option maxRecDepth 100000 in
set_option maxHeartbeats 4000000 in
theorem den_f1 {w : World} {v0 : Value} {z : Int} {n k : Nat} (h0 : (isF z n k) w v0) (hn : n ≠ 0) : Calls Tryd.prog 28 #[v0] w (Ret w fun v w' => (isN n k) w' v) := by
  refine enter (s := soft) (n := 10) (c := (.seq (.region 0 (regionOps Tryd.f28 0) false) (.seq (.seq (.region 1 (regionOps Tryd.f28 1) false) (.cond (.tmp 5) (.seq (.region 2 (regionOps Tryd.f28 2) false) .ret) .skip)) (.seq (.region 3 (regionOps Tryd.f28 3) false) .ret)))) Tryd.func28 (by kernel_rfl) (by kernel_rfl) (by simp) [(0, (isF z n k))] ⟨⟨by simp, h0⟩, trivial⟩ ?_
  intro kf a hS
  refine plain_seq (m := 2) (by kernel_rfl) ?_
  refine box0 (p := 1) (y := 0) (t := 30) (q := (isF z n k)) hS (by kernel_rfl) rfl rfl rfl (List.Mem.head _) shF trivial ⟨(stb_F _ _ _), trivial⟩ ?_
  clear hS kf a
  try clear w
  intro kf a w hS
  refine alloc0 (p := 2) (t := 26) hS (by kernel_rfl) rfl rfl rfl (by kernel_rfl) ⟨(stb_F _ _ _), trivial⟩ ⟨(stb_F _ _ _), trivial⟩ ?_
  clear hS kf a
  try clear w
  intro kf a w hS
  refine plain_end ?_
  refine wp_seq ?_
  refine region_seq (s := soft) (kf0 := kf) (by kernel_rfl) hS (Rg.look [(3, (isE (.pointer (some ⟨kf 1, 2, none⟩)))),
      (4, (isN n k)),
      (5, (isE (.bool (n == 0))))])
    ⟨[], []⟩ [⟨2, 26, isX⟩, ⟨1, 30, (isF z n k)⟩] [(0, (isF z n k)), (5, (isE (.bool (n == 0))))] (by kernel_rfl) (by kernel_rfl) (look_stb _ ⟨(stb_eq _), (stb_N _ _), (stb_eq _), trivial⟩) ⟨stb_true, (stb_F _ _ _), trivial⟩ ⟨(stb_F _ _ _), trivial⟩ trivial trivial
    ⟨.inr (.inl ⟨rfl, _, (List.Mem.head _), rfl, rfl, (fun _ _ h => h)⟩), .inr (.inl ⟨rfl, _, (List.Mem.tail _ (List.Mem.head _)), rfl, rfl, (fun _ _ h => h)⟩), trivial⟩
    ⟨.inr ⟨(by kernel_rfl), _, (List.Mem.head _), rfl, (fun _ _ h => h)⟩, .inl ⟨(by kernel_rfl), rfl, (fun _ _ h => h)⟩, trivial⟩
    (steps (m := 3) (by kernel_rfl) ⟨stepN (i := 0) (dst := some 3) (op := (.fieldAddr 30 (.tmp 1) 1)) (by kernel_rfl) (fieldV (off := 2) (sz := 1) (List.Mem.tail _ (List.Mem.head _)) (by kernel_rfl) (fun _ _ h => h)),
      stepN (i := 1) (dst := some 4) (op := (.load 26 (.tmp 3))) (by kernel_rfl) (loadF (sz := 1) (r := (isN n k)) (by kernel_rfl) (fun _ _ h => h) (List.Mem.tail _ (List.Mem.head _)) (by kernel_rfl) (by kernel_rfl) (by kernel_rfl) rfl fldFN (fun _ _ h => h)),
      stepN (i := 2) (dst := some 5) (op := (.call { callee := .value (.func 22), args := #[(.tmp 4)], argTypes := #[26] })) (by kernel_rfl) (call1 (enters_of Tryd.func22 (by kernel_rfl) rfl) (argT (p := (isN n k)) (by kernel_rfl) (fun _ _ h => h)) (fun w u1 h1 => zero_n h1) (fun _ _ h => h)), trivial⟩) ?_
  clear hS kf a
  try clear w
  intro kf a w hS
  refine cond_false (q := (isE (.bool (n == 0)))) hS (List.Mem.tail _ (List.Mem.head _)) (fun _ _ h => h.trans (congrArg _ (by simp [hn]))) ?_
  refine skip_then ?_
  refine region_seq (s := soft) (kf0 := kf) (by kernel_rfl) hS (Rg.look [(8, (isE (.pointer (some ⟨kf 1, 2, none⟩)))),
      (9, (isN n k))])
    ⟨[], [(2, 2, 9, 26)]⟩ [⟨2, 26, (isN n k)⟩, ⟨1, 30, (isF z n k)⟩] [(0, (isF z n k)), (5, (isE (.bool (n == 0))))] (by kernel_rfl) (by kernel_rfl) (look_stb _ ⟨(stb_eq _), (stb_N _ _), trivial⟩) ⟨stb_true, (stb_F _ _ _), trivial⟩ ⟨(stb_F _ _ _), (stb_eq _), trivial⟩ trivial ⟨shN, trivial⟩
    ⟨.inl ⟨_, (List.Mem.head _), rfl, rfl, (fun _ _ h => h)⟩, .inr (.inl ⟨rfl, _, (List.Mem.tail _ (List.Mem.head _)), rfl, rfl, (fun _ _ h => h)⟩), trivial⟩
    ⟨.inr ⟨(by kernel_rfl), _, (List.Mem.head _), rfl, (fun _ _ h => h)⟩, .inr ⟨(by kernel_rfl), _, (List.Mem.tail _ (List.Mem.head _)), rfl, (fun _ _ h => h)⟩, trivial⟩
    (steps (m := 3) (by kernel_rfl) ⟨stepN (i := 0) (dst := some 8) (op := (.fieldAddr 30 (.tmp 1) 1)) (by kernel_rfl) (fieldV (off := 2) (sz := 1) (List.Mem.tail _ (List.Mem.head _)) (by kernel_rfl) (fun _ _ h => h)),
      stepN (i := 1) (dst := some 9) (op := (.load 26 (.tmp 8))) (by kernel_rfl) (loadF (sz := 1) (r := (isN n k)) (by kernel_rfl) (fun _ _ h => h) (List.Mem.tail _ (List.Mem.head _)) (by kernel_rfl) (by kernel_rfl) (by kernel_rfl) rfl fldFN (fun _ _ h => h)),
      isStore rfl, trivial⟩) ?_
  clear hS kf a
  try clear w
  intro kf a w hS
  exact wp_ret (ret_c (q := (isN n k)) (by kernel_rfl) hS (List.Mem.head _) (fun v h => ⟨v, rfl, h, hS.grow⟩))
theorem den_q {w : World} {v : Value} {q : Rat} {k : Nat} (h : isQ q k w v) : Calls Tryd.prog 28 #[v] w (Ret w fun v' w' => isN q.den k w' v') := by
  obtain ⟨hk, n, h1, h2⟩ := h
  by_cases hn : n = 0
  · refine (den_f0 h1 hn).mono fun _ _ r => r.mono fun _ _ g => ?_
    rcases h2 with e | ⟨_, e⟩
    · exact absurd (e.symm.trans hn) q.den_nz
    · subst e
      exact g.weak hk
  · refine (den_f1 h1 hn).mono fun _ _ r => r.mono fun _ _ g => ?_
    rcases h2 with e | ⟨e, _⟩
    · subst e; exact g
    · exact absurd e hn
set_option maxRecDepth 100000 in
set_option maxHeartbeats 4000000 in
theorem sign_q {w : World} {v0 : Value} {q : Rat} {k : Nat} (h0 : (isQ q k) w v0)  : Calls Tryd.prog 11 #[v0] w (Ret w fun v w' => (isE (.int .i64 (Int.sign q.num))) w' v) := by
  refine enter (s := soft) (n := 6) (c := (.seq (.region 0 (regionOps Tryd.f11 0) false) (.seq (.region 1 (regionOps Tryd.f11 1) false) .ret))) Tryd.func11 (by kernel_rfl) (by kernel_rfl) (by simp) [(0, (isQ q k))] ⟨⟨by simp, h0⟩, trivial⟩ ?_
  intro kf a hS
  refine plain_seq (m := 2) (by kernel_rfl) ?_
  refine box0 (p := 1) (y := 0) (t := 30) (q := (isQ q k)) hS (by kernel_rfl) rfl rfl rfl (List.Mem.head _) shQ trivial ⟨(stb_Q _ _), trivial⟩ ?_
  clear hS kf a
  try clear w
  intro kf a w hS
  refine const0 (p := 2) (c := (.int .i64 0)) hS (by kernel_rfl) rfl rfl rfl ?_
  clear hS kf a
  try clear w
  intro kf a w hS
  refine plain_end ?_
  refine region_seq (s := soft) (kf0 := kf) (by kernel_rfl) hS (Rg.look [(3, (isE (.pointer (some ⟨kf 1, 0, none⟩)))),
      (4, (isW q.num k)),
      (5, (isE (.int .i64 (Int.sign q.num)))),
      (2, (isE (.int .i64 (Int.sign q.num))))])
    ⟨[], []⟩ [⟨1, 30, (isQ q k)⟩] [(0, (isQ q k)), (2, (isE (.int .i64 (Int.sign q.num))))] (by kernel_rfl) (by kernel_rfl) (look_stb _ ⟨(stb_eq _), (stb_W _ _), (stb_eq _), (stb_eq _), trivial⟩) ⟨(stb_Q _ _), trivial⟩ ⟨(stb_eq _), (stb_Q _ _), trivial⟩ trivial trivial
    ⟨.inr (.inl ⟨rfl, _, (List.Mem.head _), rfl, rfl, (fun _ _ h => h)⟩), trivial⟩
    ⟨.inr ⟨(by kernel_rfl), _, (List.Mem.tail _ (List.Mem.head _)), rfl, (fun _ _ h => h)⟩, .inl ⟨(by kernel_rfl), rfl, (fun _ _ h => h)⟩, trivial⟩
    (steps (m := 4) (by kernel_rfl) ⟨stepN (i := 0) (dst := some 3) (op := (.fieldAddr 30 (.tmp 1) 0)) (by kernel_rfl) (fieldV (off := 0) (sz := 2) (List.Mem.head _) (by kernel_rfl) (fun _ _ h => h)),
      stepN (i := 1) (dst := some 4) (op := (.load 28 (.tmp 3))) (by kernel_rfl) (loadF (sz := 2) (r := (isW q.num k)) (by kernel_rfl) (fun _ _ h => h) (List.Mem.head _) (by kernel_rfl) (by kernel_rfl) (by kernel_rfl) rfl fldQW (fun _ _ h => h)),
      stepN (i := 2) (dst := some 5) (op := (.call { callee := .value (.func 34), args := #[(.tmp 4)], argTypes := #[28] })) (by kernel_rfl) (call1 (enters_of Tryd.func34 (by kernel_rfl) rfl) (argT (p := (isW q.num k)) (by kernel_rfl) (fun _ _ h => h)) (fun w u1 h1 => sign_w h1) (fun _ _ h => h)),
      stepN (i := 3) (dst := some 2) (op := (.assign (.tmp 5))) (by kernel_rfl) (assign (argT (p := (isE (.int .i64 (Int.sign q.num)))) (by kernel_rfl) (fun _ _ h => h)) (fun _ _ h => h)), trivial⟩) ?_
  clear hS kf a
  try clear w
  intro kf a w hS
  exact wp_ret (ret_t (q := (isE (.int .i64 (Int.sign q.num)))) (by kernel_rfl) hS (List.Mem.tail _ (List.Mem.head _)) (fun v h => ⟨v, rfl, h, hS.grow⟩))
set_option maxRecDepth 100000 in
set_option maxHeartbeats 4000000 in
theorem neg_f {w : World} {v0 : Value} {z : Int} {n k : Nat} (h0 : (isF z n k) w v0)  : Calls Tryd.prog 19 #[v0] w (Ret w fun v w' => (isF (-z) n k) w' v) := by
  refine enter (s := soft) (n := 9) (c := (.seq (.region 0 (regionOps Tryd.f19 0) false) (.seq (.region 1 (regionOps Tryd.f19 1) true) .ret))) Tryd.func19 (by kernel_rfl) (by kernel_rfl) (by simp) [(0, (isF z n k))] ⟨⟨by simp, h0⟩, trivial⟩ ?_
  intro kf a hS
  refine plain_seq (m := 2) (by kernel_rfl) ?_
  refine box0 (p := 1) (y := 0) (t := 30) (q := (isF z n k)) hS (by kernel_rfl) rfl rfl rfl (List.Mem.head _) shF trivial ⟨(stb_F _ _ _), trivial⟩ ?_
  clear hS kf a
  try clear w
  intro kf a w hS
  refine alloc0 (p := 2) (t := 30) hS (by kernel_rfl) rfl rfl rfl (by kernel_rfl) ⟨(stb_F _ _ _), trivial⟩ ⟨(stb_F _ _ _), trivial⟩ ?_
  clear hS kf a
  try clear w
  intro kf a w hS
  refine plain_end ?_
  refine region_seq (s := soft) (kf0 := kf) (by kernel_rfl) hS (Rg.look [(3, (isE (.pointer (some ⟨kf 1, 0, none⟩)))),
      (4, (isW z k)),
      (5, (isW (-z) k)),
      (6, (isE (.pointer (some ⟨kf 1, 2, none⟩)))),
      (7, (isN n k)),
      (8, (isF (-z) n k))])
    ⟨[], [(6, 2, 8, 30)]⟩ [⟨2, 30, (isF (-z) n k)⟩, ⟨1, 30, (isF z n k)⟩] [(0, (isF z n k))] (by kernel_rfl) (by kernel_rfl) (look_stb _ ⟨(stb_eq _), (stb_W _ _), (stb_W _ _), (stb_eq _), (stb_N _ _), (stb_F _ _ _), trivial⟩) ⟨stb_true, (stb_F _ _ _), trivial⟩ ⟨(stb_F _ _ _), trivial⟩ trivial ⟨shF, trivial⟩
    ⟨.inl ⟨_, (List.Mem.head _), rfl, rfl, (fun _ _ h => h)⟩, .inr (.inl ⟨rfl, _, (List.Mem.tail _ (List.Mem.head _)), rfl, rfl, (fun _ _ h => h)⟩), trivial⟩
    ⟨.inr ⟨(by kernel_rfl), _, (List.Mem.head _), rfl, (fun _ _ h => h)⟩, trivial⟩
    (steps (m := 7) (by kernel_rfl) ⟨stepN (i := 0) (dst := some 3) (op := (.fieldAddr 30 (.tmp 1) 0)) (by kernel_rfl) (fieldV (off := 0) (sz := 2) (List.Mem.tail _ (List.Mem.head _)) (by kernel_rfl) (fun _ _ h => h)),
      stepN (i := 1) (dst := some 4) (op := (.load 28 (.tmp 3))) (by kernel_rfl) (loadF (sz := 2) (r := (isW z k)) (by kernel_rfl) (fun _ _ h => h) (List.Mem.tail _ (List.Mem.head _)) (by kernel_rfl) (by kernel_rfl) (by kernel_rfl) rfl fldFW (fun _ _ h => h)),
      stepN (i := 2) (dst := some 5) (op := (.call { callee := .value (.func 43), args := #[(.tmp 4)], argTypes := #[28] })) (by kernel_rfl) (call1 (enters_of Tryd.func43 (by kernel_rfl) rfl) (argT (p := (isW z k)) (by kernel_rfl) (fun _ _ h => h)) (fun w u1 h1 => neg_w h1) (fun _ _ h => h)),
      stepN (i := 3) (dst := some 6) (op := (.fieldAddr 30 (.tmp 1) 1)) (by kernel_rfl) (fieldV (off := 2) (sz := 1) (List.Mem.tail _ (List.Mem.head _)) (by kernel_rfl) (fun _ _ h => h)),
      stepN (i := 4) (dst := some 7) (op := (.load 26 (.tmp 6))) (by kernel_rfl) (loadF (sz := 1) (r := (isN n k)) (by kernel_rfl) (fun _ _ h => h) (List.Mem.tail _ (List.Mem.head _)) (by kernel_rfl) (by kernel_rfl) (by kernel_rfl) rfl fldFN (fun _ _ h => h)),
      stepN (i := 5) (dst := some 8) (op := (.build 30 #[(0, (.tmp 5)), (1, (.tmp 7))])) (by kernel_rfl) (buildF (m := k) (argT (p := (isW (-z) k)) (by kernel_rfl) (fun _ _ h => h)) (argT (p := (isN n k)) (by kernel_rfl) (fun _ _ h => h)) (by omega) (by omega) (fun _ _ h => h)),
      isStore rfl, trivial⟩) ?_
  clear hS kf a
  try clear w
  intro kf a w hS
  exact wp_ret (ret_c (q := (isF (-z) n k)) (by kernel_rfl) hS (List.Mem.head _) (fun v h => ⟨v, rfl, h, hS.grow⟩))
theorem neg_q {w : World} {v : Value} {q : Rat} {k : Nat} (h : isQ q k w v) : Calls Tryd.prog 19 #[v] w (Ret w fun v' w' => isQ (-q) k w' v') := by
  obtain ⟨hk, n, h1, h2⟩ := h
  refine (neg_f h1).mono fun _ _ r => r.mono fun _ _ g => ⟨hk, n, g, ?_⟩
  rcases h2 with e | ⟨e, e2⟩
  · exact .inl e
  · exact .inr ⟨e, by rw [e2]; rfl⟩
set_option maxRecDepth 100000 in
set_option maxHeartbeats 4000000 in
theorem from_q {w : World} {v0 : Value} {z : Int} {k : Nat} (h0 : (isW z k) w v0)  : Calls Tryd.prog 16 #[v0] w (Ret w fun v w' => (isQ ((z : Int) : Rat) (max k 1)) w' v) := by
  refine enter (s := soft) (n := 7) (c := (.seq (.region 0 (regionOps Tryd.f16 0) false) (.seq (.region 1 (regionOps Tryd.f16 1) true) .ret))) Tryd.func16 (by kernel_rfl) (by kernel_rfl) (by simp) [(0, (isW z k))] ⟨⟨by simp, h0⟩, trivial⟩ ?_
  intro kf a hS
  refine plain_seq (m := 2) (by kernel_rfl) ?_
  refine box0 (p := 1) (y := 0) (t := 28) (q := (isW z k)) hS (by kernel_rfl) rfl rfl rfl (List.Mem.head _) shW trivial ⟨(stb_W _ _), trivial⟩ ?_
  clear hS kf a
  try clear w
  intro kf a w hS
  refine alloc0 (p := 2) (t := 30) hS (by kernel_rfl) rfl rfl rfl (by kernel_rfl) ⟨(stb_W _ _), trivial⟩ ⟨(stb_W _ _), trivial⟩ ?_
  clear hS kf a
  try clear w
  intro kf a w hS
  refine plain_end ?_
  refine region_seq (s := soft) (kf0 := kf) (by kernel_rfl) hS (Rg.look [(3, (isW z k)),
      (4, (isS ([1]))),
      (5, (isN 1 1)),
      (6, (isF z 1 (max k 1)))])
    ⟨[], [(4, 2, 6, 30)]⟩ [⟨2, 30, (isF z 1 (max k 1))⟩, ⟨1, 28, (isW z k)⟩] [(0, (isW z k))] (by kernel_rfl) (by kernel_rfl) (look_stb _ ⟨(stb_W _ _), (stb_S _), (stb_N _ _), (stb_F _ _ _), trivial⟩) ⟨stb_true, (stb_W _ _), trivial⟩ ⟨(stb_W _ _), trivial⟩ trivial ⟨shF, trivial⟩
    ⟨.inl ⟨_, (List.Mem.head _), rfl, rfl, (fun _ _ h => h)⟩, .inr (.inl ⟨rfl, _, (List.Mem.tail _ (List.Mem.head _)), rfl, rfl, (fun _ _ h => h)⟩), trivial⟩
    ⟨.inr ⟨(by kernel_rfl), _, (List.Mem.head _), rfl, (fun _ _ h => h)⟩, trivial⟩
    (steps (m := 5) (by kernel_rfl) ⟨stepN (i := 0) (dst := some 3) (op := (.load 28 (.tmp 1))) (by kernel_rfl) (loadV (List.Mem.tail _ (List.Mem.head _)) (by kernel_rfl) (fun _ _ h => h)),
      stepN (i := 1) (dst := some 4) (op := (.buildSlice 22 1 #[(0, (.const (.int .u64 1)))])) (by kernel_rfl) (buildOneZ (x := 1) (small_lt (by decide)) (fun _ _ h => h)),
      stepN (i := 2) (dst := some 5) (op := (.call { callee := .value (.func 21), args := #[(.tmp 4)], argTypes := #[22] })) (by kernel_rfl) (call1 (enters_of Tryd.func21 (by kernel_rfl) rfl) (argT (p := (isS ([1]))) (by kernel_rfl) (fun _ _ h => h)) (fun w u1 h1 => of_one h1) (fun _ _ h => h)),
      stepN (i := 3) (dst := some 6) (op := (.build 30 #[(0, (.tmp 3)), (1, (.tmp 5))])) (by kernel_rfl) (buildF (m := max k 1) (argT (p := (isW z k)) (by kernel_rfl) (fun _ _ h => h)) (argT (p := (isN 1 1)) (by kernel_rfl) (fun _ _ h => h)) (by omega) (by omega) (fun _ _ h => h)),
      isStore rfl, trivial⟩) ?_
  clear hS kf a
  try clear w
  intro kf a w hS
  exact wp_ret (ret_c (q := (isF z 1 (max k 1))) (by kernel_rfl) hS (List.Mem.head _) (fun v h => ⟨v, rfl, (IsF.q h (by omega) rfl rfl), hS.grow⟩))
set_option maxRecDepth 100000 in
set_option maxHeartbeats 4000000 in
theorem cmp_q {w : World} {v0 v1 : Value} {x y : Rat} {k j : Nat} (h0 : (isQ x k) w v0) (h1 : (isQ y j) w v1) (hk : k ≤ 268435456) (hj : j ≤ 268435456) : Calls Tryd.prog 9 #[v0, v1] w (Ret w fun v w' => (isE (.int .i64 (cmpQ x y))) w' v) := by
  refine enter (s := soft) (n := 16) (c := (.seq (.region 0 (regionOps Tryd.f9 0) false) (.seq (.region 1 (regionOps Tryd.f9 1) true) .ret))) Tryd.func9 (by kernel_rfl) (by kernel_rfl) (by simp) [(0, (isQ x k)), (1, (isQ y j))] ⟨⟨by simp, h0⟩, ⟨by simp, h1⟩, trivial⟩ ?_
  intro kf a hS
  refine plain_seq (m := 3) (by kernel_rfl) ?_
  refine box0 (p := 2) (y := 0) (t := 30) (q := (isQ x k)) hS (by kernel_rfl) rfl rfl rfl (List.Mem.head _) shQ trivial ⟨(stb_Q _ _), (stb_Q _ _), trivial⟩ ?_
  clear hS kf a
  try clear w
  intro kf a w hS
  refine box0 (p := 3) (y := 1) (t := 30) (q := (isQ y j)) hS (by kernel_rfl) rfl rfl rfl (List.Mem.tail _ (List.Mem.head _)) shQ ⟨(stb_Q _ _), trivial⟩ ⟨(stb_Q _ _), (stb_Q _ _), trivial⟩ ?_
  clear hS kf a
  try clear w
  intro kf a w hS
  refine const0 (p := 4) (c := (.int .i64 0)) hS (by kernel_rfl) rfl rfl rfl ?_
  clear hS kf a
  try clear w
  intro kf a w hS
  refine plain_end ?_
  refine region_seq (s := soft) (kf0 := kf) (by kernel_rfl) hS (Rg.look [(5, (isE (.pointer (some ⟨kf 2, 0, none⟩)))),
      (6, (isW x.num k)),
      (7, (isQ y j)),
      (8, (isN y.den j)),
      (9, (isW (x.num * (y.den : Nat)) (k + j))),
      (10, (isE (.pointer (some ⟨kf 3, 0, none⟩)))),
      (11, (isW y.num j)),
      (12, (isQ x k)),
      (13, (isN x.den k)),
      (14, (isW (y.num * (x.den : Nat)) (j + k))),
      (15, (isE (.int .i64 (Int.sign ((x.num * (y.den : Nat)) - (y.num * (x.den : Nat))))))),
      (4, (isE (.int .i64 (Int.sign ((x.num * (y.den : Nat)) - (y.num * (x.den : Nat)))))))])
    ⟨[], []⟩ [⟨3, 30, (isQ y j)⟩, ⟨2, 30, (isQ x k)⟩] [(0, (isQ x k)), (1, (isQ y j)), (4, (isE (.int .i64 (Int.sign ((x.num * (y.den : Nat)) - (y.num * (x.den : Nat)))))))] (by kernel_rfl) (by kernel_rfl) (look_stb _ ⟨(stb_eq _), (stb_W _ _), (stb_Q _ _), (stb_N _ _), (stb_W _ _), (stb_eq _), (stb_W _ _), (stb_Q _ _), (stb_N _ _), (stb_W _ _), (stb_eq _), (stb_eq _), trivial⟩) ⟨(stb_Q _ _), (stb_Q _ _), trivial⟩ ⟨(stb_eq _), (stb_Q _ _), (stb_Q _ _), trivial⟩ trivial trivial
    ⟨.inr (.inl ⟨rfl, _, (List.Mem.head _), rfl, rfl, (fun _ _ h => h)⟩), .inr (.inl ⟨rfl, _, (List.Mem.tail _ (List.Mem.head _)), rfl, rfl, (fun _ _ h => h)⟩), trivial⟩
    ⟨.inr ⟨(by kernel_rfl), _, (List.Mem.tail _ (List.Mem.head _)), rfl, (fun _ _ h => h)⟩, .inr ⟨(by kernel_rfl), _, (List.Mem.tail _ (List.Mem.tail _ (List.Mem.head _))), rfl, (fun _ _ h => h)⟩, .inl ⟨(by kernel_rfl), rfl, (fun _ _ h => h)⟩, trivial⟩
    (steps (m := 12) (by kernel_rfl) ⟨stepN (i := 0) (dst := some 5) (op := (.fieldAddr 30 (.tmp 2) 0)) (by kernel_rfl) (fieldV (off := 0) (sz := 2) (List.Mem.tail _ (List.Mem.head _)) (by kernel_rfl) (fun _ _ h => h)),
      stepN (i := 1) (dst := some 6) (op := (.load 28 (.tmp 5))) (by kernel_rfl) (loadF (sz := 2) (r := (isW x.num k)) (by kernel_rfl) (fun _ _ h => h) (List.Mem.tail _ (List.Mem.head _)) (by kernel_rfl) (by kernel_rfl) (by kernel_rfl) rfl fldQW (fun _ _ h => h)),
      stepN (i := 2) (dst := some 7) (op := (.load 30 (.tmp 3))) (by kernel_rfl) (loadV (List.Mem.head _) (by kernel_rfl) (fun _ _ h => h)),
      stepN (i := 3) (dst := some 8) (op := (.call { callee := .value (.func 28), args := #[(.tmp 7)], argTypes := #[30] })) (by kernel_rfl) (call1 (enters_of Tryd.func28 (by kernel_rfl) rfl) (argT (p := (isQ y j)) (by kernel_rfl) (fun _ _ h => h)) (fun w u1 h1 => den_q h1) (fun _ _ h => h)),
      stepN (i := 4) (dst := some 9) (op := (.call { callee := .value (.func 30), args := #[(.tmp 6), (.tmp 8)], argTypes := #[28, 26] })) (by kernel_rfl) (call2 (enters_of Tryd.func30 (by kernel_rfl) rfl) (argT (p := (isW x.num k)) (by kernel_rfl) (fun _ _ h => h)) (argT (p := (isN y.den j)) (by kernel_rfl) (fun _ _ h => h)) (fun w u1 u2 h1 h2 => times_z h1 h2 (by omega) (by omega)) (fun _ _ h => h)),
      stepN (i := 5) (dst := some 10) (op := (.fieldAddr 30 (.tmp 3) 0)) (by kernel_rfl) (fieldV (off := 0) (sz := 2) (List.Mem.head _) (by kernel_rfl) (fun _ _ h => h)),
      stepN (i := 6) (dst := some 11) (op := (.load 28 (.tmp 10))) (by kernel_rfl) (loadF (sz := 2) (r := (isW y.num j)) (by kernel_rfl) (fun _ _ h => h) (List.Mem.head _) (by kernel_rfl) (by kernel_rfl) (by kernel_rfl) rfl fldQW (fun _ _ h => h)),
      stepN (i := 7) (dst := some 12) (op := (.load 30 (.tmp 2))) (by kernel_rfl) (loadV (List.Mem.tail _ (List.Mem.head _)) (by kernel_rfl) (fun _ _ h => h)),
      stepN (i := 8) (dst := some 13) (op := (.call { callee := .value (.func 28), args := #[(.tmp 12)], argTypes := #[30] })) (by kernel_rfl) (call1 (enters_of Tryd.func28 (by kernel_rfl) rfl) (argT (p := (isQ x k)) (by kernel_rfl) (fun _ _ h => h)) (fun w u1 h1 => den_q h1) (fun _ _ h => h)),
      stepN (i := 9) (dst := some 14) (op := (.call { callee := .value (.func 30), args := #[(.tmp 11), (.tmp 13)], argTypes := #[28, 26] })) (by kernel_rfl) (call2 (enters_of Tryd.func30 (by kernel_rfl) rfl) (argT (p := (isW y.num j)) (by kernel_rfl) (fun _ _ h => h)) (argT (p := (isN x.den k)) (by kernel_rfl) (fun _ _ h => h)) (fun w u1 u2 h1 h2 => times_z h1 h2 (by omega) (by omega)) (fun _ _ h => h)),
      stepN (i := 10) (dst := some 15) (op := (.call { callee := .value (.func 18), args := #[(.tmp 9), (.tmp 14)], argTypes := #[28, 28] })) (by kernel_rfl) (call2 (enters_of Tryd.func18 (by kernel_rfl) rfl) (argT (p := (isW (x.num * (y.den : Nat)) (k + j))) (by kernel_rfl) (fun _ _ h => h)) (argT (p := (isW (y.num * (x.den : Nat)) (j + k))) (by kernel_rfl) (fun _ _ h => h)) (fun w u1 u2 h1 h2 => cmp_w h1 h2 (by omega) (by omega)) (fun _ _ h => h)),
      stepN (i := 11) (dst := some 4) (op := (.assign (.tmp 15))) (by kernel_rfl) (assign (argT (p := (isE (.int .i64 (Int.sign ((x.num * (y.den : Nat)) - (y.num * (x.den : Nat))))))) (by kernel_rfl) (fun _ _ h => h)) (fun _ _ h => h)), trivial⟩) ?_
  clear hS kf a
  try clear w
  intro kf a w hS
  exact wp_ret (ret_t (q := (isE (.int .i64 (Int.sign ((x.num * (y.den : Nat)) - (y.num * (x.den : Nat))))))) (by kernel_rfl) hS (List.Mem.tail _ (List.Mem.tail _ (List.Mem.head _))) (fun v h => ⟨v, rfl, (h), hS.grow⟩))
end Go.Proofs.YtlkiikchjeapfaaDoor.Z
