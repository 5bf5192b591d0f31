/- XmpTells: the walk. -/
import Derived.Test.YtookmfgnhflpaaaXmAwake
import Derived.Test.YtookmfgnhflpaaaTail2
import Derived.Deep.QuietTactic
import Derived.BigQuiet
import Derived.IntWalk
import Derived.Deep.AppendLies
namespace Go.Proofs.Ytookmfgnhflpaaa.xmpTells
open Go.RowKit
set_option linter.unusedVariables false
set_option linter.unusedSimpArgs false

set_option maxRecDepth 100000 in
set_option maxHeartbeats 16000000 in
theorem walk (c t : Int) (A : Option Addr) (m cc : Nat) (l : List Sp) (i n : Int) (all : Bool) (mss most : Int) (w : World) (hs : Ss w A m cc l) :
    Calls Try.prog 3 #[.agg #[.int .i64 c, .int .i64 t], .slice A m cc, .int .i64 i, .int .i64 n, .bool all, .int .i64 mss, .int .i64 most] w fun e w' => e = .returned (.bool true) ∧ Below w.heap.size w w' := by
  have m1 := hs.le
  have m2 := hs.max
  have m3 : m ≤ 9223372036854775807 := by unfold maxLen at m2; omega
  clear m1 m2
  obtain ⟨B, hB⟩ : ∃ B, w.heap.size = B := ⟨_, rfl⟩
  rw [hB]
  have e0 := Bx.new w 23 [.int .i64 c, .int .i64 t]
  rw [hB] at e0
  have b0 : Below B w (w.alloc (.cells #[.int .i64 c, .int .i64 t] 23)) := by rw [← hB]; exact (Below.refl _ _).alloc (Nat.le_refl _) _
  have s0 := hs.alloc (.cells #[.int .i64 c, .int .i64 t] 23)
  clear hs
  go_enter Try.func3, Try.ntmps3
  go_wp2_with fail
  generalize w.alloc (.cells #[.int .i64 c, .int .i64 t] 23) = w1 at e0 b0 s0 ⊢
  clear hB
  refine (xmawake_any _).mono ?_
  rintro e w2 ⟨rfl, hb2⟩
  have e2 := e0.kept hb2; have b2 := b0.trans (hb2.mono (Nat.le_of_lt e0.lt))
  have s2 := s0.keep hb2
  clear e0 b0 hb2 s0
  by_cases c0 : 20 < m
  case pos =>
    have d0 : decide ((20 : Int) < (m : Int)) = true := decide_eq_true (by omega)
    have d0' : decide (20 < m) = true := decide_eq_true c0
    go_wp2_with fail
    go_ret
    exact ⟨rfl, b2⟩
  have d0 : decide ((20 : Int) < (m : Int)) = false := decide_eq_false (by omega)
  have d0' : decide (20 < m) = false := decide_eq_false c0
  obtain ⟨XAS, hAS⟩ : ∃ X, slowR c t n mss most = X := ⟨_, rfl⟩
  obtain ⟨sa, sb, se⟩ := XAS
  have AS := Lib.hid hAS; clear hAS
  obtain ⟨XAR, hAR⟩ : ∃ X, rndR c t n mss most = X := ⟨_, rfl⟩
  obtain ⟨ra, rb, re⟩ := XAR
  have AR := Lib.hid hAR; clear hAR
  obtain ⟨XAC, hAC⟩ : ∃ X, cutR c t n mss most = X := ⟨_, rfl⟩
  obtain ⟨ka, kb, ke⟩ := XAC
  have AC := Lib.hid hAC; clear hAC
  obtain ⟨XAL, hAL⟩ : ∃ X, lossR c t all mss most = X := ⟨_, rfl⟩
  obtain ⟨la, lb, le⟩ := XAL
  have AL := Lib.hid hAL; clear hAL
  go_upto_region 4 with fail
  go_wp2_with (first | (refine xw_load rfl (.tmp 7) rfl rfl e2 rfl ?_))
  refine (xwslow_any c t n mss most _).mono ?_
  rintro e u2 ⟨he, hb3⟩
  rw [AS.out] at he
  dsimp only at he
  subst he
  have e3 := (e2.kept hb3).alloc (.cells #[.int .i64 sa, .int .i64 sb] 23)
  have s3 := (s2.keep hb3).alloc (.cells #[.int .i64 sa, .int .i64 sb] 23)
  have b3 := (b2.trans (hb3.mono (Nat.le_of_lt e2.lt))).alloc (Nat.le_of_lt (e2.kept hb3).lt) (.cells #[.int .i64 sa, .int .i64 sb] 23)
  have f3 := Bx.new u2 23 [.int .i64 sa, .int .i64 sb]
  clear e2 b2 s2 hb3
  go_upto_region 5 with fail
  obtain ⟨Qf, hQ⟩ : ∃ Q, u2.heap.size = Q := ⟨_, rfl⟩
  rw [hQ] at f3 ⊢
  generalize u2.alloc (.cells #[.int .i64 sa, .int .i64 sb] 23) = w3 at e3 b3 s3 f3 ⊢
  clear hQ
  go_wp2_with (first | (refine xw_load rfl (.tmp 7) rfl rfl e3 rfl ?_) | (refine xw_load rfl (.tmp 16) rfl rfl f3 rfl ?_))
  refine (rxslow_any c t n mss most _).mono ?_
  rintro e u3 ⟨he, hb4⟩
  rw [AS.out] at he
  dsimp only at he
  subst he
  have e4 := (e3.kept hb4).alloc (.cells #[.int .i64 sa, .int .i64 sb] 23)
  have s4 := (s3.keep hb4).alloc (.cells #[.int .i64 sa, .int .i64 sb] 23)
  have f4 := (f3.kept hb4).alloc (.cells #[.int .i64 sa, .int .i64 sb] 23)
  have b4 := (b3.trans (hb4.mono (Nat.le_of_lt e3.lt))).alloc (Nat.le_of_lt (e3.kept hb4).lt) (.cells #[.int .i64 sa, .int .i64 sb] 23)
  have fr4 := Bx.new u3 23 [.int .i64 sa, .int .i64 sb]
  clear e3 b3 s3 f3 hb4
  go_upto_region 6 with fail
  obtain ⟨Qfr, hQ⟩ : ∃ Q, u3.heap.size = Q := ⟨_, rfl⟩
  rw [hQ] at fr4 ⊢
  generalize u3.alloc (.cells #[.int .i64 sa, .int .i64 sb] 23) = w4 at e4 b4 s4 f4 fr4 ⊢
  clear hQ
  go_wp2_with (first | (refine xw_load rfl (.tmp 7) rfl rfl e4 rfl ?_) | (refine xw_load rfl (.tmp 16) rfl rfl f4 rfl ?_) | (refine xw_load rfl (.tmp 18) rfl rfl fr4 rfl ?_))
  refine (xwround_any c t n mss most _).mono ?_
  rintro e u4 ⟨he, hb5⟩
  rw [AR.out] at he
  dsimp only at he
  subst he
  have e5 := (e4.kept hb5).alloc (.cells #[.int .i64 ra, .int .i64 rb] 23)
  have s5 := (s4.keep hb5).alloc (.cells #[.int .i64 ra, .int .i64 rb] 23)
  have f5 := (f4.kept hb5).alloc (.cells #[.int .i64 ra, .int .i64 rb] 23)
  have fr5 := (fr4.kept hb5).alloc (.cells #[.int .i64 ra, .int .i64 rb] 23)
  have b5 := (b4.trans (hb5.mono (Nat.le_of_lt e4.lt))).alloc (Nat.le_of_lt (e4.kept hb5).lt) (.cells #[.int .i64 ra, .int .i64 rb] 23)
  have g5 := Bx.new u4 23 [.int .i64 ra, .int .i64 rb]
  clear e4 b4 s4 f4 fr4 hb5
  go_upto_region 7 with fail
  obtain ⟨Qg, hQ⟩ : ∃ Q, u4.heap.size = Q := ⟨_, rfl⟩
  rw [hQ] at g5 ⊢
  generalize u4.alloc (.cells #[.int .i64 ra, .int .i64 rb] 23) = w5 at e5 b5 s5 f5 fr5 g5 ⊢
  clear hQ
  go_wp2_with (first | (refine xw_load rfl (.tmp 7) rfl rfl e5 rfl ?_) | (refine xw_load rfl (.tmp 16) rfl rfl f5 rfl ?_) | (refine xw_load rfl (.tmp 18) rfl rfl fr5 rfl ?_) | (refine xw_load rfl (.tmp 20) rfl rfl g5 rfl ?_))
  refine (rxround_any c t n mss most _).mono ?_
  rintro e u5 ⟨he, hb6⟩
  rw [AR.out] at he
  dsimp only at he
  subst he
  have e6 := (e5.kept hb6).alloc (.cells #[.int .i64 ra, .int .i64 rb] 23)
  have s6 := (s5.keep hb6).alloc (.cells #[.int .i64 ra, .int .i64 rb] 23)
  have f6 := (f5.kept hb6).alloc (.cells #[.int .i64 ra, .int .i64 rb] 23)
  have fr6 := (fr5.kept hb6).alloc (.cells #[.int .i64 ra, .int .i64 rb] 23)
  have g6 := (g5.kept hb6).alloc (.cells #[.int .i64 ra, .int .i64 rb] 23)
  have b6 := (b5.trans (hb6.mono (Nat.le_of_lt e5.lt))).alloc (Nat.le_of_lt (e5.kept hb6).lt) (.cells #[.int .i64 ra, .int .i64 rb] 23)
  have gr6 := Bx.new u5 23 [.int .i64 ra, .int .i64 rb]
  clear e5 b5 s5 f5 fr5 g5 hb6
  go_upto_region 8 with fail
  obtain ⟨Qgr, hQ⟩ : ∃ Q, u5.heap.size = Q := ⟨_, rfl⟩
  rw [hQ] at gr6 ⊢
  generalize u5.alloc (.cells #[.int .i64 ra, .int .i64 rb] 23) = w6 at e6 b6 s6 f6 fr6 g6 gr6 ⊢
  clear hQ
  go_wp2_with (first | (refine xw_load rfl (.tmp 7) rfl rfl e6 rfl ?_) | (refine xw_load rfl (.tmp 16) rfl rfl f6 rfl ?_) | (refine xw_load rfl (.tmp 18) rfl rfl fr6 rfl ?_) | (refine xw_load rfl (.tmp 20) rfl rfl g6 rfl ?_) | (refine xw_load rfl (.tmp 22) rfl rfl gr6 rfl ?_))
  refine (xwcut_any c t n mss most _).mono ?_
  rintro e u6 ⟨he, hb7⟩
  rw [AC.out] at he
  dsimp only at he
  subst he
  have e7 := (e6.kept hb7).alloc (.cells #[.int .i64 ka, .int .i64 kb] 23)
  have s7 := (s6.keep hb7).alloc (.cells #[.int .i64 ka, .int .i64 kb] 23)
  have f7 := (f6.kept hb7).alloc (.cells #[.int .i64 ka, .int .i64 kb] 23)
  have fr7 := (fr6.kept hb7).alloc (.cells #[.int .i64 ka, .int .i64 kb] 23)
  have g7 := (g6.kept hb7).alloc (.cells #[.int .i64 ka, .int .i64 kb] 23)
  have gr7 := (gr6.kept hb7).alloc (.cells #[.int .i64 ka, .int .i64 kb] 23)
  have b7 := (b6.trans (hb7.mono (Nat.le_of_lt e6.lt))).alloc (Nat.le_of_lt (e6.kept hb7).lt) (.cells #[.int .i64 ka, .int .i64 kb] 23)
  have h7 := Bx.new u6 23 [.int .i64 ka, .int .i64 kb]
  clear e6 b6 s6 f6 fr6 g6 gr6 hb7
  go_upto_region 9 with fail
  obtain ⟨Qh, hQ⟩ : ∃ Q, u6.heap.size = Q := ⟨_, rfl⟩
  rw [hQ] at h7 ⊢
  generalize u6.alloc (.cells #[.int .i64 ka, .int .i64 kb] 23) = w7 at e7 b7 s7 f7 fr7 g7 gr7 h7 ⊢
  clear hQ
  go_wp2_with (first | (refine xw_load rfl (.tmp 7) rfl rfl e7 rfl ?_) | (refine xw_load rfl (.tmp 16) rfl rfl f7 rfl ?_) | (refine xw_load rfl (.tmp 18) rfl rfl fr7 rfl ?_) | (refine xw_load rfl (.tmp 20) rfl rfl g7 rfl ?_) | (refine xw_load rfl (.tmp 22) rfl rfl gr7 rfl ?_) | (refine xw_load rfl (.tmp 24) rfl rfl h7 rfl ?_))
  refine (rxcut_any c t n mss most _).mono ?_
  rintro e u7 ⟨he, hb8⟩
  rw [AC.out] at he
  dsimp only at he
  subst he
  have e8 := (e7.kept hb8).alloc (.cells #[.int .i64 ka, .int .i64 kb] 23)
  have s8 := (s7.keep hb8).alloc (.cells #[.int .i64 ka, .int .i64 kb] 23)
  have f8 := (f7.kept hb8).alloc (.cells #[.int .i64 ka, .int .i64 kb] 23)
  have fr8 := (fr7.kept hb8).alloc (.cells #[.int .i64 ka, .int .i64 kb] 23)
  have g8 := (g7.kept hb8).alloc (.cells #[.int .i64 ka, .int .i64 kb] 23)
  have gr8 := (gr7.kept hb8).alloc (.cells #[.int .i64 ka, .int .i64 kb] 23)
  have h8 := (h7.kept hb8).alloc (.cells #[.int .i64 ka, .int .i64 kb] 23)
  have b8 := (b7.trans (hb8.mono (Nat.le_of_lt e7.lt))).alloc (Nat.le_of_lt (e7.kept hb8).lt) (.cells #[.int .i64 ka, .int .i64 kb] 23)
  have hr8 := Bx.new u7 23 [.int .i64 ka, .int .i64 kb]
  clear e7 b7 s7 f7 fr7 g7 gr7 h7 hb8
  go_upto_region 10 with fail
  obtain ⟨Qhr, hQ⟩ : ∃ Q, u7.heap.size = Q := ⟨_, rfl⟩
  rw [hQ] at hr8 ⊢
  generalize u7.alloc (.cells #[.int .i64 ka, .int .i64 kb] 23) = w8 at e8 b8 s8 f8 fr8 g8 gr8 h8 hr8 ⊢
  clear hQ
  go_wp2_with (first | (refine xw_load rfl (.tmp 7) rfl rfl e8 rfl ?_) | (refine xw_load rfl (.tmp 16) rfl rfl f8 rfl ?_) | (refine xw_load rfl (.tmp 18) rfl rfl fr8 rfl ?_) | (refine xw_load rfl (.tmp 20) rfl rfl g8 rfl ?_) | (refine xw_load rfl (.tmp 22) rfl rfl gr8 rfl ?_) | (refine xw_load rfl (.tmp 24) rfl rfl h8 rfl ?_) | (refine xw_load rfl (.tmp 26) rfl rfl hr8 rfl ?_))
  refine (xwloss_any c t all mss most _).mono ?_
  rintro e u8 ⟨he, hb9⟩
  rw [AL.out] at he
  dsimp only at he
  subst he
  have e9 := (e8.kept hb9).alloc (.cells #[.int .i64 la, .int .i64 lb] 23)
  have s9 := (s8.keep hb9).alloc (.cells #[.int .i64 la, .int .i64 lb] 23)
  have f9 := (f8.kept hb9).alloc (.cells #[.int .i64 la, .int .i64 lb] 23)
  have fr9 := (fr8.kept hb9).alloc (.cells #[.int .i64 la, .int .i64 lb] 23)
  have g9 := (g8.kept hb9).alloc (.cells #[.int .i64 la, .int .i64 lb] 23)
  have gr9 := (gr8.kept hb9).alloc (.cells #[.int .i64 la, .int .i64 lb] 23)
  have h9 := (h8.kept hb9).alloc (.cells #[.int .i64 la, .int .i64 lb] 23)
  have hr9 := (hr8.kept hb9).alloc (.cells #[.int .i64 la, .int .i64 lb] 23)
  have b9 := (b8.trans (hb9.mono (Nat.le_of_lt e8.lt))).alloc (Nat.le_of_lt (e8.kept hb9).lt) (.cells #[.int .i64 la, .int .i64 lb] 23)
  have k9 := Bx.new u8 23 [.int .i64 la, .int .i64 lb]
  clear e8 b8 s8 f8 fr8 g8 gr8 h8 hr8 hb9
  go_upto_region 11 with fail
  obtain ⟨Qk, hQ⟩ : ∃ Q, u8.heap.size = Q := ⟨_, rfl⟩
  rw [hQ] at k9 ⊢
  generalize u8.alloc (.cells #[.int .i64 la, .int .i64 lb] 23) = w9 at e9 b9 s9 f9 fr9 g9 gr9 h9 hr9 k9 ⊢
  clear hQ
  go_wp2_with (first | (refine xw_load rfl (.tmp 7) rfl rfl e9 rfl ?_) | (refine xw_load rfl (.tmp 16) rfl rfl f9 rfl ?_) | (refine xw_load rfl (.tmp 18) rfl rfl fr9 rfl ?_) | (refine xw_load rfl (.tmp 20) rfl rfl g9 rfl ?_) | (refine xw_load rfl (.tmp 22) rfl rfl gr9 rfl ?_) | (refine xw_load rfl (.tmp 24) rfl rfl h9 rfl ?_) | (refine xw_load rfl (.tmp 26) rfl rfl hr9 rfl ?_) | (refine xw_load rfl (.tmp 28) rfl rfl k9 rfl ?_))
  refine (rxloss_any c t all mss most _).mono ?_
  rintro e u9 ⟨he, hb10⟩
  rw [AL.out] at he
  dsimp only at he
  subst he
  have e10 := (e9.kept hb10).alloc (.cells #[.int .i64 la, .int .i64 lb] 23)
  have s10 := (s9.keep hb10).alloc (.cells #[.int .i64 la, .int .i64 lb] 23)
  have f10 := (f9.kept hb10).alloc (.cells #[.int .i64 la, .int .i64 lb] 23)
  have fr10 := (fr9.kept hb10).alloc (.cells #[.int .i64 la, .int .i64 lb] 23)
  have g10 := (g9.kept hb10).alloc (.cells #[.int .i64 la, .int .i64 lb] 23)
  have gr10 := (gr9.kept hb10).alloc (.cells #[.int .i64 la, .int .i64 lb] 23)
  have h10 := (h9.kept hb10).alloc (.cells #[.int .i64 la, .int .i64 lb] 23)
  have hr10 := (hr9.kept hb10).alloc (.cells #[.int .i64 la, .int .i64 lb] 23)
  have k10 := (k9.kept hb10).alloc (.cells #[.int .i64 la, .int .i64 lb] 23)
  have b10 := (b9.trans (hb10.mono (Nat.le_of_lt e9.lt))).alloc (Nat.le_of_lt (e9.kept hb10).lt) (.cells #[.int .i64 la, .int .i64 lb] 23)
  have kr10 := Bx.new u9 23 [.int .i64 la, .int .i64 lb]
  clear e9 b9 s9 f9 fr9 g9 gr9 h9 hr9 k9 hb10
  go_upto_region 12 with fail
  obtain ⟨Qkr, hQ⟩ : ∃ Q, u9.heap.size = Q := ⟨_, rfl⟩
  rw [hQ] at kr10 ⊢
  generalize u9.alloc (.cells #[.int .i64 la, .int .i64 lb] 23) = w10 at e10 b10 s10 f10 fr10 g10 gr10 h10 hr10 k10 kr10 ⊢
  clear hQ
  have xe0 := e10.cell 0 rfl; have xe1 := e10.cell 1 rfl
  have xf0 := f10.cell 0 rfl; have xf1 := f10.cell 1 rfl
  have xfr0 := fr10.cell 0 rfl; have xfr1 := fr10.cell 1 rfl
  have xg0 := g10.cell 0 rfl; have xg1 := g10.cell 1 rfl
  have xgr0 := gr10.cell 0 rfl; have xgr1 := gr10.cell 1 rfl
  have xh0 := h10.cell 0 rfl; have xh1 := h10.cell 1 rfl
  have xhr0 := hr10.cell 0 rfl; have xhr1 := hr10.cell 1 rfl
  have xk0 := k10.cell 0 rfl; have xk1 := k10.cell 1 rfl
  have xkr0 := kr10.cell 0 rfl; have xkr1 := kr10.cell 1 rfl
  go_upto_region 13 with fail
  clear xe0 xe1 xf0 xf1 xfr0 xfr1 xg0 xg1 xgr0 xgr1 xh0 xh1 xhr0 xhr1 xk0 xk1 xkr0 xkr1
  obtain ⟨xm, hxm⟩ : ∃ x, xmB c t mss most = x := ⟨_, rfl⟩
  obtain ⟨sh, hsh⟩ : ∃ x, shareR l i mss = x := ⟨_, rfl⟩
  have HXM := Lib.hid hxm; have HSH := Lib.hid hsh
  clear hxm hsh
  have dd : Below w10.heap.size w10 w10.drew := (Below.refl _ _).drew
  refine wp_region_tail 23 24 (fun (W : World) => (Bx W B 23 [.int .i64 c, .int .i64 t] ∧ Ss W A m cc l ∧ Below w10.heap.size w10 W) ∧ (W.cell? ⟨B, 0, none⟩ = some (.int .i64 c) ∧ W.cell? ⟨B, 1, none⟩ = some (.int .i64 t))) (by kernel_rfl) (by rfl) (by decide) ?_
  have HS : ((fun (W : World) => (Bx W B 23 [.int .i64 c, .int .i64 t] ∧ Ss W A m cc l ∧ Below w10.heap.size w10 W) ∧ (W.cell? ⟨B, 0, none⟩ = some (.int .i64 c) ∧ W.cell? ⟨B, 1, none⟩ = some (.int .i64 t)))) _ := ⟨⟨e10.kept dd, s10.keep dd, dd⟩, (e10.kept dd).cell 0 rfl, (e10.kept dd).cell 1 rfl⟩
  refine wpAnyT_take (i := 0) (v := ?vv1) rfl (by kernel_rfl) (fun _ _ _ h => h) (Or.inl ⟨by rfl, fun w hSw => ?yy1⟩) HS ?rr1
  case yy1 =>
    (try dsimp only at hSw); go_simp
    try with_reducible rfl
  try simp only [Act.put, List.setIfInBounds_toArray, List.set_cons_zero, List.set_cons_succ]
  refine wpAnyT_take (i := 1) (v := ?vv2) rfl (by kernel_rfl) (fun _ _ _ h => h) (Or.inl ⟨by rfl, fun w hSw => ?yy2⟩) HS ?rr2
  case yy2 =>
    (try dsimp only at hSw); go_simp
    try with_reducible rfl
  try simp only [Act.put, List.setIfInBounds_toArray, List.set_cons_zero, List.set_cons_succ]
  refine wpAnyT_take (i := 2) (v := ?vv3) rfl (by kernel_rfl) (fun _ _ _ h => h) (Or.inl ⟨by rfl, fun w hSw => ?yy3⟩) HS ?rr3
  case yy3 =>
    (try dsimp only at hSw); go_simp
    try with_reducible rfl
  try simp only [Act.put, List.setIfInBounds_toArray, List.set_cons_zero, List.set_cons_succ]
  refine wpAnyT_take (i := 3) (v := ?vv4) rfl (by kernel_rfl) (fun _ _ _ h => h) (Or.inl ⟨by rfl, fun w hSw => ?yy4⟩) HS ?rr4
  case yy4 =>
    (try dsimp only at hSw); go_simp
    try with_reducible rfl
  try simp only [Act.put, List.setIfInBounds_toArray, List.set_cons_zero, List.set_cons_succ]
  refine wpAnyT_take (i := 4) (v := ?vv5) rfl (by kernel_rfl) (fun _ _ _ h => h) (Or.inl ⟨by rfl, fun w hSw => ?yy5⟩) HS ?rr5
  case yy5 =>
    (try dsimp only at hSw); go_simp
    try with_reducible rfl
  try simp only [Act.put, List.setIfInBounds_toArray, List.set_cons_zero, List.set_cons_succ]
  refine wpAnyT_take (i := 6) (v := ?vv6) rfl (by kernel_rfl) (fun _ _ _ h => h) (Or.inl ⟨by rfl, fun w hSw => ?yy6⟩) HS ?rr6
  case yy6 =>
    (try dsimp only at hSw); go_simp
    try with_reducible rfl
  try simp only [Act.put, List.setIfInBounds_toArray, List.set_cons_zero, List.set_cons_succ]
  refine wpAnyT_take (i := 7) (v := ?vv7) rfl (by kernel_rfl) (fun _ _ _ h => h) (Or.inl ⟨by rfl, fun w hSw => ?yy7⟩) HS ?rr7
  case yy7 =>
    (try dsimp only at hSw); go_simp
    try with_reducible rfl
  try simp only [Act.put, List.setIfInBounds_toArray, List.set_cons_zero, List.set_cons_succ]
  refine wpAnyT_take (i := 8) (v := ?vv8) rfl (by kernel_rfl) (fun _ _ _ h => h) (Or.inl ⟨by rfl, fun w hSw => ?yy8⟩) HS ?rr8
  case yy8 =>
    (try dsimp only at hSw); go_simp
    try with_reducible rfl
  try simp only [Act.put, List.setIfInBounds_toArray, List.set_cons_zero, List.set_cons_succ]
  refine wpAnyT_one (k := 5) rfl (by kernel_rfl) (by decide) (fun K hK => ?_)
  go_simp
  refine (xwshare_any A m cc l i mss _ HS.1.2.1).mono ?_
  rintro e y1 ⟨rfl, hy1⟩
  rw [HSH.out]
  have HS : ((fun (W : World) => (Bx W B 23 [.int .i64 c, .int .i64 t] ∧ Ss W A m cc l ∧ Below w10.heap.size w10 W) ∧ (W.cell? ⟨B, 0, none⟩ = some (.int .i64 c) ∧ W.cell? ⟨B, 1, none⟩ = some (.int .i64 t)))) _ := ⟨⟨HS.1.1.kept hy1, HS.1.2.1.keep hy1, HS.1.2.2.trans (hy1.mono HS.1.2.2.size)⟩, (HS.1.1.kept hy1).cell 0 rfl, (HS.1.1.kept hy1).cell 1 rfl⟩
  refine hK _ _ HS ?_
  clear hK K
  try simp only [Act.put, List.setIfInBounds_toArray, List.set_cons_zero, List.set_cons_succ]
  refine wpAnyT_one (k := 9) rfl (by kernel_rfl) (by decide) (fun K hK => ?_)
  go_simp
  refine (rxshare_any A m cc l i mss _ HS.1.2.1).mono ?_
  rintro e y2 ⟨rfl, hy2⟩
  rw [HSH.out]
  have HS : ((fun (W : World) => (Bx W B 23 [.int .i64 c, .int .i64 t] ∧ Ss W A m cc l ∧ Below w10.heap.size w10 W) ∧ (W.cell? ⟨B, 0, none⟩ = some (.int .i64 c) ∧ W.cell? ⟨B, 1, none⟩ = some (.int .i64 t)))) _ := ⟨⟨HS.1.1.kept hy2, HS.1.2.1.keep hy2, HS.1.2.2.trans (hy2.mono HS.1.2.2.size)⟩, (HS.1.1.kept hy2).cell 0 rfl, (HS.1.1.kept hy2).cell 1 rfl⟩
  refine hK _ _ HS ?_
  clear hK K
  try simp only [Act.put, List.setIfInBounds_toArray, List.set_cons_zero, List.set_cons_succ]
  refine wpAnyT_take (i := 10) (v := .bool true) rfl (by kernel_rfl) (fun _ _ _ h => h) (Or.inl ⟨by rfl, fun w hSw => ?_⟩) HS ?_
  · (try dsimp only at hSw); go_simp
  try simp only [Act.put, List.setIfInBounds_toArray, List.set_cons_zero, List.set_cons_succ]
  refine wpAnyT_take (i := 11) (v := .bool true) rfl (by kernel_rfl) (fun _ _ _ h => h) (Or.inl ⟨by rfl, fun w hSw => ?_⟩) HS ?_
  · (try dsimp only at hSw); go_simp
  try simp only [Act.put, List.setIfInBounds_toArray, List.set_cons_zero, List.set_cons_succ]
  refine wpAnyT_take (i := 12) (v := ?vv9) rfl (by kernel_rfl) (fun _ _ _ h => h) (Or.inl ⟨by rfl, fun w hSw => ?yy9⟩) HS ?rr9
  case yy9 =>
    (try dsimp only at hSw); go_simp
    try with_reducible rfl
  try simp only [Act.put, List.setIfInBounds_toArray, List.set_cons_zero, List.set_cons_succ]
  refine wpAnyT_take (i := 13) (v := .agg #[.int .i64 c, .int .i64 t]) rfl (by kernel_rfl) (fun _ _ _ h => h) (xw_yields (by rfl) (.tmp 7) rfl rfl [.int .i64 c, .int .i64 t] rfl 23 (fun W hW => hW.1.1)) HS ?_
  try simp only [Act.put, List.setIfInBounds_toArray, List.set_cons_zero, List.set_cons_succ]
  refine wpAnyT_take (i := 14) (v := ?vv10) rfl (by kernel_rfl) (fun _ _ _ h => h) (Or.inl ⟨by rfl, fun w hSw => ?yy10⟩) HS ?rr10
  case yy10 =>
    (try dsimp only at hSw); go_simp
    try with_reducible rfl
  try simp only [Act.put, List.setIfInBounds_toArray, List.set_cons_zero, List.set_cons_succ]
  refine wpAnyT_take (i := 15) (v := ?vv11) rfl (by kernel_rfl) (fun _ _ _ h => h) (Or.inl ⟨by rfl, fun w hSw => ?yy11⟩) HS ?rr11
  case yy11 =>
    (try dsimp only at hSw); go_simp
    try with_reducible rfl
  try simp only [Act.put, List.setIfInBounds_toArray, List.set_cons_zero, List.set_cons_succ]
  refine wpAnyT_take (i := 17) (v := .agg #[.int .i64 c, .int .i64 t]) rfl (by kernel_rfl) (fun _ _ _ h => h) (xw_yields (by rfl) (.tmp 7) rfl rfl [.int .i64 c, .int .i64 t] rfl 23 (fun W hW => hW.1.1)) HS ?_
  try simp only [Act.put, List.setIfInBounds_toArray, List.set_cons_zero, List.set_cons_succ]
  refine wpAnyT_take (i := 18) (v := ?vv12) rfl (by kernel_rfl) (fun _ _ _ h => h) (Or.inl ⟨by rfl, fun w hSw => ?yy12⟩) HS ?rr12
  case yy12 =>
    (try dsimp only at hSw); go_simp
    try with_reducible rfl
  try simp only [Act.put, List.setIfInBounds_toArray, List.set_cons_zero, List.set_cons_succ]
  refine wpAnyT_take (i := 19) (v := ?vv13) rfl (by kernel_rfl) (fun _ _ _ h => h) (Or.inl ⟨by rfl, fun w hSw => ?yy13⟩) HS ?rr13
  case yy13 =>
    (try dsimp only at hSw); go_simp
    try with_reducible rfl
  try simp only [Act.put, List.setIfInBounds_toArray, List.set_cons_zero, List.set_cons_succ]
  refine wpAnyT_one (k := 16) rfl (by kernel_rfl) (by decide) (fun K hK => ?_)
  go_simp
  refine (xwmay_any c t mss most _).mono ?_
  rintro e y3 ⟨rfl, hy3⟩
  rw [HXM.out]
  have HS : ((fun (W : World) => (Bx W B 23 [.int .i64 c, .int .i64 t] ∧ Ss W A m cc l ∧ Below w10.heap.size w10 W) ∧ (W.cell? ⟨B, 0, none⟩ = some (.int .i64 c) ∧ W.cell? ⟨B, 1, none⟩ = some (.int .i64 t)))) _ := ⟨⟨HS.1.1.kept hy3, HS.1.2.1.keep hy3, HS.1.2.2.trans (hy3.mono HS.1.2.2.size)⟩, (HS.1.1.kept hy3).cell 0 rfl, (HS.1.1.kept hy3).cell 1 rfl⟩
  refine hK _ _ HS ?_
  clear hK K
  try simp only [Act.put, List.setIfInBounds_toArray, List.set_cons_zero, List.set_cons_succ]
  refine wpAnyT_one (k := 20) rfl (by kernel_rfl) (by decide) (fun K hK => ?_)
  go_simp
  refine (rxmay_any c t mss most _).mono ?_
  rintro e y4 ⟨rfl, hy4⟩
  rw [HXM.out]
  have HS : ((fun (W : World) => (Bx W B 23 [.int .i64 c, .int .i64 t] ∧ Ss W A m cc l ∧ Below w10.heap.size w10 W) ∧ (W.cell? ⟨B, 0, none⟩ = some (.int .i64 c) ∧ W.cell? ⟨B, 1, none⟩ = some (.int .i64 t)))) _ := ⟨⟨HS.1.1.kept hy4, HS.1.2.1.keep hy4, HS.1.2.2.trans (hy4.mono HS.1.2.2.size)⟩, (HS.1.1.kept hy4).cell 0 rfl, (HS.1.1.kept hy4).cell 1 rfl⟩
  refine hK _ _ HS ?_
  clear hK K
  try simp only [Act.put, List.setIfInBounds_toArray, List.set_cons_zero, List.set_cons_succ]
  refine wpAnyT_take (i := 21) (v := .bool true) rfl (by kernel_rfl) (fun _ _ _ h => h) (Or.inl ⟨by rfl, fun w hSw => ?_⟩) HS ?_
  · (try dsimp only at hSw); go_simp
  try simp only [Act.put, List.setIfInBounds_toArray, List.set_cons_zero, List.set_cons_succ]
  refine wpAnyT_take (i := 22) (v := .bool true) rfl (by kernel_rfl) (fun _ _ _ h => h) (Or.inl ⟨by rfl, fun w hSw => ?_⟩) HS ?_
  · (try dsimp only at hSw); go_simp
  try simp only [Act.put, List.setIfInBounds_toArray, List.set_cons_zero, List.set_cons_succ]
  refine ⟨by kernel_rfl, ?_⟩
  simp only [List.drop_succ_cons, List.drop_zero]
  have bz := b10.trans (HS.1.2.2.mono (Nat.le_of_lt e10.lt))
  clear HS
  go_wp2_with fail
  go_ret
  exact ⟨rfl, bz⟩
end Go.Proofs.Ytookmfgnhflpaaa.xmpTells
