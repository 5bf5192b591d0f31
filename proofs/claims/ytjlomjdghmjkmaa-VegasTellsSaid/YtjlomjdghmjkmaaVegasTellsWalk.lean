/- VegasTells: the walk. -/
import Derived.Test.YtjlomjdghmjkmaaVgAwake
import Derived.Test.YtjlomjdghmjkmaaTail2
import Derived.Deep.QuietTactic
import Derived.BigQuiet
import Derived.IntWalk
import Derived.Deep.AppendLies
namespace Go.Proofs.Ytjlomjdghmjkmaa.vegasTells
open Go.RowKit
set_option linter.unusedVariables false
set_option linter.unusedSimpArgs false

set_option maxRecDepth 100000 in
set_option maxHeartbeats 16000000 in
theorem walk (A : Option Addr) (m cc : Nat) (l : List Sp) (i total : Int) (c t : Int) (srtt base queue alpha mss most : Int) (w : World) (hs : Ss w A m cc l) :
    Calls Try.prog 3 #[.slice A m cc, .int .i64 i, .int .i64 total, .agg #[.int .i64 c, .int .i64 t], .int .i64 srtt, .int .i64 base, .int .i64 queue, .int .i64 alpha, .int .i64 mss, .int .i64 most] w fun e w' => e = .returned (.bool true) ∧ Below w.heap.size w w' := by
  have m1 := hs.le
  have m2 := hs.max
  have m3 : m ≤ 9223372036854775807 := by unfold maxLen at m2; omega
  clear m1 m2
  obtain ⟨B, hB⟩ : ∃ B, w.heap.size = B := ⟨_, rfl⟩
  rw [hB]
  have e0 := Bx.new w 24 [.int .i64 c, .int .i64 t]
  rw [hB] at e0
  have b0 : Below B w (w.alloc (.cells #[.int .i64 c, .int .i64 t] 24)) := by rw [← hB]; exact (Below.refl _ _).alloc (Nat.le_refl _) _
  have s0 := hs.alloc (.cells #[.int .i64 c, .int .i64 t] 24)
  clear hs
  go_enter Try.func3, Try.ntmps3
  go_wp2_with fail
  generalize w.alloc (.cells #[.int .i64 c, .int .i64 t] 24) = w1 at e0 b0 s0 ⊢
  clear hB
  refine (vgawake_any _).mono ?_
  rintro e w2 ⟨rfl, hb2⟩
  have e2 := e0.kept hb2; have b2 := b0.trans (hb2.mono (Nat.le_of_lt e0.lt))
  have s2 := s0.keep hb2
  clear e0 b0 hb2 s0
  by_cases c0 : 20 < m
  case pos =>
    have d0 : decide ((20 : Int) < (m : Int)) = true := decide_eq_true (by omega)
    have d0' : decide (20 < m) = true := decide_eq_true c0
    go_wp2_with fail
    go_ret
    exact ⟨rfl, b2⟩
  have d0 : decide ((20 : Int) < (m : Int)) = false := decide_eq_false (by omega)
  have d0' : decide (20 < m) = false := decide_eq_false c0
  obtain ⟨XAR, hAR⟩ : ∃ X, vrndR c t queue alpha mss most = X := ⟨_, rfl⟩
  obtain ⟨ra, rb, re⟩ := XAR
  have AR := Lib.hid hAR; clear hAR
  obtain ⟨al, hal⟩ : ∃ x, alphaR l i total = x := ⟨_, rfl⟩
  obtain ⟨qu, hqu⟩ : ∃ x, queueR c srtt base mss = x := ⟨_, rfl⟩
  obtain ⟨ve, hve⟩ : ∃ x, verdR queue alpha (decide (c < t)) = x := ⟨_, rfl⟩
  have HAL := Lib.hid hal; have HQU := Lib.hid hqu; have HVE := Lib.hid hve
  clear hal hqu hve
  go_upto_region 4 with fail
  go_wp2_with (first | (refine xw_load rfl (.tmp 13) rfl rfl e2 rfl ?_))
  refine (vground_any c t queue alpha mss most _).mono ?_
  rintro e u2 ⟨he, hb3⟩
  rw [AR.out] at he
  dsimp only at he
  subst he
  have e3 := (e2.kept hb3).alloc (.cells #[.int .i64 ra, .int .i64 rb] 24)
  have s3 := (s2.keep hb3).alloc (.cells #[.int .i64 ra, .int .i64 rb] 24)
  have b3 := (b2.trans (hb3.mono (Nat.le_of_lt e2.lt))).alloc (Nat.le_of_lt (e2.kept hb3).lt) (.cells #[.int .i64 ra, .int .i64 rb] 24)
  have f3 := Bx.new u2 24 [.int .i64 ra, .int .i64 rb]
  clear e2 b2 s2 hb3
  go_upto_region 5 with fail
  obtain ⟨Qf, hQ⟩ : ∃ Q, u2.heap.size = Q := ⟨_, rfl⟩
  rw [hQ] at f3 ⊢
  generalize u2.alloc (.cells #[.int .i64 ra, .int .i64 rb] 24) = w3 at e3 b3 s3 f3 ⊢
  clear hQ
  go_wp2_with (first | (refine xw_load rfl (.tmp 13) rfl rfl e3 rfl ?_) | (refine xw_load rfl (.tmp 22) rfl rfl f3 rfl ?_))
  refine (rvround_any c t queue alpha mss most _).mono ?_
  rintro e u3 ⟨he, hb4⟩
  rw [AR.out] at he
  dsimp only at he
  subst he
  have e4 := (e3.kept hb4).alloc (.cells #[.int .i64 ra, .int .i64 rb] 24)
  have s4 := (s3.keep hb4).alloc (.cells #[.int .i64 ra, .int .i64 rb] 24)
  have f4 := (f3.kept hb4).alloc (.cells #[.int .i64 ra, .int .i64 rb] 24)
  have b4 := (b3.trans (hb4.mono (Nat.le_of_lt e3.lt))).alloc (Nat.le_of_lt (e3.kept hb4).lt) (.cells #[.int .i64 ra, .int .i64 rb] 24)
  have g4 := Bx.new u3 24 [.int .i64 ra, .int .i64 rb]
  clear e3 b3 s3 f3 hb4
  go_upto_region 6 with fail
  obtain ⟨Qg, hQ⟩ : ∃ Q, u3.heap.size = Q := ⟨_, rfl⟩
  rw [hQ] at g4 ⊢
  generalize u3.alloc (.cells #[.int .i64 ra, .int .i64 rb] 24) = w4 at e4 b4 s4 f4 g4 ⊢
  clear hQ
  have xe0 := e4.cell 0 rfl; have xe1 := e4.cell 1 rfl
  have xf0 := f4.cell 0 rfl; have xf1 := f4.cell 1 rfl
  have xg0 := g4.cell 0 rfl; have xg1 := g4.cell 1 rfl
  go_wp2_with fail
  clear xe0 xe1 xf0 xf1 xg0 xg1
  refine (vgalpha_any A m cc l i total _ s4).mono ?_
  rintro e w5 ⟨rfl, hb5⟩
  rw [HAL.out]
  have e5 := (e4.kept hb5)
  have s5 := (s4.keep hb5)
  have f5 := (f4.kept hb5)
  have g5 := (g4.kept hb5)
  have b5 := b4.trans (hb5.mono (Nat.le_of_lt e4.lt))
  clear e4 b4 s4 f4 g4 hb5
  go_wp2_with fail
  refine (rvalpha_any A m cc l i total _ s5).mono ?_
  rintro e w6 ⟨rfl, hb6⟩
  rw [HAL.out]
  have e6 := (e5.kept hb6)
  have s6 := (s5.keep hb6)
  have f6 := (f5.kept hb6)
  have g6 := (g5.kept hb6)
  have b6 := b5.trans (hb6.mono (Nat.le_of_lt e5.lt))
  clear e5 b5 s5 f5 g5 hb6
  go_upto_region 7 with fail
  have dd : Below w6.heap.size w6 w6.drew := (Below.refl _ _).drew
  refine wp_region_tail 13 14 (fun (W : World) => (Bx W B 24 [.int .i64 c, .int .i64 t] ∧ Below w6.heap.size w6 W) ∧ (W.cell? ⟨B, 0, none⟩ = some (.int .i64 c) ∧ W.cell? ⟨B, 1, none⟩ = some (.int .i64 t))) (by kernel_rfl) (by rfl) (by decide) ?_
  have HS : ((fun (W : World) => (Bx W B 24 [.int .i64 c, .int .i64 t] ∧ Below w6.heap.size w6 W) ∧ (W.cell? ⟨B, 0, none⟩ = some (.int .i64 c) ∧ W.cell? ⟨B, 1, none⟩ = some (.int .i64 t)))) _ := ⟨⟨e6.kept dd, dd⟩, (e6.kept dd).cell 0 rfl, (e6.kept dd).cell 1 rfl⟩
  refine wpAnyT_take (i := 0) (v := ?vv1) rfl (by kernel_rfl) (fun _ _ _ h => h) (Or.inl ⟨by rfl, fun w hSw => ?yy1⟩) HS ?rr1
  case yy1 =>
    (try dsimp only at hSw); go_simp
    try with_reducible rfl
  try simp only [Act.put, List.setIfInBounds_toArray, List.set_cons_zero, List.set_cons_succ]
  refine wpAnyT_take (i := 1) (v := .int .i64 c) rfl (by kernel_rfl) (fun _ _ _ h => h) (Or.inl ⟨by rfl, fun w hSw => ?_⟩) HS ?_
  · (try dsimp only at hSw); go_simp
  try simp only [Act.put, List.setIfInBounds_toArray, List.set_cons_zero, List.set_cons_succ]
  refine wpAnyT_take (i := 2) (v := ?vv2) rfl (by kernel_rfl) (fun _ _ _ h => h) (Or.inl ⟨by rfl, fun w hSw => ?yy2⟩) HS ?rr2
  case yy2 =>
    (try dsimp only at hSw); go_simp
    try with_reducible rfl
  try simp only [Act.put, List.setIfInBounds_toArray, List.set_cons_zero, List.set_cons_succ]
  refine wpAnyT_take (i := 3) (v := ?vv3) rfl (by kernel_rfl) (fun _ _ _ h => h) (Or.inl ⟨by rfl, fun w hSw => ?yy3⟩) HS ?rr3
  case yy3 =>
    (try dsimp only at hSw); go_simp
    try with_reducible rfl
  try simp only [Act.put, List.setIfInBounds_toArray, List.set_cons_zero, List.set_cons_succ]
  refine wpAnyT_take (i := 4) (v := ?vv4) rfl (by kernel_rfl) (fun _ _ _ h => h) (Or.inl ⟨by rfl, fun w hSw => ?yy4⟩) HS ?rr4
  case yy4 =>
    (try dsimp only at hSw); go_simp
    try with_reducible rfl
  try simp only [Act.put, List.setIfInBounds_toArray, List.set_cons_zero, List.set_cons_succ]
  refine wpAnyT_take (i := 6) (v := ?vv5) rfl (by kernel_rfl) (fun _ _ _ h => h) (Or.inl ⟨by rfl, fun w hSw => ?yy5⟩) HS ?rr5
  case yy5 =>
    (try dsimp only at hSw); go_simp
    try with_reducible rfl
  try simp only [Act.put, List.setIfInBounds_toArray, List.set_cons_zero, List.set_cons_succ]
  refine wpAnyT_take (i := 7) (v := .int .i64 c) rfl (by kernel_rfl) (fun _ _ _ h => h) (Or.inl ⟨by rfl, fun w hSw => ?_⟩) HS ?_
  · (try dsimp only at hSw); go_simp
  try simp only [Act.put, List.setIfInBounds_toArray, List.set_cons_zero, List.set_cons_succ]
  refine wpAnyT_take (i := 8) (v := ?vv6) rfl (by kernel_rfl) (fun _ _ _ h => h) (Or.inl ⟨by rfl, fun w hSw => ?yy6⟩) HS ?rr6
  case yy6 =>
    (try dsimp only at hSw); go_simp
    try with_reducible rfl
  try simp only [Act.put, List.setIfInBounds_toArray, List.set_cons_zero, List.set_cons_succ]
  refine wpAnyT_take (i := 9) (v := ?vv7) rfl (by kernel_rfl) (fun _ _ _ h => h) (Or.inl ⟨by rfl, fun w hSw => ?yy7⟩) HS ?rr7
  case yy7 =>
    (try dsimp only at hSw); go_simp
    try with_reducible rfl
  try simp only [Act.put, List.setIfInBounds_toArray, List.set_cons_zero, List.set_cons_succ]
  refine wpAnyT_take (i := 10) (v := ?vv8) rfl (by kernel_rfl) (fun _ _ _ h => h) (Or.inl ⟨by rfl, fun w hSw => ?yy8⟩) HS ?rr8
  case yy8 =>
    (try dsimp only at hSw); go_simp
    try with_reducible rfl
  try simp only [Act.put, List.setIfInBounds_toArray, List.set_cons_zero, List.set_cons_succ]
  refine wpAnyT_one (k := 5) rfl (by kernel_rfl) (by decide) (fun K hK => ?_)
  go_simp
  refine (vgqueue_any c srtt base mss _).mono ?_
  rintro e y1 ⟨rfl, hy1⟩
  rw [HQU.out]
  have HS : ((fun (W : World) => (Bx W B 24 [.int .i64 c, .int .i64 t] ∧ Below w6.heap.size w6 W) ∧ (W.cell? ⟨B, 0, none⟩ = some (.int .i64 c) ∧ W.cell? ⟨B, 1, none⟩ = some (.int .i64 t)))) _ := ⟨⟨HS.1.1.kept hy1, HS.1.2.trans (hy1.mono HS.1.2.size)⟩, (HS.1.1.kept hy1).cell 0 rfl, (HS.1.1.kept hy1).cell 1 rfl⟩
  refine hK _ _ HS ?_
  clear hK K
  try simp only [Act.put, List.setIfInBounds_toArray, List.set_cons_zero, List.set_cons_succ]
  refine wpAnyT_one (k := 11) rfl (by kernel_rfl) (by decide) (fun K hK => ?_)
  go_simp
  refine (rvqueue_any c srtt base mss _).mono ?_
  rintro e y2 ⟨rfl, rfl⟩
  rw [HQU.out]
  have HS : ((fun (W : World) => (Bx W B 24 [.int .i64 c, .int .i64 t] ∧ Below w6.heap.size w6 W) ∧ (W.cell? ⟨B, 0, none⟩ = some (.int .i64 c) ∧ W.cell? ⟨B, 1, none⟩ = some (.int .i64 t)))) _ := HS
  refine hK _ _ HS ?_
  clear hK K
  try simp only [Act.put, List.setIfInBounds_toArray, List.set_cons_zero, List.set_cons_succ]
  refine wpAnyT_take (i := 12) (v := .bool true) rfl (by kernel_rfl) (fun _ _ _ h => h) (Or.inl ⟨by rfl, fun w hSw => ?_⟩) HS ?_
  · (try dsimp only at hSw); go_simp
  try simp only [Act.put, List.setIfInBounds_toArray, List.set_cons_zero, List.set_cons_succ]
  refine ⟨by kernel_rfl, ?_⟩
  simp only [List.drop_succ_cons, List.drop_zero]
  have bz := b6.trans (HS.1.2.mono (Nat.le_of_lt e6.lt)); have ez := HS.1.1
  have xe0 := ez.cell 0 rfl; have xe1 := ez.cell 1 rfl
  clear HS
  obtain ⟨sw, hsw⟩ : ∃ x, decide (c < t) = x := ⟨_, rfl⟩
  have vv : verdR queue alpha sw = ve := by rw [← hsw]; exact HVE.out
  have VV := Lib.hid vv; clear vv
  go_upto_region 9 with fail
  clear hsw
  go_wp2_with fail
  refine (vgverd_any queue alpha sw _).mono ?_
  rintro e wy ⟨rfl, hby⟩
  rw [VV.out]
  have by_ := bz.trans (hby.mono (Nat.le_of_lt ez.lt))
  go_wp2_with fail
  refine (rvverd_any queue alpha sw _).mono ?_
  rintro e wz ⟨rfl, rfl⟩
  rw [VV.out]
  go_wp2_with fail
  go_ret
  exact ⟨rfl, by_⟩
end Go.Proofs.Ytjlomjdghmjkmaa.vegasTells
