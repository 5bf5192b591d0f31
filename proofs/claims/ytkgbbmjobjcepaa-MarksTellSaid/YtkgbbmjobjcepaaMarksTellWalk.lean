/- The walk of the law MarksTell. -/
import Derived.Test.YtkgbbmjobjcepaaProg
import Derived.Test.YtkgbbmjobjcepaaMsAwake
import Derived.Test.YtkgbbmjobjcepaaTail
import Derived.OrdersHeld
import Derived.Deep.DeepCutAuto
import Derived.Deep.LoopGhost
import Derived.WalkKit
import Derived.WalkSpells
import Derived.WalkSmall
import Derived.Lib.Hide
import Derived.Below
import Derived.Outline
namespace Go.Proofs.Ytkgbbmjobjcepaa.marksTell
open Go.RowKit
set_option linter.unusedVariables false
set_option linter.unusedSimpArgs false

set_option maxRecDepth 100000 in
set_option maxHeartbeats 8000000 in
theorem walk (pk bt ca md pt : Int) (ace ce packets bytes : Int) (w : World) (hc0 : 0 ≤ ce) (hc1 : ce < 4294967296) :
    Calls Try.prog 3 #[.agg #[.int .i64 pk, .int .i64 bt, .int .i64 ca, .int .i64 md, .int .i64 pt], .int .i64 ace, .int .u32 ce, .int .i64 packets, .int .i64 bytes] w fun e w' => e = .returned (.bool true) ∧ Below w.heap.size w w' := by
  obtain ⟨B, hB⟩ : ∃ B, w.heap.size = B := ⟨_, rfl⟩
  rw [hB]
  have e0 := Bx.new w 23 [.int .i64 pk, .int .i64 bt, .int .i64 ca, .int .i64 md, .int .i64 pt]
  rw [hB] at e0
  have b0 : Below B w (w.alloc (.cells #[.int .i64 pk, .int .i64 bt, .int .i64 ca, .int .i64 md, .int .i64 pt] 23)) := by rw [← hB]; exact (Below.refl _ _).alloc (Nat.le_refl _) _
  go_enter Try.func3, Try.ntmps3
  go_wp2_with fail
  generalize w.alloc (.cells #[.int .i64 pk, .int .i64 bt, .int .i64 ca, .int .i64 md, .int .i64 pt] 23) = w0 at e0 b0 ⊢
  refine (msawake_any _).mono ?_
  rintro e w1 ⟨rfl, hb1⟩
  have e1 := e0.kept hb1
  have b1 := b0.trans (hb1.mono (Nat.le_of_lt e0.lt))
  obtain ⟨x, hx⟩ : ∃ x, heardR ⟨pk, bt, ca, md, pt⟩ ace ce packets bytes = x := ⟨_, rfl⟩
  obtain ⟨x, xn, xe⟩ := x
  obtain ⟨y, hy⟩ : ∃ y, roundR ⟨pk, bt, ca, md, pt⟩ = y := ⟨_, rfl⟩
  obtain ⟨y, ye⟩ := y
  obtain ⟨t, ht⟩ : ∃ t, toldR ⟨pk, bt, ca, md, pt⟩ = t := ⟨_, rfl⟩
  obtain ⟨t1, t2⟩ := t
  have HX := Lib.hid hx; have HY := Lib.hid hy; have HT := Lib.hid ht; clear hx hy ht
  go_wp2_with (refine ms_load rfl (.tmp 5) rfl rfl e1 rfl ?_)
  refine (mkheard_any pk bt ca md pt ace ce packets bytes _ hc0 hc1).mono ?_
  rintro e w2 ⟨he, hb2⟩
  rw [HX.out] at he
  dsimp only at he
  subst he
  have e2 := (e1.kept hb2).alloc (.cells #[.int .i64 x.pk, .int .i64 x.bt, .int .i64 x.ca, .int .i64 x.md, .int .i64 x.pt] 23)
  have b2 := (b1.trans (hb2.mono (Nat.le_of_lt e1.lt))).alloc (Nat.le_of_lt (e1.kept hb2).lt) (.cells #[.int .i64 x.pk, .int .i64 x.bt, .int .i64 x.ca, .int .i64 x.md, .int .i64 x.pt] 23)
  obtain ⟨V1, hV1⟩ : ∃ V, w2.heap.size = V := ⟨_, rfl⟩
  have p2 := Bx.new w2 23 [.int .i64 x.pk, .int .i64 x.bt, .int .i64 x.ca, .int .i64 x.md, .int .i64 x.pt]
  rw [hV1] at p2
  go_wp2_with (refine ms_load rfl (.tmp 5) rfl rfl e2 rfl ?_)
  refine (rmsheard_any pk bt ca md pt ace ce packets bytes _ hc0 hc1).mono ?_
  rintro e w3 ⟨he, hb3⟩
  rw [HX.out] at he
  dsimp only at he
  subst he
  have e3 := (e2.kept hb3).alloc (.cells #[.int .i64 x.pk, .int .i64 x.bt, .int .i64 x.ca, .int .i64 x.md, .int .i64 x.pt] 23)
  have p3 := (p2.kept hb3).alloc (.cells #[.int .i64 x.pk, .int .i64 x.bt, .int .i64 x.ca, .int .i64 x.md, .int .i64 x.pt] 23)
  have b3 := (b2.trans (hb3.mono (Nat.le_of_lt e2.lt))).alloc (Nat.le_of_lt (e2.kept hb3).lt) (.cells #[.int .i64 x.pk, .int .i64 x.bt, .int .i64 x.ca, .int .i64 x.md, .int .i64 x.pt] 23)
  obtain ⟨V2, hV2⟩ : ∃ V, w3.heap.size = V := ⟨_, rfl⟩
  have q3 := Bx.new w3 23 [.int .i64 x.pk, .int .i64 x.bt, .int .i64 x.ca, .int .i64 x.md, .int .i64 x.pt]
  rw [hV2] at q3
  go_wp2_with (refine ms_load rfl (.tmp 5) rfl rfl e3 rfl ?_)
  refine (mkround_any pk bt ca md pt _).mono ?_
  rintro e w4 ⟨he, hb4⟩
  rw [HY.out] at he
  dsimp only at he
  subst he
  have e4 := (e3.kept hb4).alloc (.cells #[.int .i64 y.pk, .int .i64 y.bt, .int .i64 y.ca, .int .i64 y.md, .int .i64 y.pt] 23)
  have p4 := (p3.kept hb4).alloc (.cells #[.int .i64 y.pk, .int .i64 y.bt, .int .i64 y.ca, .int .i64 y.md, .int .i64 y.pt] 23)
  have q4 := (q3.kept hb4).alloc (.cells #[.int .i64 y.pk, .int .i64 y.bt, .int .i64 y.ca, .int .i64 y.md, .int .i64 y.pt] 23)
  have b4 := (b3.trans (hb4.mono (Nat.le_of_lt e3.lt))).alloc (Nat.le_of_lt (e3.kept hb4).lt) (.cells #[.int .i64 y.pk, .int .i64 y.bt, .int .i64 y.ca, .int .i64 y.md, .int .i64 y.pt] 23)
  obtain ⟨V3, hV3⟩ : ∃ V, w4.heap.size = V := ⟨_, rfl⟩
  have r4 := Bx.new w4 23 [.int .i64 y.pk, .int .i64 y.bt, .int .i64 y.ca, .int .i64 y.md, .int .i64 y.pt]
  rw [hV3] at r4
  go_wp2_with (refine ms_load rfl (.tmp 5) rfl rfl e4 rfl ?_)
  refine (rmsround_any pk bt ca md pt _).mono ?_
  rintro e w5 ⟨he, hb5⟩
  rw [HY.out] at he
  dsimp only at he
  subst he
  have e5 := (e4.kept hb5).alloc (.cells #[.int .i64 y.pk, .int .i64 y.bt, .int .i64 y.ca, .int .i64 y.md, .int .i64 y.pt] 23)
  have p5 := (p4.kept hb5).alloc (.cells #[.int .i64 y.pk, .int .i64 y.bt, .int .i64 y.ca, .int .i64 y.md, .int .i64 y.pt] 23)
  have q5 := (q4.kept hb5).alloc (.cells #[.int .i64 y.pk, .int .i64 y.bt, .int .i64 y.ca, .int .i64 y.md, .int .i64 y.pt] 23)
  have r5 := (r4.kept hb5).alloc (.cells #[.int .i64 y.pk, .int .i64 y.bt, .int .i64 y.ca, .int .i64 y.md, .int .i64 y.pt] 23)
  have b5 := (b4.trans (hb5.mono (Nat.le_of_lt e4.lt))).alloc (Nat.le_of_lt (e4.kept hb5).lt) (.cells #[.int .i64 y.pk, .int .i64 y.bt, .int .i64 y.ca, .int .i64 y.md, .int .i64 y.pt] 23)
  obtain ⟨V4, hV4⟩ : ∃ V, w5.heap.size = V := ⟨_, rfl⟩
  have s5 := Bx.new w5 23 [.int .i64 y.pk, .int .i64 y.bt, .int .i64 y.ca, .int .i64 y.md, .int .i64 y.pt]
  rw [hV4] at s5
  go_wp2_with (refine ms_load rfl (.tmp 5) rfl rfl e5 rfl ?_)
  refine (mktold_any pk bt ca md pt _).mono ?_
  rintro e w6 ⟨rfl, hb6⟩
  rw [HT.out]
  dsimp only
  have e6 := e5.kept hb6
  have p6 := p5.kept hb6
  have q6 := q5.kept hb6
  have r6 := r5.kept hb6
  have s6 := s5.kept hb6
  have b6 := b5.trans (hb6.mono (Nat.le_of_lt e5.lt))
  go_wp2_with (refine ms_load rfl (.tmp 5) rfl rfl e6 rfl ?_)
  refine (rmstold_any pk bt ca md pt _).mono ?_
  rintro e w7 ⟨rfl, hb7⟩
  rw [HT.out]
  dsimp only
  have e7 := e6.kept hb7
  have p7 := p6.kept hb7
  have q7 := q6.kept hb7
  have r7 := r6.kept hb7
  have s7 := s6.kept hb7
  have b7 := b6.trans (hb7.mono (Nat.le_of_lt e6.lt))
  go_upto_region 8 with fail
  refine wp_region_tail 43 44 (fun (W : World) => Bx W B 23 [.int .i64 pk, .int .i64 bt, .int .i64 ca, .int .i64 md, .int .i64 pt] ∧ Bx W V1 23 [.int .i64 x.pk, .int .i64 x.bt, .int .i64 x.ca, .int .i64 x.md, .int .i64 x.pt] ∧ Bx W V2 23 [.int .i64 x.pk, .int .i64 x.bt, .int .i64 x.ca, .int .i64 x.md, .int .i64 x.pt] ∧ Bx W V3 23 [.int .i64 y.pk, .int .i64 y.bt, .int .i64 y.ca, .int .i64 y.md, .int .i64 y.pt] ∧ Bx W V4 23 [.int .i64 y.pk, .int .i64 y.bt, .int .i64 y.ca, .int .i64 y.md, .int .i64 y.pt] ∧ Below B w W) (by kernel_rfl) (by rfl) (by decide) ?_
  have HS : ((fun (W : World) => Bx W B 23 [.int .i64 pk, .int .i64 bt, .int .i64 ca, .int .i64 md, .int .i64 pt] ∧ Bx W V1 23 [.int .i64 x.pk, .int .i64 x.bt, .int .i64 x.ca, .int .i64 x.md, .int .i64 x.pt] ∧ Bx W V2 23 [.int .i64 x.pk, .int .i64 x.bt, .int .i64 x.ca, .int .i64 x.md, .int .i64 x.pt] ∧ Bx W V3 23 [.int .i64 y.pk, .int .i64 y.bt, .int .i64 y.ca, .int .i64 y.md, .int .i64 y.pt] ∧ Bx W V4 23 [.int .i64 y.pk, .int .i64 y.bt, .int .i64 y.ca, .int .i64 y.md, .int .i64 y.pt] ∧ Below B w W)) _ := ⟨e7.drew, p7.drew, q7.drew, r7.drew, s7.drew, b7.drew⟩
  refine wpAnyT_take (i := 0) (v := ?vv1) rfl (by kernel_rfl) (fun _ _ _ h => h) (Or.inl ⟨by rfl, fun w hSw => ?yy1⟩) HS ?rr1
  case yy1 =>
    (try dsimp only at hSw); go_simp
    try with_reducible rfl
  try simp only [Act.put, List.setIfInBounds_toArray, List.set_cons_zero, List.set_cons_succ]
  refine wpAnyT_take (i := 1) (v := .bool true) rfl (by kernel_rfl) (fun _ _ _ h => h) (Or.inl ⟨by rfl, fun w hSw => ?_⟩) HS ?_
  · (try dsimp only at hSw); go_simp
  try simp only [Act.put, List.setIfInBounds_toArray, List.set_cons_zero, List.set_cons_succ]
  refine wpAnyT_take (i := 2) (v := .agg #[.int .i64 x.pk, .int .i64 x.bt, .int .i64 x.ca, .int .i64 x.md, .int .i64 x.pt]) rfl (by kernel_rfl) (fun _ _ _ h => h) (ms_yields (by rfl) (.tmp 12) rfl rfl [.int .i64 x.pk, .int .i64 x.bt, .int .i64 x.ca, .int .i64 x.md, .int .i64 x.pt] rfl 23 (fun W hW => hW.2.1)) HS ?_
  try simp only [Act.put, List.setIfInBounds_toArray, List.set_cons_zero, List.set_cons_succ]
  refine wpAnyT_take (i := 3) (v := .agg #[.int .i64 x.pk, .int .i64 x.bt, .int .i64 x.ca, .int .i64 x.md, .int .i64 x.pt]) rfl (by kernel_rfl) (fun _ _ _ h => h) (ms_yields (by rfl) (.tmp 15) rfl rfl [.int .i64 x.pk, .int .i64 x.bt, .int .i64 x.ca, .int .i64 x.md, .int .i64 x.pt] rfl 23 (fun W hW => hW.2.2.1)) HS ?_
  try simp only [Act.put, List.setIfInBounds_toArray, List.set_cons_zero, List.set_cons_succ]
  refine wpAnyT_take (i := 4) (v := .bool true) rfl (by kernel_rfl) (fun _ _ _ h => h) (Or.inl ⟨by rfl, fun w hSw => ?_⟩) HS ?_
  · (try dsimp only at hSw); go_simp
  try simp only [Act.put, List.setIfInBounds_toArray, List.set_cons_zero, List.set_cons_succ]
  refine wpAnyT_take (i := 5) (v := .bool true) rfl (by kernel_rfl) (fun _ _ _ h => h) (Or.inl ⟨by rfl, fun w hSw => ?_⟩) HS ?_
  · (try dsimp only at hSw); go_simp
  try simp only [Act.put, List.setIfInBounds_toArray, List.set_cons_zero, List.set_cons_succ]
  refine wpAnyT_take (i := 6) (v := .bool true) rfl (by kernel_rfl) (fun _ _ _ h => h) (Or.inl ⟨by rfl, fun w hSw => ?_⟩) HS ?_
  · (try dsimp only at hSw); go_simp
  try simp only [Act.put, List.setIfInBounds_toArray, List.set_cons_zero, List.set_cons_succ]
  refine wpAnyT_take (i := 7) (v := ?vv8) rfl (by kernel_rfl) (fun _ _ _ h => h) (Or.inl ⟨by rfl, fun w hSw => ?yy8⟩) HS ?rr8
  case yy8 =>
    (try dsimp only at hSw); go_simp
    try with_reducible rfl
  try simp only [Act.put, List.setIfInBounds_toArray, List.set_cons_zero, List.set_cons_succ]
  refine wpAnyT_take (i := 8) (v := ?vv9) rfl (by kernel_rfl) (fun _ _ _ h => h) (Or.inl ⟨by rfl, fun w hSw => ?yy9⟩) HS ?rr9
  case yy9 =>
    (try dsimp only at hSw); go_simp
    try with_reducible rfl
  try simp only [Act.put, List.setIfInBounds_toArray, List.set_cons_zero, List.set_cons_succ]
  refine wpAnyT_take (i := 9) (v := .bool true) rfl (by kernel_rfl) (fun _ _ _ h => h) (Or.inl ⟨by rfl, fun w hSw => ?_⟩) HS ?_
  · (try dsimp only at hSw); go_simp
  try simp only [Act.put, List.setIfInBounds_toArray, List.set_cons_zero, List.set_cons_succ]
  refine wpAnyT_take (i := 10) (v := .bool true) rfl (by kernel_rfl) (fun _ _ _ h => h) (Or.inl ⟨by rfl, fun w hSw => ?_⟩) HS ?_
  · (try dsimp only at hSw); go_simp
  try simp only [Act.put, List.setIfInBounds_toArray, List.set_cons_zero, List.set_cons_succ]
  refine wpAnyT_take (i := 11) (v := .bool true) rfl (by kernel_rfl) (fun _ _ _ h => h) (Or.inl ⟨by rfl, fun w hSw => ?_⟩) HS ?_
  · (try dsimp only at hSw); go_simp
  try simp only [Act.put, List.setIfInBounds_toArray, List.set_cons_zero, List.set_cons_succ]
  refine wpAnyT_take (i := 12) (v := ?vv13) rfl (by kernel_rfl) (fun _ _ _ h => h) (Or.inl ⟨by rfl, fun w hSw => ?yy13⟩) HS ?rr13
  case yy13 =>
    (try dsimp only at hSw); go_simp
    try with_reducible rfl
  try simp only [Act.put, List.setIfInBounds_toArray, List.set_cons_zero, List.set_cons_succ]
  refine wpAnyT_take (i := 13) (v := ?vv14) rfl (by kernel_rfl) (fun _ _ _ h => h) (Or.inl ⟨by rfl, fun w hSw => ?yy14⟩) HS ?rr14
  case yy14 =>
    (try dsimp only at hSw); go_simp
    try with_reducible rfl
  try simp only [Act.put, List.setIfInBounds_toArray, List.set_cons_zero, List.set_cons_succ]
  refine wpAnyT_take (i := 14) (v := .bool true) rfl (by kernel_rfl) (fun _ _ _ h => h) (Or.inl ⟨by rfl, fun w hSw => ?_⟩) HS ?_
  · (try dsimp only at hSw); go_simp
  try simp only [Act.put, List.setIfInBounds_toArray, List.set_cons_zero, List.set_cons_succ]
  refine wpAnyT_take (i := 15) (v := .bool true) rfl (by kernel_rfl) (fun _ _ _ h => h) (Or.inl ⟨by rfl, fun w hSw => ?_⟩) HS ?_
  · (try dsimp only at hSw); go_simp
  try simp only [Act.put, List.setIfInBounds_toArray, List.set_cons_zero, List.set_cons_succ]
  refine wpAnyT_take (i := 16) (v := .bool true) rfl (by kernel_rfl) (fun _ _ _ h => h) (Or.inl ⟨by rfl, fun w hSw => ?_⟩) HS ?_
  · (try dsimp only at hSw); go_simp
  try simp only [Act.put, List.setIfInBounds_toArray, List.set_cons_zero, List.set_cons_succ]
  refine wpAnyT_take (i := 17) (v := .agg #[.int .i64 y.pk, .int .i64 y.bt, .int .i64 y.ca, .int .i64 y.md, .int .i64 y.pt]) rfl (by kernel_rfl) (fun _ _ _ h => h) (ms_yields (by rfl) (.tmp 18) rfl rfl [.int .i64 y.pk, .int .i64 y.bt, .int .i64 y.ca, .int .i64 y.md, .int .i64 y.pt] rfl 23 (fun W hW => hW.2.2.2.1)) HS ?_
  try simp only [Act.put, List.setIfInBounds_toArray, List.set_cons_zero, List.set_cons_succ]
  refine wpAnyT_take (i := 18) (v := .agg #[.int .i64 y.pk, .int .i64 y.bt, .int .i64 y.ca, .int .i64 y.md, .int .i64 y.pt]) rfl (by kernel_rfl) (fun _ _ _ h => h) (ms_yields (by rfl) (.tmp 20) rfl rfl [.int .i64 y.pk, .int .i64 y.bt, .int .i64 y.ca, .int .i64 y.md, .int .i64 y.pt] rfl 23 (fun W hW => hW.2.2.2.2.1)) HS ?_
  try simp only [Act.put, List.setIfInBounds_toArray, List.set_cons_zero, List.set_cons_succ]
  refine wpAnyT_take (i := 19) (v := .bool true) rfl (by kernel_rfl) (fun _ _ _ h => h) (Or.inl ⟨by rfl, fun w hSw => ?_⟩) HS ?_
  · (try dsimp only at hSw); go_simp
  try simp only [Act.put, List.setIfInBounds_toArray, List.set_cons_zero, List.set_cons_succ]
  refine wpAnyT_take (i := 20) (v := .bool true) rfl (by kernel_rfl) (fun _ _ _ h => h) (Or.inl ⟨by rfl, fun w hSw => ?_⟩) HS ?_
  · (try dsimp only at hSw); go_simp
  try simp only [Act.put, List.setIfInBounds_toArray, List.set_cons_zero, List.set_cons_succ]
  refine wpAnyT_take (i := 21) (v := .bool true) rfl (by kernel_rfl) (fun _ _ _ h => h) (Or.inl ⟨by rfl, fun w hSw => ?_⟩) HS ?_
  · (try dsimp only at hSw); go_simp
  try simp only [Act.put, List.setIfInBounds_toArray, List.set_cons_zero, List.set_cons_succ]
  refine wpAnyT_take (i := 22) (v := ?vv23) rfl (by kernel_rfl) (fun _ _ _ h => h) (Or.inl ⟨by rfl, fun w hSw => ?yy23⟩) HS ?rr23
  case yy23 =>
    (try dsimp only at hSw); go_simp
    try with_reducible rfl
  try simp only [Act.put, List.setIfInBounds_toArray, List.set_cons_zero, List.set_cons_succ]
  refine wpAnyT_take (i := 23) (v := ?vv24) rfl (by kernel_rfl) (fun _ _ _ h => h) (Or.inl ⟨by rfl, fun w hSw => ?yy24⟩) HS ?rr24
  case yy24 =>
    (try dsimp only at hSw); go_simp
    try with_reducible rfl
  try simp only [Act.put, List.setIfInBounds_toArray, List.set_cons_zero, List.set_cons_succ]
  refine wpAnyT_take (i := 24) (v := .bool true) rfl (by kernel_rfl) (fun _ _ _ h => h) (Or.inl ⟨by rfl, fun w hSw => ?_⟩) HS ?_
  · (try dsimp only at hSw); go_simp
  try simp only [Act.put, List.setIfInBounds_toArray, List.set_cons_zero, List.set_cons_succ]
  refine wpAnyT_take (i := 25) (v := .bool true) rfl (by kernel_rfl) (fun _ _ _ h => h) (Or.inl ⟨by rfl, fun w hSw => ?_⟩) HS ?_
  · (try dsimp only at hSw); go_simp
  try simp only [Act.put, List.setIfInBounds_toArray, List.set_cons_zero, List.set_cons_succ]
  refine wpAnyT_take (i := 26) (v := .bool true) rfl (by kernel_rfl) (fun _ _ _ h => h) (Or.inl ⟨by rfl, fun w hSw => ?_⟩) HS ?_
  · (try dsimp only at hSw); go_simp
  try simp only [Act.put, List.setIfInBounds_toArray, List.set_cons_zero, List.set_cons_succ]
  refine wpAnyT_take (i := 27) (v := ?vv28) rfl (by kernel_rfl) (fun _ _ _ h => h) (Or.inl ⟨by rfl, fun w hSw => ?yy28⟩) HS ?rr28
  case yy28 =>
    (try dsimp only at hSw); go_simp
    try with_reducible rfl
  try simp only [Act.put, List.setIfInBounds_toArray, List.set_cons_zero, List.set_cons_succ]
  refine wpAnyT_take (i := 28) (v := ?vv29) rfl (by kernel_rfl) (fun _ _ _ h => h) (Or.inl ⟨by rfl, fun w hSw => ?yy29⟩) HS ?rr29
  case yy29 =>
    (try dsimp only at hSw); go_simp
    try with_reducible rfl
  try simp only [Act.put, List.setIfInBounds_toArray, List.set_cons_zero, List.set_cons_succ]
  refine wpAnyT_take (i := 29) (v := .bool true) rfl (by kernel_rfl) (fun _ _ _ h => h) (Or.inl ⟨by rfl, fun w hSw => ?_⟩) HS ?_
  · (try dsimp only at hSw); go_simp
  try simp only [Act.put, List.setIfInBounds_toArray, List.set_cons_zero, List.set_cons_succ]
  refine wpAnyT_take (i := 30) (v := .bool true) rfl (by kernel_rfl) (fun _ _ _ h => h) (Or.inl ⟨by rfl, fun w hSw => ?_⟩) HS ?_
  · (try dsimp only at hSw); go_simp
  try simp only [Act.put, List.setIfInBounds_toArray, List.set_cons_zero, List.set_cons_succ]
  refine wpAnyT_take (i := 31) (v := .bool true) rfl (by kernel_rfl) (fun _ _ _ h => h) (Or.inl ⟨by rfl, fun w hSw => ?_⟩) HS ?_
  · (try dsimp only at hSw); go_simp
  try simp only [Act.put, List.setIfInBounds_toArray, List.set_cons_zero, List.set_cons_succ]
  refine wpAnyT_take (i := 32) (v := ?vv33) rfl (by kernel_rfl) (fun _ _ _ h => h) (Or.inl ⟨by rfl, fun w hSw => ?yy33⟩) HS ?rr33
  case yy33 =>
    (try dsimp only at hSw); go_simp
    try with_reducible rfl
  try simp only [Act.put, List.setIfInBounds_toArray, List.set_cons_zero, List.set_cons_succ]
  refine wpAnyT_take (i := 33) (v := ?vv34) rfl (by kernel_rfl) (fun _ _ _ h => h) (Or.inl ⟨by rfl, fun w hSw => ?yy34⟩) HS ?rr34
  case yy34 =>
    (try dsimp only at hSw); go_simp
    try with_reducible rfl
  try simp only [Act.put, List.setIfInBounds_toArray, List.set_cons_zero, List.set_cons_succ]
  refine wpAnyT_take (i := 34) (v := .bool true) rfl (by kernel_rfl) (fun _ _ _ h => h) (Or.inl ⟨by rfl, fun w hSw => ?_⟩) HS ?_
  · (try dsimp only at hSw); go_simp
  try simp only [Act.put, List.setIfInBounds_toArray, List.set_cons_zero, List.set_cons_succ]
  refine wpAnyT_take (i := 35) (v := .bool true) rfl (by kernel_rfl) (fun _ _ _ h => h) (Or.inl ⟨by rfl, fun w hSw => ?_⟩) HS ?_
  · (try dsimp only at hSw); go_simp
  try simp only [Act.put, List.setIfInBounds_toArray, List.set_cons_zero, List.set_cons_succ]
  refine wpAnyT_take (i := 36) (v := .bool true) rfl (by kernel_rfl) (fun _ _ _ h => h) (Or.inl ⟨by rfl, fun w hSw => ?_⟩) HS ?_
  · (try dsimp only at hSw); go_simp
  try simp only [Act.put, List.setIfInBounds_toArray, List.set_cons_zero, List.set_cons_succ]
  refine wpAnyT_take (i := 37) (v := .agg #[.int .i64 pk, .int .i64 bt, .int .i64 ca, .int .i64 md, .int .i64 pt]) rfl (by kernel_rfl) (fun _ _ _ h => h) (ms_yields (by rfl) (.tmp 5) rfl rfl [.int .i64 pk, .int .i64 bt, .int .i64 ca, .int .i64 md, .int .i64 pt] rfl 23 (fun W hW => hW.1)) HS ?_
  try simp only [Act.put, List.setIfInBounds_toArray, List.set_cons_zero, List.set_cons_succ]
  refine wpAnyT_take (i := 39) (v := .agg #[.int .i64 pk, .int .i64 bt, .int .i64 ca, .int .i64 md, .int .i64 pt]) rfl (by kernel_rfl) (fun _ _ _ h => h) (ms_yields (by rfl) (.tmp 5) rfl rfl [.int .i64 pk, .int .i64 bt, .int .i64 ca, .int .i64 md, .int .i64 pt] rfl 23 (fun W hW => hW.1)) HS ?_
  try simp only [Act.put, List.setIfInBounds_toArray, List.set_cons_zero, List.set_cons_succ]
  refine wpAnyT_one (k := 38) rfl (by kernel_rfl) (by decide) (fun K hK => ?_)
  go_simp
  refine (mkmay_any pk bt ca md pt _).mono ?_; rintro e wz38 ⟨rfl, hz38⟩
  have HS : ((fun (W : World) => Bx W B 23 [.int .i64 pk, .int .i64 bt, .int .i64 ca, .int .i64 md, .int .i64 pt] ∧ Bx W V1 23 [.int .i64 x.pk, .int .i64 x.bt, .int .i64 x.ca, .int .i64 x.md, .int .i64 x.pt] ∧ Bx W V2 23 [.int .i64 x.pk, .int .i64 x.bt, .int .i64 x.ca, .int .i64 x.md, .int .i64 x.pt] ∧ Bx W V3 23 [.int .i64 y.pk, .int .i64 y.bt, .int .i64 y.ca, .int .i64 y.md, .int .i64 y.pt] ∧ Bx W V4 23 [.int .i64 y.pk, .int .i64 y.bt, .int .i64 y.ca, .int .i64 y.md, .int .i64 y.pt] ∧ Below B w W)) _ := ⟨HS.1.kept hz38, HS.2.1.kept hz38, HS.2.2.1.kept hz38, HS.2.2.2.1.kept hz38, HS.2.2.2.2.1.kept hz38, HS.2.2.2.2.2.trans (hz38.mono (Nat.le_of_lt HS.1.lt))⟩
  refine hK _ _ HS ?_
  clear hK K
  try simp only [Act.put, List.setIfInBounds_toArray, List.set_cons_zero, List.set_cons_succ]
  refine wpAnyT_one (k := 40) rfl (by kernel_rfl) (by decide) (fun K hK => ?_)
  go_simp
  refine (rmsmay_any pk bt ca md pt _).mono ?_; rintro e wz40 ⟨rfl, hz40⟩
  have HS : ((fun (W : World) => Bx W B 23 [.int .i64 pk, .int .i64 bt, .int .i64 ca, .int .i64 md, .int .i64 pt] ∧ Bx W V1 23 [.int .i64 x.pk, .int .i64 x.bt, .int .i64 x.ca, .int .i64 x.md, .int .i64 x.pt] ∧ Bx W V2 23 [.int .i64 x.pk, .int .i64 x.bt, .int .i64 x.ca, .int .i64 x.md, .int .i64 x.pt] ∧ Bx W V3 23 [.int .i64 y.pk, .int .i64 y.bt, .int .i64 y.ca, .int .i64 y.md, .int .i64 y.pt] ∧ Bx W V4 23 [.int .i64 y.pk, .int .i64 y.bt, .int .i64 y.ca, .int .i64 y.md, .int .i64 y.pt] ∧ Below B w W)) _ := ⟨HS.1.kept hz40, HS.2.1.kept hz40, HS.2.2.1.kept hz40, HS.2.2.2.1.kept hz40, HS.2.2.2.2.1.kept hz40, HS.2.2.2.2.2.trans (hz40.mono (Nat.le_of_lt HS.1.lt))⟩
  refine hK _ _ HS ?_
  clear hK K
  try simp only [Act.put, List.setIfInBounds_toArray, List.set_cons_zero, List.set_cons_succ]
  refine wpAnyT_take (i := 41) (v := .bool true) rfl (by kernel_rfl) (fun _ _ _ h => h) (Or.inl ⟨by rfl, fun w hSw => ?_⟩) HS ?_
  · (try dsimp only at hSw); go_simp
  try simp only [Act.put, List.setIfInBounds_toArray, List.set_cons_zero, List.set_cons_succ]
  refine wpAnyT_take (i := 42) (v := .bool true) rfl (by kernel_rfl) (fun _ _ _ h => h) (Or.inl ⟨by rfl, fun w hSw => ?_⟩) HS ?_
  · (try dsimp only at hSw); go_simp
  try simp only [Act.put, List.setIfInBounds_toArray, List.set_cons_zero, List.set_cons_succ]
  refine ⟨by kernel_rfl, ?_⟩
  simp only [List.drop_succ_cons, List.drop_zero]
  have bz := HS.2.2.2.2.2
  go_wp2_with fail
  go_ret
  exact ⟨rfl, bz⟩
end Go.Proofs.Ytkgbbmjobjcepaa.marksTell
