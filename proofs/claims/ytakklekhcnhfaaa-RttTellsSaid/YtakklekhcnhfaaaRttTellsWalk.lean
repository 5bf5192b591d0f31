/- The walk of the law RttTells. -/
import Derived.Test.YtakklekhcnhfaaaProg
import Derived.Test.YtakklekhcnhfaaaRtAwake
import Derived.Test.YtakklekhcnhfaaaRtIn
import Derived.Test.YtakklekhcnhfaaaTail
import Derived.OrdersHeld
import Derived.Deep.DeepCutAuto
import Derived.Deep.LoopGhost
import Derived.WalkKit
import Derived.WalkSpells
import Derived.WalkSmall
import Derived.Lib.Hide
import Derived.Below
import Derived.Outline
namespace Go.Proofs.Ytakklekhcnhfaaa.rttTells
open Go.RowKit
set_option linter.unusedVariables false
set_option linter.unusedSimpArgs false


/-- a whole estimate is loaded, in a region that draws its order -/
theorem rt_yields {ops : Array Oper} {S : World → Prop} {op : Oper} {a : Act} {B : Nat} (hw : Region.wanted op (yielded ops a.tmps) = true) (x : Operand) (ho : op.op = .load 23 x)
    (hx : a.eval x = .pointer (some ⟨B, 0, none⟩)) (cs : List Value) (hl : cs.length = 5) (t : TypeId) (hS : ∀ W, S W → Bx W B t cs) : YieldsIf Try.prog ops S op (.agg cs.toArray) a := by
  obtain ⟨fs, hu⟩ := rtt_struct
  exact .inl ⟨hw, fun w hw' => by
    unfold execOp
    simp only [ho, hx, Instr.loadAt, Instr.sureAddr, Sem.run_bind, Sem.run_pure, Result.andThen_ok, run_loadVar_row w B t 23 cs.toArray (0, 0) _ (hS w hw') hu rfl (by rw [info_rtt]; simp [hl])]⟩


set_option maxRecDepth 100000 in
set_option maxHeartbeats 8000000 in
theorem walk (has : Bool) (srtt vr rto shift : Int) (took least most : Int) (w : World) :
    Calls Try.prog 3 #[.agg #[.bool has, .int .i64 srtt, .int .i64 vr, .int .i64 rto, .int .i64 shift], .int .i64 took, .int .i64 least, .int .i64 most] w fun e w' => e = .returned (.bool true) ∧ Below w.heap.size w w' := by
  obtain ⟨B, hB⟩ : ∃ B, w.heap.size = B := ⟨_, rfl⟩
  rw [hB]
  obtain ⟨w0, hw0⟩ : ∃ w0, w.alloc (.cells #[.bool has, .int .i64 srtt, .int .i64 vr, .int .i64 rto, .int .i64 shift] 23) = w0 := ⟨_, rfl⟩
  have e0 : Bx w0 B 23 [.bool has, .int .i64 srtt, .int .i64 vr, .int .i64 rto, .int .i64 shift] := by rw [← hw0, ← hB]; exact Bx.new w 23 [.bool has, .int .i64 srtt, .int .i64 vr, .int .i64 rto, .int .i64 shift]
  have b0 : Below B w w0 := by rw [← hw0]; exact (Below.refl _ _).alloc (by omega) _
  go_enter Try.func3, Try.ntmps3
  go_wp2_with fail
  clear hw0
  refine (awake_any _).mono ?_
  rintro e w1 ⟨rfl, hb1⟩
  have e1 := e0.kept hb1; have b1 := b0.trans (hb1.mono (Nat.le_of_lt e0.lt))
  obtain ⟨x, hx⟩ : ∃ x, smp ⟨has, srtt, vr, rto, shift⟩ took least most = x := ⟨_, rfl⟩
  obtain ⟨y, hy⟩ : ∃ y, dbl ⟨has, srtt, vr, rto, shift⟩ = y := ⟨_, rfl⟩
  obtain ⟨s, es⟩ := x
  obtain ⟨t, et⟩ := y
  have HX := Lib.hid hx; have HY := Lib.hid hy; clear hx hy
  go_wp2_with (refine rt_load rfl (.tmp 4) rfl rfl e1 rfl ?_)
  refine (rtsample_any has srtt vr rto shift took least most _).mono ?_
  rintro e w2 h2
  rw [HX.out] at h2
  obtain ⟨rfl, hb2⟩ := h2
  dsimp only
  have e2 := (e1.kept hb2).alloc (.cells #[.bool s.has, .int .i64 s.srtt, .int .i64 s.vr, .int .i64 s.rto, .int .i64 s.shift] 23)
  obtain ⟨V0, hV0⟩ : ∃ V, w2.heap.size = V := ⟨_, rfl⟩
  have v0_2 := Bx.new w2 23 [.bool s.has, .int .i64 s.srtt, .int .i64 s.vr, .int .i64 s.rto, .int .i64 s.shift]
  rw [hV0] at v0_2
  have b2 := (b1.trans (hb2.mono (Nat.le_of_lt e1.lt))).alloc (by have := e2.lt; have := (e1.kept hb2).lt; omega) (.cells #[.bool s.has, .int .i64 s.srtt, .int .i64 s.vr, .int .i64 s.rto, .int .i64 s.shift] 23)
  go_wp2_with (refine rt_load rfl (.tmp 4) rfl rfl e2 rfl ?_)
  refine (rrsample_any has srtt vr rto shift took least most _).mono ?_
  rintro e w3 h3
  rw [HX.out] at h3
  obtain ⟨rfl, hb3⟩ := h3
  dsimp only
  have e3 := (e2.kept hb3).alloc (.cells #[.bool s.has, .int .i64 s.srtt, .int .i64 s.vr, .int .i64 s.rto, .int .i64 s.shift] 23)
  have v0_3 := (v0_2.kept hb3).alloc (.cells #[.bool s.has, .int .i64 s.srtt, .int .i64 s.vr, .int .i64 s.rto, .int .i64 s.shift] 23)
  obtain ⟨V1, hV1⟩ : ∃ V, w3.heap.size = V := ⟨_, rfl⟩
  have v1_3 := Bx.new w3 23 [.bool s.has, .int .i64 s.srtt, .int .i64 s.vr, .int .i64 s.rto, .int .i64 s.shift]
  rw [hV1] at v1_3
  have b3 := (b2.trans (hb3.mono (Nat.le_of_lt e2.lt))).alloc (by have := e3.lt; have := (e2.kept hb3).lt; omega) (.cells #[.bool s.has, .int .i64 s.srtt, .int .i64 s.vr, .int .i64 s.rto, .int .i64 s.shift] 23)
  go_wp2_with (refine rt_load rfl (.tmp 4) rfl rfl e3 rfl ?_)
  refine (rtdouble_any has srtt vr rto shift _).mono ?_
  rintro e w4 h4
  rw [HY.out] at h4
  obtain ⟨rfl, hb4⟩ := h4
  dsimp only
  have e4 := (e3.kept hb4).alloc (.cells #[.bool t.has, .int .i64 t.srtt, .int .i64 t.vr, .int .i64 t.rto, .int .i64 t.shift] 23)
  have v0_4 := (v0_3.kept hb4).alloc (.cells #[.bool t.has, .int .i64 t.srtt, .int .i64 t.vr, .int .i64 t.rto, .int .i64 t.shift] 23)
  have v1_4 := (v1_3.kept hb4).alloc (.cells #[.bool t.has, .int .i64 t.srtt, .int .i64 t.vr, .int .i64 t.rto, .int .i64 t.shift] 23)
  obtain ⟨V2, hV2⟩ : ∃ V, w4.heap.size = V := ⟨_, rfl⟩
  have v2_4 := Bx.new w4 23 [.bool t.has, .int .i64 t.srtt, .int .i64 t.vr, .int .i64 t.rto, .int .i64 t.shift]
  rw [hV2] at v2_4
  have b4 := (b3.trans (hb4.mono (Nat.le_of_lt e3.lt))).alloc (by have := e4.lt; have := (e3.kept hb4).lt; omega) (.cells #[.bool t.has, .int .i64 t.srtt, .int .i64 t.vr, .int .i64 t.rto, .int .i64 t.shift] 23)
  go_wp2_with (refine rt_load rfl (.tmp 4) rfl rfl e4 rfl ?_)
  refine (rrdouble_any has srtt vr rto shift _).mono ?_
  rintro e w5 h5
  rw [HY.out] at h5
  obtain ⟨rfl, hb5⟩ := h5
  dsimp only
  have e5 := (e4.kept hb5).alloc (.cells #[.bool t.has, .int .i64 t.srtt, .int .i64 t.vr, .int .i64 t.rto, .int .i64 t.shift] 23)
  have v0_5 := (v0_4.kept hb5).alloc (.cells #[.bool t.has, .int .i64 t.srtt, .int .i64 t.vr, .int .i64 t.rto, .int .i64 t.shift] 23)
  have v1_5 := (v1_4.kept hb5).alloc (.cells #[.bool t.has, .int .i64 t.srtt, .int .i64 t.vr, .int .i64 t.rto, .int .i64 t.shift] 23)
  have v2_5 := (v2_4.kept hb5).alloc (.cells #[.bool t.has, .int .i64 t.srtt, .int .i64 t.vr, .int .i64 t.rto, .int .i64 t.shift] 23)
  obtain ⟨V3, hV3⟩ : ∃ V, w5.heap.size = V := ⟨_, rfl⟩
  have v3_5 := Bx.new w5 23 [.bool t.has, .int .i64 t.srtt, .int .i64 t.vr, .int .i64 t.rto, .int .i64 t.shift]
  rw [hV3] at v3_5
  have b5 := (b4.trans (hb5.mono (Nat.le_of_lt e4.lt))).alloc (by have := e5.lt; have := (e4.kept hb5).lt; omega) (.cells #[.bool t.has, .int .i64 t.srtt, .int .i64 t.vr, .int .i64 t.rto, .int .i64 t.shift] 23)
  go_upto_region 6 with fail
  refine wp_region_tail 37 38 (fun (W : World) => Bx W B 23 [.bool has, .int .i64 srtt, .int .i64 vr, .int .i64 rto, .int .i64 shift] ∧ Bx W V0 23 [.bool s.has, .int .i64 s.srtt, .int .i64 s.vr, .int .i64 s.rto, .int .i64 s.shift] ∧ Bx W V1 23 [.bool s.has, .int .i64 s.srtt, .int .i64 s.vr, .int .i64 s.rto, .int .i64 s.shift] ∧ Bx W V2 23 [.bool t.has, .int .i64 t.srtt, .int .i64 t.vr, .int .i64 t.rto, .int .i64 t.shift] ∧ Bx W V3 23 [.bool t.has, .int .i64 t.srtt, .int .i64 t.vr, .int .i64 t.rto, .int .i64 t.shift] ∧ Below B w W) (by kernel_rfl) (by rfl) (by decide) ?_
  have HS : ((fun (W : World) => Bx W B 23 [.bool has, .int .i64 srtt, .int .i64 vr, .int .i64 rto, .int .i64 shift] ∧ Bx W V0 23 [.bool s.has, .int .i64 s.srtt, .int .i64 s.vr, .int .i64 s.rto, .int .i64 s.shift] ∧ Bx W V1 23 [.bool s.has, .int .i64 s.srtt, .int .i64 s.vr, .int .i64 s.rto, .int .i64 s.shift] ∧ Bx W V2 23 [.bool t.has, .int .i64 t.srtt, .int .i64 t.vr, .int .i64 t.rto, .int .i64 t.shift] ∧ Bx W V3 23 [.bool t.has, .int .i64 t.srtt, .int .i64 t.vr, .int .i64 t.rto, .int .i64 t.shift] ∧ Below B w W)) _ := ⟨e5.drew, v0_5.drew, v1_5.drew, v2_5.drew, v3_5.drew, b5.drew⟩
  refine wpAnyT_take (i := 0) (v := ?vv1) rfl (by kernel_rfl) (fun _ _ _ h => h) (Or.inl ⟨by rfl, fun w hSw => ?yy1⟩) HS ?rr1
  case yy1 =>
    (try dsimp only at hSw); go_simp
    try with_reducible rfl
  try simp only [Act.put, List.setIfInBounds_toArray, List.set_cons_zero, List.set_cons_succ]
  refine wpAnyT_take (i := 1) (v := .bool true) rfl (by kernel_rfl) (fun _ _ _ h => h) (Or.inl ⟨by rfl, fun w hSw => ?_⟩) HS ?_
  · (try dsimp only at hSw); go_simp
  try simp only [Act.put, List.setIfInBounds_toArray, List.set_cons_zero, List.set_cons_succ]
  refine wpAnyT_take (i := 2) (v := .agg #[.bool s.has, .int .i64 s.srtt, .int .i64 s.vr, .int .i64 s.rto, .int .i64 s.shift]) rfl (by kernel_rfl) (fun _ _ _ h => h) (rt_yields (by rfl) (.tmp 10) rfl rfl [.bool s.has, .int .i64 s.srtt, .int .i64 s.vr, .int .i64 s.rto, .int .i64 s.shift] rfl 23 (fun W hW => hW.2.1)) HS ?_
  try simp only [Act.put, List.setIfInBounds_toArray, List.set_cons_zero, List.set_cons_succ]
  refine wpAnyT_take (i := 3) (v := .agg #[.bool s.has, .int .i64 s.srtt, .int .i64 s.vr, .int .i64 s.rto, .int .i64 s.shift]) rfl (by kernel_rfl) (fun _ _ _ h => h) (rt_yields (by rfl) (.tmp 12) rfl rfl [.bool s.has, .int .i64 s.srtt, .int .i64 s.vr, .int .i64 s.rto, .int .i64 s.shift] rfl 23 (fun W hW => hW.2.2.1)) HS ?_
  try simp only [Act.put, List.setIfInBounds_toArray, List.set_cons_zero, List.set_cons_succ]
  refine wpAnyT_take (i := 4) (v := .bool true) rfl (by kernel_rfl) (fun _ _ _ h => h) (Or.inl ⟨by rfl, fun w hSw => ?_⟩) HS ?_
  · (try dsimp only at hSw); go_simp
  try simp only [Act.put, List.setIfInBounds_toArray, List.set_cons_zero, List.set_cons_succ]
  refine wpAnyT_take (i := 5) (v := .bool true) rfl (by kernel_rfl) (fun _ _ _ h => h) (Or.inl ⟨by rfl, fun w hSw => ?_⟩) HS ?_
  · (try dsimp only at hSw); go_simp
  try simp only [Act.put, List.setIfInBounds_toArray, List.set_cons_zero, List.set_cons_succ]
  refine wpAnyT_take (i := 6) (v := .bool true) rfl (by kernel_rfl) (fun _ _ _ h => h) (Or.inl ⟨by rfl, fun w hSw => ?_⟩) HS ?_
  · (try dsimp only at hSw); go_simp
  try simp only [Act.put, List.setIfInBounds_toArray, List.set_cons_zero, List.set_cons_succ]
  refine wpAnyT_take (i := 7) (v := ?vv8) rfl (by kernel_rfl) (fun _ _ _ h => h) (Or.inl ⟨by rfl, fun w hSw => ?yy8⟩) HS ?rr8
  case yy8 =>
    (try dsimp only at hSw); go_simp
    try with_reducible rfl
  try simp only [Act.put, List.setIfInBounds_toArray, List.set_cons_zero, List.set_cons_succ]
  refine wpAnyT_take (i := 8) (v := ?vv9) rfl (by kernel_rfl) (fun _ _ _ h => h) (Or.inl ⟨by rfl, fun w hSw => ?yy9⟩) HS ?rr9
  case yy9 =>
    (try dsimp only at hSw); go_simp
    try with_reducible rfl
  try simp only [Act.put, List.setIfInBounds_toArray, List.set_cons_zero, List.set_cons_succ]
  refine wpAnyT_take (i := 9) (v := .bool true) rfl (by kernel_rfl) (fun _ _ _ h => h) (Or.inl ⟨by rfl, fun w hSw => ?_⟩) HS ?_
  · (try dsimp only at hSw); go_simp
  try simp only [Act.put, List.setIfInBounds_toArray, List.set_cons_zero, List.set_cons_succ]
  refine wpAnyT_take (i := 10) (v := .bool true) rfl (by kernel_rfl) (fun _ _ _ h => h) (Or.inl ⟨by rfl, fun w hSw => ?_⟩) HS ?_
  · (try dsimp only at hSw); go_simp
  try simp only [Act.put, List.setIfInBounds_toArray, List.set_cons_zero, List.set_cons_succ]
  refine wpAnyT_take (i := 11) (v := .bool true) rfl (by kernel_rfl) (fun _ _ _ h => h) (Or.inl ⟨by rfl, fun w hSw => ?_⟩) HS ?_
  · (try dsimp only at hSw); go_simp
  try simp only [Act.put, List.setIfInBounds_toArray, List.set_cons_zero, List.set_cons_succ]
  refine wpAnyT_take (i := 12) (v := .agg #[.bool t.has, .int .i64 t.srtt, .int .i64 t.vr, .int .i64 t.rto, .int .i64 t.shift]) rfl (by kernel_rfl) (fun _ _ _ h => h) (rt_yields (by rfl) (.tmp 14) rfl rfl [.bool t.has, .int .i64 t.srtt, .int .i64 t.vr, .int .i64 t.rto, .int .i64 t.shift] rfl 23 (fun W hW => hW.2.2.2.1)) HS ?_
  try simp only [Act.put, List.setIfInBounds_toArray, List.set_cons_zero, List.set_cons_succ]
  refine wpAnyT_take (i := 13) (v := .agg #[.bool t.has, .int .i64 t.srtt, .int .i64 t.vr, .int .i64 t.rto, .int .i64 t.shift]) rfl (by kernel_rfl) (fun _ _ _ h => h) (rt_yields (by rfl) (.tmp 16) rfl rfl [.bool t.has, .int .i64 t.srtt, .int .i64 t.vr, .int .i64 t.rto, .int .i64 t.shift] rfl 23 (fun W hW => hW.2.2.2.2.1)) HS ?_
  try simp only [Act.put, List.setIfInBounds_toArray, List.set_cons_zero, List.set_cons_succ]
  refine wpAnyT_take (i := 14) (v := .bool true) rfl (by kernel_rfl) (fun _ _ _ h => h) (Or.inl ⟨by rfl, fun w hSw => ?_⟩) HS ?_
  · (try dsimp only at hSw); go_simp
  try simp only [Act.put, List.setIfInBounds_toArray, List.set_cons_zero, List.set_cons_succ]
  refine wpAnyT_take (i := 15) (v := .bool true) rfl (by kernel_rfl) (fun _ _ _ h => h) (Or.inl ⟨by rfl, fun w hSw => ?_⟩) HS ?_
  · (try dsimp only at hSw); go_simp
  try simp only [Act.put, List.setIfInBounds_toArray, List.set_cons_zero, List.set_cons_succ]
  refine wpAnyT_take (i := 16) (v := .bool true) rfl (by kernel_rfl) (fun _ _ _ h => h) (Or.inl ⟨by rfl, fun w hSw => ?_⟩) HS ?_
  · (try dsimp only at hSw); go_simp
  try simp only [Act.put, List.setIfInBounds_toArray, List.set_cons_zero, List.set_cons_succ]
  refine wpAnyT_take (i := 17) (v := ?vv18) rfl (by kernel_rfl) (fun _ _ _ h => h) (Or.inl ⟨by rfl, fun w hSw => ?yy18⟩) HS ?rr18
  case yy18 =>
    (try dsimp only at hSw); go_simp
    try with_reducible rfl
  try simp only [Act.put, List.setIfInBounds_toArray, List.set_cons_zero, List.set_cons_succ]
  refine wpAnyT_take (i := 18) (v := ?vv19) rfl (by kernel_rfl) (fun _ _ _ h => h) (Or.inl ⟨by rfl, fun w hSw => ?yy19⟩) HS ?rr19
  case yy19 =>
    (try dsimp only at hSw); go_simp
    try with_reducible rfl
  try simp only [Act.put, List.setIfInBounds_toArray, List.set_cons_zero, List.set_cons_succ]
  refine wpAnyT_take (i := 19) (v := .bool true) rfl (by kernel_rfl) (fun _ _ _ h => h) (Or.inl ⟨by rfl, fun w hSw => ?_⟩) HS ?_
  · (try dsimp only at hSw); go_simp
  try simp only [Act.put, List.setIfInBounds_toArray, List.set_cons_zero, List.set_cons_succ]
  refine wpAnyT_take (i := 20) (v := .bool true) rfl (by kernel_rfl) (fun _ _ _ h => h) (Or.inl ⟨by rfl, fun w hSw => ?_⟩) HS ?_
  · (try dsimp only at hSw); go_simp
  try simp only [Act.put, List.setIfInBounds_toArray, List.set_cons_zero, List.set_cons_succ]
  refine wpAnyT_take (i := 21) (v := .bool true) rfl (by kernel_rfl) (fun _ _ _ h => h) (Or.inl ⟨by rfl, fun w hSw => ?_⟩) HS ?_
  · (try dsimp only at hSw); go_simp
  try simp only [Act.put, List.setIfInBounds_toArray, List.set_cons_zero, List.set_cons_succ]
  refine wpAnyT_take (i := 22) (v := .agg #[.bool has, .int .i64 srtt, .int .i64 vr, .int .i64 rto, .int .i64 shift]) rfl (by kernel_rfl) (fun _ _ _ h => h) (rt_yields (by rfl) (.tmp 4) rfl rfl [.bool has, .int .i64 srtt, .int .i64 vr, .int .i64 rto, .int .i64 shift] rfl 23 (fun W hW => hW.1)) HS ?_
  try simp only [Act.put, List.setIfInBounds_toArray, List.set_cons_zero, List.set_cons_succ]
  refine wpAnyT_take (i := 23) (v := ?vv24) rfl (by kernel_rfl) (fun _ _ _ h => h) (Or.inl ⟨by rfl, fun w hSw => ?yy24⟩) HS ?rr24
  case yy24 =>
    (try dsimp only at hSw); go_simp
    try with_reducible rfl
  try simp only [Act.put, List.setIfInBounds_toArray, List.set_cons_zero, List.set_cons_succ]
  refine wpAnyT_take (i := 25) (v := .agg #[.bool has, .int .i64 srtt, .int .i64 vr, .int .i64 rto, .int .i64 shift]) rfl (by kernel_rfl) (fun _ _ _ h => h) (rt_yields (by rfl) (.tmp 4) rfl rfl [.bool has, .int .i64 srtt, .int .i64 vr, .int .i64 rto, .int .i64 shift] rfl 23 (fun W hW => hW.1)) HS ?_
  try simp only [Act.put, List.setIfInBounds_toArray, List.set_cons_zero, List.set_cons_succ]
  refine wpAnyT_take (i := 26) (v := ?vv26) rfl (by kernel_rfl) (fun _ _ _ h => h) (Or.inl ⟨by rfl, fun w hSw => ?yy26⟩) HS ?rr26
  case yy26 =>
    (try dsimp only at hSw); go_simp
    try with_reducible rfl
  try simp only [Act.put, List.setIfInBounds_toArray, List.set_cons_zero, List.set_cons_succ]
  refine wpAnyT_one (k := 24) rfl (by kernel_rfl) (by decide) (fun K hK => ?_)
  go_simp
  refine (rtwait_any has srtt vr rto shift most _).mono ?_; rintro e wz24 ⟨rfl, hz24⟩
  have HS : ((fun (W : World) => Bx W B 23 [.bool has, .int .i64 srtt, .int .i64 vr, .int .i64 rto, .int .i64 shift] ∧ Bx W V0 23 [.bool s.has, .int .i64 s.srtt, .int .i64 s.vr, .int .i64 s.rto, .int .i64 s.shift] ∧ Bx W V1 23 [.bool s.has, .int .i64 s.srtt, .int .i64 s.vr, .int .i64 s.rto, .int .i64 s.shift] ∧ Bx W V2 23 [.bool t.has, .int .i64 t.srtt, .int .i64 t.vr, .int .i64 t.rto, .int .i64 t.shift] ∧ Bx W V3 23 [.bool t.has, .int .i64 t.srtt, .int .i64 t.vr, .int .i64 t.rto, .int .i64 t.shift] ∧ Below B w W)) _ := ⟨HS.1.kept hz24, HS.2.1.kept hz24, HS.2.2.1.kept hz24, HS.2.2.2.1.kept hz24, HS.2.2.2.2.1.kept hz24, HS.2.2.2.2.2.trans (hz24.mono (Nat.le_of_lt HS.1.lt))⟩
  refine hK _ _ HS ?_
  clear hK K
  try simp only [Act.put, List.setIfInBounds_toArray, List.set_cons_zero, List.set_cons_succ]
  refine wpAnyT_one (k := 27) rfl (by kernel_rfl) (by decide) (fun K hK => ?_)
  go_simp
  refine (rrwait_any has srtt vr rto shift most _).mono ?_; rintro e wz27 ⟨rfl, hz27⟩
  have HS : ((fun (W : World) => Bx W B 23 [.bool has, .int .i64 srtt, .int .i64 vr, .int .i64 rto, .int .i64 shift] ∧ Bx W V0 23 [.bool s.has, .int .i64 s.srtt, .int .i64 s.vr, .int .i64 s.rto, .int .i64 s.shift] ∧ Bx W V1 23 [.bool s.has, .int .i64 s.srtt, .int .i64 s.vr, .int .i64 s.rto, .int .i64 s.shift] ∧ Bx W V2 23 [.bool t.has, .int .i64 t.srtt, .int .i64 t.vr, .int .i64 t.rto, .int .i64 t.shift] ∧ Bx W V3 23 [.bool t.has, .int .i64 t.srtt, .int .i64 t.vr, .int .i64 t.rto, .int .i64 t.shift] ∧ Below B w W)) _ := ⟨HS.1.kept hz27, HS.2.1.kept hz27, HS.2.2.1.kept hz27, HS.2.2.2.1.kept hz27, HS.2.2.2.2.1.kept hz27, HS.2.2.2.2.2.trans (hz27.mono (Nat.le_of_lt HS.1.lt))⟩
  refine hK _ _ HS ?_
  clear hK K
  try simp only [Act.put, List.setIfInBounds_toArray, List.set_cons_zero, List.set_cons_succ]
  refine wpAnyT_take (i := 28) (v := .bool true) rfl (by kernel_rfl) (fun _ _ _ h => h) (Or.inl ⟨by rfl, fun w hSw => ?_⟩) HS ?_
  · (try dsimp only at hSw); go_simp
  try simp only [Act.put, List.setIfInBounds_toArray, List.set_cons_zero, List.set_cons_succ]
  refine wpAnyT_take (i := 29) (v := .bool true) rfl (by kernel_rfl) (fun _ _ _ h => h) (Or.inl ⟨by rfl, fun w hSw => ?_⟩) HS ?_
  · (try dsimp only at hSw); go_simp
  try simp only [Act.put, List.setIfInBounds_toArray, List.set_cons_zero, List.set_cons_succ]
  refine wpAnyT_take (i := 30) (v := .bool true) rfl (by kernel_rfl) (fun _ _ _ h => h) (Or.inl ⟨by rfl, fun w hSw => ?_⟩) HS ?_
  · (try dsimp only at hSw); go_simp
  try simp only [Act.put, List.setIfInBounds_toArray, List.set_cons_zero, List.set_cons_succ]
  refine wpAnyT_take (i := 31) (v := .agg #[.bool has, .int .i64 srtt, .int .i64 vr, .int .i64 rto, .int .i64 shift]) rfl (by kernel_rfl) (fun _ _ _ h => h) (rt_yields (by rfl) (.tmp 4) rfl rfl [.bool has, .int .i64 srtt, .int .i64 vr, .int .i64 rto, .int .i64 shift] rfl 23 (fun W hW => hW.1)) HS ?_
  try simp only [Act.put, List.setIfInBounds_toArray, List.set_cons_zero, List.set_cons_succ]
  refine wpAnyT_take (i := 33) (v := .agg #[.bool has, .int .i64 srtt, .int .i64 vr, .int .i64 rto, .int .i64 shift]) rfl (by kernel_rfl) (fun _ _ _ h => h) (rt_yields (by rfl) (.tmp 4) rfl rfl [.bool has, .int .i64 srtt, .int .i64 vr, .int .i64 rto, .int .i64 shift] rfl 23 (fun W hW => hW.1)) HS ?_
  try simp only [Act.put, List.setIfInBounds_toArray, List.set_cons_zero, List.set_cons_succ]
  refine wpAnyT_one (k := 32) rfl (by kernel_rfl) (by decide) (fun K hK => ?_)
  go_simp
  refine (rtmay_any has srtt vr rto shift _).mono ?_; rintro e wz32 ⟨rfl, hz32⟩
  have HS : ((fun (W : World) => Bx W B 23 [.bool has, .int .i64 srtt, .int .i64 vr, .int .i64 rto, .int .i64 shift] ∧ Bx W V0 23 [.bool s.has, .int .i64 s.srtt, .int .i64 s.vr, .int .i64 s.rto, .int .i64 s.shift] ∧ Bx W V1 23 [.bool s.has, .int .i64 s.srtt, .int .i64 s.vr, .int .i64 s.rto, .int .i64 s.shift] ∧ Bx W V2 23 [.bool t.has, .int .i64 t.srtt, .int .i64 t.vr, .int .i64 t.rto, .int .i64 t.shift] ∧ Bx W V3 23 [.bool t.has, .int .i64 t.srtt, .int .i64 t.vr, .int .i64 t.rto, .int .i64 t.shift] ∧ Below B w W)) _ := ⟨HS.1.kept hz32, HS.2.1.kept hz32, HS.2.2.1.kept hz32, HS.2.2.2.1.kept hz32, HS.2.2.2.2.1.kept hz32, HS.2.2.2.2.2.trans (hz32.mono (Nat.le_of_lt HS.1.lt))⟩
  refine hK _ _ HS ?_
  clear hK K
  try simp only [Act.put, List.setIfInBounds_toArray, List.set_cons_zero, List.set_cons_succ]
  refine wpAnyT_one (k := 34) rfl (by kernel_rfl) (by decide) (fun K hK => ?_)
  go_simp
  refine (rrmay_any has srtt vr rto shift _).mono ?_; rintro e wz34 ⟨rfl, hz34⟩
  have HS : ((fun (W : World) => Bx W B 23 [.bool has, .int .i64 srtt, .int .i64 vr, .int .i64 rto, .int .i64 shift] ∧ Bx W V0 23 [.bool s.has, .int .i64 s.srtt, .int .i64 s.vr, .int .i64 s.rto, .int .i64 s.shift] ∧ Bx W V1 23 [.bool s.has, .int .i64 s.srtt, .int .i64 s.vr, .int .i64 s.rto, .int .i64 s.shift] ∧ Bx W V2 23 [.bool t.has, .int .i64 t.srtt, .int .i64 t.vr, .int .i64 t.rto, .int .i64 t.shift] ∧ Bx W V3 23 [.bool t.has, .int .i64 t.srtt, .int .i64 t.vr, .int .i64 t.rto, .int .i64 t.shift] ∧ Below B w W)) _ := ⟨HS.1.kept hz34, HS.2.1.kept hz34, HS.2.2.1.kept hz34, HS.2.2.2.1.kept hz34, HS.2.2.2.2.1.kept hz34, HS.2.2.2.2.2.trans (hz34.mono (Nat.le_of_lt HS.1.lt))⟩
  refine hK _ _ HS ?_
  clear hK K
  try simp only [Act.put, List.setIfInBounds_toArray, List.set_cons_zero, List.set_cons_succ]
  refine wpAnyT_take (i := 35) (v := .bool true) rfl (by kernel_rfl) (fun _ _ _ h => h) (Or.inl ⟨by rfl, fun w hSw => ?_⟩) HS ?_
  · (try dsimp only at hSw); go_simp
  try simp only [Act.put, List.setIfInBounds_toArray, List.set_cons_zero, List.set_cons_succ]
  refine wpAnyT_take (i := 36) (v := .bool true) rfl (by kernel_rfl) (fun _ _ _ h => h) (Or.inl ⟨by rfl, fun w hSw => ?_⟩) HS ?_
  · (try dsimp only at hSw); go_simp
  try simp only [Act.put, List.setIfInBounds_toArray, List.set_cons_zero, List.set_cons_succ]
  refine ⟨by kernel_rfl, ?_⟩
  simp only [List.drop_succ_cons, List.drop_zero]
  have bz := HS.2.2.2.2.2
  go_wp2_with fail
  go_ret
  exact ⟨rfl, bz⟩
end Go.Proofs.Ytakklekhcnhfaaa.rttTells
