/- The walk of the law RttOrder. -/
import Derived.Test.YtakklekhcnhfaaaProg
import Derived.Test.YtakklekhcnhfaaaRtAwake
import Derived.Test.YtakklekhcnhfaaaRtIn
import Derived.Test.YtakklekhcnhfaaaTail
import Derived.OrdersHeld
import Derived.Deep.DeepCutAuto
import Derived.Deep.LoopGhost
import Derived.WalkKit
import Derived.WalkSpells
import Derived.WalkSmall
import Derived.Lib.Hide
import Derived.Below
import Derived.Outline
namespace Go.Proofs.Ytakklekhcnhfaaa.rttOrder
open Go.RowKit
set_option linter.unusedVariables false
set_option linter.unusedSimpArgs false

/-- a whole estimate is loaded, in a region that draws its order -/
theorem rt_yields {ops : Array Oper} {S : World → Prop} {op : Oper} {a : Act} {B : Nat} (hw : Region.wanted op (yielded ops a.tmps) = true) (x : Operand) (ho : op.op = .load 23 x)
    (hx : a.eval x = .pointer (some ⟨B, 0, none⟩)) (cs : List Value) (hl : cs.length = 5) (t : TypeId) (hS : ∀ W, S W → Bx W B t cs) : YieldsIf Try.prog ops S op (.agg cs.toArray) a := by
  obtain ⟨fs, hu⟩ := rtt_struct
  exact .inl ⟨hw, fun w hw' => by
    unfold execOp
    simp only [ho, hx, Instr.loadAt, Instr.sureAddr, Sem.run_bind, Sem.run_pure, Result.andThen_ok, run_loadVar_row w B t 23 cs.toArray (0, 0) _ (hS w hw') hu rfl (by rw [info_rtt]; simp [hl])]⟩

set_option maxRecDepth 100000 in
set_option maxHeartbeats 8000000 in
theorem walk (has : Bool) (srtt vr rto shift : Int) (took more most : Int) (w : World) :
    Calls Try.prog 8 #[.agg #[.bool has, .int .i64 srtt, .int .i64 vr, .int .i64 rto, .int .i64 shift], .int .i64 took, .int .i64 more, .int .i64 most] w fun e w' => e = .returned (.bool true) ∧ Below w.heap.size w w' := by
  obtain ⟨B, hB⟩ : ∃ B, w.heap.size = B := ⟨_, rfl⟩
  rw [hB]
  obtain ⟨w0, hw0⟩ : ∃ w0, w.alloc (.cells #[.bool has, .int .i64 srtt, .int .i64 vr, .int .i64 rto, .int .i64 shift] 23) = w0 := ⟨_, rfl⟩
  have e0 : Bx w0 B 23 [.bool has, .int .i64 srtt, .int .i64 vr, .int .i64 rto, .int .i64 shift] := by rw [← hw0, ← hB]; exact Bx.new w 23 [.bool has, .int .i64 srtt, .int .i64 vr, .int .i64 rto, .int .i64 shift]
  have b0 : Below B w w0 := by rw [← hw0]; exact (Below.refl _ _).alloc (by omega) _
  go_enter Try.func8, Try.ntmps8
  go_wp2_with fail
  clear hw0
  refine (awake_any _).mono ?_
  rintro e w1 ⟨rfl, hb1⟩
  have e1 := e0.kept hb1; have b1 := b0.trans (hb1.mono (Nat.le_of_lt e0.lt))
  by_cases c0 : more < 0
  case pos =>
    have d0 : decide (more < 0) = true := decide_eq_true c0
    go_wp2_with fail
    go_ret
    exact ⟨rfl, b1⟩
  have d0 : decide (more < 0) = false := decide_eq_false c0
  have g0 : 0 ≤ more := by omega
  by_cases c1 : took < 0
  case pos =>
    have d1 : decide (took < 0) = true := decide_eq_true c1
    go_wp2_with fail
    go_ret
    exact ⟨rfl, b1⟩
  have d1 : decide (took < 0) = false := decide_eq_false c1
  have g1 : 0 ≤ took := by omega
  by_cases c2 : 549755813888 < took
  case pos =>
    have d2 : decide (549755813888 < took) = true := decide_eq_true c2
    go_wp2_with fail
    go_ret
    exact ⟨rfl, b1⟩
  have d2 : decide (549755813888 < took) = false := decide_eq_false c2
  have g2 : took ≤ 549755813888 := by omega
  by_cases c3 : 549755813888 < more
  case pos =>
    have d3 : decide (549755813888 < more) = true := decide_eq_true c3
    go_wp2_with fail
    go_ret
    exact ⟨rfl, b1⟩
  have d3 : decide (549755813888 < more) = false := decide_eq_false c3
  have g3 : more ≤ 549755813888 := by omega
  by_cases c4 : most < 1
  case pos =>
    have d4 : decide (most < 1) = true := decide_eq_true c4
    go_wp2_with fail
    go_ret
    exact ⟨rfl, b1⟩
  have d4 : decide (most < 1) = false := decide_eq_false c4
  have g4 : 1 ≤ most := by omega
  by_cases c5 : 549755813888 < most
  case pos =>
    have d5 : decide (549755813888 < most) = true := decide_eq_true c5
    go_wp2_with fail
    go_ret
    exact ⟨rfl, b1⟩
  have d5 : decide (549755813888 < most) = false := decide_eq_false c5
  have g5 : most ≤ 549755813888 := by omega
  have ha : ArgOk took 1 most := ⟨g1, by omega, by decide, g4, by omega⟩
  have ha2 : ArgOk (took + more) 1 most := ⟨by omega, by omega, by decide, g4, by omega⟩
  have hw2 : (2 * most) < 9223372036854775808 := by omega
  cases hk : rtB ⟨has, srtt, vr, rto, shift⟩ with
  | false =>
    have hx := smp_no (r := ⟨has, srtt, vr, rto, shift⟩) (took := took) (least := 1) (most := most) (fun k => by rw [hk] at k; exact absurd k.1 (by decide))
    have hx2 := smp_no (r := ⟨has, srtt, vr, rto, shift⟩) (took := took + more) (least := 1) (most := most) (fun k => by rw [hk] at k; exact absurd k.1 (by decide))
    have HX := Lib.hid hx; have HX2 := Lib.hid hx2; have HK := Lib.hid hk
    clear hx hx2 hk
    go_wp2_with (refine rt_load rfl (.tmp 4) rfl rfl e1 rfl ?_)
    refine (rtsample_any has srtt vr rto shift took 1 most _).mono ?_
    rintro e w2 h2
    rw [HX.out] at h2
    obtain ⟨rfl, hb2⟩ := h2
    dsimp only [zrt]
    have hBz : B ≤ w2.heap.size := Nat.le_of_lt (e1.kept hb2).lt
    have e2 := (e1.kept hb2).alloc (.cells #[.bool false, .int .i64 0, .int .i64 0, .int .i64 0, .int .i64 0] 23)
    have b2 := (b1.trans (hb2.mono (Nat.le_of_lt e1.lt))).alloc hBz (.cells #[.bool false, .int .i64 0, .int .i64 0, .int .i64 0, .int .i64 0] 23)
    go_wp2_with (refine rt_load rfl (.tmp 4) rfl rfl e2 rfl ?_)
    refine (rtsample_any has srtt vr rto shift (took + more) 1 most _).mono ?_
    rintro e w3 h3
    rw [HX2.out] at h3
    obtain ⟨rfl, hb3⟩ := h3
    dsimp only [zrt]
    have hBz3 : B ≤ w3.heap.size := Nat.le_of_lt (e2.kept hb3).lt
    have e3 := (e2.kept hb3).alloc (.cells #[.bool false, .int .i64 0, .int .i64 0, .int .i64 0, .int .i64 0] 23)
    have b3 := (b2.trans (hb3.mono (Nat.le_of_lt e2.lt))).alloc hBz3 (.cells #[.bool false, .int .i64 0, .int .i64 0, .int .i64 0, .int .i64 0] 23)
    go_wp2_with (refine rt_load rfl (.tmp 4) rfl rfl e3 rfl ?_)
    refine (rtmay_any has srtt vr rto shift _).mono ?_
    rintro e w4 ⟨he, hb4⟩
    rw [HK.out] at he; subst he
    have b4 := b3.trans (hb4.mono (Nat.le_of_lt e3.lt))
    go_wp2_with fail
    go_ret
    exact ⟨rfl, b4⟩
  | true =>
  have hx := smp_ok hk ha
  have hx2 := smp_ok hk ha2
  obtain ⟨m1, m2⟩ := smS_mono ⟨has, srtt, vr, rto, shift⟩ (show took ≤ took + more by omega)
  have hbs := smS_bd ((rtB_iff _).1 hk) (took := took) g1 (by omega)
  have hbs2 := smS_bd ((rtB_iff _).1 hk) (took := took + more) (by omega) (by omega)
  have hwt := wt_most (r := ⟨has, srtt, vr, rto, shift⟩) (a := most) (b := 2 * most) ⟨g4, by omega⟩ ⟨by omega, by omega⟩ (by omega)
  obtain ⟨S, hS⟩ : ∃ S, smS ⟨has, srtt, vr, rto, shift⟩ took = S := ⟨_, rfl⟩
  obtain ⟨V, hV⟩ : ∃ V, smV ⟨has, srtt, vr, rto, shift⟩ took = V := ⟨_, rfl⟩
  obtain ⟨C, hC⟩ : ∃ C, clI (smS ⟨has, srtt, vr, rto, shift⟩ took + smM ⟨has, srtt, vr, rto, shift⟩ took) 1 most = C := ⟨_, rfl⟩
  obtain ⟨S2, hS2⟩ : ∃ S, smS ⟨has, srtt, vr, rto, shift⟩ (took + more) = S := ⟨_, rfl⟩
  obtain ⟨V2, hV2⟩ : ∃ V, smV ⟨has, srtt, vr, rto, shift⟩ (took + more) = V := ⟨_, rfl⟩
  obtain ⟨C2, hC2⟩ : ∃ C, clI (smS ⟨has, srtt, vr, rto, shift⟩ (took + more) + smM ⟨has, srtt, vr, rto, shift⟩ (took + more)) 1 most = C := ⟨_, rfl⟩
  obtain ⟨A, hA⟩ : ∃ A, wt ⟨has, srtt, vr, rto, shift⟩ most = A := ⟨_, rfl⟩
  obtain ⟨A2, hA2⟩ : ∃ A, wt ⟨has, srtt, vr, rto, shift⟩ (2 * most) = A := ⟨_, rfl⟩
  rw [hC, hS, hV] at hx
  rw [hC2, hS2, hV2] at hx2
  rw [hS, hS2] at m1 m2
  rw [hS] at hbs
  rw [hS2] at hbs2
  rw [hA, hA2] at hwt
  have k1 : decide (S ≤ S2) = true := decide_eq_true m1
  have hd2 : S2 - S ≤ more := by omega
  have k2 : decide (S2 - S ≤ more) = true := decide_eq_true hd2
  have k3 : decide (A ≤ A2) = true := decide_eq_true hwt
  have HX := Lib.hid hx; have HX2 := Lib.hid hx2; have HA := Lib.hid hA; have HA2 := Lib.hid hA2
  have r1 : IntKind.i64.wrap (S2 - S) = S2 - S := IntWalk.i64_in _ (by omega)
  have r2 : IntKind.i64.wrap (2 * most) = 2 * most := IntWalk.i64_in _ (by omega)
  clear hx hx2 hk hS hV hC hS2 hV2 hC2 hA hA2 ha ha2 m1 m2 hwt
  go_wp2_with (refine rt_load rfl (.tmp 4) rfl rfl e1 rfl ?_)
  refine (rtsample_any has srtt vr rto shift took 1 most _).mono ?_
  rintro e w2 h2
  rw [HX.out] at h2
  obtain ⟨rfl, hb2⟩ := h2
  dsimp only
  have hBz : B ≤ w2.heap.size := Nat.le_of_lt (e1.kept hb2).lt
  obtain ⟨Z1, hZ1⟩ : ∃ V, w2.heap.size = V := ⟨_, rfl⟩
  have v2 := Bx.new w2 23 [.bool true, .int .i64 S, .int .i64 V, .int .i64 C, .int .i64 0]
  rw [hZ1] at v2
  have e2 := (e1.kept hb2).alloc (.cells #[.bool true, .int .i64 S, .int .i64 V, .int .i64 C, .int .i64 0] 23)
  have b2 := (b1.trans (hb2.mono (Nat.le_of_lt e1.lt))).alloc hBz (.cells #[.bool true, .int .i64 S, .int .i64 V, .int .i64 C, .int .i64 0] 23)
  go_wp2_with (refine rt_load rfl (.tmp 4) rfl rfl e2 rfl ?_)
  refine (rtsample_any has srtt vr rto shift (took + more) 1 most _).mono ?_
  rintro e w3 h3
  rw [HX2.out] at h3
  obtain ⟨rfl, hb3⟩ := h3
  dsimp only
  have hBz3 : B ≤ w3.heap.size := Nat.le_of_lt (e2.kept hb3).lt
  obtain ⟨Z2, hZ2⟩ : ∃ V, w3.heap.size = V := ⟨_, rfl⟩
  have u3 := Bx.new w3 23 [.bool true, .int .i64 S2, .int .i64 V2, .int .i64 C2, .int .i64 0]
  rw [hZ2] at u3
  have v3 := (v2.kept hb3).alloc (.cells #[.bool true, .int .i64 S2, .int .i64 V2, .int .i64 C2, .int .i64 0] 23)
  have e3 := (e2.kept hb3).alloc (.cells #[.bool true, .int .i64 S2, .int .i64 V2, .int .i64 C2, .int .i64 0] 23)
  have b3 := (b2.trans (hb3.mono (Nat.le_of_lt e2.lt))).alloc hBz3 (.cells #[.bool true, .int .i64 S2, .int .i64 V2, .int .i64 C2, .int .i64 0] 23)
  clear e0 e1 e2 v2 b0 b1 b2
  go_upto_region 8 with (refine rt_load rfl (.tmp 4) rfl rfl e3 rfl ?_)
  refine wp_region_tail 24 25 (fun (W : World) => Bx W B 23 [.bool has, .int .i64 srtt, .int .i64 vr, .int .i64 rto, .int .i64 shift] ∧ Bx W Z1 23 [.bool true, .int .i64 S, .int .i64 V, .int .i64 C, .int .i64 0] ∧ Bx W Z2 23 [.bool true, .int .i64 S2, .int .i64 V2, .int .i64 C2, .int .i64 0] ∧ Below B w W) (by kernel_rfl) (by rfl) (by decide) ?_
  have HS : ((fun (W : World) => Bx W B 23 [.bool has, .int .i64 srtt, .int .i64 vr, .int .i64 rto, .int .i64 shift] ∧ Bx W Z1 23 [.bool true, .int .i64 S, .int .i64 V, .int .i64 C, .int .i64 0] ∧ Bx W Z2 23 [.bool true, .int .i64 S2, .int .i64 V2, .int .i64 C2, .int .i64 0] ∧ Below B w W)) _ := ⟨e3.drew, v3.drew, u3.drew, b3.drew⟩
  refine wpAnyT_take (i := 0) (v := ?vv1) rfl (by kernel_rfl) (fun _ _ _ h => h) (Or.inl ⟨by rfl, fun w hSw => ?yy1⟩) HS ?rr1
  case yy1 =>
    (try dsimp only at hSw); go_simp
    try with_reducible rfl
  try simp only [Act.put, List.setIfInBounds_toArray, List.set_cons_zero, List.set_cons_succ]
  refine wpAnyT_take (i := 1) (v := .int .i64 S) rfl (by kernel_rfl) (fun _ _ _ h => h) (Or.inl ⟨by rfl, fun w hSw => ?_⟩) HS ?_
  · have q1 := hSw.2.1.cell 1 rfl; (try dsimp only at q1); go_simp
  try simp only [Act.put, List.setIfInBounds_toArray, List.set_cons_zero, List.set_cons_succ]
  refine wpAnyT_take (i := 2) (v := ?vv3) rfl (by kernel_rfl) (fun _ _ _ h => h) (Or.inl ⟨by rfl, fun w hSw => ?yy3⟩) HS ?rr3
  case yy3 =>
    (try dsimp only at hSw); go_simp
    try with_reducible rfl
  try simp only [Act.put, List.setIfInBounds_toArray, List.set_cons_zero, List.set_cons_succ]
  refine wpAnyT_take (i := 3) (v := .int .i64 S2) rfl (by kernel_rfl) (fun _ _ _ h => h) (Or.inl ⟨by rfl, fun w hSw => ?_⟩) HS ?_
  · have q1 := hSw.2.2.1.cell 1 rfl; (try dsimp only at q1); go_simp
  try simp only [Act.put, List.setIfInBounds_toArray, List.set_cons_zero, List.set_cons_succ]
  refine wpAnyT_take (i := 4) (v := .bool true) rfl (by kernel_rfl) (fun _ _ _ h => h) (Or.inl ⟨by rfl, fun w hSw => ?_⟩) HS ?_
  · (try dsimp only at hSw); go_simp
  try simp only [Act.put, List.setIfInBounds_toArray, List.set_cons_zero, List.set_cons_succ]
  refine wpAnyT_take (i := 5) (v := .bool true) rfl (by kernel_rfl) (fun _ _ _ h => h) (Or.inl ⟨by rfl, fun w hSw => ?_⟩) HS ?_
  · (try dsimp only at hSw); go_simp
  try simp only [Act.put, List.setIfInBounds_toArray, List.set_cons_zero, List.set_cons_succ]
  refine wpAnyT_take (i := 6) (v := .agg #[.bool has, .int .i64 srtt, .int .i64 vr, .int .i64 rto, .int .i64 shift]) rfl (by kernel_rfl) (fun _ _ _ h => h) (rt_yields (by rfl) (.tmp 4) rfl rfl [.bool has, .int .i64 srtt, .int .i64 vr, .int .i64 rto, .int .i64 shift] rfl 23 (fun W hW => hW.1)) HS ?_
  try simp only [Act.put, List.setIfInBounds_toArray, List.set_cons_zero, List.set_cons_succ]
  refine wpAnyT_take (i := 7) (v := ?vv8) rfl (by kernel_rfl) (fun _ _ _ h => h) (Or.inl ⟨by rfl, fun w hSw => ?yy8⟩) HS ?rr8
  case yy8 =>
    (try dsimp only at hSw); go_simp
    try with_reducible rfl
  try simp only [Act.put, List.setIfInBounds_toArray, List.set_cons_zero, List.set_cons_succ]
  refine wpAnyT_take (i := 9) (v := .agg #[.bool has, .int .i64 srtt, .int .i64 vr, .int .i64 rto, .int .i64 shift]) rfl (by kernel_rfl) (fun _ _ _ h => h) (rt_yields (by rfl) (.tmp 4) rfl rfl [.bool has, .int .i64 srtt, .int .i64 vr, .int .i64 rto, .int .i64 shift] rfl 23 (fun W hW => hW.1)) HS ?_
  try simp only [Act.put, List.setIfInBounds_toArray, List.set_cons_zero, List.set_cons_succ]
  refine wpAnyT_take (i := 10) (v := ?vv10) rfl (by kernel_rfl) (fun _ _ _ h => h) (Or.inl ⟨by rfl, fun w hSw => ?yy10⟩) HS ?rr10
  case yy10 =>
    (try dsimp only at hSw); go_simp
    try with_reducible rfl
  try simp only [Act.put, List.setIfInBounds_toArray, List.set_cons_zero, List.set_cons_succ]
  refine wpAnyT_take (i := 11) (v := .int .i64 (2 * most)) rfl (by kernel_rfl) (fun _ _ _ h => h) (Or.inl ⟨by rfl, fun w hSw => ?_⟩) HS ?_
  · (try dsimp only at hSw); go_simp
    all_goals rw [r2]
  try simp only [Act.put, List.setIfInBounds_toArray, List.set_cons_zero, List.set_cons_succ]
  refine wpAnyT_one (k := 8) rfl (by kernel_rfl) (by decide) (fun K hK => ?_)
  go_simp
  refine (rtwait_any has srtt vr rto shift most _).mono ?_; rintro e wz8 ⟨he8, hz8⟩; rw [HA.out] at he8; subst he8
  have HS : ((fun (W : World) => Bx W B 23 [.bool has, .int .i64 srtt, .int .i64 vr, .int .i64 rto, .int .i64 shift] ∧ Bx W Z1 23 [.bool true, .int .i64 S, .int .i64 V, .int .i64 C, .int .i64 0] ∧ Bx W Z2 23 [.bool true, .int .i64 S2, .int .i64 V2, .int .i64 C2, .int .i64 0] ∧ Below B w W)) _ := ⟨HS.1.kept hz8, HS.2.1.kept hz8, HS.2.2.1.kept hz8, HS.2.2.2.trans (hz8.mono (Nat.le_of_lt HS.1.lt))⟩
  refine hK _ _ HS ?_
  clear hK K
  try simp only [Act.put, List.setIfInBounds_toArray, List.set_cons_zero, List.set_cons_succ]
  refine wpAnyT_one (k := 12) rfl (by kernel_rfl) (by decide) (fun K hK => ?_)
  go_simp
  refine (rtwait_any has srtt vr rto shift (2 * most) _).mono ?_; rintro e wz12 ⟨he12, hz12⟩; rw [HA2.out] at he12; subst he12
  have HS : ((fun (W : World) => Bx W B 23 [.bool has, .int .i64 srtt, .int .i64 vr, .int .i64 rto, .int .i64 shift] ∧ Bx W Z1 23 [.bool true, .int .i64 S, .int .i64 V, .int .i64 C, .int .i64 0] ∧ Bx W Z2 23 [.bool true, .int .i64 S2, .int .i64 V2, .int .i64 C2, .int .i64 0] ∧ Below B w W)) _ := ⟨HS.1.kept hz12, HS.2.1.kept hz12, HS.2.2.1.kept hz12, HS.2.2.2.trans (hz12.mono (Nat.le_of_lt HS.1.lt))⟩
  refine hK _ _ HS ?_
  clear hK K
  try simp only [Act.put, List.setIfInBounds_toArray, List.set_cons_zero, List.set_cons_succ]
  refine wpAnyT_take (i := 13) (v := .bool true) rfl (by kernel_rfl) (fun _ _ _ h => h) (Or.inl ⟨by rfl, fun w hSw => ?_⟩) HS ?_
  · (try dsimp only at hSw); go_simp
  try simp only [Act.put, List.setIfInBounds_toArray, List.set_cons_zero, List.set_cons_succ]
  refine wpAnyT_take (i := 14) (v := .bool true) rfl (by kernel_rfl) (fun _ _ _ h => h) (Or.inl ⟨by rfl, fun w hSw => ?_⟩) HS ?_
  · (try dsimp only at hSw); go_simp
  try simp only [Act.put, List.setIfInBounds_toArray, List.set_cons_zero, List.set_cons_succ]
  refine wpAnyT_take (i := 15) (v := .bool true) rfl (by kernel_rfl) (fun _ _ _ h => h) (Or.inl ⟨by rfl, fun w hSw => ?_⟩) HS ?_
  · (try dsimp only at hSw); go_simp
  try simp only [Act.put, List.setIfInBounds_toArray, List.set_cons_zero, List.set_cons_succ]
  refine wpAnyT_take (i := 16) (v := ?vv15) rfl (by kernel_rfl) (fun _ _ _ h => h) (Or.inl ⟨by rfl, fun w hSw => ?yy15⟩) HS ?rr15
  case yy15 =>
    (try dsimp only at hSw); go_simp
    try with_reducible rfl
  try simp only [Act.put, List.setIfInBounds_toArray, List.set_cons_zero, List.set_cons_succ]
  refine wpAnyT_take (i := 17) (v := .int .i64 S2) rfl (by kernel_rfl) (fun _ _ _ h => h) (Or.inl ⟨by rfl, fun w hSw => ?_⟩) HS ?_
  · have q1 := hSw.2.2.1.cell 1 rfl; (try dsimp only at q1); go_simp
  try simp only [Act.put, List.setIfInBounds_toArray, List.set_cons_zero, List.set_cons_succ]
  refine wpAnyT_take (i := 18) (v := ?vv17) rfl (by kernel_rfl) (fun _ _ _ h => h) (Or.inl ⟨by rfl, fun w hSw => ?yy17⟩) HS ?rr17
  case yy17 =>
    (try dsimp only at hSw); go_simp
    try with_reducible rfl
  try simp only [Act.put, List.setIfInBounds_toArray, List.set_cons_zero, List.set_cons_succ]
  refine wpAnyT_take (i := 19) (v := .int .i64 S) rfl (by kernel_rfl) (fun _ _ _ h => h) (Or.inl ⟨by rfl, fun w hSw => ?_⟩) HS ?_
  · have q1 := hSw.2.1.cell 1 rfl; (try dsimp only at q1); go_simp
  try simp only [Act.put, List.setIfInBounds_toArray, List.set_cons_zero, List.set_cons_succ]
  refine wpAnyT_take (i := 20) (v := .int .i64 (S2 - S)) rfl (by kernel_rfl) (fun _ _ _ h => h) (Or.inl ⟨by rfl, fun w hSw => ?_⟩) HS ?_
  · (try dsimp only at hSw); go_simp
    all_goals rw [r1]
  try simp only [Act.put, List.setIfInBounds_toArray, List.set_cons_zero, List.set_cons_succ]
  refine wpAnyT_take (i := 21) (v := ?vv20) rfl (by kernel_rfl) (fun _ _ _ h => h) (Or.inl ⟨by rfl, fun w hSw => ?yy20⟩) HS ?rr20
  case yy20 =>
    (try dsimp only at hSw); go_simp
    try with_reducible rfl
  try simp only [Act.put, List.setIfInBounds_toArray, List.set_cons_zero, List.set_cons_succ]
  refine wpAnyT_take (i := 22) (v := .bool true) rfl (by kernel_rfl) (fun _ _ _ h => h) (Or.inl ⟨by rfl, fun w hSw => ?_⟩) HS ?_
  · (try dsimp only at hSw); go_simp
  try simp only [Act.put, List.setIfInBounds_toArray, List.set_cons_zero, List.set_cons_succ]
  refine wpAnyT_take (i := 23) (v := .bool true) rfl (by kernel_rfl) (fun _ _ _ h => h) (Or.inl ⟨by rfl, fun w hSw => ?_⟩) HS ?_
  · (try dsimp only at hSw); go_simp
  try simp only [Act.put, List.setIfInBounds_toArray, List.set_cons_zero, List.set_cons_succ]
  refine ⟨by kernel_rfl, ?_⟩
  simp only [List.drop_succ_cons, List.drop_zero]
  have bz := HS.2.2.2
  go_wp2_with fail
  go_ret
  exact ⟨rfl, bz⟩
end Go.Proofs.Ytakklekhcnhfaaa.rttOrder
