/- Package marks as landed: Told, as a contract of the call. -/
import Derived.Test.YtkgbbmjobjcepaaMsL1
import Derived.Test.YtkgbbmjobjcepaaTail2
import Derived.WalkKit
import Derived.WalkSpells
import Derived.WalkSmall
import Derived.Lib.Hide
import Derived.Below
import Derived.Outline
import Derived.Deep.QuietTactic
import Derived.BigQuiet
import Derived.IntWalk
import Derived.OrdersHeld
import Derived.Deep.DeepCutAuto
namespace Go.Proofs.Ytkgbbmjobjcepaa
open Go.RowKit
set_option linter.unusedVariables false
set_option linter.unusedSimpArgs false

theorem modulo_ex (m : Int) (w : World) :
    Calls Try.prog 18 #[.int .i64 m] w fun e w' => ∃ V, e = .returned (.func (.func 26) #[] #[.pointer (some ⟨V, 0, none⟩)]) ∧ Bx w' V 3 [.int .i64 m] ∧ Below w.heap.size w w' :=
  (modulo_any m w).mono (fun _ _ h => ⟨_, h⟩)

set_option maxRecDepth 100000 in
set_option maxHeartbeats 8000000 in
theorem mktold_any (pk bt ca md pt : Int) (w : World) :
    Calls Try.prog 13 #[.agg #[.int .i64 pk, .int .i64 bt, .int .i64 ca, .int .i64 md, .int .i64 pt]] w fun e w' => e = .returned (.tuple #[.int .i64 (toldR ⟨pk, bt, ca, md, pt⟩).1, .int .u32 (toldR ⟨pk, bt, ca, md, pt⟩).2]) ∧ Below w.heap.size w w' := by
  obtain ⟨B, hB⟩ : ∃ B, w.heap.size = B := ⟨_, rfl⟩
  rw [hB]
  have e0 := Bx.new w 23 [.int .i64 pk, .int .i64 bt, .int .i64 ca, .int .i64 md, .int .i64 pt]
  rw [hB] at e0
  have b0 : Below B w (w.alloc (.cells #[.int .i64 pk, .int .i64 bt, .int .i64 ca, .int .i64 md, .int .i64 pt] 23)) := by rw [← hB]; exact (Below.refl _ _).alloc (Nat.le_refl _) _
  obtain ⟨x, hx⟩ : ∃ x, toldR ⟨pk, bt, ca, md, pt⟩ = x := ⟨_, rfl⟩
  rw [hx]
  have HX := Lib.hid hx; clear hx
  go_enter Try.func13, Try.ntmps13
  go_wp2_with (refine ms_load rfl (.tmp 1) rfl rfl e0 rfl ?_)
  generalize w.alloc (.cells #[.int .i64 pk, .int .i64 bt, .int .i64 ca, .int .i64 md, .int .i64 pt] 23) = w1 at e0 b0 ⊢
  refine (mkmay_any pk bt ca md pt _).mono ?_
  rintro e w2 ⟨rfl, hb2⟩
  have e2 := e0.kept hb2; have b2 := b0.trans (hb2.mono (Nat.le_of_lt e0.lt))
  cases hk : mmay ⟨pk, bt, ca, md, pt⟩ with
  | false =>
    have hx : x = (0, 0) := by rw [← HX.out]; unfold toldR; rw [if_neg (by rw [hk]; simp)]
    subst hx
    clear HX hk
    go_wp2_with fail
    go_ret2
    exact ⟨rfl, b2⟩
  | true =>
    have hv := (mmay_iff _).1 hk
    have hx : x = (pk % 8, bt % 16777216) := by rw [← HX.out]; unfold toldR; rw [if_pos hk]
    have p0 : 0 ≤ pk := hv.p0; have p1 : pk ≤ 1152921504606846976 := hv.p1; have q0 : 0 ≤ bt := hv.b0; have q1 : bt ≤ 1152921504606846976 := hv.b1
    obtain ⟨p2, hp2⟩ : ∃ y, pk % 8 = y := ⟨_, rfl⟩
    obtain ⟨q2, hq2⟩ : ∃ y, bt % 16777216 = y := ⟨_, rfl⟩
    rw [hp2, hq2] at hx
    subst hx
    have q3 : 0 ≤ q2 := by omega
    have q4 : q2 < 16777216 := by omega
    have hw32 : IntKind.u32.wrap q2 = q2 := by rw [IntKind.wrap_u32']; omega
    have HP := Lib.hid hp2; have HQ := Lib.hid hq2
    clear HX hk hv e0 b0 hb2 hp2 hq2
    go_upto_region 3 with fail
    refine wp_region_tail 10 11 (fun (W : World) => Bx W B 23 [.int .i64 pk, .int .i64 bt, .int .i64 ca, .int .i64 md, .int .i64 pt] ∧ Below B w W) (by kernel_rfl) (by rfl) (by decide) ?_
    have HS : (fun (W : World) => Bx W B 23 [.int .i64 pk, .int .i64 bt, .int .i64 ca, .int .i64 md, .int .i64 pt] ∧ Below B w W) _ := ⟨e2.drew, b2.drew⟩
    refine wpAnyT_take (i := 1) (v := .pointer (some ⟨B, 0, none⟩)) rfl (by kernel_rfl) (fun _ _ _ h => h) (Or.inl ⟨by rfl, fun w hSw => ?_⟩) HS ?_
    · (try dsimp only at hSw); go_simp
    try simp only [Act.put, List.setIfInBounds_toArray, List.set_cons_zero, List.set_cons_succ]
    refine wpAnyT_take (i := 2) (v := .int .i64 pk) rfl (by kernel_rfl) (fun _ _ _ h => h) (Or.inl ⟨by rfl, fun w hSw => ?_⟩) HS ?_
    · have hc := hSw.1.cell 0 rfl; go_simp
    try simp only [Act.put, List.setIfInBounds_toArray, List.set_cons_zero, List.set_cons_succ]
    refine wpAnyT_take (i := 5) (v := .pointer (some ⟨B, 1, none⟩)) rfl (by kernel_rfl) (fun _ _ _ h => h) (Or.inl ⟨by rfl, fun w hSw => ?_⟩) HS ?_
    · (try dsimp only at hSw); go_simp
    try simp only [Act.put, List.setIfInBounds_toArray, List.set_cons_zero, List.set_cons_succ]
    refine wpAnyT_take (i := 6) (v := .int .i64 bt) rfl (by kernel_rfl) (fun _ _ _ h => h) (Or.inl ⟨by rfl, fun w hSw => ?_⟩) HS ?_
    · have hc := hSw.1.cell 1 rfl; go_simp
    try simp only [Act.put, List.setIfInBounds_toArray, List.set_cons_zero, List.set_cons_succ]
    refine wpAnyT_one (k := 0) rfl (by kernel_rfl) (by decide) (fun K hK => ?_)
    go_simp
    refine (modulo_ex 8 _).mono ?_
    rintro e w3 ⟨V3, rfl, hx3, hb3⟩
    have e3 := e2.drew.kept hb3; have b3 := b2.drew.trans (hb3.mono (Nat.le_of_lt e2.drew.lt))
    have HS3 : (fun (W : World) => Bx W B 23 [.int .i64 pk, .int .i64 bt, .int .i64 ca, .int .i64 md, .int .i64 pt] ∧ Below B w W) _ := ⟨e3, b3⟩
    refine hK _ _ HS3 ?_
    clear hK K
    try simp only [Act.put, List.setIfInBounds_toArray, List.set_cons_zero, List.set_cons_succ]
    refine wpAnyT_one (k := 3) rfl (by kernel_rfl) (by decide) (fun K hK => ?_)
    go_simp
    refine (res8_any pk _ _ (hx3.cell 0 rfl) (by omega) (by omega)).mono ?_
    rintro e w4 ⟨rfl, hb4⟩
    rw [HP.out]
    have e4 := e3.kept hb4; have b4 := b3.trans (hb4.mono (Nat.le_of_lt e3.lt))
    have x4_0 := hx3.kept hb4
    have HS4 : (fun (W : World) => Bx W B 23 [.int .i64 pk, .int .i64 bt, .int .i64 ca, .int .i64 md, .int .i64 pt] ∧ Below B w W) _ := ⟨e4, b4⟩
    refine hK _ _ HS4 ?_
    clear hK K
    try simp only [Act.put, List.setIfInBounds_toArray, List.set_cons_zero, List.set_cons_succ]
    refine wpAnyT_one (k := 4) rfl (by kernel_rfl) (by decide) (fun K hK => ?_)
    go_simp
    refine (modulo_ex 16777216 _).mono ?_
    rintro e w5 ⟨V5, rfl, hx5, hb5⟩
    have e5 := e4.kept hb5; have b5 := b4.trans (hb5.mono (Nat.le_of_lt e4.lt))
    have x5_0 := x4_0.kept hb5
    have HS5 : (fun (W : World) => Bx W B 23 [.int .i64 pk, .int .i64 bt, .int .i64 ca, .int .i64 md, .int .i64 pt] ∧ Below B w W) _ := ⟨e5, b5⟩
    refine hK _ _ HS5 ?_
    clear hK K
    try simp only [Act.put, List.setIfInBounds_toArray, List.set_cons_zero, List.set_cons_succ]
    refine wpAnyT_one (k := 7) rfl (by kernel_rfl) (by decide) (fun K hK => ?_)
    go_simp
    refine (res24_any bt _ _ (hx5.cell 0 rfl) (by omega) (by omega)).mono ?_
    rintro e w6 ⟨rfl, hb6⟩
    rw [HQ.out]
    have e6 := e5.kept hb6; have b6 := b5.trans (hb6.mono (Nat.le_of_lt e5.lt))
    have x6_0 := x5_0.kept hb6
    have x6_4 := hx5.kept hb6
    have HS6 : (fun (W : World) => Bx W B 23 [.int .i64 pk, .int .i64 bt, .int .i64 ca, .int .i64 md, .int .i64 pt] ∧ Below B w W) _ := ⟨e6, b6⟩
    refine hK _ _ HS6 ?_
    clear hK K
    try simp only [Act.put, List.setIfInBounds_toArray, List.set_cons_zero, List.set_cons_succ]
    refine wpAnyT_take (i := 8) (v := .int .u32 q2) rfl (by kernel_rfl) (fun _ _ _ h => h) (Or.inl ⟨by rfl, fun w hSw => ?_⟩) HS6 ?_
    · (try dsimp only at hSw); go_simp
    try simp only [Act.put, List.setIfInBounds_toArray, List.set_cons_zero, List.set_cons_succ]
    refine wpAnyT_one (k := 9) rfl (by kernel_rfl) (by decide) (fun K hK => ?_)
    go_simp
    refine hK _ _ HS6 ?_
    clear hK K
    try simp only [Act.put, List.setIfInBounds_toArray, List.set_cons_zero, List.set_cons_succ]
    refine ⟨by kernel_rfl, ?_⟩
    simp only [List.drop_succ_cons, List.drop_zero]
    go_wp2_with fail
    go_ret2
    exact ⟨rfl, b6⟩
end Go.Proofs.Ytkgbbmjobjcepaa
