/- Package marks as landed: Round, as a contract of the call. -/
import Derived.Test.YtkgbbmjobjcepaaMsL3
import Derived.WalkKit
import Derived.WalkSpells
import Derived.WalkSmall
import Derived.Lib.Hide
import Derived.Below
import Derived.Outline
import Derived.Deep.QuietTactic
import Derived.BigQuiet
import Derived.IntWalk
import Derived.OrdersHeld
import Derived.Deep.DeepCutAuto
namespace Go.Proofs.Ytkgbbmjobjcepaa
open Go.RowKit
set_option linter.unusedVariables false
set_option linter.unusedSimpArgs false

set_option maxRecDepth 100000 in
set_option maxHeartbeats 8000000 in
theorem mkround_any (pk bt ca md pt : Int) (w : World) :
    Calls Try.prog 11 #[.agg #[.int .i64 pk, .int .i64 bt, .int .i64 ca, .int .i64 md, .int .i64 pt]] w fun e w' => TellN w w' e (roundR ⟨pk, bt, ca, md, pt⟩) := by
  unfold TellN
  obtain ⟨B, hB⟩ : ∃ B, w.heap.size = B := ⟨_, rfl⟩
  rw [hB]
  have e0 := (Bx.new w 23 [.int .i64 pk, .int .i64 bt, .int .i64 ca, .int .i64 md, .int .i64 pt]).alloc (.cells #[.int .i64 0, .int .i64 0, .int .i64 0, .int .i64 0, .int .i64 0] 23)
  have y0 := two_new w (.cells #[.int .i64 pk, .int .i64 bt, .int .i64 ca, .int .i64 md, .int .i64 pt] 23) 23 [.int .i64 0, .int .i64 0, .int .i64 0, .int .i64 0, .int .i64 0]
  rw [hB] at e0 y0
  have b0 : Below B w ((w.alloc (.cells #[.int .i64 pk, .int .i64 bt, .int .i64 ca, .int .i64 md, .int .i64 pt] 23)).alloc (.cells #[.int .i64 0, .int .i64 0, .int .i64 0, .int .i64 0, .int .i64 0] 23)) := by rw [← hB]; exact two_below _ _ _
  obtain ⟨x, hx⟩ : ∃ x, roundR ⟨pk, bt, ca, md, pt⟩ = x := ⟨_, rfl⟩
  rw [hx]
  have HX := Lib.hid hx; clear hx
  go_enter Try.func11, Try.ntmps11
  go_wp2_with (refine ms_load rfl (.tmp 1) rfl rfl e0 rfl ?_)
  generalize (w.alloc (.cells #[.int .i64 pk, .int .i64 bt, .int .i64 ca, .int .i64 md, .int .i64 pt] 23)).alloc (.cells #[.int .i64 0, .int .i64 0, .int .i64 0, .int .i64 0, .int .i64 0] 23) = w1 at e0 y0 b0 ⊢
  refine (mkmay_any pk bt ca md pt _).mono ?_
  rintro e w2 ⟨rfl, hb2⟩
  have e2 := e0.kept hb2; have y2 := y0.kept hb2; have b2 := b0.trans (hb2.mono (Nat.le_of_lt e0.lt))
  have hBs : B ≤ w2.heap.size := Nat.le_of_lt e2.lt
  clear e0 y0 b0 hb2
  cases hk : mmay ⟨pk, bt, ca, md, pt⟩ with
  | false =>
    have hx := HX.out
    unfold roundR at hx
    rw [if_neg (by rw [hk]; simp)] at hx
    subst hx
    clear HX hk
    go_wp2_with (first | (refine ms_store rfl (.tmp 2) (.tmp 9) rfl rfl [.int .i64 0, .int .i64 0, .int .i64 0, .int .i64 0, .int .i64 0] rfl y2 rfl rfl rfl ?_))
    refine ms_end2 (by rfl) (by rfl) (by rfl) (ms_put y2 [.int .i64 0, .int .i64 0, .int .i64 0, .int .i64 0, .int .i64 0]) rfl rfl ?_
    exact ⟨rfl, b2.grown (ms_grown _ (B + 1) #[.int .i64 0, .int .i64 0, .int .i64 0, .int .i64 0, .int .i64 0]) hBs (fun k hk => by cases hk; omega)⟩
  | true =>
  have hv := (mmay_iff _).1 hk
  have hx := HX.out
  unfold roundR at hx
  rw [if_pos hk] at hx
  have hpb := part_bd hv
  have c0 : 0 ≤ ca := hv.c0
  have t0 : 0 ≤ pt := hv.t0; have t1 : pt ≤ 1024 := hv.t1
  have x0 := e2.cell 0 rfl; have x1 := e2.cell 1 rfl; have x2 := e2.cell 2 rfl; have x3 := e2.cell 3 rfl; have x4 := e2.cell 4 rfl
  by_cases hc : 0 < ca
  · have dc : decide (0 < ca) = true := decide_eq_true hc
    have hmd := round_md hv hc
    have hqb := quo_bd hv hc
    dsimp only at hmd hqb
    obtain ⟨q, hq⟩ : ∃ q, 1024 * md / ca = q := ⟨_, rfl⟩
    have hpe : partR ⟨pk, bt, ca, md, pt⟩ = pt + (q - pt) / 16 := by unfold partR; rw [if_pos hc]; dsimp only; rw [hq]
    rw [hpe] at hx
    rw [hq] at hmd hqb
    obtain ⟨q0, q1⟩ := hqb
    have hew := round_ew t0 t1 q0 q1
    obtain ⟨r, hr⟩ : ∃ r, pt + (q - pt) / 16 = r := ⟨_, rfl⟩
    rw [hr] at hx hew
    subst hx
    have HMD := Lib.hid hmd; have HEW := Lib.hid hew; have HQ := Lib.hid hq
    clear HX hk hv hmd hew hpe hr hpb hq
    go_wp2_with fail
    refine (md_any 1024 md ca _).mono ?_
    rintro e w3 ⟨rfl, hb3⟩
    rw [HQ.out, HMD.out]
    have e3 := e2.kept hb3; have y3 := y2.kept hb3; have b3 := b2.trans (hb3.mono (Nat.le_of_lt e2.lt))
    clear x0 x1 x2 x3 x4 hb3
    have x4 := e3.cell 4 rfl
    go_wp2_with fail
    refine (ewma_any pt q 4 _).mono ?_
    rintro e w4 ⟨rfl, hb4⟩
    rw [HEW.out]
    have e4 := e3.kept hb4; have y4 := y3.kept hb4; have b4 := b3.trans (hb4.mono (Nat.le_of_lt e3.lt))
    clear x4 hb4 e3 y3 b3
    have f4 := e4.free 4; have x4 := e4.cell 4 rfl
    have u0 := e4.set 4 (.int .i64 r); have v0 := Below.own (i := 4) b4 (Nat.le_of_lt e4.lt) (Nat.le_refl _) (.int .i64 r); have z0 := y4.far (p := ⟨B, 4, none⟩) (by simp) (.int .i64 r)
    simp only [List.set_cons_zero, List.set_cons_succ] at u0
    clear e4 y4 b4
    go_upto_region 6 with fail
    generalize w4.setCell ⟨B, 4, none⟩ (.int .i64 r) = w5 at u0 v0 z0 ⊢
    clear f4 x4
    have f2 := u0.free 2; have x2 := u0.cell 2 rfl
    have u1 := u0.set 2 (.int .i64 0); have u2 := u1.set 3 (.int .i64 0)
    simp only [List.set_cons_zero, List.set_cons_succ] at u1
    have f3 := u1.free 3; have x3 := u1.cell 3 rfl
    have v1 := Below.own (i := 2) v0 (Nat.le_of_lt u0.lt) (Nat.le_refl _) (.int .i64 0); have v2 := Below.own (i := 3) v1 (Nat.le_of_lt u1.lt) (Nat.le_refl _) (.int .i64 0)
    have z2 := (z0.far (p := ⟨B, 2, none⟩) (by simp) (.int .i64 0)).far (p := ⟨B, 3, none⟩) (by simp) (.int .i64 0)
    simp only [List.set_cons_zero, List.set_cons_succ] at u2
    clear u0 u1 v0 v1 z0 e2 y2 b2 hBs
    go_upto_region 7 with fail
    generalize (w5.setCell ⟨B, 2, none⟩ (.int .i64 0)).setCell ⟨B, 3, none⟩ (.int .i64 0) = w6 at u2 v2 z2 ⊢
    clear f2 x2 f3 x3
    go_wp2_with (first | (refine ms_load rfl (.tmp 1) rfl rfl u2 rfl ?_) | (refine ms_store rfl (.tmp 2) (.tmp 31) rfl rfl [.int .i64 pk, .int .i64 bt, .int .i64 0, .int .i64 0, .int .i64 r] rfl z2 rfl rfl rfl ?_))
    refine ms_end2 (by rfl) (by rfl) (by rfl) (ms_put z2 [.int .i64 pk, .int .i64 bt, .int .i64 0, .int .i64 0, .int .i64 r]) rfl rfl ?_
    exact ⟨rfl, v2.grown (ms_grown _ (B + 1) _) (Nat.le_of_lt u2.lt) (fun k hk => by cases hk; omega)⟩
  · have dc : decide (0 < ca) = false := decide_eq_false hc
    have hpe : partR ⟨pk, bt, ca, md, pt⟩ = pt := by unfold partR; rw [if_neg hc]
    rw [hpe] at hx
    subst hx
    clear HX hk hv hpe hpb
    have u0 := e2.set 2 (.int .i64 0)
    simp only [List.set_cons_zero, List.set_cons_succ] at u0
    have u1 := u0.set 3 (.int .i64 0)
    simp only [List.set_cons_zero, List.set_cons_succ] at u1
    have v0 := Below.own (i := 2) b2 (Nat.le_of_lt e2.lt) (Nat.le_refl _) (.int .i64 0); have v1 := Below.own (i := 3) v0 (Nat.le_of_lt u0.lt) (Nat.le_refl _) (.int .i64 0)
    have z1 := (y2.far (p := ⟨B, 2, none⟩) (by simp) (.int .i64 0)).far (p := ⟨B, 3, none⟩) (by simp) (.int .i64 0)
    go_upto_region 6 with fail
    clear x0 x1 x2 x3 x4
    have f2 := e2.free 2; have x2 := e2.cell 2 rfl; have f3 := u0.free 3; have x3 := u0.cell 3 rfl
    clear u0 v0 e2 y2 b2 hBs
    go_upto_region 7 with fail
    generalize (w2.setCell ⟨B, 2, none⟩ (.int .i64 0)).setCell ⟨B, 3, none⟩ (.int .i64 0) = w6 at u1 v1 z1 ⊢
    clear f2 x2 f3 x3
    go_wp2_with (first | (refine ms_load rfl (.tmp 1) rfl rfl u1 rfl ?_) | (refine ms_store rfl (.tmp 2) (.tmp 31) rfl rfl [.int .i64 pk, .int .i64 bt, .int .i64 0, .int .i64 0, .int .i64 pt] rfl z1 rfl rfl rfl ?_))
    refine ms_end2 (by rfl) (by rfl) (by rfl) (ms_put z1 [.int .i64 pk, .int .i64 bt, .int .i64 0, .int .i64 0, .int .i64 pt]) rfl rfl ?_
    exact ⟨rfl, v1.grown (ms_grown _ (B + 1) _) (Nat.le_of_lt u1.lt) (fun k hk => by cases hk; omega)⟩
end Go.Proofs.Ytkgbbmjobjcepaa
