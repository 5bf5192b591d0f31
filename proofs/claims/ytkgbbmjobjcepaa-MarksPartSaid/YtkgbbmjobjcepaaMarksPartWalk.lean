/- The walk of the law MarksPart. -/
import Derived.Test.YtkgbbmjobjcepaaProg
import Derived.Test.YtkgbbmjobjcepaaMsAwake
import Derived.Test.YtkgbbmjobjcepaaMsMath
import Derived.WalkKit
import Derived.WalkSpells
import Derived.WalkSmall
import Derived.Lib.Hide
import Derived.Below
import Derived.Outline
namespace Go.Proofs.Ytkgbbmjobjcepaa.marksPart
open Go.RowKit
set_option linter.unusedVariables false
set_option linter.unusedSimpArgs false

set_option maxRecDepth 100000 in
set_option maxHeartbeats 8000000 in
theorem walk (pk bt ca md pt : Int)  (w : World)  :
    Calls Try.prog 5 #[.agg #[.int .i64 pk, .int .i64 bt, .int .i64 ca, .int .i64 md, .int .i64 pt]] w fun e w' => e = .returned (.bool true) ∧ Below w.heap.size w w' := by
  obtain ⟨B, hB⟩ : ∃ B, w.heap.size = B := ⟨_, rfl⟩
  rw [hB]
  have e0 := Bx.new w 23 [.int .i64 pk, .int .i64 bt, .int .i64 ca, .int .i64 md, .int .i64 pt]
  rw [hB] at e0
  have b0 : Below B w (w.alloc (.cells #[.int .i64 pk, .int .i64 bt, .int .i64 ca, .int .i64 md, .int .i64 pt] 23)) := by rw [← hB]; exact (Below.refl _ _).alloc (Nat.le_refl _) _
  go_enter Try.func5, Try.ntmps5
  go_wp2_with fail
  generalize w.alloc (.cells #[.int .i64 pk, .int .i64 bt, .int .i64 ca, .int .i64 md, .int .i64 pt] 23) = w0 at e0 b0 ⊢
  refine (msawake_any _).mono ?_
  rintro e w1 ⟨rfl, hb1⟩
  have e1 := e0.kept hb1
  have b1 := b0.trans (hb1.mono (Nat.le_of_lt e0.lt))
  cases hk : mmay ⟨pk, bt, ca, md, pt⟩ with
  | false =>
    go_wp2_with (refine ms_load rfl (.tmp 1) rfl rfl e1 rfl ?_)
    refine (mkround_any pk bt ca md pt _).mono ?_
    rintro e w2 ⟨he, hb2⟩
    rw [show roundR ⟨pk, bt, ca, md, pt⟩ = (zmk, 1) by unfold roundR; rw [if_neg (by rw [hk]; simp)]] at he
    dsimp only [zmk] at he
    try dsimp only at he
    subst he
    have e2 := (e1.kept hb2).alloc (.cells #[.int .i64 0, .int .i64 0, .int .i64 0, .int .i64 0, .int .i64 0] 23)
    have b2 := (b1.trans (hb2.mono (Nat.le_of_lt e1.lt))).alloc (Nat.le_of_lt (e1.kept hb2).lt) (.cells #[.int .i64 0, .int .i64 0, .int .i64 0, .int .i64 0, .int .i64 0] 23)
    obtain ⟨V1, hV1⟩ : ∃ V, w2.heap.size = V := ⟨_, rfl⟩
    have p2 := Bx.new w2 23 [.int .i64 0, .int .i64 0, .int .i64 0, .int .i64 0, .int .i64 0]
    rw [hV1] at p2
    have ex0 := e2.cell 0 rfl; have ex1 := e2.cell 1 rfl; have ex2 := e2.cell 2 rfl; have ex3 := e2.cell 3 rfl; have ex4 := e2.cell 4 rfl
    have px0 := p2.cell 0 rfl; have px1 := p2.cell 1 rfl; have px2 := p2.cell 2 rfl; have px3 := p2.cell 3 rfl; have px4 := p2.cell 4 rfl
    go_wp2_with fail
    go_ret
    exact ⟨rfl, b2⟩
  | true =>
    have hv := (mmay_iff _).1 hk
    have hps := fun h => part_same (m := ⟨pk, bt, ca, md, pt⟩) h
    have hlo := fun h => part_low hv h
    have hhi := fun h => part_high hv h
    have hne := part_near hv
    have hpb := part_bd hv
    obtain ⟨P, hP⟩ : ∃ P, partR ⟨pk, bt, ca, md, pt⟩ = P := ⟨_, rfl⟩
    rw [hP] at hps hlo hhi hne hpb
    obtain ⟨n0, n1⟩ := hne
    obtain ⟨P0, P1⟩ := hpb
    have t0 : 0 ≤ pt := hv.t0; have t1 : pt ≤ 1024 := hv.t1
    dsimp only at hps hlo hhi n0 n1
    have HS := Lib.hid hps; have HLO := Lib.hid hlo; have HHI := Lib.hid hhi
    clear hps hlo hhi
    go_wp2_with (refine ms_load rfl (.tmp 1) rfl rfl e1 rfl ?_)
    refine (mkround_any pk bt ca md pt _).mono ?_
    rintro e w2 ⟨he, hb2⟩
    rw [show roundR ⟨pk, bt, ca, md, pt⟩ = (⟨pk, bt, 0, 0, P⟩, 0) by unfold roundR; rw [if_pos hk, hP]] at he
    try dsimp only at he
    subst he
    have e2 := (e1.kept hb2).alloc (.cells #[.int .i64 pk, .int .i64 bt, .int .i64 0, .int .i64 0, .int .i64 P] 23)
    have b2 := (b1.trans (hb2.mono (Nat.le_of_lt e1.lt))).alloc (Nat.le_of_lt (e1.kept hb2).lt) (.cells #[.int .i64 pk, .int .i64 bt, .int .i64 0, .int .i64 0, .int .i64 P] 23)
    obtain ⟨V1, hV1⟩ : ∃ V, w2.heap.size = V := ⟨_, rfl⟩
    have p2 := Bx.new w2 23 [.int .i64 pk, .int .i64 bt, .int .i64 0, .int .i64 0, .int .i64 P]
    rw [hV1] at p2
    have ex0 := e2.cell 0 rfl; have ex1 := e2.cell 1 rfl; have ex2 := e2.cell 2 rfl; have ex3 := e2.cell 3 rfl; have ex4 := e2.cell 4 rfl
    have px0 := p2.cell 0 rfl; have px1 := p2.cell 1 rfl; have px2 := p2.cell 2 rfl; have px3 := p2.cell 3 rfl; have px4 := p2.cell 4 rfl
    clear hk hv hP
    by_cases k1 : ca = 0
    case pos =>
      have g0 : P = pt := HS.out (.inl k1)
      subst g0 k1
      go_wp2_with fail
      go_ret
      exact ⟨rfl, b2⟩
    case neg =>
    have d1 : (ca == 0) = false := by simpa using k1
    by_cases k2 : md = 0
    case pos =>
      by_cases k3 : pt = 0
      · have g0 : P = pt := HS.out (.inr ⟨k2, k3⟩)
        subst g0 k2 k3
        go_wp2_with fail
        go_ret
        exact ⟨rfl, b2⟩
      · have d3 : (pt == 0) = false := by simpa using k3
        have g1 : P ≤ pt := HLO.out k2
        have d4 : decide (pt < P) = false := decide_eq_false (by omega)
        have d5 : (md == ca) = false := by simp; omega
        have d7 : decide (P - pt ≤ 64) = true := decide_eq_true n0
        have d8 : decide (pt - P ≤ 64) = true := decide_eq_true n1
        subst k2
        go_wp2_with fail
        go_ret
        exact ⟨rfl, b2⟩
    case neg =>
    have d2 : (md == 0) = false := by simpa using k2
    have d7 : decide (P - pt ≤ 64) = true := decide_eq_true n0
    have d8 : decide (pt - P ≤ 64) = true := decide_eq_true n1
    by_cases k4 : md = ca
    case pos =>
      have g1 : pt ≤ P := HHI.out k4
      have d4 : decide (P < pt) = false := decide_eq_false (by omega)
      subst k4
      go_wp2_with fail
      go_ret
      exact ⟨rfl, b2⟩
    case neg =>
      have d4 : (md == ca) = false := by simpa using k4
      go_wp2_with fail
      go_ret
      exact ⟨rfl, b2⟩
end Go.Proofs.Ytkgbbmjobjcepaa.marksPart
