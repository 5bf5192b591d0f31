/- The walk of the law MarksBack. -/
import Derived.Test.YtkgbbmjobjcepaaProg
import Derived.Test.YtkgbbmjobjcepaaMsAwake
import Derived.Test.YtkgbbmjobjcepaaMsMath
import Derived.WalkKit
import Derived.WalkSpells
import Derived.WalkSmall
import Derived.Lib.Hide
import Derived.Below
import Derived.Outline
namespace Go.Proofs.Ytkgbbmjobjcepaa.marksBack
open Go.RowKit
set_option linter.unusedVariables false
set_option linter.unusedSimpArgs false

set_option maxRecDepth 100000 in
set_option maxHeartbeats 8000000 in
theorem walk (pk bt ca md pt : Int) (packets more size : Int) (w : World)  :
    Calls Try.prog 4 #[.agg #[.int .i64 pk, .int .i64 bt, .int .i64 ca, .int .i64 md, .int .i64 pt], .int .i64 packets, .int .i64 more, .int .i64 size] w fun e w' => e = .returned (.bool true) ∧ Below w.heap.size w w' := by
  obtain ⟨B, hB⟩ : ∃ B, w.heap.size = B := ⟨_, rfl⟩
  rw [hB]
  have e0 := Bx.new w 23 [.int .i64 pk, .int .i64 bt, .int .i64 ca, .int .i64 md, .int .i64 pt]
  rw [hB] at e0
  have b0 : Below B w (w.alloc (.cells #[.int .i64 pk, .int .i64 bt, .int .i64 ca, .int .i64 md, .int .i64 pt] 23)) := by rw [← hB]; exact (Below.refl _ _).alloc (Nat.le_refl _) _
  go_enter Try.func4, Try.ntmps4
  go_wp2_with fail
  generalize w.alloc (.cells #[.int .i64 pk, .int .i64 bt, .int .i64 ca, .int .i64 md, .int .i64 pt] 23) = w0 at e0 b0 ⊢
  refine (msawake_any _).mono ?_
  rintro e w1 ⟨rfl, hb1⟩
  have e1 := e0.kept hb1
  have b1 := b0.trans (hb1.mono (Nat.le_of_lt e0.lt))
  have ex0 := e1.cell 0 rfl; have ex1 := e1.cell 1 rfl; have ex2 := e1.cell 2 rfl; have ex3 := e1.cell 3 rfl; have ex4 := e1.cell 4 rfl
  go_wp2_with fail
  clear ex0 ex1 ex2 ex3 ex4
  refine (mkmay_any pk bt ca md pt _).mono ?_
  rintro e w2 ⟨rfl, hb2⟩
  have e2 := e1.kept hb2
  have b2 := b1.trans (hb2.mono (Nat.le_of_lt e1.lt))
  have ex0 := e2.cell 0 rfl; have ex1 := e2.cell 1 rfl; have ex2 := e2.cell 2 rfl; have ex3 := e2.cell 3 rfl; have ex4 := e2.cell 4 rfl
  cases hk : mmay ⟨pk, bt, ca, md, pt⟩ with
  | false =>
    go_wp2_with fail
    go_ret
    exact ⟨rfl, b2⟩
  | true =>
  have hv := (mmay_iff _).1 hk
  have p0 : 0 ≤ pk := hv.p0; have q0 : 0 ≤ bt := hv.b0; have r0 : 0 ≤ ca := hv.c0; have s0 : 0 ≤ md := hv.m0; have s1 : md ≤ ca := hv.m1
  have HK := Lib.hid hk; clear hk hv
  by_cases c1 : 1000000000000 < pk
  case pos =>
    have dc1 : decide (1000000000000 < pk) = true := decide_eq_true c1
    go_wp2_with fail
    go_ret
    exact ⟨rfl, b2⟩
  case neg =>
  have dc1 : decide (1000000000000 < pk) = false := decide_eq_false c1
  by_cases c2 : 1000000000000 < bt
  case pos =>
    have dc2 : decide (1000000000000 < bt) = true := decide_eq_true c2
    go_wp2_with fail
    go_ret
    exact ⟨rfl, b2⟩
  case neg =>
  have dc2 : decide (1000000000000 < bt) = false := decide_eq_false c2
  by_cases c3 : 1000000000000 < ca
  case pos =>
    have dc3 : decide (1000000000000 < ca) = true := decide_eq_true c3
    go_wp2_with fail
    go_ret
    exact ⟨rfl, b2⟩
  case neg =>
  have dc3 : decide (1000000000000 < ca) = false := decide_eq_false c3
  by_cases c4 : packets < 0
  case pos =>
    have dc4 : decide (packets < 0) = true := decide_eq_true c4
    go_wp2_with fail
    go_ret
    exact ⟨rfl, b2⟩
  case neg =>
  have dc4 : decide (packets < 0) = false := decide_eq_false c4
  by_cases c5 : 1000000 < packets
  case pos =>
    have dc5 : decide (1000000 < packets) = true := decide_eq_true c5
    go_wp2_with fail
    go_ret
    exact ⟨rfl, b2⟩
  case neg =>
  have dc5 : decide (1000000 < packets) = false := decide_eq_false c5
  by_cases c6 : more < 0
  case pos =>
    have dc6 : decide (more < 0) = true := decide_eq_true c6
    go_wp2_with fail
    go_ret
    exact ⟨rfl, b2⟩
  case neg =>
  have dc6 : decide (more < 0) = false := decide_eq_false c6
  by_cases c7 : packets < more
  case pos =>
    have dc7 : decide (packets < more) = true := decide_eq_true c7
    go_wp2_with fail
    go_ret
    exact ⟨rfl, b2⟩
  case neg =>
  have dc7 : decide (packets < more) = false := decide_eq_false c7
  by_cases c8 : size < 1
  case pos =>
    have dc8 : decide (size < 1) = true := decide_eq_true c8
    go_wp2_with fail
    go_ret
    exact ⟨rfl, b2⟩
  case neg =>
  have dc8 : decide (size < 1) = false := decide_eq_false c8
  by_cases c9 : 1000000 < size
  case pos =>
    have dc9 : decide (1000000 < size) = true := decide_eq_true c9
    go_wp2_with fail
    go_ret
    exact ⟨rfl, b2⟩
  case neg =>
  have dc9 : decide (1000000 < size) = false := decide_eq_false c9
  obtain ⟨X, hX⟩ : ∃ X, more * size = X := ⟨_, rfl⟩
  obtain ⟨Y, hY⟩ : ∃ Y, packets * size = Y := ⟨_, rfl⟩
  have hXY : X ≤ Y := by rw [← hX, ← hY]; exact Int.mul_le_mul_of_nonneg_right (by omega) (by omega)
  have hX0 : 0 ≤ X := by rw [← hX]; exact Int.mul_nonneg (by omega) (by omega)
  have hY1 : Y ≤ 1000000 * 1000000 := by rw [← hY]; exact Int.mul_le_mul (by omega) (by omega) (by omega) (by omega)
  have hkX : 0 < more → 0 < X := fun h => by rw [← hX]; exact Int.mul_pos h (by omega)
  have HKX := Lib.hid hkX; clear hkX
  by_cases c10 : 16777216 ≤ X
  case pos =>
    have dc10 : decide (16777216 ≤ X) = true := decide_eq_true c10
    go_wp2_with fail
    go_ret
    exact ⟨rfl, b2⟩
  case neg =>
  have dc10 : decide (16777216 ≤ X) = false := decide_eq_false c10
  have dc11 : decide (1000000000000 < Y) = false := decide_eq_false (by omega)
  by_cases c12 : 8 ≤ packets ∧ 7 < packets - more
  case pos =>
    obtain ⟨c13, c14⟩ := c12
    have d13 : decide (8 ≤ packets) = true := decide_eq_true c13
    have d14 : decide (7 < packets - more) = true := decide_eq_true c14
    go_wp2_with fail
    go_ret
    exact ⟨rfl, b2⟩
  case neg =>
  have hbs := back_spec HK.out (p := packets) (k := more) (X := X) (Y := Y) (by dsimp only; omega) (by dsimp only; omega) (by dsimp only; omega) (by omega) (by omega) (by omega) (by omega) hX0 (by omega) hXY (by omega) HKX.out c12
  obtain ⟨hto, h', hhe, hh1, hh2, hh3⟩ := hbs
  obtain ⟨hp', hb', hc', hm', ht'⟩ := h'
  dsimp only at hto hhe hh1 hh2 hh3
  subst hh1 hh2 hh3
  obtain ⟨A, hA⟩ : ∃ A, (pk + more) % 8 = A := ⟨_, rfl⟩
  obtain ⟨C, hC⟩ : ∃ C, (bt + X) % 16777216 = C := ⟨_, rfl⟩
  have hC0 : 0 ≤ C := by omega
  have hC1 : C < 4294967296 := by omega
  rw [hA, hC] at hto hhe
  have HTO := Lib.hid hto; have HHE := Lib.hid hhe
  clear hto hhe hA hC
  have HC12 := Lib.hid c12; clear c12
  by_cases c13 : 8 ≤ packets
  case pos =>
    have d13 : decide (8 ≤ packets) = true := decide_eq_true c13
    have d14 : decide (7 < packets - more) = false := decide_eq_false (fun h => HC12.out ⟨c13, h⟩)
    have e3' := e2.alloc (.cells #[.int .i64 (pk + more), .int .i64 (bt + X), .int .i64 ca, .int .i64 md, .int .i64 pt] 23)
    have m3 := Bx.new w2 23 [.int .i64 (pk + more), .int .i64 (bt + X), .int .i64 ca, .int .i64 md, .int .i64 pt]
    have b3' := b2.alloc (Nat.le_of_lt e2.lt) (.cells #[.int .i64 (pk + more), .int .i64 (bt + X), .int .i64 ca, .int .i64 md, .int .i64 pt] 23)
    have u0 : ∀ o, (w2.alloc o).cell? ⟨B, 0, none⟩ = some (.int .i64 pk) := fun o => (e2.alloc o).cell 0 rfl
    have u1 : ∀ o, (w2.alloc o).cell? ⟨B, 1, none⟩ = some (.int .i64 bt) := fun o => (e2.alloc o).cell 1 rfl
    go_wp2_with fail
    clear u0 u1
    obtain ⟨V1, hV1⟩ : ∃ V, w2.heap.size = V := ⟨_, rfl⟩
    rw [hV1] at m3 ⊢
    clear ex0 ex1 ex2 ex3 ex4
    generalize w2.alloc (.cells #[.int .i64 (pk + more), .int .i64 (bt + X), .int .i64 ca, .int .i64 md, .int .i64 pt] 23) = w3 at e3' m3 b3' ⊢
    refine (mktold_any (pk + more) (bt + X) ca md pt _).mono ?_
    rintro e w4 ⟨rfl, hb4⟩
    rw [HTO.out]
    dsimp only
    have e4 := e3'.kept hb4; have m4 := m3.kept hb4; have b4 := b3'.trans (hb4.mono (Nat.le_of_lt e3'.lt))
    go_wp2_with (refine ms_load rfl (.tmp 4) rfl rfl e4 rfl ?_)
    refine (mkheard_any pk bt ca md pt A C packets Y _ hC0 hC1).mono ?_
    rintro e w5 ⟨he, hb5⟩
    rw [HHE.out] at he
    dsimp only at he
    subst he
    have e5 := (e4.kept hb5).alloc (.cells #[.int .i64 (pk + more), .int .i64 (bt + X), .int .i64 hc', .int .i64 (md + X), .int .i64 ht'] 23); have m5 := (m4.kept hb5).alloc (.cells #[.int .i64 (pk + more), .int .i64 (bt + X), .int .i64 hc', .int .i64 (md + X), .int .i64 ht'] 23); have b5 := (b4.trans (hb5.mono (Nat.le_of_lt e4.lt))).alloc (Nat.le_of_lt (e4.kept hb5).lt) (.cells #[.int .i64 (pk + more), .int .i64 (bt + X), .int .i64 hc', .int .i64 (md + X), .int .i64 ht'] 23)
    have n5 := Bx.new w5 23 [.int .i64 (pk + more), .int .i64 (bt + X), .int .i64 hc', .int .i64 (md + X), .int .i64 ht']
    have ex0 := e5.cell 0 rfl; have ex1 := e5.cell 1 rfl; have ex2 := e5.cell 2 rfl; have ex3 := e5.cell 3 rfl; have ex4 := e5.cell 4 rfl; have mx0 := m5.cell 0 rfl; have mx1 := m5.cell 1 rfl; have mx2 := m5.cell 2 rfl; have mx3 := m5.cell 3 rfl; have mx4 := m5.cell 4 rfl; have nx0 := n5.cell 0 rfl; have nx1 := n5.cell 1 rfl; have nx2 := n5.cell 2 rfl; have nx3 := n5.cell 3 rfl; have nx4 := n5.cell 4 rfl
    have s9 : md + X - md = X := by omega
    go_wp2_with fail
    go_ret
    exact ⟨rfl, b5⟩
  case neg =>
    have d13 : decide (8 ≤ packets) = false := decide_eq_false c13
    have e3' := e2.alloc (.cells #[.int .i64 (pk + more), .int .i64 (bt + X), .int .i64 ca, .int .i64 md, .int .i64 pt] 23)
    have m3 := Bx.new w2 23 [.int .i64 (pk + more), .int .i64 (bt + X), .int .i64 ca, .int .i64 md, .int .i64 pt]
    have b3' := b2.alloc (Nat.le_of_lt e2.lt) (.cells #[.int .i64 (pk + more), .int .i64 (bt + X), .int .i64 ca, .int .i64 md, .int .i64 pt] 23)
    have u0 : ∀ o, (w2.alloc o).cell? ⟨B, 0, none⟩ = some (.int .i64 pk) := fun o => (e2.alloc o).cell 0 rfl
    have u1 : ∀ o, (w2.alloc o).cell? ⟨B, 1, none⟩ = some (.int .i64 bt) := fun o => (e2.alloc o).cell 1 rfl
    go_wp2_with fail
    clear u0 u1
    obtain ⟨V1, hV1⟩ : ∃ V, w2.heap.size = V := ⟨_, rfl⟩
    rw [hV1] at m3 ⊢
    clear ex0 ex1 ex2 ex3 ex4
    generalize w2.alloc (.cells #[.int .i64 (pk + more), .int .i64 (bt + X), .int .i64 ca, .int .i64 md, .int .i64 pt] 23) = w3 at e3' m3 b3' ⊢
    refine (mktold_any (pk + more) (bt + X) ca md pt _).mono ?_
    rintro e w4 ⟨rfl, hb4⟩
    rw [HTO.out]
    dsimp only
    have e4 := e3'.kept hb4; have m4 := m3.kept hb4; have b4 := b3'.trans (hb4.mono (Nat.le_of_lt e3'.lt))
    go_wp2_with (refine ms_load rfl (.tmp 4) rfl rfl e4 rfl ?_)
    refine (mkheard_any pk bt ca md pt A C packets Y _ hC0 hC1).mono ?_
    rintro e w5 ⟨he, hb5⟩
    rw [HHE.out] at he
    dsimp only at he
    subst he
    have e5 := (e4.kept hb5).alloc (.cells #[.int .i64 (pk + more), .int .i64 (bt + X), .int .i64 hc', .int .i64 (md + X), .int .i64 ht'] 23); have m5 := (m4.kept hb5).alloc (.cells #[.int .i64 (pk + more), .int .i64 (bt + X), .int .i64 hc', .int .i64 (md + X), .int .i64 ht'] 23); have b5 := (b4.trans (hb5.mono (Nat.le_of_lt e4.lt))).alloc (Nat.le_of_lt (e4.kept hb5).lt) (.cells #[.int .i64 (pk + more), .int .i64 (bt + X), .int .i64 hc', .int .i64 (md + X), .int .i64 ht'] 23)
    have n5 := Bx.new w5 23 [.int .i64 (pk + more), .int .i64 (bt + X), .int .i64 hc', .int .i64 (md + X), .int .i64 ht']
    have ex0 := e5.cell 0 rfl; have ex1 := e5.cell 1 rfl; have ex2 := e5.cell 2 rfl; have ex3 := e5.cell 3 rfl; have ex4 := e5.cell 4 rfl; have mx0 := m5.cell 0 rfl; have mx1 := m5.cell 1 rfl; have mx2 := m5.cell 2 rfl; have mx3 := m5.cell 3 rfl; have mx4 := m5.cell 4 rfl; have nx0 := n5.cell 0 rfl; have nx1 := n5.cell 1 rfl; have nx2 := n5.cell 2 rfl; have nx3 := n5.cell 3 rfl; have nx4 := n5.cell 4 rfl
    have s9 : md + X - md = X := by omega
    go_wp2_with fail
    go_ret
    exact ⟨rfl, b5⟩
end Go.Proofs.Ytkgbbmjobjcepaa.marksBack
