/- The walk of the law MarksRounds. -/
import Derived.Test.YtkgbbmjobjcepaaProg
import Derived.Test.YtkgbbmjobjcepaaMsAwake
import Derived.Test.YtkgbbmjobjcepaaMsMath
import Derived.Deep.DeepCutAuto
import Derived.WalkKit
import Derived.WalkSpells
import Derived.WalkSmall
import Derived.Lib.Hide
import Derived.Below
import Derived.Outline
namespace Go.Proofs.Ytkgbbmjobjcepaa.marksRounds
open Go.RowKit
set_option linter.unusedVariables false
set_option linter.unusedSimpArgs false

set_option maxRecDepth 100000 in
set_option maxHeartbeats 8000000 in
theorem walk (part n : Int) (all : Bool) (w : World) :
    Calls Try.prog 7 #[.int .i64 part, .int .i64 n, .bool all] w fun e w' => e = .returned (.bool true) ∧ Below w.heap.size w w' := by
  obtain ⟨B, hB⟩ : ∃ B, w.heap.size = B := ⟨_, rfl⟩
  rw [hB]
  have HB := Lib.hid hB; clear hB
  go_enter Try.func7, Try.ntmps7
  go_wp2_with fail
  refine (msawake_any _).mono ?_
  rintro e w1 ⟨rfl, hb1⟩
  have b1 : Below B w w1 := by rw [← HB.out]; exact hb1
  have z1 : B ≤ w1.heap.size := by rw [← HB.out]; exact hb1.size
  clear hb1
  by_cases c1 : part < 0
  case pos =>
    have dc1 : decide (part < 0) = true := decide_eq_true c1
    go_wp2_with fail
    go_ret
    exact ⟨rfl, b1⟩
  case neg =>
  have dc1 : decide (part < 0) = false := decide_eq_false c1
  by_cases c2 : 1024 < part
  case pos =>
    have dc2 : decide (1024 < part) = true := decide_eq_true c2
    go_wp2_with fail
    go_ret
    exact ⟨rfl, b1⟩
  case neg =>
  have dc2 : decide (1024 < part) = false := decide_eq_false c2
  by_cases c3 : n < 0
  case pos =>
    have dc3 : decide (n < 0) = true := decide_eq_true c3
    go_wp2_with fail
    go_ret
    exact ⟨rfl, b1⟩
  case neg =>
  have dc3 : decide (n < 0) = false := decide_eq_false c3
  by_cases c4 : 100 < n
  case pos =>
    have dc4 : decide (100 < n) = true := decide_eq_true c4
    go_wp2_with fail
    go_ret
    exact ⟨rfl, b1⟩
  case neg =>
  have dc4 : decide (100 < n) = false := decide_eq_false c4
  go_wp2_with fail
  have e2 := Bx.new w1 23 [.int .i64 0, .int .i64 0, .int .i64 0, .int .i64 0, .int .i64 part]
  have b2 := b1.alloc z1 (.cells #[.int .i64 0, .int .i64 0, .int .i64 0, .int .i64 0, .int .i64 part] 23)
  obtain ⟨P, hP⟩ : ∃ P, w1.heap.size = P := ⟨_, rfl⟩
  rw [hP] at e2 z1 ⊢
  generalize w1.alloc (.cells #[.int .i64 0, .int .i64 0, .int .i64 0, .int .i64 0, .int .i64 part] 23) = w2 at e2 b2 ⊢
  have hBP := z1
  clear b1 z1 hP
  obtain ⟨N, hN⟩ : ∃ N : Nat, n = (N : Int) := ⟨n.toNat, by omega⟩
  subst hN
  go_loopw [9] (fun i wr => ∃ (k : Nat) (ca md : Int), k ≤ N ∧ i = .int .i64 (k : Int) ∧ Bx wr P 23 [.int .i64 0, .int .i64 0, .int .i64 ca, .int .i64 md, .int .i64 (steps all part k)] ∧ Below B w wr) (fun i _ => N - (intOf i).toNat)
  case atStart => exact ⟨0, 0, 0, Nat.zero_le _, rfl, e2, b2⟩
  case round =>
    obtain ⟨k, ca, md, hk, rfl, er, br⟩ := hrel
    clear e2 b2
    have hsz : B ≤ wr.heap.size := Nat.le_of_lt (Nat.lt_of_le_of_lt hBP er.lt)
    have hsb := steps_bd (all := all) (x := part) (by omega) (by omega) k
    obtain ⟨s, hs⟩ : ∃ s, steps all part k = s := ⟨_, rfl⟩
    rw [hs] at er hsb
    obtain ⟨s0, s1⟩ := hsb
    have HSK := Lib.hid hs; clear hs
    by_cases hlt : k < N
    case pos =>
      have dlt : decide (k < N) = true := decide_eq_true hlt
      have sdir := step_dir s0 s1
      cases all with
      | true =>
        obtain ⟨t, hst⟩ : ∃ t, step true s = t := ⟨_, rfl⟩
        have st1 := sdir.1
        rw [hst] at st1
        clear sdir
        have hrr : roundR ⟨0, 0, 50, 50, s⟩ = (⟨0, 0, 0, 0, t⟩, 0) := by
          have hp : partR ⟨0, 0, 50, 50, s⟩ = t := by rw [← hst]; exact step_part true s
          have hm : mmay ⟨0, 0, 50, 50, s⟩ = true := (mmay_iff _).2 ⟨by dsimp only; omega, by dsimp only; omega, by dsimp only; omega, by dsimp only; omega, by dsimp only; omega, by dsimp only; omega, by dsimp only; omega, by dsimp only; omega, s0, s1⟩
          unfold roundR; rw [if_pos hm, hp]
        have HRR := Lib.hid hrr; clear hrr
        have x2 := er.cell 2 rfl; have f2 := er.free 2
        have e1 := er.set 2 (.int .i64 50)
        simp only [List.set_cons_zero, List.set_cons_succ] at e1
        have g1 := br.grown (ms_gset wr ⟨P, 2, none⟩ (.int .i64 50)) hsz (fun b h => by cases h; exact hBP)
        have x3 := e1.cell 3 rfl; have f3 := e1.free 3
        have e2 := e1.set 3 (.int .i64 0)
        simp only [List.set_cons_zero, List.set_cons_succ] at e2
        have g2 := g1.grown (ms_gset (wr.setCell ⟨P, 2, none⟩ (.int .i64 50)) ⟨P, 3, none⟩ (.int .i64 0)) (Nat.le_of_lt (Nat.lt_of_le_of_lt hBP e1.lt)) (fun b h => by cases h; exact hBP)
        have x3' := e2.cell 3 rfl; have f3' := e2.free 3
        have e3 := e2.set 3 (.int .i64 50)
        simp only [List.set_cons_zero, List.set_cons_succ] at e3
        have g3 := g2.grown (ms_gset ((wr.setCell ⟨P, 2, none⟩ (.int .i64 50)).setCell ⟨P, 3, none⟩ (.int .i64 0)) ⟨P, 3, none⟩ (.int .i64 50)) (Nat.le_of_lt (Nat.lt_of_le_of_lt hBP e2.lt)) (fun b h => by cases h; exact hBP)
        go_wp2_with (refine ms_load rfl (.tmp 8) rfl rfl e3 rfl ?_)
        refine (mkround_any 0 0 50 50 s _).mono ?_
        rintro e w5 ⟨he, hb5⟩
        rw [HRR.out] at he
        dsimp only at he
        subst he
        have e5 := (e3.kept hb5).alloc (.cells #[.int .i64 0, .int .i64 0, .int .i64 0, .int .i64 0, .int .i64 t] 23); have b5 := (g3.trans (hb5.mono (Nat.le_of_lt (Nat.lt_of_le_of_lt hBP e3.lt)))).alloc (Nat.le_of_lt (Nat.lt_of_le_of_lt hBP (e3.kept hb5).lt)) (.cells #[.int .i64 0, .int .i64 0, .int .i64 0, .int .i64 0, .int .i64 t] 23)
        have n5 := Bx.new w5 23 [.int .i64 0, .int .i64 0, .int .i64 0, .int .i64 0, .int .i64 t]
        have y4 := e5.cell 4 rfl; have z4 := n5.cell 4 rfl
        have dd1 : decide (t < s) = false := decide_eq_false (by omega)
        have HST := Lib.hid hst; clear hst
        have e6 := ms_put e5 [.int .i64 0, .int .i64 0, .int .i64 0, .int .i64 0, .int .i64 t]
        have b6 := b5.grown (ms_grown _ P #[.int .i64 0, .int .i64 0, .int .i64 0, .int .i64 0, .int .i64 t]) (Nat.le_of_lt (Nat.lt_of_le_of_lt hBP e5.lt)) (fun b h => by cases h; exact hBP)
        go_upto_region 15 with fail
        go_wp2_with (first | (refine ms_load rfl (.tmp 10) rfl rfl n5 rfl ?_) | (refine ms_store rfl (.tmp 8) (.tmp 87) rfl rfl [.int .i64 0, .int .i64 0, .int .i64 0, .int .i64 0, .int .i64 t] rfl e5 rfl rfl rfl ?_))
        go_roundw
        case rel => exact ⟨k + 1, 0, 0, by omega, by go_num, by rw [steps_succ, HSK.out, HST.out]; exact e6, b6⟩
        case measure => simp [intOf]; omega
      | false =>
        obtain ⟨t, hst⟩ : ∃ t, step false s = t := ⟨_, rfl⟩
        have st1 := sdir.2.1
        have sne := sdir.2.2
        rw [hst] at st1 sne
        clear sdir
        have hrr : roundR ⟨0, 0, 50, 0, s⟩ = (⟨0, 0, 0, 0, t⟩, 0) := by
          have hp : partR ⟨0, 0, 50, 0, s⟩ = t := by rw [← hst]; exact step_part false s
          have hm : mmay ⟨0, 0, 50, 0, s⟩ = true := (mmay_iff _).2 ⟨by dsimp only; omega, by dsimp only; omega, by dsimp only; omega, by dsimp only; omega, by dsimp only; omega, by dsimp only; omega, by dsimp only; omega, by dsimp only; omega, s0, s1⟩
          unfold roundR; rw [if_pos hm, hp]
        have HRR := Lib.hid hrr; clear hrr
        have x2 := er.cell 2 rfl; have f2 := er.free 2
        have e1 := er.set 2 (.int .i64 50)
        simp only [List.set_cons_zero, List.set_cons_succ] at e1
        have g1 := br.grown (ms_gset wr ⟨P, 2, none⟩ (.int .i64 50)) hsz (fun b h => by cases h; exact hBP)
        have x3 := e1.cell 3 rfl; have f3 := e1.free 3
        have e2 := e1.set 3 (.int .i64 0)
        simp only [List.set_cons_zero, List.set_cons_succ] at e2
        have g2 := g1.grown (ms_gset (wr.setCell ⟨P, 2, none⟩ (.int .i64 50)) ⟨P, 3, none⟩ (.int .i64 0)) (Nat.le_of_lt (Nat.lt_of_le_of_lt hBP e1.lt)) (fun b h => by cases h; exact hBP)
        go_wp2_with (refine ms_load rfl (.tmp 8) rfl rfl e2 rfl ?_)
        refine (mkround_any 0 0 50 0 s _).mono ?_
        rintro e w5 ⟨he, hb5⟩
        rw [HRR.out] at he
        dsimp only at he
        subst he
        have e5 := (e2.kept hb5).alloc (.cells #[.int .i64 0, .int .i64 0, .int .i64 0, .int .i64 0, .int .i64 t] 23); have b5 := (g2.trans (hb5.mono (Nat.le_of_lt (Nat.lt_of_le_of_lt hBP e2.lt)))).alloc (Nat.le_of_lt (Nat.lt_of_le_of_lt hBP (e2.kept hb5).lt)) (.cells #[.int .i64 0, .int .i64 0, .int .i64 0, .int .i64 0, .int .i64 t] 23)
        have n5 := Bx.new w5 23 [.int .i64 0, .int .i64 0, .int .i64 0, .int .i64 0, .int .i64 t]
        have y4 := e5.cell 4 rfl; have z4 := n5.cell 4 rfl
        have dd1 : decide (s < t) = false := decide_eq_false (by omega)
        by_cases sp : 0 < s
        · have dsp : decide (0 < s) = true := decide_eq_true sp
          have dne : (t == s) = false := by have := sne sp; simpa using this
          have HST := Lib.hid hst; have HNE := Lib.hid sne; clear hst sne
          have e6 := ms_put e5 [.int .i64 0, .int .i64 0, .int .i64 0, .int .i64 0, .int .i64 t]
          have b6 := b5.grown (ms_grown _ P #[.int .i64 0, .int .i64 0, .int .i64 0, .int .i64 0, .int .i64 t]) (Nat.le_of_lt (Nat.lt_of_le_of_lt hBP e5.lt)) (fun b h => by cases h; exact hBP)
          go_upto_region 15 with fail
          go_wp2_with (first | (refine ms_load rfl (.tmp 10) rfl rfl n5 rfl ?_) | (refine ms_store rfl (.tmp 8) (.tmp 87) rfl rfl [.int .i64 0, .int .i64 0, .int .i64 0, .int .i64 0, .int .i64 t] rfl e5 rfl rfl rfl ?_))
          go_roundw
          case rel => exact ⟨k + 1, 0, 0, by omega, by go_num, by rw [steps_succ, HSK.out, HST.out]; exact e6, b6⟩
          case measure => simp [intOf]; omega
        · have dsp : decide (0 < s) = false := decide_eq_false sp
          have HST := Lib.hid hst; have HNE := Lib.hid sne; clear hst sne
          have e6 := ms_put e5 [.int .i64 0, .int .i64 0, .int .i64 0, .int .i64 0, .int .i64 t]
          have b6 := b5.grown (ms_grown _ P #[.int .i64 0, .int .i64 0, .int .i64 0, .int .i64 0, .int .i64 t]) (Nat.le_of_lt (Nat.lt_of_le_of_lt hBP e5.lt)) (fun b h => by cases h; exact hBP)
          go_upto_region 15 with fail
          go_wp2_with (first | (refine ms_load rfl (.tmp 10) rfl rfl n5 rfl ?_) | (refine ms_store rfl (.tmp 8) (.tmp 87) rfl rfl [.int .i64 0, .int .i64 0, .int .i64 0, .int .i64 0, .int .i64 t] rfl e5 rfl rfl rfl ?_))
          go_roundw
          case rel => exact ⟨k + 1, 0, 0, by omega, by go_num, by rw [steps_succ, HSK.out, HST.out]; exact e6, b6⟩
          case measure => simp [intOf]; omega
    case neg =>
    obtain rfl : k = N := by omega
    have dlt : decide (k < k) = false := decide_eq_false (by omega)
    have x4 := er.cell 4 rfl
    by_cases h100 : k < 100
    · have d100 : decide ((k : Int) < 100) = true := decide_eq_true (by omega)
      go_wp2_with fail
      go_ret
      exact ⟨rfl, br⟩
    · have d100 : decide ((k : Int) < 100) = false := decide_eq_false (by omega)
      have hk100 : k = 100 := by omega
      have hend := steps_end (x := part) (by omega) (by omega)
      have hs2 := HSK.out
      rw [hk100] at hs2
      cases all with
      | true =>
        have d1 : decide (1009 ≤ s) = true := decide_eq_true (by rw [← hs2]; exact hend.1)
        clear hs2 hend hk100
        go_wp2_with fail
        go_ret
        exact ⟨rfl, br⟩
      | false =>
        have d1 : decide (s ≤ 100) = true := decide_eq_true (by rw [← hs2]; exact hend.2)
        clear hs2 hend hk100
        go_wp2_with fail
        go_ret
        exact ⟨rfl, br⟩
end Go.Proofs.Ytkgbbmjobjcepaa.marksRounds
