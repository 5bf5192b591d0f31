/- The walk of the law FixSteps: every number. -/
import Derived.Test.YtplkppdkmhljdaaProg
import Derived.Test.YtplkppdkmhljdaaAwake
import Derived.WalkKit
import Derived.WalkSpells
import Derived.Lib.Hide
import Derived.Below
namespace Go.Proofs.Ytplkppdkmhljdaa.fixSteps
open Go.RowKit
set_option linter.unusedVariables false

theorem steps_facts (a b c : Int) (a0 : 0 ≤ a) (b0 : 0 ≤ b) (c0 : 0 ≤ c) (a1 : a ≤ 1073741824) (b1 : b ≤ 1073741824) (c1 : c ≤ 1073741824) :
    addOk a b = true ∧ tell (a + b) true = a + b ∧ addOk (a + b) c = true ∧ tell (a + b + c) true = a + b + c ∧ addOk b c = true ∧ tell (b + c) true = b + c ∧ addOk a (b + c) = true ∧ tell (a + (b + c)) true = a + b + c ∧
    mdOk a b (c + 1) = true ∧ mdOk a b 1 = true ∧ tell (a * b) true = a * b ∧ mdOk (a * b) 1 (c + 1) = true := by
  have h0 : 0 ≤ a * b := Int.mul_nonneg a0 b0
  have h1 : a * b ≤ 1073741824 * 1073741824 := Int.mul_le_mul a1 b1 b0 (by omega)
  have h2 : 0 ≤ a * b / (c + 1) := Int.ediv_nonneg h0 (by omega)
  have h3 : a * b / (c + 1) ≤ a * b := Int.ediv_le_self _ h0
  refine ⟨?_, rfl, ?_, rfl, ?_, rfl, ?_, by show a + (b + c) = a + b + c; omega, ?_, ?_, rfl, ?_⟩
  all_goals
    simp only [addOk, mdOk, Bool.and_eq_true, decide_eq_true_eq, inB_iff, Int.ediv_one, Int.mul_one]
    generalize a * b / (c + 1) = q at *
    generalize a * b = p at *
    omega

set_option maxHeartbeats 1000000 in
theorem walk (a b c : Int) (w0 : (Lit.int .i64 a).wf = true) (w1 : (Lit.int .i64 b).wf = true) (w2 : (Lit.int .i64 c).wf = true) (w : World) :
    Calls Try.prog 10 #[.int .i64 a, .int .i64 b, .int .i64 c] w fun e w' => e = .returned (.bool true) ∧ Below w.heap.size w w' := by
  have v0 := wf_bd w0
  have v1 := wf_bd w1
  have v2 := wf_bd w2
  clear w0 w1 w2
  have hb := Below.refl w.heap.size w
  by_cases a0 : a < 0
  ·
    go_enter Try.func10, Try.ntmps10
    go_wp2_with (first | (go_at_call 11; refine (awake_any _).mono ?_; rintro e wx ⟨rfl, hbx⟩; replace hb := hb.trans (hbx.mono hb.size); clear hbx) | (go_at_call 12; refine (add_any _ _ _).mono ?_; rintro e wx ⟨rfl, hbx⟩; replace hb := hb.trans (hbx.mono hb.size); clear hbx) | (go_at_call 14; refine (md_any _ _ _ _).mono ?_; rintro e wx ⟨rfl, hbx⟩; replace hb := hb.trans (hbx.mono hb.size); clear hbx) | (go_at_call 16; refine (mul_any _ _ _).mono ?_; rintro e wx ⟨rfl, hbx⟩; replace hb := hb.trans (hbx.mono hb.size); clear hbx) | (go_at_call 18; refine (div_any _ _ _).mono ?_; rintro e wx ⟨rfl, hbx⟩; replace hb := hb.trans (hbx.mono hb.size); clear hbx))
    go_ret
    exact ⟨rfl, hb⟩
  by_cases b0 : b < 0
  ·
    go_enter Try.func10, Try.ntmps10
    go_wp2_with (first | (go_at_call 11; refine (awake_any _).mono ?_; rintro e wx ⟨rfl, hbx⟩; replace hb := hb.trans (hbx.mono hb.size); clear hbx) | (go_at_call 12; refine (add_any _ _ _).mono ?_; rintro e wx ⟨rfl, hbx⟩; replace hb := hb.trans (hbx.mono hb.size); clear hbx) | (go_at_call 14; refine (md_any _ _ _ _).mono ?_; rintro e wx ⟨rfl, hbx⟩; replace hb := hb.trans (hbx.mono hb.size); clear hbx) | (go_at_call 16; refine (mul_any _ _ _).mono ?_; rintro e wx ⟨rfl, hbx⟩; replace hb := hb.trans (hbx.mono hb.size); clear hbx) | (go_at_call 18; refine (div_any _ _ _).mono ?_; rintro e wx ⟨rfl, hbx⟩; replace hb := hb.trans (hbx.mono hb.size); clear hbx))
    go_ret
    exact ⟨rfl, hb⟩
  by_cases c0 : c < 0
  ·
    go_enter Try.func10, Try.ntmps10
    go_wp2_with (first | (go_at_call 11; refine (awake_any _).mono ?_; rintro e wx ⟨rfl, hbx⟩; replace hb := hb.trans (hbx.mono hb.size); clear hbx) | (go_at_call 12; refine (add_any _ _ _).mono ?_; rintro e wx ⟨rfl, hbx⟩; replace hb := hb.trans (hbx.mono hb.size); clear hbx) | (go_at_call 14; refine (md_any _ _ _ _).mono ?_; rintro e wx ⟨rfl, hbx⟩; replace hb := hb.trans (hbx.mono hb.size); clear hbx) | (go_at_call 16; refine (mul_any _ _ _).mono ?_; rintro e wx ⟨rfl, hbx⟩; replace hb := hb.trans (hbx.mono hb.size); clear hbx) | (go_at_call 18; refine (div_any _ _ _).mono ?_; rintro e wx ⟨rfl, hbx⟩; replace hb := hb.trans (hbx.mono hb.size); clear hbx))
    go_ret
    exact ⟨rfl, hb⟩
  by_cases a1 : 1073741824 < a
  ·
    go_enter Try.func10, Try.ntmps10
    go_wp2_with (first | (go_at_call 11; refine (awake_any _).mono ?_; rintro e wx ⟨rfl, hbx⟩; replace hb := hb.trans (hbx.mono hb.size); clear hbx) | (go_at_call 12; refine (add_any _ _ _).mono ?_; rintro e wx ⟨rfl, hbx⟩; replace hb := hb.trans (hbx.mono hb.size); clear hbx) | (go_at_call 14; refine (md_any _ _ _ _).mono ?_; rintro e wx ⟨rfl, hbx⟩; replace hb := hb.trans (hbx.mono hb.size); clear hbx) | (go_at_call 16; refine (mul_any _ _ _).mono ?_; rintro e wx ⟨rfl, hbx⟩; replace hb := hb.trans (hbx.mono hb.size); clear hbx) | (go_at_call 18; refine (div_any _ _ _).mono ?_; rintro e wx ⟨rfl, hbx⟩; replace hb := hb.trans (hbx.mono hb.size); clear hbx))
    go_ret
    exact ⟨rfl, hb⟩
  by_cases b1 : 1073741824 < b
  ·
    go_enter Try.func10, Try.ntmps10
    go_wp2_with (first | (go_at_call 11; refine (awake_any _).mono ?_; rintro e wx ⟨rfl, hbx⟩; replace hb := hb.trans (hbx.mono hb.size); clear hbx) | (go_at_call 12; refine (add_any _ _ _).mono ?_; rintro e wx ⟨rfl, hbx⟩; replace hb := hb.trans (hbx.mono hb.size); clear hbx) | (go_at_call 14; refine (md_any _ _ _ _).mono ?_; rintro e wx ⟨rfl, hbx⟩; replace hb := hb.trans (hbx.mono hb.size); clear hbx) | (go_at_call 16; refine (mul_any _ _ _).mono ?_; rintro e wx ⟨rfl, hbx⟩; replace hb := hb.trans (hbx.mono hb.size); clear hbx) | (go_at_call 18; refine (div_any _ _ _).mono ?_; rintro e wx ⟨rfl, hbx⟩; replace hb := hb.trans (hbx.mono hb.size); clear hbx))
    go_ret
    exact ⟨rfl, hb⟩
  by_cases c1 : 1073741824 < c
  ·
    go_enter Try.func10, Try.ntmps10
    go_wp2_with (first | (go_at_call 11; refine (awake_any _).mono ?_; rintro e wx ⟨rfl, hbx⟩; replace hb := hb.trans (hbx.mono hb.size); clear hbx) | (go_at_call 12; refine (add_any _ _ _).mono ?_; rintro e wx ⟨rfl, hbx⟩; replace hb := hb.trans (hbx.mono hb.size); clear hbx) | (go_at_call 14; refine (md_any _ _ _ _).mono ?_; rintro e wx ⟨rfl, hbx⟩; replace hb := hb.trans (hbx.mono hb.size); clear hbx) | (go_at_call 16; refine (mul_any _ _ _).mono ?_; rintro e wx ⟨rfl, hbx⟩; replace hb := hb.trans (hbx.mono hb.size); clear hbx) | (go_at_call 18; refine (div_any _ _ _).mono ?_; rintro e wx ⟨rfl, hbx⟩; replace hb := hb.trans (hbx.mono hb.size); clear hbx))
    go_ret
    exact ⟨rfl, hb⟩
  obtain ⟨f1, f2, f3, f4, f5, f6, f7, f8, f9, f10, f11, f12⟩ := steps_facts a b c (by omega) (by omega) (by omega) (by omega) (by omega) (by omega)
  go_enter Try.func10, Try.ntmps10
  go_wp2_with (first | (go_at_call 11; refine (awake_any _).mono ?_; rintro e wx ⟨rfl, hbx⟩; replace hb := hb.trans (hbx.mono hb.size); clear hbx) | (go_at_call 12; refine (add_any _ _ _).mono ?_; rintro e wx ⟨rfl, hbx⟩; replace hb := hb.trans (hbx.mono hb.size); clear hbx) | (go_at_call 14; refine (md_any _ _ _ _).mono ?_; rintro e wx ⟨rfl, hbx⟩; replace hb := hb.trans (hbx.mono hb.size); clear hbx) | (go_at_call 16; refine (mul_any _ _ _).mono ?_; rintro e wx ⟨rfl, hbx⟩; replace hb := hb.trans (hbx.mono hb.size); clear hbx) | (go_at_call 18; refine (div_any _ _ _).mono ?_; rintro e wx ⟨rfl, hbx⟩; replace hb := hb.trans (hbx.mono hb.size); clear hbx))
  go_ret
  exact ⟨rfl, hb⟩

end Go.Proofs.Ytplkppdkmhljdaa.fixSteps
