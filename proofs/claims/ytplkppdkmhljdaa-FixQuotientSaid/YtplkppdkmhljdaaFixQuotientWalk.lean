/- The walk of the law FixQuotient: every number. -/
import Derived.Test.YtplkppdkmhljdaaProg
import Derived.Test.YtplkppdkmhljdaaAwake
import Derived.WalkKit
import Derived.WalkSpells
import Derived.Lib.Hide
import Derived.Below
namespace Go.Proofs.Ytplkppdkmhljdaa.fixQuotient
open Go.RowKit
set_option linter.unusedVariables false

theorem quo_facts (a b c : Int) (hm : mdOk a b 1 = true) (hc : inB c = true) (h : 1 ≤ c) :
    mdOk a b c = true ∧ tell (a * b) true = a * b ∧ mdOk (a * b) 1 c = true ∧ tell (a * b / c) true = a * b / c ∧ 0 ≤ a * b - a * b / c * c ∧ a * b - a * b / c * c < c := by
  simp only [mdOk, Bool.and_eq_true, decide_eq_true_eq, Int.ediv_one] at hm
  obtain ⟨⟨⟨⟨ha, hb⟩, _⟩, _⟩, hab⟩ := hm
  have hab' := (inB_iff _).1 hab
  have hq : inB (a * b / c) = true := by
    rw [inB_iff]
    generalize a * b = p at *
    have h1 := Int.emod_nonneg p (show c ≠ 0 by omega)
    have h2 := Int.emod_lt_of_pos p (show 0 < c by omega)
    by_cases hp : 0 ≤ p
    · have h4 : 0 ≤ p / c := Int.ediv_nonneg hp (by omega)
      have h5 : p / c ≤ p := Int.ediv_le_self _ hp
      omega
    · have h4 : p / c ≤ 0 := by
        have := Int.ediv_le_ediv (show 0 < c by omega) (show p ≤ 0 by omega)
        simpa using this
      have h5 : p ≤ p / c := by
        rw [Int.le_ediv_iff_mul_le (by omega)]
        have h6 : p * c ≤ p * 1 := Int.mul_le_mul_of_nonpos_left (by omega) h
        omega
      omega
  have e1 := Int.emod_nonneg (a * b) (show c ≠ 0 by omega)
  have e2 := Int.emod_lt_of_pos (a * b) (show 0 < c by omega)
  have e3 := Int.mul_ediv_add_emod (a * b) c
  rw [Int.mul_comm c] at e3
  have h1i : inB 1 = true := by decide
  refine ⟨by simp [mdOk, ha, hb, hc, h, hq], rfl, by simp [mdOk, hab, hc, h, hq, h1i], rfl, by omega, by omega⟩

set_option maxHeartbeats 1000000 in
theorem walk (a b c : Int) (w0 : (Lit.int .i64 a).wf = true) (w1 : (Lit.int .i64 b).wf = true) (w2 : (Lit.int .i64 c).wf = true) (w : World) :
    Calls Try.prog 5 #[.int .i64 a, .int .i64 b, .int .i64 c] w fun e w' => e = .returned (.bool true) ∧ Below w.heap.size w w' := by
  clear w0 w1 w2
  have hb := Below.refl w.heap.size w
  by_cases hm : mdOk a b 1 = true
  · by_cases h : 1 ≤ c
    · have h' : ¬ c < 1 := by omega
      by_cases hc : inB c = true
      · obtain ⟨f1, f2, f3, f4, f5, f6⟩ := quo_facts a b c hm hc h
        have hc2 := ((inB_iff c).1 hc).2
        by_cases hf : mdOk (a * b / c) c 1 = true
        · have t : tell (a * b / c * c) true = a * b / c * c := rfl
          go_enter Try.func5, Try.ntmps5
          go_wp2_with (first | (go_at_call 11; refine (awake_any _).mono ?_; rintro e wx ⟨rfl, hbx⟩; replace hb := hb.trans (hbx.mono hb.size); clear hbx) | (go_at_call 14; refine (md_any _ _ _ _).mono ?_; rintro e wx ⟨rfl, hbx⟩; replace hb := hb.trans (hbx.mono hb.size); clear hbx) | (go_at_call 16; refine (mul_any _ _ _).mono ?_; rintro e wx ⟨rfl, hbx⟩; replace hb := hb.trans (hbx.mono hb.size); clear hbx) | (go_at_call 18; refine (div_any _ _ _).mono ?_; rintro e wx ⟨rfl, hbx⟩; replace hb := hb.trans (hbx.mono hb.size); clear hbx) | (go_at_call 26; refine (in_any _ _).mono ?_; rintro e wx ⟨rfl, rfl⟩))
          go_ret
          exact ⟨rfl, hb⟩
        · have hf' : mdOk (a * b / c) c 1 = false := by simpa using hf
          clear hf
          go_enter Try.func5, Try.ntmps5
          go_wp2_with (first | (go_at_call 11; refine (awake_any _).mono ?_; rintro e wx ⟨rfl, hbx⟩; replace hb := hb.trans (hbx.mono hb.size); clear hbx) | (go_at_call 14; refine (md_any _ _ _ _).mono ?_; rintro e wx ⟨rfl, hbx⟩; replace hb := hb.trans (hbx.mono hb.size); clear hbx) | (go_at_call 16; refine (mul_any _ _ _).mono ?_; rintro e wx ⟨rfl, hbx⟩; replace hb := hb.trans (hbx.mono hb.size); clear hbx) | (go_at_call 18; refine (div_any _ _ _).mono ?_; rintro e wx ⟨rfl, hbx⟩; replace hb := hb.trans (hbx.mono hb.size); clear hbx) | (go_at_call 26; refine (in_any _ _).mono ?_; rintro e wx ⟨rfl, rfl⟩))
          go_ret
          exact ⟨rfl, hb⟩
      · have hc' : inB c = false := by simpa using hc
        clear hc
        go_enter Try.func5, Try.ntmps5
        go_wp2_with (first | (go_at_call 11; refine (awake_any _).mono ?_; rintro e wx ⟨rfl, hbx⟩; replace hb := hb.trans (hbx.mono hb.size); clear hbx) | (go_at_call 14; refine (md_any _ _ _ _).mono ?_; rintro e wx ⟨rfl, hbx⟩; replace hb := hb.trans (hbx.mono hb.size); clear hbx) | (go_at_call 16; refine (mul_any _ _ _).mono ?_; rintro e wx ⟨rfl, hbx⟩; replace hb := hb.trans (hbx.mono hb.size); clear hbx) | (go_at_call 18; refine (div_any _ _ _).mono ?_; rintro e wx ⟨rfl, hbx⟩; replace hb := hb.trans (hbx.mono hb.size); clear hbx) | (go_at_call 26; refine (in_any _ _).mono ?_; rintro e wx ⟨rfl, rfl⟩))
        go_ret
        exact ⟨rfl, hb⟩
    · have h' : c < 1 := by omega
      clear h
      go_enter Try.func5, Try.ntmps5
      go_wp2_with (first | (go_at_call 11; refine (awake_any _).mono ?_; rintro e wx ⟨rfl, hbx⟩; replace hb := hb.trans (hbx.mono hb.size); clear hbx) | (go_at_call 14; refine (md_any _ _ _ _).mono ?_; rintro e wx ⟨rfl, hbx⟩; replace hb := hb.trans (hbx.mono hb.size); clear hbx) | (go_at_call 16; refine (mul_any _ _ _).mono ?_; rintro e wx ⟨rfl, hbx⟩; replace hb := hb.trans (hbx.mono hb.size); clear hbx) | (go_at_call 18; refine (div_any _ _ _).mono ?_; rintro e wx ⟨rfl, hbx⟩; replace hb := hb.trans (hbx.mono hb.size); clear hbx) | (go_at_call 26; refine (in_any _ _).mono ?_; rintro e wx ⟨rfl, rfl⟩))
      go_ret
      exact ⟨rfl, hb⟩
  · have hm' : mdOk a b 1 = false := by simpa using hm
    clear hm
    go_enter Try.func5, Try.ntmps5
    go_wp2_with (first | (go_at_call 11; refine (awake_any _).mono ?_; rintro e wx ⟨rfl, hbx⟩; replace hb := hb.trans (hbx.mono hb.size); clear hbx) | (go_at_call 14; refine (md_any _ _ _ _).mono ?_; rintro e wx ⟨rfl, hbx⟩; replace hb := hb.trans (hbx.mono hb.size); clear hbx) | (go_at_call 16; refine (mul_any _ _ _).mono ?_; rintro e wx ⟨rfl, hbx⟩; replace hb := hb.trans (hbx.mono hb.size); clear hbx) | (go_at_call 18; refine (div_any _ _ _).mono ?_; rintro e wx ⟨rfl, hbx⟩; replace hb := hb.trans (hbx.mono hb.size); clear hbx) | (go_at_call 26; refine (in_any _ _).mono ?_; rintro e wx ⟨rfl, rfl⟩))
    go_ret
    exact ⟨rfl, hb⟩

end Go.Proofs.Ytplkppdkmhljdaa.fixQuotient
