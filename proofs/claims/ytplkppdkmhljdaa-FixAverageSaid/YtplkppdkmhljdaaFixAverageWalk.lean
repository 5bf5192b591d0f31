/- The walk of the law FixAverage: every number. -/
import Derived.Test.YtplkppdkmhljdaaProg
import Derived.Test.YtplkppdkmhljdaaAwake
import Derived.WalkKit
import Derived.WalkSpells
import Derived.Lib.Hide
import Derived.Below
namespace Go.Proofs.Ytplkppdkmhljdaa.fixAverage
open Go.RowKit
set_option linter.unusedVariables false

theorem at_zero (old sample : Int) : ewR old sample 0 = sample := by
  simp [ewR]; omega
theorem at_same (old shift : Int) : ewR old old shift = old := by
  simp [ewR]

set_option maxHeartbeats 1000000 in
theorem walk (old sample shift : Int) (w0 : (Lit.int .i64 old).wf = true) (w1 : (Lit.int .i64 sample).wf = true) (w2 : (Lit.int .i64 shift).wf = true) (w : World) :
    Calls Try.prog 7 #[.int .i64 old, .int .i64 sample, .int .i64 shift] w fun e w' => e = .returned (.bool true) ∧ Below w.heap.size w w' := by
  clear w0 w1 w2
  have hb := Below.refl w.heap.size w
  by_cases hk : ewOk old sample shift = true
  · obtain ⟨b1, b2⟩ := ew_between old sample shift.toNat
    change (old ≤ sample → old ≤ ewR old sample shift ∧ ewR old sample shift ≤ sample) at b1
    change (sample ≤ old → sample ≤ ewR old sample shift ∧ ewR old sample shift ≤ old) at b2
    have z := at_zero old sample
    have s := at_same old shift
    have t : tell (ewR old sample shift) true = ewR old sample shift := rfl
    by_cases hz : shift = 0
    · subst hz
      clear s b1 b2
      rcases Int.lt_trichotomy old sample with h | h | h
      · have h1 : ¬ old = sample := by omega
        have h2 : ¬ sample < old := by omega
        go_enter Try.func7, Try.ntmps7
        go_wp2_with (first | (go_at_call 11; refine (awake_any _).mono ?_; rintro e wx ⟨rfl, hbx⟩; replace hb := hb.trans (hbx.mono hb.size); clear hbx) | (go_at_call 22; refine (ewma_any _ _ _ _).mono ?_; rintro e wx ⟨rfl, hbx⟩; replace hb := hb.trans (hbx.mono hb.size); clear hbx))
        go_ret
        exact ⟨rfl, hb⟩
      · subst h
        go_enter Try.func7, Try.ntmps7
        go_wp2_with (first | (go_at_call 11; refine (awake_any _).mono ?_; rintro e wx ⟨rfl, hbx⟩; replace hb := hb.trans (hbx.mono hb.size); clear hbx) | (go_at_call 22; refine (ewma_any _ _ _ _).mono ?_; rintro e wx ⟨rfl, hbx⟩; replace hb := hb.trans (hbx.mono hb.size); clear hbx))
        go_ret
        exact ⟨rfl, hb⟩
      · have h1 : ¬ old = sample := by omega
        have h2 : ¬ old ≤ sample := by omega
        go_enter Try.func7, Try.ntmps7
        go_wp2_with (first | (go_at_call 11; refine (awake_any _).mono ?_; rintro e wx ⟨rfl, hbx⟩; replace hb := hb.trans (hbx.mono hb.size); clear hbx) | (go_at_call 22; refine (ewma_any _ _ _ _).mono ?_; rintro e wx ⟨rfl, hbx⟩; replace hb := hb.trans (hbx.mono hb.size); clear hbx))
        go_ret
        exact ⟨rfl, hb⟩
    · clear z
      rcases Int.lt_trichotomy old sample with h | h | h
      · obtain ⟨c1, c2⟩ := b1 (by omega)
        have h1 : ¬ old = sample := by omega
        clear b1 b2 s
        go_enter Try.func7, Try.ntmps7
        go_wp2_with (first | (go_at_call 11; refine (awake_any _).mono ?_; rintro e wx ⟨rfl, hbx⟩; replace hb := hb.trans (hbx.mono hb.size); clear hbx) | (go_at_call 22; refine (ewma_any _ _ _ _).mono ?_; rintro e wx ⟨rfl, hbx⟩; replace hb := hb.trans (hbx.mono hb.size); clear hbx))
        go_ret
        exact ⟨rfl, hb⟩
      · subst h
        have t' : tell old true = old := rfl
        clear b1 b2
        go_enter Try.func7, Try.ntmps7
        go_wp2_with (first | (go_at_call 11; refine (awake_any _).mono ?_; rintro e wx ⟨rfl, hbx⟩; replace hb := hb.trans (hbx.mono hb.size); clear hbx) | (go_at_call 22; refine (ewma_any _ _ _ _).mono ?_; rintro e wx ⟨rfl, hbx⟩; replace hb := hb.trans (hbx.mono hb.size); clear hbx))
        go_ret
        exact ⟨rfl, hb⟩
      · obtain ⟨c1, c2⟩ := b2 (by omega)
        have h1 : ¬ old = sample := by omega
        clear b1 b2 s
        by_cases hx : old ≤ ewR old sample shift
        · have hy : ¬ ewR old sample shift ≤ sample := by omega
          go_enter Try.func7, Try.ntmps7
          go_wp2_with (first | (go_at_call 11; refine (awake_any _).mono ?_; rintro e wx ⟨rfl, hbx⟩; replace hb := hb.trans (hbx.mono hb.size); clear hbx) | (go_at_call 22; refine (ewma_any _ _ _ _).mono ?_; rintro e wx ⟨rfl, hbx⟩; replace hb := hb.trans (hbx.mono hb.size); clear hbx))
          go_ret
          exact ⟨rfl, hb⟩
        · have hx' : ewR old sample shift < old := by omega
          clear hx
          go_enter Try.func7, Try.ntmps7
          go_wp2_with (first | (go_at_call 11; refine (awake_any _).mono ?_; rintro e wx ⟨rfl, hbx⟩; replace hb := hb.trans (hbx.mono hb.size); clear hbx) | (go_at_call 22; refine (ewma_any _ _ _ _).mono ?_; rintro e wx ⟨rfl, hbx⟩; replace hb := hb.trans (hbx.mono hb.size); clear hbx))
          go_ret
          exact ⟨rfl, hb⟩
  · have hk' : ewOk old sample shift = false := by simpa using hk
    have t : tell (ewR old sample shift) false = 0 := rfl
    clear hk
    go_enter Try.func7, Try.ntmps7
    go_wp2_with (first | (go_at_call 11; refine (awake_any _).mono ?_; rintro e wx ⟨rfl, hbx⟩; replace hb := hb.trans (hbx.mono hb.size); clear hbx) | (go_at_call 22; refine (ewma_any _ _ _ _).mono ?_; rintro e wx ⟨rfl, hbx⟩; replace hb := hb.trans (hbx.mono hb.size); clear hbx))
    go_ret
    exact ⟨rfl, hb⟩

end Go.Proofs.Ytplkppdkmhljdaa.fixAverage
