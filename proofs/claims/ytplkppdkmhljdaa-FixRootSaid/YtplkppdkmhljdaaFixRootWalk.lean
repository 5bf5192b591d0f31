/- The walk of the law FixRoot: every number. -/
import Derived.Test.YtplkppdkmhljdaaProg
import Derived.Test.YtplkppdkmhljdaaAwake
import Derived.WalkKit
import Derived.WalkSpells
import Derived.Lib.Hide
import Derived.Below
namespace Go.Proofs.Ytplkppdkmhljdaa.fixRoot
open Go.RowKit
set_option linter.unusedVariables false

set_option maxHeartbeats 1000000 in
theorem walk (n : Int) (w0 : (Lit.int .i64 n).wf = true) (w : World) :
    Calls Try.prog 6 #[.int .i64 n] w fun e w' => e = .returned (.bool true) ∧ Below w.heap.size w w' := by
  clear w0
  have hb := Below.refl w.heap.size w
  by_cases h : sqOk n = true
  · have hn : 0 ≤ n ∧ inB n = true := by simp [sqOk] at h; exact ⟨h.2, h.1⟩
    have hin := (inB_iff n).1 hn.2
    obtain ⟨k1, k2⟩ := isq_spec n.toNat
    have k3 := isq_le n.toNat (by omega)
    have e : tell (sqR n) true = ((isq n.toNat : Nat) : Int) := rfl
    generalize isq n.toNat = r at *
    have q1 : (r : Int) * r ≤ n := by
      have : ((r * r : Nat) : Int) ≤ (n.toNat : Int) := by exact_mod_cast k1
      rw [Int.natCast_mul] at this; omega
    have q2 : n < ((r : Int) + 1) * ((r : Int) + 1) := by
      have : (n.toNat : Int) < (((r + 1) * (r + 1) : Nat) : Int) := by exact_mod_cast k2
      rw [Int.natCast_mul] at this
      have e1 : ((r + 1 : Nat) : Int) = (r : Int) + 1 := by omega
      rw [e1] at this; omega
    have q0 : 0 ≤ (r : Int) * r := Int.mul_nonneg (by omega) (by omega)
    have q3 : ((r : Int) + 1) * ((r : Int) + 1) ≤ 2147483649 * 2147483649 := Int.mul_le_mul (by omega) (by omega) (by omega) (by omega)
    have z1 : wrap64 ((r : Int) * r) = (r : Int) * r := IntWalk.wrap64_in _ ⟨by omega, by omega⟩
    have z2 : wrap64 (((r : Int) + 1) * ((r : Int) + 1)) = ((r : Int) + 1) * ((r : Int) + 1) := IntWalk.wrap64_in _ ⟨by omega, by omega⟩
    have hr1 : ¬ ((r : Int) < 0) := by omega
    have hr2 : ¬ (2147483648 < (r : Int)) := by omega
    clear k1 k2 hn hin q0 q3
    by_cases hr : (r : Int) = 2147483648
    · have hr' : ((r : Int) == 2147483648) = true := by simpa using hr
      clear hr
      go_enter Try.func6, Try.ntmps6
      go_wp2_with (first | (go_at_call 11; refine (awake_any _).mono ?_; rintro e wx ⟨rfl, hbx⟩; replace hb := hb.trans (hbx.mono hb.size); clear hbx) | (go_at_call 20; refine (sqrt_any _ _).mono ?_; rintro e wx ⟨rfl, hbx⟩; replace hb := hb.trans (hbx.mono hb.size); clear hbx) | (go_at_call 26; refine (in_any _ _).mono ?_; rintro e wx ⟨rfl, rfl⟩))
      go_ret
      exact ⟨rfl, hb⟩
    · have hr' : ((r : Int) == 2147483648) = false := by simpa using hr
      clear hr
      go_enter Try.func6, Try.ntmps6
      go_wp2_with (first | (go_at_call 11; refine (awake_any _).mono ?_; rintro e wx ⟨rfl, hbx⟩; replace hb := hb.trans (hbx.mono hb.size); clear hbx) | (go_at_call 20; refine (sqrt_any _ _).mono ?_; rintro e wx ⟨rfl, hbx⟩; replace hb := hb.trans (hbx.mono hb.size); clear hbx) | (go_at_call 26; refine (in_any _ _).mono ?_; rintro e wx ⟨rfl, rfl⟩))
      go_ret
      exact ⟨rfl, hb⟩
  · have h' : sqOk n = false := by simpa using h
    have e : tell (sqR n) false = 0 := rfl
    by_cases hn : n < 0
    · clear h
      go_enter Try.func6, Try.ntmps6
      go_wp2_with (first | (go_at_call 11; refine (awake_any _).mono ?_; rintro e wx ⟨rfl, hbx⟩; replace hb := hb.trans (hbx.mono hb.size); clear hbx) | (go_at_call 20; refine (sqrt_any _ _).mono ?_; rintro e wx ⟨rfl, hbx⟩; replace hb := hb.trans (hbx.mono hb.size); clear hbx) | (go_at_call 26; refine (in_any _ _).mono ?_; rintro e wx ⟨rfl, rfl⟩))
      go_ret
      exact ⟨rfl, hb⟩
    · have hi : inB n = false := by
        simp only [sqOk] at h'
        by_cases hx : inB n = true
        · rw [hx, decide_eq_true (by omega : 0 ≤ n)] at h'; simp at h'
        · simpa using hx
      clear h
      go_enter Try.func6, Try.ntmps6
      go_wp2_with (first | (go_at_call 11; refine (awake_any _).mono ?_; rintro e wx ⟨rfl, hbx⟩; replace hb := hb.trans (hbx.mono hb.size); clear hbx) | (go_at_call 20; refine (sqrt_any _ _).mono ?_; rintro e wx ⟨rfl, hbx⟩; replace hb := hb.trans (hbx.mono hb.size); clear hbx) | (go_at_call 26; refine (in_any _ _).mono ?_; rintro e wx ⟨rfl, rfl⟩))
      go_ret
      exact ⟨rfl, hb⟩

end Go.Proofs.Ytplkppdkmhljdaa.fixRoot
