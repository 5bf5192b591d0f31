/- Package fix, the functions without memory of their own: In, magnitude, quotient, as contracts of the calls. Condition of quotient: the divisor is a word that is not 0. -/
import Derived.Test.YtakklekhcnhfaaaProg
import Derived.WalkKit
import Derived.WalkSpells
import Derived.Deep.QuietTactic
import Derived.BigQuiet
import Derived.Lib.Hide
import Derived.WalkSmall
namespace Go.Proofs.Ytakklekhcnhfaaa
open Go.RowKit

/-- in range -/
def inB (a : Int) : Bool := decide (-4611686018427387904 ≤ a ∧ a ≤ 4611686018427387904)

theorem inB_iff (a : Int) : inB a = true ↔ -4611686018427387904 ≤ a ∧ a ≤ 4611686018427387904 := by simp [inB]
theorem inB_not (a : Int) : inB a = false ↔ ¬ (-4611686018427387904 ≤ a ∧ a ≤ 4611686018427387904) := by simp only [inB, decide_eq_false_iff_not]

set_option maxHeartbeats 400000 in
theorem in_any (a : Int) (w : World) :
    Calls Try.prog 33 #[.int .i64 a] w fun e w' => e = .returned (.bool (inB a)) ∧ w = w' := by
  by_cases h1 : -4611686018427387904 ≤ a
  · by_cases h2 : a ≤ 4611686018427387904
    · have e : inB a = true := by rw [inB_iff]; omega
      rw [e]; clear e
      go_enter Try.func33, Try.ntmps33
      go_wp2
      go_ret
      exact ⟨rfl, rfl⟩
    · have e : inB a = false := by rw [inB_not]; omega
      rw [e]; clear e
      go_enter Try.func33, Try.ntmps33
      go_wp2
      go_ret
      exact ⟨rfl, rfl⟩
  · have e : inB a = false := by rw [inB_not]; omega
    rw [e]; clear e
    go_enter Try.func33, Try.ntmps33
    go_wp2
    go_ret
    exact ⟨rfl, rfl⟩

theorem in_yes (a : Int) (w : World) (h : inB a = true) :
    Calls Try.prog 33 #[.int .i64 a] w fun e w' => e = .returned (.bool true) ∧ w = w' := by
  have := in_any a w; rw [h] at this; exact this

theorem in_no (a : Int) (w : World) (h : inB a = false) :
    Calls Try.prog 33 #[.int .i64 a] w fun e w' => e = .returned (.bool false) ∧ w = w' := by
  have := in_any a w; rw [h] at this; exact this

/-- what quotient gives: of the number of two words N and the divisor c -/
def quoR (N c : Nat) (neg : Bool) : Int × Bool :=
  if 4611686018427387904 < N / c then (0, false) else if neg then (-(((N / c + (if 0 < N % c then 1 else 0) : Nat)) : Int), true) else ((N / c : Nat), true)

end Go.Proofs.Ytakklekhcnhfaaa
