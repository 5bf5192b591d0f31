/- A number from 0 to 2^60. No program. -/
import Derived.WalkKit
namespace Go.Proofs.Ytbkmadlekigjfaa
def t60 (x : Int) : Bool := decide (0 ≤ x ∧ x ≤ 1152921504606846976)
theorem t60_iff (x : Int) : t60 x = true ↔ 0 ≤ x ∧ x ≤ 1152921504606846976 := by unfold t60; exact decide_eq_true_iff
theorem t60_no {x : Int} (h : ¬ (0 ≤ x ∧ x ≤ 1152921504606846976)) : t60 x = false := by unfold t60; exact decide_eq_false h
end Go.Proofs.Ytbkmadlekigjfaa
