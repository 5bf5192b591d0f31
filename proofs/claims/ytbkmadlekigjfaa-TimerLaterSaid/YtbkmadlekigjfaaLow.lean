/- Package fix, the functions without memory of their own: In, magnitude, quotient, as contracts of the calls. Condition of quotient: the divisor is a word that is not 0. -/
import Derived.Test.YtbkmadlekigjfaaProg
import Derived.WalkKit
import Derived.WalkSpells
import Derived.Deep.QuietTactic
import Derived.BigQuiet
import Derived.Lib.Hide
import Derived.WalkSmall
namespace Go.Proofs.Ytbkmadlekigjfaa
open Go.RowKit

/-- in range -/
def inB (a : Int) : Bool := decide (-4611686018427387904 ≤ a ∧ a ≤ 4611686018427387904)

theorem inB_iff (a : Int) : inB a = true ↔ -4611686018427387904 ≤ a ∧ a ≤ 4611686018427387904 := by simp [inB]
theorem inB_not (a : Int) : inB a = false ↔ ¬ (-4611686018427387904 ≤ a ∧ a ≤ 4611686018427387904) := by simp only [inB, decide_eq_false_iff_not]

/-- what quotient gives: of the number of two words N and the divisor c -/
def quoR (N c : Nat) (neg : Bool) : Int × Bool :=
  if 4611686018427387904 < N / c then (0, false) else if neg then (-(((N / c + (if 0 < N % c then 1 else 0) : Nat)) : Int), true) else ((N / c : Nat), true)

end Go.Proofs.Ytbkmadlekigjfaa
