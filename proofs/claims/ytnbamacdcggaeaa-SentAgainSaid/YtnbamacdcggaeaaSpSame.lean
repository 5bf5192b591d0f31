/- The reference's Same: are two lists the same? -/
import Derived.Test.YtnbamacdcggaeaaProg
import Derived.Test.YtnbamacdcggaeaaSp
import Derived.WalkKit
import Derived.WalkSpells
import Derived.WalkSmall
import Derived.Lib.Hide
import Derived.Below
import Derived.Outline
import Derived.Deep.QuietTactic
import Derived.BigQuiet
import Derived.Deep.DrawnRows
namespace Go.Proofs.Ytnbamacdcggaeaa
open Go.RowKit

/-- the first k elements are the same -/
def Agree (a b : List Sp) (k : Nat) : Prop := ∀ i, i < k → sp a i = sp b i
theorem agree_zero (a b : List Sp) : Agree a b 0 := fun i hi => by omega
theorem agree_succ {a b : List Sp} {k : Nat} (h : Agree a b k) (e : sp a k = sp b k) : Agree a b (k + 1) := fun i hi => by
  rcases Nat.lt_or_eq_of_le (Nat.le_of_lt_succ hi) with h1 | h1
  · exact h i h1
  · subst h1; exact e

end Go.Proofs.Ytnbamacdcggaeaa
