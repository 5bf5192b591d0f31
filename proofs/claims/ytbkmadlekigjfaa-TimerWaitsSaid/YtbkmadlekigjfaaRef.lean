/- The document's answer for package fix (the reference), as contracts of the calls. -/
import Derived.Test.YtbkmadlekigjfaaProg
import Derived.Test.YtbkmadlekigjfaaMore
import Derived.WalkKit
import Derived.WalkSpells
import Derived.Lib.Hide
import Derived.Below
namespace Go.Proofs.Ytbkmadlekigjfaa
open Go.RowKit

theorem root_le (n r j : Nat) (h : RootAt n r j) (hn : n ≤ 4611686018427387904) : r ≤ 2147483648 := by
  rcases Nat.lt_or_ge 2147483648 r with h2 | h2
  · have := Nat.mul_le_mul (show 2147483649 ≤ r from h2) (show 2147483649 ≤ r from h2)
    have := h.1
    omega
  · exact h2

theorem rsq_ways (n x y : Nat) (hn : n ≤ 4611686018427387904) :
    ((x + y) * (x + y) ≤ n ∧ wrap64 (((x : Int) + y) * ((x : Int) + y)) ≤ (n : Int) ∧ (x : Int) + y ≤ 2147483648) ∨
    (n < (x + y) * (x + y) ∧ ¬ wrap64 (((x : Int) + y) * ((x : Int) + y)) ≤ (n : Int)) ∨
    (n < (x + y) * (x + y) ∧ wrap64 (((x : Int) + y) * ((x : Int) + y)) ≤ (n : Int) ∧ ¬ (x : Int) + y ≤ 2147483648) := by
  have e : ((x : Int) + y) * ((x : Int) + y) = (((x + y) * (x + y) : Nat) : Int) := by rw [Int.natCast_mul, Int.natCast_add]
  by_cases h : x + y ≤ 2147483648
  · have hm := Nat.mul_le_mul h h
    rw [e, IntWalk.wrap64_in _ ⟨by omega, by omega⟩]
    by_cases h2 : (x + y) * (x + y) ≤ n
    · exact .inl ⟨h2, by omega, by omega⟩
    · exact .inr (.inl ⟨by omega, by omega⟩)
  · have hm := Nat.mul_le_mul (show 2147483649 ≤ x + y by omega) (show 2147483649 ≤ x + y by omega)
    have h2 : n < (x + y) * (x + y) := by omega
    by_cases h3 : wrap64 (((x : Int) + y) * ((x : Int) + y)) ≤ (n : Int)
    · exact .inr (.inr ⟨h2, h3, by omega⟩)
    · exact .inr (.inl ⟨h2, h3⟩)

end Go.Proofs.Ytbkmadlekigjfaa
