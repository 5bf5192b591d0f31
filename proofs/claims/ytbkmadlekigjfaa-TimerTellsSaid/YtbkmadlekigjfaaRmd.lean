/- The reference's MulDiv, Mul, Div, Ewma, as contracts of the calls: every number. -/
import Derived.Test.YtbkmadlekigjfaaProg
import Derived.Test.YtbkmadlekigjfaaLong
import Derived.WalkKit
import Derived.WalkSpells
import Derived.Lib.Hide
import Derived.Below
import Derived.Outline
namespace Go.Proofs.Ytbkmadlekigjfaa
open Go.RowKit

theorem val_pos (a b c : Int) (q r : Nat) (hc : 1 ≤ c) (hs : a * b = ((a.natAbs * b.natAbs : Nat) : Int)) (h : LongOut (a.natAbs * b.natAbs) c.toNat q r) :
    inB (q : Int) = inB (a * b / c) ∧ (inB (q : Int) = true → (q : Int) = a * b / c) := by
  obtain ⟨n, rfl⟩ : ∃ n : Nat, c = n := ⟨c.toNat, by omega⟩
  rw [Int.toNat_natCast] at h
  rw [hs, ← Int.natCast_ediv]
  rcases h with ⟨h1, h2, _⟩ | ⟨h1, h2, h3⟩
  · rw [h1]; exact ⟨rfl, fun _ => rfl⟩
  · have e1 : inB (q : Int) = false := by rw [inB_not]; omega
    have e2 : inB ((a.natAbs * b.natAbs / n : Nat) : Int) = false := by rw [inB_not]; omega
    rw [e1, e2]
    exact ⟨rfl, fun h => by cases h⟩

theorem val_neg (a b c : Int) (q r : Nat) (hc : 1 ≤ c) (hs : a * b = -((a.natAbs * b.natAbs : Nat) : Int)) (h : LongOut (a.natAbs * b.natAbs) c.toNat q r) :
    inB (-((q + (if 0 < r then 1 else 0) : Nat) : Int)) = inB (a * b / c) ∧ (inB (-((q + (if 0 < r then 1 else 0) : Nat) : Int)) = true → -((q + (if 0 < r then 1 else 0) : Nat) : Int) = a * b / c) := by
  obtain ⟨n, rfl⟩ : ∃ n : Nat, c = n := ⟨c.toNat, by omega⟩
  rw [Int.toNat_natCast] at h
  rw [hs, neg_ediv _ _ (by omega)]
  rcases h with ⟨h1, h2, _⟩ | ⟨h1, h2, h3⟩
  · rw [h1, h2]; exact ⟨rfl, fun _ => rfl⟩
  · subst h3
    have e1 : inB (-((q + (if 0 < 0 then 1 else 0) : Nat) : Int)) = false := by rw [inB_not]; simp; omega
    have e2 : inB (-((a.natAbs * b.natAbs / n + (if 0 < a.natAbs * b.natAbs % n then 1 else 0) : Nat) : Int)) = false := by rw [inB_not]; omega
    rw [e1, e2]
    exact ⟨rfl, fun h => by cases h⟩

theorem val_neg1 (a b c : Int) (q r : Nat) (hc : 1 ≤ c) (hs : a * b = -((a.natAbs * b.natAbs : Nat) : Int)) (h : LongOut (a.natAbs * b.natAbs) c.toNat q r) (hr : 0 < r) :
    inB (-((q : Int) + 1)) = inB (a * b / c) ∧ (inB (-((q : Int) + 1)) = true → -((q : Int) + 1) = a * b / c) := by
  have := val_neg a b c q r hc hs h
  rw [if_pos hr, Int.natCast_add] at this
  exact this

theorem val_neg0 (a b c : Int) (q r : Nat) (hc : 1 ≤ c) (hs : a * b = -((a.natAbs * b.natAbs : Nat) : Int)) (h : LongOut (a.natAbs * b.natAbs) c.toNat q r) (hr : ¬ 0 < r) :
    inB (-(q : Int)) = inB (a * b / c) ∧ (inB (-(q : Int)) = true → -(q : Int) = a * b / c) := by
  have := val_neg a b c q r hc hs h
  rw [if_neg hr] at this
  exact this

theorem sign_pos (a b : Int) (h : (a < 0 ∧ b < 0) ∨ (¬ a < 0 ∧ ¬ b < 0)) : a * b = ((a.natAbs * b.natAbs : Nat) : Int) := by
  have := mul_sign a b
  rcases h with ⟨h1, h2⟩ | ⟨h1, h2⟩ <;> simpa [h1, h2] using this
theorem sign_neg (a b : Int) (h : (a < 0 ∧ ¬ b < 0) ∨ (¬ a < 0 ∧ b < 0)) : a * b = -((a.natAbs * b.natAbs : Nat) : Int) := by
  have := mul_sign a b
  rcases h with ⟨h1, h2⟩ | ⟨h1, h2⟩ <;> simpa [h1, h2] using this

end Go.Proofs.Ytbkmadlekigjfaa
