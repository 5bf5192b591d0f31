/- The document's answer for package fix (the reference), as contracts of the calls. -/
import Derived.Test.YtjlomjdghmjkmaaProg
import Derived.Test.YtjlomjdghmjkmaaMore
import Derived.WalkKit
import Derived.WalkSpells
import Derived.Lib.Hide
import Derived.Below
namespace Go.Proofs.Ytjlomjdghmjkmaa
open Go.RowKit

set_option maxHeartbeats 400000 in
theorem rin_any (a : Int) (w : World) :
    Calls Try.prog 35 #[.int .i64 a] w fun e w' => e = .returned (.bool (inB a)) ∧ w = w' := by
  by_cases h1 : -4611686018427387904 ≤ a
  · by_cases h2 : a ≤ 4611686018427387904
    · have e : inB a = true := by rw [inB_iff]; omega
      rw [e]; clear e
      go_enter Try.func35, Try.ntmps35
      go_wp2
      go_ret
      exact ⟨rfl, rfl⟩
    · have e : inB a = false := by rw [inB_not]; omega
      rw [e]; clear e
      go_enter Try.func35, Try.ntmps35
      go_wp2
      go_ret
      exact ⟨rfl, rfl⟩
  · have e : inB a = false := by rw [inB_not]; omega
    rw [e]; clear e
    go_enter Try.func35, Try.ntmps35
    go_wp2
    go_ret
    exact ⟨rfl, rfl⟩

set_option maxHeartbeats 400000 in
theorem rclamp_any (n low high : Int) (w : World) :
    Calls Try.prog 22 #[.int .i64 n, .int .i64 low, .int .i64 high] w fun e w' => e = .returned (.int .i64 (if n < low ∨ high < low then low else if high < n then high else n)) ∧ w = w' := by
  by_cases h1 : n < low
  · rw [if_pos (.inl h1)]
    go_enter Try.func22, Try.ntmps22
    go_wp2
    go_ret
    exact ⟨rfl, rfl⟩
  · by_cases h2 : high < low
    · rw [if_pos (.inr h2)]
      go_enter Try.func22, Try.ntmps22
      go_wp2
      go_ret
      exact ⟨rfl, rfl⟩
    · rw [if_neg (by omega)]
      by_cases h3 : high < n
      · rw [if_pos h3]
        go_enter Try.func22, Try.ntmps22
        go_wp2
        go_ret
        exact ⟨rfl, rfl⟩
      · rw [if_neg h3]
        go_enter Try.func22, Try.ntmps22
        go_wp2
        go_ret
        exact ⟨rfl, rfl⟩

set_option maxHeartbeats 400000 in
theorem size_any (a : Int) (w : World) (h1 : -4611686018427387904 ≤ a) (h2 : a ≤ 4611686018427387904) :
    Calls Try.prog 36 #[.int .i64 a] w fun e w' => e = .returned (.int .i64 (a.natAbs : Int)) ∧ w = w' := by
  by_cases h : a < 0
  · have e : ((a.natAbs : Nat) : Int) = -a := by omega
    rw [e]; clear e
    go_enter Try.func36, Try.ntmps36
    go_wp2
    go_ret
    exact ⟨rfl, rfl⟩
  · have e : ((a.natAbs : Nat) : Int) = a := by omega
    rw [e]; clear e
    go_enter Try.func36, Try.ntmps36
    go_wp2
    go_ret
    exact ⟨rfl, rfl⟩

theorem root_le (n r j : Nat) (h : RootAt n r j) (hn : n ≤ 4611686018427387904) : r ≤ 2147483648 := by
  rcases Nat.lt_or_ge 2147483648 r with h2 | h2
  · have := Nat.mul_le_mul (show 2147483649 ≤ r from h2) (show 2147483649 ≤ r from h2)
    have := h.1
    omega
  · exact h2

theorem rsq_ways (n x y : Nat) (hn : n ≤ 4611686018427387904) :
    ((x + y) * (x + y) ≤ n ∧ wrap64 (((x : Int) + y) * ((x : Int) + y)) ≤ (n : Int) ∧ (x : Int) + y ≤ 2147483648) ∨
    (n < (x + y) * (x + y) ∧ ¬ wrap64 (((x : Int) + y) * ((x : Int) + y)) ≤ (n : Int)) ∨
    (n < (x + y) * (x + y) ∧ wrap64 (((x : Int) + y) * ((x : Int) + y)) ≤ (n : Int) ∧ ¬ (x : Int) + y ≤ 2147483648) := by
  have e : ((x : Int) + y) * ((x : Int) + y) = (((x + y) * (x + y) : Nat) : Int) := by rw [Int.natCast_mul, Int.natCast_add]
  by_cases h : x + y ≤ 2147483648
  · have hm := Nat.mul_le_mul h h
    rw [e, IntWalk.wrap64_in _ ⟨by omega, by omega⟩]
    by_cases h2 : (x + y) * (x + y) ≤ n
    · exact .inl ⟨h2, by omega, by omega⟩
    · exact .inr (.inl ⟨by omega, by omega⟩)
  · have hm := Nat.mul_le_mul (show 2147483649 ≤ x + y by omega) (show 2147483649 ≤ x + y by omega)
    have h2 : n < (x + y) * (x + y) := by omega
    by_cases h3 : wrap64 (((x : Int) + y) * ((x : Int) + y)) ≤ (n : Int)
    · exact .inr (.inr ⟨h2, h3, by omega⟩)
    · exact .inr (.inl ⟨h2, h3⟩)

end Go.Proofs.Ytjlomjdghmjkmaa
