/- Package fix, the functions without memory of their own: In, magnitude, quotient, as contracts of the calls. Condition of quotient: the divisor is a word that is not 0. -/
import Derived.Test.YtmclffbjdkoneaaProg
import Derived.Test.YtmclffbjdkoneaaShelf
import Derived.Test.YtmclffbjdkoneaaDiv
import Derived.WalkKit
import Derived.WalkSpells
import Derived.Laws.Bits64b
import Derived.Lib.Mul64
import Derived.Deep.QuietTactic
import Derived.BigQuiet
import Derived.Lib.Hide
import Derived.WalkSmall
namespace Go.Proofs.Ytmclffbjdkoneaa
open Go.RowKit

/-- in range -/
def inB (a : Int) : Bool := decide (-4611686018427387904 ≤ a ∧ a ≤ 4611686018427387904)

theorem inB_iff (a : Int) : inB a = true ↔ -4611686018427387904 ≤ a ∧ a ≤ 4611686018427387904 := by simp [inB]
theorem inB_not (a : Int) : inB a = false ↔ ¬ (-4611686018427387904 ≤ a ∧ a ≤ 4611686018427387904) := by simp only [inB, decide_eq_false_iff_not]

set_option maxHeartbeats 400000 in
theorem in_any (a : Int) (w : World) :
    Calls Try.prog 32 #[.int .i64 a] w fun e w' => e = .returned (.bool (inB a)) ∧ w = w' := by
  by_cases h1 : -4611686018427387904 ≤ a
  · by_cases h2 : a ≤ 4611686018427387904
    · have e : inB a = true := by rw [inB_iff]; omega
      rw [e]; clear e
      go_enter Try.func32, Try.ntmps32
      go_wp2
      go_ret
      exact ⟨rfl, rfl⟩
    · have e : inB a = false := by rw [inB_not]; omega
      rw [e]; clear e
      go_enter Try.func32, Try.ntmps32
      go_wp2
      go_ret
      exact ⟨rfl, rfl⟩
  · have e : inB a = false := by rw [inB_not]; omega
    rw [e]; clear e
    go_enter Try.func32, Try.ntmps32
    go_wp2
    go_ret
    exact ⟨rfl, rfl⟩

theorem in_yes (a : Int) (w : World) (h : inB a = true) :
    Calls Try.prog 32 #[.int .i64 a] w fun e w' => e = .returned (.bool true) ∧ w = w' := by
  have := in_any a w; rw [h] at this; exact this

theorem in_no (a : Int) (w : World) (h : inB a = false) :
    Calls Try.prog 32 #[.int .i64 a] w fun e w' => e = .returned (.bool false) ∧ w = w' := by
  have := in_any a w; rw [h] at this; exact this

set_option maxHeartbeats 400000 in
theorem mag_any (a : Int) (w : World) (h1 : -4611686018427387904 ≤ a) (h2 : a ≤ 4611686018427387904) :
    Calls Try.prog 30 #[.int .i64 a] w fun e w' => e = .returned (.int .u64 (a.natAbs : Int)) ∧ w = w' := by
  by_cases h : a < 0
  · have e : ((a.natAbs : Nat) : Int) = -a := by omega
    rw [e]; clear e
    go_enter Try.func30, Try.ntmps30
    go_wp2
    go_ret
    exact ⟨rfl, rfl⟩
  · have e : ((a.natAbs : Nat) : Int) = a := by omega
    rw [e]; clear e
    go_enter Try.func30, Try.ntmps30
    go_wp2
    go_ret
    exact ⟨rfl, rfl⟩

/-- what quotient gives: of the number of two words N and the divisor c -/
def quoR (N c : Nat) (neg : Bool) : Int × Bool :=
  if 4611686018427387904 < N / c then (0, false) else if neg then (-(((N / c + (if 0 < N % c then 1 else 0) : Nat)) : Int), true) else ((N / c : Nat), true)

theorem quo_big (hi lo c : Nat) (neg : Bool) (w : World) (hl : lo < 18446744073709551616) (hcb : c < 18446744073709551616)
    (hN : 4611686018427387904 < (hi * 18446744073709551616 + lo) / c) :
    Calls Try.prog 31 #[.int .u64 hi, .int .u64 lo, .int .u64 c, .bool neg] w fun e w' => e = .returned (.tuple #[.int .i64 0, .bool false]) ∧ Below w.heap.size w w' := by
  by_cases h : hi < c
  · have hn : ¬ ((c : Int) ≤ (hi : Int)) := by omega
    obtain ⟨q, hq⟩ : ∃ q, q = (hi * 18446744073709551616 + lo) / c := ⟨_, rfl⟩
    have hd := div64 hi lo c h hl hcb
    rw [← hq] at hN hd
    have hqq : ((4611686018427387904 : Int) < (q : Int)) := by omega
    have H := Lib.hid hd; clear hd hq hN
    go_enter Try.func31, Try.ntmps31
    go_wp2_with (go_at_call 33; refine (H.out _).mono ?_; rintro e w' ⟨rfl, hb⟩)
    go_ret2
    exact ⟨rfl, hb⟩
  · have hn : ((c : Int) ≤ (hi : Int)) := by omega
    clear hN
    go_enter Try.func31, Try.ntmps31
    go_wp2
    go_ret2
    exact ⟨rfl, Below.refl _ _⟩

theorem quo_pos (hi lo c : Nat) (w : World) (hc : 0 < c) (hl : lo < 18446744073709551616) (hcb : c < 18446744073709551616)
    (hN : (hi * 18446744073709551616 + lo) / c ≤ 4611686018427387904) :
    Calls Try.prog 31 #[.int .u64 hi, .int .u64 lo, .int .u64 c, .bool false] w fun e w' => e = .returned (.tuple #[.int .i64 (((hi * 18446744073709551616 + lo) / c : Nat) : Int), .bool true]) ∧ Below w.heap.size w w' := by
  have h : hi < c := by
    have h1 := Nat.div_add_mod (hi * 18446744073709551616 + lo) c
    have h2 := Nat.mod_lt (hi * 18446744073709551616 + lo) hc
    have h3 : c * ((hi * 18446744073709551616 + lo) / c) ≤ c * 4611686018427387904 := Nat.mul_le_mul_left _ hN
    omega
  have hn : ¬ ((c : Int) ≤ (hi : Int)) := by omega
  obtain ⟨q, hq⟩ : ∃ q, q = (hi * 18446744073709551616 + lo) / c := ⟨_, rfl⟩
  have hd := div64 hi lo c h hl hcb
  rw [← hq] at hN hd ⊢
  have hqq : ¬ ((4611686018427387904 : Int) < (q : Int)) := by omega
  have H := Lib.hid hd; clear hd hq
  go_enter Try.func31, Try.ntmps31
  go_wp2_with (go_at_call 33; refine (H.out _).mono ?_; rintro e w' ⟨rfl, hb⟩)
  go_ret2
  exact ⟨rfl, hb⟩

theorem quo_neg (hi lo c : Nat) (w : World) (hc : 0 < c) (hl : lo < 18446744073709551616) (hcb : c < 18446744073709551616)
    (hN : (hi * 18446744073709551616 + lo) / c ≤ 4611686018427387904) :
    Calls Try.prog 31 #[.int .u64 hi, .int .u64 lo, .int .u64 c, .bool true] w fun e w' => e = .returned (.tuple #[.int .i64 (-(((hi * 18446744073709551616 + lo) / c + (if 0 < (hi * 18446744073709551616 + lo) % c then 1 else 0) : Nat) : Int)), .bool true]) ∧ Below w.heap.size w w' := by
  have h : hi < c := by
    have h1 := Nat.div_add_mod (hi * 18446744073709551616 + lo) c
    have h2 := Nat.mod_lt (hi * 18446744073709551616 + lo) hc
    have h3 : c * ((hi * 18446744073709551616 + lo) / c) ≤ c * 4611686018427387904 := Nat.mul_le_mul_left _ hN
    omega
  have hn : ¬ ((c : Int) ≤ (hi : Int)) := by omega
  obtain ⟨q, hq⟩ : ∃ q, q = (hi * 18446744073709551616 + lo) / c := ⟨_, rfl⟩
  obtain ⟨r, hr⟩ : ∃ r, r = (hi * 18446744073709551616 + lo) % c := ⟨_, rfl⟩
  have hd := div64 hi lo c h hl hcb
  rw [← hq] at hN hd ⊢
  rw [← hr] at hd ⊢
  have hqq : ¬ ((4611686018427387904 : Int) < (q : Int)) := by omega
  have H := Lib.hid hd; clear hd hq hr
  by_cases hz : 0 < r
  · have hz1 : (0 : Int) < (r : Int) := by omega
    have e : (-((q + (if 0 < r then 1 else 0) : Nat) : Int)) = -((q : Int) + 1) := by rw [if_pos hz]; omega
    rw [e]; clear e hz
    go_enter Try.func31, Try.ntmps31
    go_wp2_with (go_at_call 33; refine (H.out _).mono ?_; rintro e w' ⟨rfl, hb⟩)
    go_ret2
    exact ⟨rfl, hb⟩
  · have hz1 : ¬ ((0 : Int) < (r : Int)) := by omega
    have e : (-((q + (if 0 < r then 1 else 0) : Nat) : Int)) = -(q : Int) := by rw [if_neg hz]; omega
    rw [e]; clear e hz
    go_enter Try.func31, Try.ntmps31
    go_wp2_with (go_at_call 33; refine (H.out _).mono ?_; rintro e w' ⟨rfl, hb⟩)
    go_ret2
    exact ⟨rfl, hb⟩
end Go.Proofs.Ytmclffbjdkoneaa
