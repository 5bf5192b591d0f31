/- The document's answer for package fix (the reference), as contracts of the calls. -/
import Derived.Test.YtplkppdkmhljdaaProg
import Derived.Test.YtplkppdkmhljdaaMore
import Derived.WalkKit
import Derived.WalkSpells
import Derived.Lib.Hide
import Derived.Below
namespace Go.Proofs.Ytplkppdkmhljdaa
open Go.RowKit

set_option maxHeartbeats 400000 in
theorem rin_any (a : Int) (w : World) :
    Calls Try.prog 27 #[.int .i64 a] w fun e w' => e = .returned (.bool (inB a)) ∧ w = w' := by
  by_cases h1 : -4611686018427387904 ≤ a
  · by_cases h2 : a ≤ 4611686018427387904
    · have e : inB a = true := by rw [inB_iff]; omega
      rw [e]; clear e
      go_enter Try.func27, Try.ntmps27
      go_wp2
      go_ret
      exact ⟨rfl, rfl⟩
    · have e : inB a = false := by rw [inB_not]; omega
      rw [e]; clear e
      go_enter Try.func27, Try.ntmps27
      go_wp2
      go_ret
      exact ⟨rfl, rfl⟩
  · have e : inB a = false := by rw [inB_not]; omega
    rw [e]; clear e
    go_enter Try.func27, Try.ntmps27
    go_wp2
    go_ret
    exact ⟨rfl, rfl⟩

set_option maxHeartbeats 400000 in
theorem rclamp_any (n low high : Int) (w : World) :
    Calls Try.prog 25 #[.int .i64 n, .int .i64 low, .int .i64 high] w fun e w' => e = .returned (.int .i64 (if n < low ∨ high < low then low else if high < n then high else n)) ∧ w = w' := by
  by_cases h1 : n < low
  · rw [if_pos (.inl h1)]
    go_enter Try.func25, Try.ntmps25
    go_wp2
    go_ret
    exact ⟨rfl, rfl⟩
  · by_cases h2 : high < low
    · rw [if_pos (.inr h2)]
      go_enter Try.func25, Try.ntmps25
      go_wp2
      go_ret
      exact ⟨rfl, rfl⟩
    · rw [if_neg (by omega)]
      by_cases h3 : high < n
      · rw [if_pos h3]
        go_enter Try.func25, Try.ntmps25
        go_wp2
        go_ret
        exact ⟨rfl, rfl⟩
      · rw [if_neg h3]
        go_enter Try.func25, Try.ntmps25
        go_wp2
        go_ret
        exact ⟨rfl, rfl⟩

set_option maxHeartbeats 400000 in
theorem radd_any (a b : Int) (w : World) :
    Calls Try.prog 13 #[.int .i64 a, .int .i64 b] w fun e w' => e = .returned (.tuple #[.int .i64 (tell (a + b) (addOk a b)), .bool (addOk a b)]) ∧ w = w' := by
  by_cases h1 : inB a = true
  · by_cases h2 : inB b = true
    · obtain ⟨e1, e2⟩ := wrap_add a b h1 h2
      by_cases h3 : inB (a + b) = true
      · have k : addOk a b = true := by simp [addOk, h1, h2, h3]
        have t : tell (a + b) true = a + b := rfl
        obtain ⟨h4, h5⟩ := (inB_iff _).1 h3
        rw [k, t]; clear k t e1 e2
        go_enter Try.func13, Try.ntmps13
        go_wp2_with (go_at_call 27; refine (rin_any _ _).mono ?_; rintro e wx ⟨rfl, rfl⟩)
        go_ret2
        exact ⟨rfl, rfl⟩
      · have h3' : inB (a + b) = false := by simpa using h3
        have k : addOk a b = false := by simp [addOk, h3']
        have t : tell (a + b) false = 0 := rfl
        rw [k, t]; clear k t h3 e2
        rw [h3'] at e1; clear h3'
        go_enter Try.func13, Try.ntmps13
        go_wp2_with (go_at_call 27; refine (rin_any _ _).mono ?_; rintro e wx ⟨rfl, rfl⟩)
        go_ret2
        exact ⟨rfl, rfl⟩
    · have h2' : inB b = false := by simpa using h2
      have k : addOk a b = false := by simp [addOk, h2']
      have t : tell (a + b) false = 0 := rfl
      rw [k, t]; clear k t h2
      go_enter Try.func13, Try.ntmps13
      go_wp2_with (go_at_call 27; refine (rin_any _ _).mono ?_; rintro e wx ⟨rfl, rfl⟩)
      go_ret2
      exact ⟨rfl, rfl⟩
  · have h1' : inB a = false := by simpa using h1
    have k : addOk a b = false := by simp [addOk, h1']
    have t : tell (a + b) false = 0 := rfl
    rw [k, t]; clear k t h1
    go_enter Try.func13, Try.ntmps13
    go_wp2_with (go_at_call 27; refine (rin_any _ _).mono ?_; rintro e wx ⟨rfl, rfl⟩)
    go_ret2
    exact ⟨rfl, rfl⟩

set_option maxHeartbeats 400000 in
theorem size_any (a : Int) (w : World) (h1 : -4611686018427387904 ≤ a) (h2 : a ≤ 4611686018427387904) :
    Calls Try.prog 34 #[.int .i64 a] w fun e w' => e = .returned (.int .i64 (a.natAbs : Int)) ∧ w = w' := by
  by_cases h : a < 0
  · have e : ((a.natAbs : Nat) : Int) = -a := by omega
    rw [e]; clear e
    go_enter Try.func34, Try.ntmps34
    go_wp2
    go_ret
    exact ⟨rfl, rfl⟩
  · have e : ((a.natAbs : Nat) : Int) = a := by omega
    rw [e]; clear e
    go_enter Try.func34, Try.ntmps34
    go_wp2
    go_ret
    exact ⟨rfl, rfl⟩

theorem root_le (n r j : Nat) (h : RootAt n r j) (hn : n ≤ 4611686018427387904) : r ≤ 2147483648 := by
  rcases Nat.lt_or_ge 2147483648 r with h2 | h2
  · have := Nat.mul_le_mul (show 2147483649 ≤ r from h2) (show 2147483649 ≤ r from h2)
    have := h.1
    omega
  · exact h2

theorem rsq_ways (n x y : Nat) (hn : n ≤ 4611686018427387904) :
    ((x + y) * (x + y) ≤ n ∧ wrap64 (((x : Int) + y) * ((x : Int) + y)) ≤ (n : Int) ∧ (x : Int) + y ≤ 2147483648) ∨
    (n < (x + y) * (x + y) ∧ ¬ wrap64 (((x : Int) + y) * ((x : Int) + y)) ≤ (n : Int)) ∨
    (n < (x + y) * (x + y) ∧ wrap64 (((x : Int) + y) * ((x : Int) + y)) ≤ (n : Int) ∧ ¬ (x : Int) + y ≤ 2147483648) := by
  have e : ((x : Int) + y) * ((x : Int) + y) = (((x + y) * (x + y) : Nat) : Int) := by rw [Int.natCast_mul, Int.natCast_add]
  by_cases h : x + y ≤ 2147483648
  · have hm := Nat.mul_le_mul h h
    rw [e, IntWalk.wrap64_in _ ⟨by omega, by omega⟩]
    by_cases h2 : (x + y) * (x + y) ≤ n
    · exact .inl ⟨h2, by omega, by omega⟩
    · exact .inr (.inl ⟨by omega, by omega⟩)
  · have hm := Nat.mul_le_mul (show 2147483649 ≤ x + y by omega) (show 2147483649 ≤ x + y by omega)
    have h2 : n < (x + y) * (x + y) := by omega
    by_cases h3 : wrap64 (((x : Int) + y) * ((x : Int) + y)) ≤ (n : Int)
    · exact .inr (.inr ⟨h2, h3, by omega⟩)
    · exact .inr (.inl ⟨h2, h3⟩)

set_option maxHeartbeats 1000000 in
theorem rsqrt_any (n : Int) (w : World) :
    Calls Try.prog 21 #[.int .i64 n] w fun e w' => e = .returned (.tuple #[.int .i64 (tell (sqR n) (sqOk n)), .bool (sqOk n)]) ∧ w = w' := by
  by_cases h0 : n < 0
  · have k : sqOk n = false := by simp [sqOk]; omega
    have t : tell (sqR n) false = 0 := rfl
    rw [k, t]; clear k t
    go_enter Try.func21, Try.ntmps21
    go_wp2_with (go_at_call 27; refine (rin_any _ _).mono ?_; rintro e wx ⟨rfl, rfl⟩)
    go_ret2
    exact ⟨rfl, rfl⟩
  · by_cases h1 : inB n = true
    · have k : sqOk n = true := by simp [sqOk, h1]; omega
      have hn2 := ((inB_iff _).1 h1).2
      obtain ⟨m, rfl⟩ : ∃ m : Nat, n = m := ⟨n.toNat, by omega⟩
      have t : tell (sqR m) true = ((isq m : Nat) : Int) := rfl
      rw [k, t]; clear k t
      have hm : m ≤ 4611686018427387904 := by omega
      have hs := Lib.hid (root_start m hm)
      have Hm := Lib.hid hm
      clear hm
      go_enter Try.func21, Try.ntmps21
      go_wp2_with (go_at_call 27; refine (rin_any _ _).mono ?_; rintro e wx ⟨rfl, rfl⟩)
      go_loop [4, 5] (fun r b => ∃ x j y : Nat, r = .int .i64 x ∧ b = .int .i64 y ∧ Hid (y = 2 ^ j / 2 ∧ RootAt m x j)) (fun _ b => (intOf b).toNat)
      case atStart => exact ⟨0, 32, 2147483648, rfl, rfl, rfl, hs.out⟩
      case round =>
        obtain ⟨x, j, y, rfl, rfl, hk⟩ := hrel
        clear hs
        cases j with
        | zero =>
          have hy : y = 0 := by have := hk.out.1; simpa using this
          have hx := root_end m x hk.out.2
          clear hk
          subst hy
          subst hx
          go_wp2
          go_ret2
          exact ⟨rfl, rfl⟩
        | succ j =>
          have hy : y = 2 ^ j := by have := hk.out.1; rw [Nat.pow_succ] at this; omega
          have hb := hk.out.2.2.2
          rw [Nat.pow_succ, ← hy] at hb
          have hyp : 0 < y := by rw [hy]; exact Nat.two_pow_pos j
          have hyp1 : ¬ ((y : Int) ≤ 0) := by omega
          have hways := rsq_ways m x y Hm.out
          have Hk := Lib.hid hk.out.2
          have Hy := Lib.hid hy
          clear hk hy
          rcases hways with ⟨g1, g2, g3⟩ | ⟨g1, g2⟩ | ⟨g1, g2, g3⟩
          · have hn2 := root_up m x j Hk.out (by rw [← Hy.out]; exact g1)
            rw [← Hy.out] at hn2
            have Hn2 := Lib.hid hn2
            clear hn2 g1
            go_wp2
            go_round
            case rel => exact ⟨x + y, j, y / 2, by congr 1, by congr 1, by rw [Hy.out], Hn2.out⟩
            case measure => simp [intOf]; omega
          · have hn2 := root_stay m x j Hk.out (by rw [← Hy.out]; exact g1)
            have Hn2 := Lib.hid hn2
            clear hn2 g1
            go_wp2
            go_round
            case rel => exact ⟨x, j, y / 2, rfl, by congr 1, by rw [Hy.out], Hn2.out⟩
            case measure => simp [intOf]; omega
          · have hn2 := root_stay m x j Hk.out (by rw [← Hy.out]; exact g1)
            have Hn2 := Lib.hid hn2
            clear hn2 g1
            go_wp2
            go_round
            case rel => exact ⟨x, j, y / 2, rfl, by congr 1, by rw [Hy.out], Hn2.out⟩
            case measure => simp [intOf]; omega
    · have h1' : inB n = false := by simpa using h1
      have k : sqOk n = false := by simp [sqOk, h1']
      have t : tell (sqR n) false = 0 := rfl
      rw [k, t]; clear k t h1
      go_enter Try.func21, Try.ntmps21
      go_wp2_with (go_at_call 27; refine (rin_any _ _).mono ?_; rintro e wx ⟨rfl, rfl⟩)
      go_ret2
      exact ⟨rfl, rfl⟩

end Go.Proofs.Ytplkppdkmhljdaa
