/- The reference answers of layer 2 (Low, Upto, Less, far, Unwrap) as contracts of the calls: every number. -/
import Derived.Test.YtkemkijohiakgaaSeqAwake
import Derived.WalkKit
import Derived.WalkSpells
import Derived.Lib.Hide
import Derived.WalkSmall
import Derived.Below
namespace Go.Proofs.Ytkemkijohiakgaa
open Go.RowKit

theorem tmod_split (n : Int) : (Int.tmod n 4294967296 < 0 ∧ -4294967296 < Int.tmod n 4294967296 ∧ Int.tmod n 4294967296 + 4294967296 = n % 4294967296) ∨ Int.tmod n 4294967296 = n % 4294967296 := by
  by_cases h : 0 ≤ n
  · right; exact Int.tmod_eq_emod_of_nonneg h
  · obtain ⟨k, rfl⟩ : ∃ k, n = -k := ⟨-n, by omega⟩
    have e : Int.tmod (-k) 4294967296 = -(k % 4294967296) := by rw [Int.neg_tmod, Int.tmod_eq_emod_of_nonneg (by omega)]
    rw [e]
    omega

set_option maxHeartbeats 400000 in
theorem rlow_any (n : Int) (w : World) :
    Calls Try.prog 11 #[.int .i64 n] w fun e w' => e = .returned (.int .u32 (n % 4294967296)) ∧ w = w' := by
  have hs := tmod_split n
  obtain ⟨r, hr⟩ : ∃ r, n % 4294967296 = r := ⟨_, rfl⟩
  have hr1 : 0 ≤ r := by omega
  have hr2 : r < 4294967296 := by omega
  rw [hr] at hs ⊢
  rcases hs with ⟨h1, h2, h3⟩ | h1
  · obtain ⟨m, hm⟩ : ∃ m, Int.tmod n 4294967296 = m := ⟨_, rfl⟩
    rw [hm] at h1 h2 h3
    go_enter Try.func11, Try.ntmps11
    go_wp2
    go_ret
    exact ⟨rfl, rfl⟩
  · go_enter Try.func11, Try.ntmps11
    go_wp2
    go_ret
    exact ⟨rfl, rfl⟩

set_option maxHeartbeats 400000 in
theorem rupto_any (a b : Int) (ha : 0 ≤ a ∧ a < 4294967296) (hb : 0 ≤ b ∧ b < 4294967296) (w : World) :
    Calls Try.prog 15 #[.int .u32 a, .int .u32 b] w fun e w' => e = .returned (.int .i64 (up a b)) ∧ w = w' := by
  obtain ⟨a1, a2⟩ := ha
  obtain ⟨b1, b2⟩ := hb
  by_cases h : b - a < 0
  · have e1 : up a b = b - a + 4294967296 := by unfold up; omega
    rw [e1]; clear e1
    go_enter Try.func15, Try.ntmps15
    go_wp2
    go_ret
    exact ⟨rfl, rfl⟩
  · have e1 : up a b = b - a := by unfold up; omega
    rw [e1]; clear e1
    go_enter Try.func15, Try.ntmps15
    go_wp2
    go_ret
    exact ⟨rfl, rfl⟩

set_option maxHeartbeats 400000 in
theorem rless_any (a b : Int) (ha : 0 ≤ a ∧ a < 4294967296) (hb : 0 ≤ b ∧ b < 4294967296) (w : World) :
    Calls Try.prog 13 #[.int .u32 a, .int .u32 b] w fun e w' => e = .returned (.bool (lessB a b)) ∧ w = w' := by
  by_cases h1 : 1 ≤ up a b
  · have e : lessB a b = decide (up a b ≤ 2147483647) := by
      have h2 : 0 < up a b := by omega
      simp only [lessB, h2, true_and]
      apply decide_eq_decide.mpr
      omega
    rw [e]; clear e
    go_enter Try.func13, Try.ntmps13
    go_wp2_with (go_at_call 15; refine (rupto_any _ _ ha hb _).mono ?_; rintro e w' ⟨rfl, rfl⟩)
    go_ret
    exact ⟨rfl, rfl⟩
  · have e : lessB a b = false := less_no (by omega)
    rw [e]; clear e
    go_enter Try.func13, Try.ntmps13
    go_wp2_with (go_at_call 15; refine (rupto_any _ _ ha hb _).mono ?_; rintro e w' ⟨rfl, rfl⟩)
    go_ret
    exact ⟨rfl, rfl⟩

/-- how far two numbers are apart -/
def farN (a b : Int) : Int := if a < b then b - a else a - b

set_option maxHeartbeats 400000 in
theorem rfar_any (a b : Int) (h2 : b - a ≤ 9223372036854775807) (h4 : a - b ≤ 9223372036854775807) (w : World) :
    Calls Try.prog 18 #[.int .i64 a, .int .i64 b] w fun e w' => e = .returned (.int .i64 (farN a b)) ∧ w = w' := by
  by_cases h : a < b
  · have e : farN a b = b - a := by simp [farN, h]
    rw [e]; clear e
    go_enter Try.func18, Try.ntmps18
    go_wp2
    go_ret
    exact ⟨rfl, rfl⟩
  · have e : farN a b = a - b := by simp [farN, h]
    rw [e]; clear e
    go_enter Try.func18, Try.ntmps18
    go_wp2
    go_ret
    exact ⟨rfl, rfl⟩
end Go.Proofs.Ytkemkijohiakgaa
