/- Package fix: Sqrt, Ewma and Clamp, as contracts of the calls: every number. -/
import Derived.Test.YtjlomjdghmjkmaaProg
import Derived.Test.YtjlomjdghmjkmaaMul
import Derived.WalkKit
import Derived.WalkSpells
import Derived.Deep.QuietTactic
import Derived.BigQuiet
import Derived.Lib.Hide
import Derived.WalkSmall
namespace Go.Proofs.Ytjlomjdghmjkmaa
open Go.RowKit

/-- the greatest number whose square is not above n -/
def isq : Nat → Nat
  | 0 => 0
  | n + 1 => if (isq n + 1) * (isq n + 1) ≤ n + 1 then isq n + 1 else isq n

theorem isq_spec (n : Nat) : isq n * isq n ≤ n ∧ n < (isq n + 1) * (isq n + 1) := by
  induction n with
  | zero => simp [isq]
  | succ n ih =>
    obtain ⟨h1, h2⟩ := ih
    unfold isq
    by_cases h : (isq n + 1) * (isq n + 1) ≤ n + 1
    · rw [if_pos h]
      refine ⟨h, ?_⟩
      rw [Nat.add_mul (isq n + 1) 1, Nat.mul_add]
      omega
    · rw [if_neg h]
      exact ⟨by omega, by omega⟩

theorem isq_unique (n r : Nat) (h1 : r * r ≤ n) (h2 : n < (r + 1) * (r + 1)) : r = isq n := by
  obtain ⟨k1, k2⟩ := isq_spec n
  rcases Nat.lt_trichotomy r (isq n) with h | h | h
  · have := Nat.mul_le_mul (show r + 1 ≤ isq n from h) (show r + 1 ≤ isq n from h)
    omega
  · exact h
  · have := Nat.mul_le_mul (show isq n + 1 ≤ r from h) (show isq n + 1 ≤ r from h)
    omega

theorem isq_le (n : Nat) (h : n ≤ 4611686018427387904) : isq n ≤ 2147483648 := by
  obtain ⟨k1, k2⟩ := isq_spec n
  rcases Nat.lt_or_ge 2147483648 (isq n) with h2 | h2
  · have := Nat.mul_le_mul (show 2147483649 ≤ isq n from h2) (show 2147483649 ≤ isq n from h2)
    omega
  · exact h2

/-- what the search of the root bit by bit keeps: below r + 2^j -/
def RootAt (n r j : Nat) : Prop := r * r ≤ n ∧ n < (r + 2 ^ j) * (r + 2 ^ j) ∧ r + 2 ^ j ≤ 4294967296

theorem root_start (n : Nat) (h : n ≤ 4611686018427387904) : RootAt n 0 32 := ⟨by omega, by simp; omega, by simp⟩
theorem root_end (n r : Nat) (h : RootAt n r 0) : r = isq n := isq_unique n r h.1 (by simpa using h.2.1)
theorem root_up (n r j : Nat) (h : RootAt n r (j + 1)) (hx : (r + 2 ^ j) * (r + 2 ^ j) ≤ n) : RootAt n (r + 2 ^ j) j := by
  obtain ⟨_, h2, h3⟩ := h
  rw [Nat.pow_succ] at h2 h3
  exact ⟨hx, by rw [show r + 2 ^ j + 2 ^ j = r + 2 ^ j * 2 from by omega]; exact h2, by omega⟩
theorem root_stay (n r j : Nat) (h : RootAt n r (j + 1)) (hx : n < (r + 2 ^ j) * (r + 2 ^ j)) : RootAt n r j := by
  obtain ⟨h1, h2, h3⟩ := h
  rw [Nat.pow_succ] at h3
  exact ⟨h1, hx, by omega⟩
theorem sq_test (n x : Nat) (h : 0 < x) : x ≤ n / x ↔ x * x ≤ n := Nat.le_div_iff_mul_le h

def sqOk (n : Int) : Bool := inB n && decide (0 ≤ n)
def sqR (n : Int) : Int := (isq n.toNat : Nat)
def sqFnR (n : Int) : Int := if 0 ≤ n then sqR n else 0

theorem sq_eq (n : Int) : okAll [n] (sqFnR n) (decide (0 ≤ n)) = sqOk n ∧ tell (sqFnR n) (sqOk n) = tell (sqR n) (sqOk n) := by
  by_cases hn : 0 ≤ n
  · have e : sqFnR n = sqR n := by simp [sqFnR, hn]
    rw [e]
    by_cases h : inB n = true
    · have h' := (inB_iff n).1 h
      have hl := isq_le n.toNat (by omega)
      have e2 : inB (sqR n) = true := by rw [inB_iff, sqR]; omega
      simp [okAll, sqOk, h, hn, e2]
    · simp [okAll, sqOk, h]
  · simp [okAll, sqOk, hn, tell]

set_option maxHeartbeats 400000 in
theorem clamp_any (n low high : Int) (w : World) :
    Calls Try.prog 20 #[.int .i64 n, .int .i64 low, .int .i64 high] w fun e w' => e = .returned (.int .i64 (if n < low ∨ high < low then low else if high < n then high else n)) ∧ w = w' := by
  by_cases h1 : n < low
  · rw [if_pos (.inl h1)]
    go_enter Try.func20, Try.ntmps20
    go_wp2
    go_ret
    exact ⟨rfl, rfl⟩
  · by_cases h2 : high < low
    · rw [if_pos (.inr h2)]
      go_enter Try.func20, Try.ntmps20
      go_wp2
      go_ret
      exact ⟨rfl, rfl⟩
    · rw [if_neg (by omega)]
      by_cases h3 : high < n
      · rw [if_pos h3]
        have h4 : min n high = high := by omega
        go_enter Try.func20, Try.ntmps20
        go_wp2
        go_ret
        exact ⟨rfl, rfl⟩
      · rw [if_neg h3]
        have h4 : min n high = n := by omega
        go_enter Try.func20, Try.ntmps20
        go_wp2
        go_ret
        exact ⟨rfl, rfl⟩

def ewOk (old sample shift : Int) : Bool := inB old && inB sample && inB (sample - old) && decide (0 ≤ shift) && decide (shift ≤ 30)
def ewR (old sample shift : Int) : Int := old + (sample - old) / 2 ^ shift.toNat

theorem ew_between (old sample : Int) (k : Nat) : (old ≤ sample → old ≤ old + (sample - old) / 2 ^ k ∧ old + (sample - old) / 2 ^ k ≤ sample) ∧ (sample ≤ old → sample ≤ old + (sample - old) / 2 ^ k ∧ old + (sample - old) / 2 ^ k ≤ old) := by
  have hp : (1 : Int) ≤ 2 ^ k := by exact_mod_cast Nat.two_pow_pos k
  generalize (2 : Int) ^ k = t at *
  have h1 := Int.emod_nonneg (sample - old) (show t ≠ 0 by omega)
  have h2 := Int.emod_lt_of_pos (sample - old) (show 0 < t by omega)
  have h3 := Int.mul_ediv_add_emod (sample - old) t
  constructor
  · intro h
    have h4 : 0 ≤ (sample - old) / t := Int.ediv_nonneg (by omega) (by omega)
    have h5 : (sample - old) / t ≤ sample - old := Int.ediv_le_self _ (by omega)
    omega
  · intro h
    have h4 : (sample - old) / t ≤ 0 := by
      have := Int.ediv_le_ediv (show 0 < t by omega) (show sample - old ≤ 0 by omega)
      simpa using this
    have h5 : sample - old ≤ (sample - old) / t := by
      rw [Int.le_ediv_iff_mul_le (by omega)]
      have h6 : (sample - old) * t ≤ (sample - old) * 1 := Int.mul_le_mul_of_nonpos_left (by omega) hp
      omega
    omega

def shB (shift : Int) : Bool := decide (0 ≤ shift) && decide (shift ≤ 30)
def ewFnOk (old sample shift : Int) : Bool := shB shift && addOk sample (-old)
def ewFnR (old sample shift : Int) : Int := if shB shift then old + tell (sample + -old) (addOk sample (-old)) / 2 ^ shift.toNat else 0

theorem way_bounds (old sample : Int) (k : Nat) (h1 : -4611686018427387904 ≤ old) (h2 : old ≤ 4611686018427387904) (h3 : -4611686018427387904 ≤ sample) (h4 : sample ≤ 4611686018427387904) :
    ∃ d : Int, tell (sample + -old) (addOk sample (-old)) / 2 ^ k = d ∧ -4611686018427387904 ≤ old + d ∧ old + d ≤ 4611686018427387904 := by
  refine ⟨_, rfl, ?_⟩
  unfold tell
  by_cases h : addOk sample (-old) = true
  · rw [if_pos h, ← Int.sub_eq_add_neg]
    obtain ⟨a, b⟩ := ew_between old sample k
    rcases Int.le_total old sample with h5 | h5
    · have := a h5; omega
    · have := b h5; omega
  · rw [if_neg h, Int.zero_ediv]; omega

theorem ew_eq (old sample shift : Int) : okAll [old, sample] (ewFnR old sample shift) (ewFnOk old sample shift) = ewOk old sample shift ∧ tell (ewFnR old sample shift) (ewOk old sample shift) = tell (ewR old sample shift) (ewOk old sample shift) := by
  by_cases h1 : inB old = true
  · by_cases h2 : inB sample = true
    · by_cases hs : shB shift = true
      · have hn : inB (-old) = true := by rw [inB_iff] at *; omega
        have ha : addOk sample (-old) = inB (sample - old) := by simp [addOk, h2, hn, Int.sub_eq_add_neg]
        have e1 : ewOk old sample shift = inB (sample - old) := by
          simp only [shB, Bool.and_eq_true, decide_eq_true_eq] at hs
          simp [ewOk, h1, h2, hs.1, hs.2]
        have e2 : ewFnOk old sample shift = inB (sample - old) := by simp [ewFnOk, hs, ha]
        rw [e1, e2]
        by_cases h3 : inB (sample - old) = true
        · have e3 : ewFnR old sample shift = ewR old sample shift := by
            simp only [ewFnR, ewR, hs, ha, h3, tell, if_true]
            rw [Int.sub_eq_add_neg]
          have e4 : inB (ewR old sample shift) = true := by
            rw [inB_iff] at h1 h2 ⊢
            obtain ⟨a, b⟩ := ew_between old sample shift.toNat
            unfold ewR
            rcases Int.le_total old sample with h5 | h5
            · have := a h5; omega
            · have := b h5; omega
          rw [e3]
          simp [okAll, h1, h2, h3, e4]
        · simp [okAll, h3, tell]
      · have e1 : ewOk old sample shift = false := by
          simp only [shB, Bool.and_eq_true, decide_eq_true_eq] at hs
          simp [ewOk]; intros; omega
        have e2 : ewFnOk old sample shift = false := by simp [ewFnOk, hs]
        simp [okAll, e1, e2, tell]
    · simp [okAll, ewOk, h2, tell]
  · simp [okAll, ewOk, h1, tell]

end Go.Proofs.Ytjlomjdghmjkmaa
