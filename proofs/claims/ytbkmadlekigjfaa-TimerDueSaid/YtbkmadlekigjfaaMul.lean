/- Package fix: MulDiv, Mul and Div, as contracts of the calls: every number. -/
import Derived.Test.YtbkmadlekigjfaaProg
import Derived.Test.YtbkmadlekigjfaaFix
import Derived.WalkKit
import Derived.WalkSpells
import Derived.Deep.QuietTactic
import Derived.BigQuiet
import Derived.Lib.Hide
import Derived.WalkSmall
import Derived.Outline
namespace Go.Proofs.Ytbkmadlekigjfaa
open Go.RowKit

/-- a word of two: its halves -/
theorem halves (N : Nat) : N / 18446744073709551616 * 18446744073709551616 + N % 18446744073709551616 = N := by omega

theorem neg_ediv (N c : Nat) (hc : 0 < c) : (-(N : Int)) / (c : Int) = -(((N / c + (if 0 < N % c then 1 else 0) : Nat)) : Int) := by
  have h1 := Nat.div_add_mod N c
  have h2 := Nat.mod_lt N hc
  generalize hq : N / c = q at *
  generalize hr : N % c = r at *
  have e : (N : Int) = (c : Int) * q + r := by exact_mod_cast h1.symm
  by_cases h : 0 < r
  · rw [if_pos h, e]
    have : -((c : Int) * q + r) = ((c : Int) - r) + c * (-(q : Int) - 1) := by rw [Int.mul_sub, Int.mul_neg]; omega
    rw [this, Int.add_mul_ediv_left _ _ (by omega), Int.ediv_eq_zero_of_lt (by omega) (by omega)]
    omega
  · have hr0 : r = 0 := by omega
    subst hr0
    rw [if_neg h, e]
    have : -((c : Int) * q + ((0 : Nat) : Int)) = 0 + c * (-(q : Int)) := by rw [Int.mul_neg]; omega
    rw [this, Int.add_mul_ediv_left _ _ (by omega)]
    simp

/-- whether a product by a number is too great for a word -/
def bigB (a b c : Int) : Bool := decide (4611686018427387904 < a.natAbs * b.natAbs / c.toNat)

def mdFnOk (a b c : Int) : Bool := decide (1 ≤ c) && !bigB a b c
def mdFnR (a b c : Int) : Int := if mdFnOk a b c then a * b / c else 0

theorem mul_sign (a b : Int) : a * b = if (!(decide (a < 0) == decide (b < 0))) = true then -((a.natAbs * b.natAbs : Nat) : Int) else ((a.natAbs * b.natAbs : Nat) : Int) := by
  rw [Int.natCast_mul]
  by_cases ha : a < 0
  · by_cases hb : b < 0
    · have e1 : (a.natAbs : Int) = -a := by omega
      have e2 : (b.natAbs : Int) = -b := by omega
      simp [ha, hb, e1, e2, Int.neg_mul, Int.mul_neg]
    · have e1 : (a.natAbs : Int) = -a := by omega
      have e2 : (b.natAbs : Int) = b := by omega
      simp [ha, hb, e1, e2, Int.neg_mul]
  · by_cases hb : b < 0
    · have e1 : (a.natAbs : Int) = a := by omega
      have e2 : (b.natAbs : Int) = -b := by omega
      simp [ha, hb, e1, e2, Int.mul_neg]
    · have e1 : (a.natAbs : Int) = a := by omega
      have e2 : (b.natAbs : Int) = b := by omega
      simp [ha, hb, e1, e2]

theorem abs_mul_lt (a b : Int) (ha : inB a = true) (hb : inB b = true) : a.natAbs * b.natAbs ≤ 4611686018427387904 * 4611686018427387904 := by
  rw [inB_iff] at ha hb
  exact Nat.mul_le_mul (by omega) (by omega)

theorem quo_is (a b c : Int) (h1 : 1 ≤ c) : quoR (a.natAbs * b.natAbs) c.toNat (!(decide (a < 0) == decide (b < 0))) = (mdFnR a b c, mdFnOk a b c) := by
  have hs := mul_sign a b
  have hok : mdFnOk a b c = !bigB a b c := by simp [mdFnOk, h1]
  obtain ⟨n, rfl⟩ : ∃ n : Nat, c = n := ⟨c.toNat, by omega⟩
  have hc0 : 0 < n := by omega
  rw [Int.toNat_natCast]
  unfold quoR
  by_cases h : 4611686018427387904 < a.natAbs * b.natAbs / n
  · have e : mdFnOk a b n = false := by rw [hok]; simp [bigB, h]
    rw [if_pos h]; simp [mdFnR, e]
  · have e : mdFnOk a b n = true := by rw [hok]; simp only [bigB, Int.toNat_natCast, decide_eq_false h]; rfl
    rw [if_neg h]
    simp only [mdFnR, e, if_true]
    generalize (!(decide (a < 0) == decide (b < 0))) = neg at *
    cases neg
    · simp only [Bool.false_eq_true, if_false] at hs ⊢
      rw [hs, ← Int.natCast_ediv]
    · simp only [if_true] at hs ⊢
      rw [hs, neg_ediv _ _ hc0]

def mdOk (a b c : Int) : Bool := inB a && inB b && inB c && decide (1 ≤ c) && inB (a * b / c)

theorem big_out (a b c : Int) (h1 : 1 ≤ c) (h : bigB a b c = true) : inB (a * b / c) = false := by
  have hs := mul_sign a b
  obtain ⟨n, rfl⟩ : ∃ n : Nat, c = n := ⟨c.toNat, by omega⟩
  have hc0 : 0 < n := by omega
  simp only [bigB, Int.toNat_natCast, decide_eq_true_eq] at h
  rw [inB_not]
  generalize (!(decide (a < 0) == decide (b < 0))) = neg at *
  cases neg
  · simp only [Bool.false_eq_true, if_false] at hs
    rw [hs, ← Int.natCast_ediv]
    omega
  · simp only [if_true] at hs
    rw [hs, neg_ediv _ _ hc0]
    omega

theorem md_eq (a b c : Int) : okAll [a, b, c] (mdFnR a b c) (mdFnOk a b c) = mdOk a b c ∧ tell (mdFnR a b c) (mdOk a b c) = tell (a * b / c) (mdOk a b c) := by
  by_cases h1 : 1 ≤ c
  · by_cases h : bigB a b c = true
    · have h2 := big_out a b c h1 h
      have e : mdOk a b c = false := by simp [mdOk, h2]
      have e2 : mdFnOk a b c = false := by simp [mdFnOk, h]
      simp [okAll, e, e2, tell]
    · have e2 : mdFnOk a b c = true := by simp [mdFnOk, h, h1]
      have e3 : mdFnR a b c = a * b / c := by simp [mdFnR, e2]
      simp [okAll, mdOk, e2, e3, h1, Bool.and_assoc]
  · have e : mdOk a b c = false := by simp [mdOk, h1]
    have e2 : mdFnOk a b c = false := by simp [mdFnOk, h1]
    simp [okAll, e, e2, tell]

end Go.Proofs.Ytbkmadlekigjfaa
