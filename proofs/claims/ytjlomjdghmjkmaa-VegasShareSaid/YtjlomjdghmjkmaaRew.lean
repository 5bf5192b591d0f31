/- The reference's Mul, Div and Ewma, as contracts of the calls: every number. -/
import Derived.Test.YtjlomjdghmjkmaaProg
import Derived.Test.YtjlomjdghmjkmaaRmd
import Derived.WalkKit
import Derived.WalkSpells
import Derived.Lib.Hide
import Derived.Below
namespace Go.Proofs.Ytjlomjdghmjkmaa
open Go.RowKit

theorem rdiv_any (a b : Int) (w : World) :
    Calls Try.prog 27 #[.int .i64 a, .int .i64 b] w fun e w' => e = .returned (.tuple #[.int .i64 (tell (a / b) (mdOk a 1 b)), .bool (mdOk a 1 b)]) ∧ w = w' := by
  have h := rmd_any a 1 b
  rw [Int.mul_one] at h
  have H := Lib.hid h; clear h
  go_enter Try.func27, Try.ntmps27
  go_wp2_with (go_at_call 26; refine (H.out _).mono ?_; rintro e w' ⟨rfl, rfl⟩)
  go_ret2
  exact ⟨rfl, rfl⟩

theorem wrap_sub (a b : Int) (ha : inB a = true) (hb : inB b = true) : inB (wrap64 (a - b)) = inB (a - b) ∧ (inB (a - b) = true → wrap64 (a - b) = a - b) := by
  have hn : inB (-b) = true := by rw [inB_iff] at *; omega
  have := wrap_add a (-b) ha hn
  rw [← Int.sub_eq_add_neg] at this
  exact this

theorem ew_div (old sample : Int) (k : Nat) (h1 : inB old = true) (h2 : inB sample = true) (h3 : inB (sample - old) = true) (hk : k ≤ 30) :
    mdOk (sample - old) 1 (2 ^ k) = true ∧ addOk old ((sample - old) / 2 ^ k) = true := by
  have hp : (1 : Int) ≤ 2 ^ k := by exact_mod_cast Nat.two_pow_pos k
  have hp2 : (2 : Int) ^ k ≤ 4611686018427387904 := by
    have : 2 ^ k ≤ 2 ^ 30 := Nat.pow_le_pow_right (by omega) hk
    have : ((2 ^ k : Nat) : Int) ≤ ((2 ^ 30 : Nat) : Int) := by exact_mod_cast this
    simp at this
    omega
  obtain ⟨x, y⟩ := ew_between old sample k
  have i1 : inB 1 = true := by decide
  rw [inB_iff] at h1 h2 h3
  have hd : inB ((sample - old) / 2 ^ k) = true := by
    rw [inB_iff]
    generalize (sample - old) / 2 ^ k = d at *
    rcases Int.le_total old sample with h5 | h5
    · have := x h5; omega
    · have := y h5; omega
  have hs : inB (old + (sample - old) / 2 ^ k) = true := by
    rw [inB_iff]
    generalize (sample - old) / 2 ^ k = d at *
    rcases Int.le_total old sample with h5 | h5
    · have := x h5; omega
    · have := y h5; omega
  have h3' : inB (sample - old) = true := by rw [inB_iff]; exact h3
  have h1' : inB old = true := by rw [inB_iff]; exact h1
  have hpp : inB (2 ^ k) = true := by rw [inB_iff]; omega
  exact ⟨by simp [mdOk, h3', i1, hpp, hp, hd], by simp [addOk, h1', hd, hs]⟩

end Go.Proofs.Ytjlomjdghmjkmaa
