/- The reference's Mul, Div and Ewma, as contracts of the calls: every number. -/
import Derived.Test.YtkgbbmjobjcepaaProg
import Derived.Test.YtkgbbmjobjcepaaRmd
import Derived.WalkKit
import Derived.WalkSpells
import Derived.Lib.Hide
import Derived.Below
namespace Go.Proofs.Ytkgbbmjobjcepaa
open Go.RowKit

theorem rdiv_any (a b : Int) (w : World) :
    Calls Try.prog 37 #[.int .i64 a, .int .i64 b] w fun e w' => e = .returned (.tuple #[.int .i64 (tell (a / b) (mdOk a 1 b)), .bool (mdOk a 1 b)]) ∧ w = w' := by
  have h := rmd_any a 1 b
  rw [Int.mul_one] at h
  have H := Lib.hid h; clear h
  go_enter Try.func37, Try.ntmps37
  go_wp2_with (go_at_call 23; refine (H.out _).mono ?_; rintro e w' ⟨rfl, rfl⟩)
  go_ret2
  exact ⟨rfl, rfl⟩

theorem wrap_sub (a b : Int) (ha : inB a = true) (hb : inB b = true) : inB (wrap64 (a - b)) = inB (a - b) ∧ (inB (a - b) = true → wrap64 (a - b) = a - b) := by
  have hn : inB (-b) = true := by rw [inB_iff] at *; omega
  have := wrap_add a (-b) ha hn
  rw [← Int.sub_eq_add_neg] at this
  exact this

theorem ew_div (old sample : Int) (k : Nat) (h1 : inB old = true) (h2 : inB sample = true) (h3 : inB (sample - old) = true) (hk : k ≤ 30) :
    mdOk (sample - old) 1 (2 ^ k) = true ∧ addOk old ((sample - old) / 2 ^ k) = true := by
  have hp : (1 : Int) ≤ 2 ^ k := by exact_mod_cast Nat.two_pow_pos k
  have hp2 : (2 : Int) ^ k ≤ 4611686018427387904 := by
    have : 2 ^ k ≤ 2 ^ 30 := Nat.pow_le_pow_right (by omega) hk
    have : ((2 ^ k : Nat) : Int) ≤ ((2 ^ 30 : Nat) : Int) := by exact_mod_cast this
    simp at this
    omega
  obtain ⟨x, y⟩ := ew_between old sample k
  have i1 : inB 1 = true := by decide
  rw [inB_iff] at h1 h2 h3
  have hd : inB ((sample - old) / 2 ^ k) = true := by
    rw [inB_iff]
    generalize (sample - old) / 2 ^ k = d at *
    rcases Int.le_total old sample with h5 | h5
    · have := x h5; omega
    · have := y h5; omega
  have hs : inB (old + (sample - old) / 2 ^ k) = true := by
    rw [inB_iff]
    generalize (sample - old) / 2 ^ k = d at *
    rcases Int.le_total old sample with h5 | h5
    · have := x h5; omega
    · have := y h5; omega
  have h3' : inB (sample - old) = true := by rw [inB_iff]; exact h3
  have h1' : inB old = true := by rw [inB_iff]; exact h1
  have hpp : inB (2 ^ k) = true := by rw [inB_iff]; omega
  exact ⟨by simp [mdOk, h3', i1, hpp, hp, hd], by simp [addOk, h1', hd, hs]⟩

set_option maxHeartbeats 4000000 in
theorem rewma_any (old sample shift : Int) (w : World) :
    Calls Try.prog 24 #[.int .i64 old, .int .i64 sample, .int .i64 shift] w fun e w' => e = .returned (.tuple #[.int .i64 (tell (ewR old sample shift) (ewOk old sample shift)), .bool (ewOk old sample shift)]) ∧ w = w' := by
  by_cases h1 : inB old = true
  · by_cases h2 : inB sample = true
    · obtain ⟨s1, s2⟩ := wrap_sub sample old h2 h1
      by_cases h3 : inB (sample - old) = true
      · have s3 := s2 h3
        by_cases h4 : shift < 0
        · clear s1 s2
          have hd1 := (inB_iff _).1 h3
          obtain ⟨d1, d2⟩ := hd1
          have k0 : ewOk old sample shift = false := by simp [ewOk]; intros; omega
          have t : tell (ewR old sample shift) false = 0 := rfl
          rw [k0, t]; clear k0 t
          go_enter Try.func24, Try.ntmps24
          go_wp2_with (first | (go_at_call 34; refine (rin_any _ _).mono ?_; rintro e wx ⟨rfl, rfl⟩))
          go_ret2
          exact ⟨rfl, rfl⟩
        · by_cases h5 : 30 < shift
          · clear s1 s2
            have hd1 := (inB_iff _).1 h3
            obtain ⟨d1, d2⟩ := hd1
            have k0 : ewOk old sample shift = false := by simp [ewOk]; intros; omega
            have t : tell (ewR old sample shift) false = 0 := rfl
            rw [k0, t]; clear k0 t
            go_enter Try.func24, Try.ntmps24
            go_wp2_with (first | (go_at_call 34; refine (rin_any _ _).mono ?_; rintro e wx ⟨rfl, rfl⟩))
            go_ret2
            exact ⟨rfl, rfl⟩
          · obtain ⟨k, rfl⟩ : ∃ k : Nat, shift = k := ⟨shift.toNat, by omega⟩
            obtain ⟨m1, m2⟩ := ew_div old sample k h1 h2 h3 (by omega)
            have k0 : ewOk old sample k = true := by simp [ewOk, h1, h2, h3]; omega
            have t : tell (ewR old sample k) true = old + (sample - old) / 2 ^ k := rfl
            have t1 : tell ((sample - old) / 2 ^ k) true = (sample - old) / 2 ^ k := rfl
            have t2 : tell (old + (sample - old) / 2 ^ k) true = old + (sample - old) / 2 ^ k := rfl
            rw [k0, t]; clear k0 t
            have hm : min k 64 = k := by omega
            have hp : wrap64 (2 ^ k) = 2 ^ k := by
              have hp1 : (1 : Int) ≤ 2 ^ k := by exact_mod_cast Nat.two_pow_pos k
              have hp2 : (2 : Int) ^ k ≤ 4611686018427387904 := by
                have : 2 ^ k ≤ 2 ^ 30 := Nat.pow_le_pow_right (by omega) (by omega)
                have : ((2 ^ k : Nat) : Int) ≤ ((2 ^ 30 : Nat) : Int) := by exact_mod_cast this
                simp at this
                omega
              exact IntWalk.wrap64_in _ ⟨by omega, by omega⟩
            have hd1 := (inB_iff _).1 h3
            obtain ⟨d1, d2⟩ := hd1
            clear s1 s2 s3
            go_enter Try.func24, Try.ntmps24
            go_wp2_with (first | (go_at_call 34; refine (rin_any _ _).mono ?_; rintro e wx ⟨rfl, rfl⟩) | (go_at_call 37; refine (rdiv_any _ _ _).mono ?_; rintro e wx ⟨rfl, rfl⟩) | (go_at_call 38; refine (radd_any _ _ _).mono ?_; rintro e wx ⟨rfl, rfl⟩))
            go_ret2
            exact ⟨rfl, rfl⟩
      · have h3' : inB (sample - old) = false := by simpa using h3
        rw [h3'] at s1
        clear h3 s2
        have k0 : ewOk old sample shift = false := by simp [ewOk, h3']
        have t : tell (ewR old sample shift) false = 0 := rfl
        rw [k0, t]; clear k0 t
        go_enter Try.func24, Try.ntmps24
        go_wp2_with (first | (go_at_call 34; refine (rin_any _ _).mono ?_; rintro e wx ⟨rfl, rfl⟩))
        go_ret2
        exact ⟨rfl, rfl⟩
    · have h2' : inB sample = false := by simpa using h2
      clear h2
      have k0 : ewOk old sample shift = false := by simp [ewOk, h2']
      have t : tell (ewR old sample shift) false = 0 := rfl
      rw [k0, t]; clear k0 t
      go_enter Try.func24, Try.ntmps24
      go_wp2_with (first | (go_at_call 34; refine (rin_any _ _).mono ?_; rintro e wx ⟨rfl, rfl⟩))
      go_ret2
      exact ⟨rfl, rfl⟩
  · have h1' : inB old = false := by simpa using h1
    clear h1
    have k0 : ewOk old sample shift = false := by simp [ewOk, h1']
    have t : tell (ewR old sample shift) false = 0 := rfl
    rw [k0, t]; clear k0 t
    go_enter Try.func24, Try.ntmps24
    go_wp2_with (first | (go_at_call 34; refine (rin_any _ _).mono ?_; rintro e wx ⟨rfl, rfl⟩))
    go_ret2
    exact ⟨rfl, rfl⟩
end Go.Proofs.Ytkgbbmjobjcepaa
