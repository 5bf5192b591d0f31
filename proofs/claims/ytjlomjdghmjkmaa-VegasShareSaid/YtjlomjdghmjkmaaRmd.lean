/- The reference's MulDiv, Mul, Div, Ewma, as contracts of the calls: every number. -/
import Derived.Test.YtjlomjdghmjkmaaProg
import Derived.Test.YtjlomjdghmjkmaaLong
import Derived.WalkKit
import Derived.WalkSpells
import Derived.Lib.Hide
import Derived.Below
import Derived.Outline
namespace Go.Proofs.Ytjlomjdghmjkmaa
open Go.RowKit

theorem val_pos (a b c : Int) (q r : Nat) (hc : 1 ≤ c) (hs : a * b = ((a.natAbs * b.natAbs : Nat) : Int)) (h : LongOut (a.natAbs * b.natAbs) c.toNat q r) :
    inB (q : Int) = inB (a * b / c) ∧ (inB (q : Int) = true → (q : Int) = a * b / c) := by
  obtain ⟨n, rfl⟩ : ∃ n : Nat, c = n := ⟨c.toNat, by omega⟩
  rw [Int.toNat_natCast] at h
  rw [hs, ← Int.natCast_ediv]
  rcases h with ⟨h1, h2, _⟩ | ⟨h1, h2, h3⟩
  · rw [h1]; exact ⟨rfl, fun _ => rfl⟩
  · have e1 : inB (q : Int) = false := by rw [inB_not]; omega
    have e2 : inB ((a.natAbs * b.natAbs / n : Nat) : Int) = false := by rw [inB_not]; omega
    rw [e1, e2]
    exact ⟨rfl, fun h => by cases h⟩

theorem val_neg (a b c : Int) (q r : Nat) (hc : 1 ≤ c) (hs : a * b = -((a.natAbs * b.natAbs : Nat) : Int)) (h : LongOut (a.natAbs * b.natAbs) c.toNat q r) :
    inB (-((q + (if 0 < r then 1 else 0) : Nat) : Int)) = inB (a * b / c) ∧ (inB (-((q + (if 0 < r then 1 else 0) : Nat) : Int)) = true → -((q + (if 0 < r then 1 else 0) : Nat) : Int) = a * b / c) := by
  obtain ⟨n, rfl⟩ : ∃ n : Nat, c = n := ⟨c.toNat, by omega⟩
  rw [Int.toNat_natCast] at h
  rw [hs, neg_ediv _ _ (by omega)]
  rcases h with ⟨h1, h2, _⟩ | ⟨h1, h2, h3⟩
  · rw [h1, h2]; exact ⟨rfl, fun _ => rfl⟩
  · subst h3
    have e1 : inB (-((q + (if 0 < 0 then 1 else 0) : Nat) : Int)) = false := by rw [inB_not]; simp; omega
    have e2 : inB (-((a.natAbs * b.natAbs / n + (if 0 < a.natAbs * b.natAbs % n then 1 else 0) : Nat) : Int)) = false := by rw [inB_not]; omega
    rw [e1, e2]
    exact ⟨rfl, fun h => by cases h⟩

theorem val_neg1 (a b c : Int) (q r : Nat) (hc : 1 ≤ c) (hs : a * b = -((a.natAbs * b.natAbs : Nat) : Int)) (h : LongOut (a.natAbs * b.natAbs) c.toNat q r) (hr : 0 < r) :
    inB (-((q : Int) + 1)) = inB (a * b / c) ∧ (inB (-((q : Int) + 1)) = true → -((q : Int) + 1) = a * b / c) := by
  have := val_neg a b c q r hc hs h
  rw [if_pos hr, Int.natCast_add] at this
  exact this

theorem val_neg0 (a b c : Int) (q r : Nat) (hc : 1 ≤ c) (hs : a * b = -((a.natAbs * b.natAbs : Nat) : Int)) (h : LongOut (a.natAbs * b.natAbs) c.toNat q r) (hr : ¬ 0 < r) :
    inB (-(q : Int)) = inB (a * b / c) ∧ (inB (-(q : Int)) = true → -(q : Int) = a * b / c) := by
  have := val_neg a b c q r hc hs h
  rw [if_neg hr] at this
  exact this

theorem sign_pos (a b : Int) (h : (a < 0 ∧ b < 0) ∨ (¬ a < 0 ∧ ¬ b < 0)) : a * b = ((a.natAbs * b.natAbs : Nat) : Int) := by
  have := mul_sign a b
  rcases h with ⟨h1, h2⟩ | ⟨h1, h2⟩ <;> simpa [h1, h2] using this
theorem sign_neg (a b : Int) (h : (a < 0 ∧ ¬ b < 0) ∨ (¬ a < 0 ∧ b < 0)) : a * b = -((a.natAbs * b.natAbs : Nat) : Int) := by
  have := mul_sign a b
  rcases h with ⟨h1, h2⟩ | ⟨h1, h2⟩ <;> simpa [h1, h2] using this

set_option maxHeartbeats 4000000 in
theorem rmd_any (a b c : Int) (w : World) :
    Calls Try.prog 26 #[.int .i64 a, .int .i64 b, .int .i64 c] w fun e w' => e = .returned (.tuple #[.int .i64 (tell (a * b / c) (mdOk a b c)), .bool (mdOk a b c)]) ∧ w = w' := by
  by_cases h1 : inB a = true
  · by_cases h2 : inB b = true
    · by_cases h3 : inB c = true
      · by_cases h4 : 1 ≤ c
        · obtain ⟨a1, a2⟩ := (inB_iff a).1 h1
          obtain ⟨b1, b2⟩ := (inB_iff b).1 h2
          have c2 := ((inB_iff c).1 h3).2
          obtain ⟨n, rfl⟩ : ∃ n : Nat, c = n := ⟨c.toNat, by omega⟩
          have hA : a.natAbs ≤ 4611686018427387904 := by omega
          have hB : b.natAbs ≤ 4611686018427387904 := by omega
          have hn : 0 < n := by omega
          have hnb : n ≤ 4611686018427387904 := by omega
          have h5 : ¬ (n : Int) < 1 := by omega
          by_cases ha : a < 0
          · have da : decide (a < 0) = true := decide_eq_true ha
            by_cases hb : b < 0
            · have hs0 := sign_pos a b (.inl ⟨ha, hb⟩)
              have db : decide (b < 0) = true := decide_eq_true hb
              clear hb
              have Hs := Lib.hid hs0
              clear hs0
              go_enter Try.func26, Try.ntmps26
              go_wp2_with (first | (go_at_call 35; refine (rin_any _ _).mono ?_; rintro e wx ⟨rfl, rfl⟩) | (go_at_call 36; refine (size_any _ _ (by assumption) (by assumption)).mono ?_; rintro e wx ⟨rfl, rfl⟩))
              refine (long_any _ _ _ _ hA hB hn hnb).mono ?_
              rintro e wx ⟨q, r, hL, rfl, rfl⟩
              have hql := long_le hL
              obtain ⟨g1, g2⟩ := val_pos a b n q r h4 Hs.out hL
              by_cases hi : inB (a * b / (n : Int)) = true
              · have k : mdOk a b n = true := by simp only [mdOk, h1, h2, h3, decide_eq_true h4, hi]; rfl
                rw [hi] at g1
                have t : tell (a * b / (n : Int)) true = (q : Int) := (g2 g1).symm
                clear g2 hi
                go_wp2_with (first | (go_at_call 35; refine (rin_any _ _).mono ?_; rintro e wx ⟨rfl, rfl⟩))
                go_ret2
                exact ⟨by rw [k, t]; rfl, rfl⟩
              · have hi' : inB (a * b / (n : Int)) = false := by simpa using hi
                have k : mdOk a b n = false := by simp [mdOk, hi']
                rw [hi'] at g1
                have t : tell (a * b / (n : Int)) false = 0 := rfl
                clear g2 hi hi'
                go_wp2_with (first | (go_at_call 35; refine (rin_any _ _).mono ?_; rintro e wx ⟨rfl, rfl⟩))
                go_ret2
                exact ⟨by rw [k, t]; rfl, rfl⟩
            · have hs0 := sign_neg a b (.inl ⟨ha, hb⟩)
              have db : decide (b < 0) = false := decide_eq_false hb
              clear hb
              have Hs := Lib.hid hs0
              clear hs0
              go_enter Try.func26, Try.ntmps26
              go_wp2_with (first | (go_at_call 35; refine (rin_any _ _).mono ?_; rintro e wx ⟨rfl, rfl⟩) | (go_at_call 36; refine (size_any _ _ (by assumption) (by assumption)).mono ?_; rintro e wx ⟨rfl, rfl⟩))
              refine (long_any _ _ _ _ hA hB hn hnb).mono ?_
              rintro e wx ⟨q, r, hL, rfl, rfl⟩
              have hql := long_le hL
              by_cases hr : 0 < r
              · have hr1 : (0 : Int) < (r : Int) := by omega
                obtain ⟨q1, hq1⟩ : ∃ q1 : Nat, (q : Int) + 1 = (q1 : Int) := ⟨q + 1, by omega⟩
                have hv := val_neg1 a b n q r h4 Hs.out hL hr
                rw [hq1] at hv
                obtain ⟨g1, g2⟩ := hv
                clear hr
                by_cases hi : inB (a * b / (n : Int)) = true
                · have k : mdOk a b n = true := by simp only [mdOk, h1, h2, h3, decide_eq_true h4, hi]; rfl
                  rw [hi] at g1
                  have t : tell (a * b / (n : Int)) true = -(q1 : Int) := (g2 g1).symm
                  clear g2 hi
                  go_wp2_with (first | (go_at_call 35; refine (rin_any _ _).mono ?_; rintro e wx ⟨rfl, rfl⟩))
                  go_ret2
                  exact ⟨by rw [k, t]; rfl, rfl⟩
                · have hi' : inB (a * b / (n : Int)) = false := by simpa using hi
                  have k : mdOk a b n = false := by simp [mdOk, hi']
                  rw [hi'] at g1
                  have t : tell (a * b / (n : Int)) false = 0 := rfl
                  clear g2 hi hi'
                  go_wp2_with (first | (go_at_call 35; refine (rin_any _ _).mono ?_; rintro e wx ⟨rfl, rfl⟩))
                  go_ret2
                  exact ⟨by rw [k, t]; rfl, rfl⟩
              · have hr1 : ¬ (0 : Int) < (r : Int) := by omega
                obtain ⟨g1, g2⟩ := val_neg0 a b n q r h4 Hs.out hL hr
                clear hr
                by_cases hi : inB (a * b / (n : Int)) = true
                · have k : mdOk a b n = true := by simp only [mdOk, h1, h2, h3, decide_eq_true h4, hi]; rfl
                  rw [hi] at g1
                  have t : tell (a * b / (n : Int)) true = -(q : Int) := (g2 g1).symm
                  clear g2 hi
                  go_wp2_with (first | (go_at_call 35; refine (rin_any _ _).mono ?_; rintro e wx ⟨rfl, rfl⟩))
                  go_ret2
                  exact ⟨by rw [k, t]; rfl, rfl⟩
                · have hi' : inB (a * b / (n : Int)) = false := by simpa using hi
                  have k : mdOk a b n = false := by simp [mdOk, hi']
                  rw [hi'] at g1
                  have t : tell (a * b / (n : Int)) false = 0 := rfl
                  clear g2 hi hi'
                  go_wp2_with (first | (go_at_call 35; refine (rin_any _ _).mono ?_; rintro e wx ⟨rfl, rfl⟩))
                  go_ret2
                  exact ⟨by rw [k, t]; rfl, rfl⟩
          · have da : decide (a < 0) = false := decide_eq_false ha
            by_cases hb : b < 0
            · have hs0 := sign_neg a b (.inr ⟨ha, hb⟩)
              have db : decide (b < 0) = true := decide_eq_true hb
              clear hb
              have Hs := Lib.hid hs0
              clear hs0
              go_enter Try.func26, Try.ntmps26
              go_wp2_with (first | (go_at_call 35; refine (rin_any _ _).mono ?_; rintro e wx ⟨rfl, rfl⟩) | (go_at_call 36; refine (size_any _ _ (by assumption) (by assumption)).mono ?_; rintro e wx ⟨rfl, rfl⟩))
              refine (long_any _ _ _ _ hA hB hn hnb).mono ?_
              rintro e wx ⟨q, r, hL, rfl, rfl⟩
              have hql := long_le hL
              by_cases hr : 0 < r
              · have hr1 : (0 : Int) < (r : Int) := by omega
                obtain ⟨q1, hq1⟩ : ∃ q1 : Nat, (q : Int) + 1 = (q1 : Int) := ⟨q + 1, by omega⟩
                have hv := val_neg1 a b n q r h4 Hs.out hL hr
                rw [hq1] at hv
                obtain ⟨g1, g2⟩ := hv
                clear hr
                by_cases hi : inB (a * b / (n : Int)) = true
                · have k : mdOk a b n = true := by simp only [mdOk, h1, h2, h3, decide_eq_true h4, hi]; rfl
                  rw [hi] at g1
                  have t : tell (a * b / (n : Int)) true = -(q1 : Int) := (g2 g1).symm
                  clear g2 hi
                  go_wp2_with (first | (go_at_call 35; refine (rin_any _ _).mono ?_; rintro e wx ⟨rfl, rfl⟩))
                  go_ret2
                  exact ⟨by rw [k, t]; rfl, rfl⟩
                · have hi' : inB (a * b / (n : Int)) = false := by simpa using hi
                  have k : mdOk a b n = false := by simp [mdOk, hi']
                  rw [hi'] at g1
                  have t : tell (a * b / (n : Int)) false = 0 := rfl
                  clear g2 hi hi'
                  go_wp2_with (first | (go_at_call 35; refine (rin_any _ _).mono ?_; rintro e wx ⟨rfl, rfl⟩))
                  go_ret2
                  exact ⟨by rw [k, t]; rfl, rfl⟩
              · have hr1 : ¬ (0 : Int) < (r : Int) := by omega
                obtain ⟨g1, g2⟩ := val_neg0 a b n q r h4 Hs.out hL hr
                clear hr
                by_cases hi : inB (a * b / (n : Int)) = true
                · have k : mdOk a b n = true := by simp only [mdOk, h1, h2, h3, decide_eq_true h4, hi]; rfl
                  rw [hi] at g1
                  have t : tell (a * b / (n : Int)) true = -(q : Int) := (g2 g1).symm
                  clear g2 hi
                  go_wp2_with (first | (go_at_call 35; refine (rin_any _ _).mono ?_; rintro e wx ⟨rfl, rfl⟩))
                  go_ret2
                  exact ⟨by rw [k, t]; rfl, rfl⟩
                · have hi' : inB (a * b / (n : Int)) = false := by simpa using hi
                  have k : mdOk a b n = false := by simp [mdOk, hi']
                  rw [hi'] at g1
                  have t : tell (a * b / (n : Int)) false = 0 := rfl
                  clear g2 hi hi'
                  go_wp2_with (first | (go_at_call 35; refine (rin_any _ _).mono ?_; rintro e wx ⟨rfl, rfl⟩))
                  go_ret2
                  exact ⟨by rw [k, t]; rfl, rfl⟩
            · have hs0 := sign_pos a b (.inr ⟨ha, hb⟩)
              have db : decide (b < 0) = false := decide_eq_false hb
              clear hb
              have Hs := Lib.hid hs0
              clear hs0
              go_enter Try.func26, Try.ntmps26
              go_wp2_with (first | (go_at_call 35; refine (rin_any _ _).mono ?_; rintro e wx ⟨rfl, rfl⟩) | (go_at_call 36; refine (size_any _ _ (by assumption) (by assumption)).mono ?_; rintro e wx ⟨rfl, rfl⟩))
              refine (long_any _ _ _ _ hA hB hn hnb).mono ?_
              rintro e wx ⟨q, r, hL, rfl, rfl⟩
              have hql := long_le hL
              obtain ⟨g1, g2⟩ := val_pos a b n q r h4 Hs.out hL
              by_cases hi : inB (a * b / (n : Int)) = true
              · have k : mdOk a b n = true := by simp only [mdOk, h1, h2, h3, decide_eq_true h4, hi]; rfl
                rw [hi] at g1
                have t : tell (a * b / (n : Int)) true = (q : Int) := (g2 g1).symm
                clear g2 hi
                go_wp2_with (first | (go_at_call 35; refine (rin_any _ _).mono ?_; rintro e wx ⟨rfl, rfl⟩))
                go_ret2
                exact ⟨by rw [k, t]; rfl, rfl⟩
              · have hi' : inB (a * b / (n : Int)) = false := by simpa using hi
                have k : mdOk a b n = false := by simp [mdOk, hi']
                rw [hi'] at g1
                have t : tell (a * b / (n : Int)) false = 0 := rfl
                clear g2 hi hi'
                go_wp2_with (first | (go_at_call 35; refine (rin_any _ _).mono ?_; rintro e wx ⟨rfl, rfl⟩))
                go_ret2
                exact ⟨by rw [k, t]; rfl, rfl⟩
        · have h5 : c < 1 := by omega
          have k : mdOk a b c = false := by simp [mdOk, h4]
          have t : tell (a * b / c) false = 0 := rfl
          rw [k, t]; clear k t
          go_enter Try.func26, Try.ntmps26
          go_wp2_with (first | (go_at_call 35; refine (rin_any _ _).mono ?_; rintro e wx ⟨rfl, rfl⟩))
          go_ret2
          exact ⟨rfl, rfl⟩
      · have h3' : inB c = false := by simpa using h3
        clear h3
        have k : mdOk a b c = false := by simp [mdOk, h3']
        have t : tell (a * b / c) false = 0 := rfl
        rw [k, t]; clear k t
        go_enter Try.func26, Try.ntmps26
        go_wp2_with (first | (go_at_call 35; refine (rin_any _ _).mono ?_; rintro e wx ⟨rfl, rfl⟩))
        go_ret2
        exact ⟨rfl, rfl⟩
    · have h2' : inB b = false := by simpa using h2
      clear h2
      have k : mdOk a b c = false := by simp [mdOk, h2']
      have t : tell (a * b / c) false = 0 := rfl
      rw [k, t]; clear k t
      go_enter Try.func26, Try.ntmps26
      go_wp2_with (first | (go_at_call 35; refine (rin_any _ _).mono ?_; rintro e wx ⟨rfl, rfl⟩))
      go_ret2
      exact ⟨rfl, rfl⟩
  · have h1' : inB a = false := by simpa using h1
    clear h1
    have k : mdOk a b c = false := by simp [mdOk, h1']
    have t : tell (a * b / c) false = 0 := rfl
    rw [k, t]; clear k t
    go_enter Try.func26, Try.ntmps26
    go_wp2_with (first | (go_at_call 35; refine (rin_any _ _).mono ?_; rintro e wx ⟨rfl, rfl⟩))
    go_ret2
    exact ⟨rfl, rfl⟩

end Go.Proofs.Ytjlomjdghmjkmaa
