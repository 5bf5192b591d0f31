/- The reference's long division by doubling (long), as a contract of the call. Condition: numbers from 0 to 2^62, the divisor at least 1. -/
import Derived.Test.YtjlomjdghmjkmaaProg
import Derived.Test.YtjlomjdghmjkmaaRef
import Derived.WalkKit
import Derived.WalkSpells
import Derived.Lib.Hide
import Derived.Below
namespace Go.Proofs.Ytjlomjdghmjkmaa
open Go.RowKit

/-- what long gives of the product N and the divisor c -/
def LongOut (N c q r : Nat) : Prop := (q = N / c ∧ r = N % c ∧ q ≤ 4611686018427387905) ∨ (4611686018427387904 < N / c ∧ q = 4611686018427387905 ∧ r = 0)

def LongPost (N c : Nat) (w : World) (e : Ending) (w' : World) : Prop := ∃ q r : Nat, LongOut N c q r ∧ e = .returned (.tuple #[.int .i64 q, .int .i64 r]) ∧ w = w'

/-- what the loop keeps: of A the bits from j on are worked in -/
def LongAt (A b c a q r j : Nat) : Prop := ∃ H, A = H * 2 ^ j + a ∧ a < 2 ^ j ∧ H * b = q * c + r ∧ r < c ∧ q ≤ 4611686018427387905

/-- in the middle of a round: what is there is doubled -/
def LongMid (A b c a q r j : Nat) : Prop := ∃ H, A = H * (2 ^ j * 2) + a ∧ a < 2 ^ j * 2 ∧ 2 * H * b = q * c + r ∧ r < c ∧ q ≤ 4611686018427387905

theorem long_start (A b c : Nat) (hA : A ≤ 4611686018427387904) (hc : 0 < c) : LongAt A b c A 0 0 63 := ⟨0, by omega, by omega, by omega, hc, by omega⟩

theorem long_end {A b c a q r : Nat} (h : LongAt A b c a q r 0) : LongOut (A * b) c q r := by
  obtain ⟨H, h1, h2, h3, h4, h5⟩ := h
  have : A = H := by simp at h1 h2; omega
  subst this
  left
  rw [h3, Nat.add_comm, Nat.add_mul_div_right _ _ (by omega), Nat.div_eq_of_lt h4, Nat.add_mul_mod_self_right, Nat.mod_eq_of_lt h4]
  omega

theorem long_le {N c q r : Nat} (h : LongOut N c q r) : (q : Int) ≤ 4611686018427387905 := by
  rcases h with ⟨_, _, h⟩ | ⟨_, h, _⟩ <;> omega

theorem long_far {A b c a q r j : Nat} (h : LongAt A b c a q r (j + 1)) (hq : 2305843009213693952 < q) : LongOut (A * b) c 4611686018427387905 0 := by
  obtain ⟨H, h1, h2, h3, h4, _⟩ := h
  refine .inr ⟨?_, rfl, rfl⟩
  have hp := Nat.two_pow_pos j
  have k1 : H * 2 ≤ A := by
    rw [h1, Nat.pow_succ]
    have : H * 2 ≤ H * (2 ^ j * 2) := Nat.mul_le_mul_left _ (by omega)
    omega
  have k2 : H * 2 * b ≤ A * b := Nat.mul_le_mul_right _ k1
  have k3 : 2 * q * c ≤ A * b := by
    have e : H * 2 * b = 2 * (H * b) := by rw [Nat.mul_comm H 2, Nat.mul_assoc]
    have e2 : 2 * q * c = 2 * (q * c) := Nat.mul_assoc _ _ _
    omega
  have k4 : 2 * q ≤ A * b / c := by rw [Nat.le_div_iff_mul_le (by omega)]; exact k3
  omega

theorem long_mid0 {A b c a q r j : Nat} (h : LongAt A b c a q r (j + 1)) (hq : q ≤ 2305843009213693952) (hr : 2 * r < c) : LongMid A b c a (2 * q) (2 * r) j := by
  obtain ⟨H, h1, h2, h3, h4, _⟩ := h
  rw [Nat.pow_succ] at h1 h2
  refine ⟨H, h1, h2, ?_, hr, by omega⟩
  rw [Nat.mul_assoc, h3, Nat.mul_add, Nat.mul_assoc]

theorem long_mid1 {A b c a q r j : Nat} (h : LongAt A b c a q r (j + 1)) (hq : q ≤ 2305843009213693952) (hr : c ≤ 2 * r) : LongMid A b c a (2 * q + 1) (2 * r - c) j := by
  obtain ⟨H, h1, h2, h3, h4, _⟩ := h
  rw [Nat.pow_succ] at h1 h2
  refine ⟨H, h1, h2, ?_, by omega, by omega⟩
  rw [Nat.mul_assoc, h3, Nat.mul_add, Nat.add_mul, Nat.mul_assoc]
  omega

theorem long_stay {A b c a q r j : Nat} (h : LongMid A b c a q r j) (ha : a < 2 ^ j) : LongAt A b c a q r j := by
  obtain ⟨H, h1, h2, h3, h4, h5⟩ := h
  refine ⟨2 * H, ?_, ha, h3, h4, h5⟩
  rw [h1, Nat.mul_comm (2 ^ j) 2, ← Nat.mul_assoc, Nat.mul_comm H 2]

theorem long_next {A b c a q r j : Nat} (h : LongMid A b c a q r j) (ha : 2 ^ j ≤ a) : ∃ H, A = H * 2 ^ j + (a - 2 ^ j) ∧ a - 2 ^ j < 2 ^ j ∧ H * b = q * c + r + b ∧ r < c := by
  obtain ⟨H, h1, h2, h3, h4, h5⟩ := h
  refine ⟨2 * H + 1, ?_, by omega, by rw [Nat.add_mul, h3]; omega, h4⟩
  rw [h1, Nat.mul_comm (2 ^ j) 2, ← Nat.mul_assoc, Nat.mul_comm H 2, Nat.add_mul]
  omega

theorem long_out {A b c a q r j : Nat} (h : LongMid A b c a q r j) (ha : 2 ^ j ≤ a) (hq : 4611686018427387904 < q + b / c) : LongOut (A * b) c 4611686018427387905 0 := by
  obtain ⟨H, h1, h2, h3, h4⟩ := long_next h ha
  refine .inr ⟨?_, rfl, rfl⟩
  have hp := Nat.two_pow_pos j
  have k1 : H ≤ A := by
    rw [h1]
    have : H * 1 ≤ H * 2 ^ j := Nat.mul_le_mul_left _ hp
    omega
  have k2 : H * b ≤ A * b := Nat.mul_le_mul_right _ k1
  have k5 := Nat.div_mul_le_self b c
  have k4 : q + b / c ≤ A * b / c := by
    rw [Nat.le_div_iff_mul_le (by omega), Nat.add_mul]
    omega
  omega

theorem long_up0 {A b c a q r j : Nat} (h : LongMid A b c a q r j) (ha : 2 ^ j ≤ a) (hq : q + b / c ≤ 4611686018427387904) (hr : r + b % c < c) : LongAt A b c (a - 2 ^ j) (q + b / c) (r + b % c) j := by
  obtain ⟨H, h1, h2, h3, h4⟩ := long_next h ha
  refine ⟨H, h1, h2, ?_, hr, by omega⟩
  have := Nat.div_add_mod b c
  rw [Nat.mul_comm] at this
  rw [h3, Nat.add_mul]
  omega

theorem long_up1 {A b c a q r j : Nat} (h : LongMid A b c a q r j) (ha : 2 ^ j ≤ a) (hq : q + b / c ≤ 4611686018427387904) (hr : c ≤ r + b % c) : LongAt A b c (a - 2 ^ j) (q + b / c + 1) (r + b % c - c) j := by
  obtain ⟨H, h1, h2, h3, h4⟩ := long_next h ha
  have hm := Nat.mod_lt b (show 0 < c by omega)
  refine ⟨H, h1, h2, ?_, by omega, by omega⟩
  have := Nat.div_add_mod b c
  rw [Nat.mul_comm] at this
  rw [h3, Nat.add_mul, Nat.add_mul]
  omega

set_option maxHeartbeats 4000000 in
theorem long_any (A b c : Nat) (w : World) (hA : A ≤ 4611686018427387904) (hb : b ≤ 4611686018427387904) (hc : 0 < c) (hcb : c ≤ 4611686018427387904) :
    Calls Try.prog 37 #[.int .i64 A, .int .i64 b, .int .i64 c] w (LongPost (A * b) c w) := by
  have S := Lib.hid (long_start A b c hA hc)
  obtain ⟨d, hd⟩ : ∃ d : Nat, d = b / c := ⟨_, rfl⟩
  obtain ⟨m, hm⟩ : ∃ m : Nat, m = b % c := ⟨_, rfl⟩
  have rd : (b : Int) / (c : Int) = (d : Int) := by rw [hd]; exact (Int.natCast_ediv b c).symm
  have rm : (b : Int) % (c : Int) = (m : Int) := by rw [hm]; exact (Int.natCast_emod b c).symm
  have hdb : (d : Int) ≤ 4611686018427387904 := by have := Nat.div_le_self b c; omega
  have hmb : (m : Int) < (c : Int) := by have := Nat.mod_lt b hc; omega
  have Hd := Lib.hid hd
  have Hm := Lib.hid hm
  have hc1 : ¬ ((c : Int) = 0) := by omega
  have hb1 : (b : Int) ≤ 4611686018427387904 := by omega
  have hc2 : (c : Int) ≤ 4611686018427387904 := by omega
  have hc3 : (1 : Int) ≤ (c : Int) := by omega
  clear hd hm hA hb hc hcb
  go_enter Try.func37, Try.ntmps37
  go_wp2
  go_loop [0, 8, 9, 10] (fun x y z v => ∃ a q r u j : Nat, x = .int .i64 a ∧ y = .int .i64 q ∧ z = .int .i64 r ∧ v = .int .i64 u ∧ Hid (u = 2 ^ j / 2 ∧ j ≤ 63 ∧ LongAt A b c a q r j)) (fun _ _ _ v => (intOf v).toNat)
  case atStart => exact ⟨A, 0, 0, 4611686018427387904, 63, rfl, rfl, rfl, rfl, rfl, by omega, S.out⟩
  case round =>
    obtain ⟨a, q, r, u, j, rfl, rfl, rfl, rfl, hk⟩ := hrel
    clear S
    cases j with
    | zero =>
      have hu : u = 0 := by have := hk.out.1; simpa using this
      have hx := Lib.hid (long_end hk.out.2.2)
      clear hk
      subst hu
      go_wp2
      go_ret2
      exact ⟨q, r, hx.out, rfl, rfl⟩
    | succ j =>
      have hu : u = 2 ^ j := by have := hk.out.1; rw [Nat.pow_succ] at this; omega
      have hj : j ≤ 62 := by have := hk.out.2.1; omega
      have hup : 0 < u := by rw [hu]; exact Nat.two_pow_pos j
      have hub : (u : Int) ≤ 4611686018427387904 := by
        have : 2 ^ j ≤ 2 ^ 62 := Nat.pow_le_pow_right (by omega) hj
        omega
      have hup1 : ¬ ((u : Int) ≤ 0) := by omega
      have HL := Lib.hid hk.out.2.2
      have Hu := Lib.hid hu
      have hab : (a : Int) < 2 * (u : Int) := by
        obtain ⟨_, _, k2, _⟩ := HL.out
        rw [Nat.pow_succ, ← hu] at k2; omega
      have hrb : (r : Int) < (c : Int) := by obtain ⟨_, _, _, _, k2, _⟩ := HL.out; omega
      have hqb : (q : Int) ≤ 4611686018427387905 := by obtain ⟨_, _, _, _, _, k2⟩ := HL.out; omega
      have HJ := Lib.hid (show j ≤ 63 by omega)
      clear hk hu hj
      by_cases hq : (2305843009213693952 : Int) < q
      · have hx := Lib.hid (long_far HL.out (by omega))
        go_wp2
        go_ret2
        exact ⟨_, _, hx.out, rfl, rfl⟩
      · by_cases hr : (c : Int) ≤ 2 * (r : Int)
        · have M := Lib.hid (long_mid1 HL.out (by omega) (by omega))
          by_cases ha : (a : Int) < (u : Int)
          · have N := Lib.hid (long_stay M.out (by rw [← Hu.out]; omega))
            go_wp2
            go_round
            case rel => exact ⟨a, (2 * q + 1), (2 * r - c), u / 2, j, rfl, by congr 1, by congr 1 <;> omega, by congr 1, ⟨by rw [Hu.out], HJ.out, N.out⟩⟩
            case measure => simp [intOf]; omega
          · have ha2 : 2 ^ j ≤ a := by rw [← Hu.out]; omega
            by_cases ho : (4611686018427387904 : Int) - (2 * (q : Int) + 1) < (d : Int)
            · have X := Lib.hid (long_out M.out ha2 (by rw [← Hd.out]; omega))
              clear ha2
              go_wp2
              go_ret2
              exact ⟨_, _, X.out, rfl, rfl⟩
            · by_cases hs : (c : Int) ≤ 2 * (r : Int) - (c : Int) + (m : Int)
              · have N := Lib.hid (long_up1 M.out ha2 (by rw [← Hd.out]; omega) (by rw [← Hm.out]; omega))
                clear ha2
                go_wp2
                go_round
                case rel => exact ⟨a - u, (2 * q + 1) + d + 1, (2 * r - c) + m - c, u / 2, j, by congr 1; omega, by congr 1, by congr 1 <;> omega, by congr 1, ⟨by rw [Hu.out], HJ.out, by rw [Hu.out, Hd.out, Hm.out]; exact N.out⟩⟩
                case measure => simp [intOf]; omega
              · have N := Lib.hid (long_up0 M.out ha2 (by rw [← Hd.out]; omega) (by rw [← Hm.out]; omega))
                clear ha2
                go_wp2
                go_round
                case rel => exact ⟨a - u, (2 * q + 1) + d, (2 * r - c) + m, u / 2, j, by congr 1; omega, by congr 1, by congr 1 <;> omega, by congr 1, ⟨by rw [Hu.out], HJ.out, by rw [Hu.out, Hd.out, Hm.out]; exact N.out⟩⟩
                case measure => simp [intOf]; omega
        · have M := Lib.hid (long_mid0 HL.out (by omega) (by omega))
          by_cases ha : (a : Int) < (u : Int)
          · have N := Lib.hid (long_stay M.out (by rw [← Hu.out]; omega))
            go_wp2
            go_round
            case rel => exact ⟨a, (2 * q), (2 * r), u / 2, j, rfl, by congr 1, by congr 1 <;> omega, by congr 1, ⟨by rw [Hu.out], HJ.out, N.out⟩⟩
            case measure => simp [intOf]; omega
          · have ha2 : 2 ^ j ≤ a := by rw [← Hu.out]; omega
            by_cases ho : (4611686018427387904 : Int) - (2 * (q : Int)) < (d : Int)
            · have X := Lib.hid (long_out M.out ha2 (by rw [← Hd.out]; omega))
              clear ha2
              go_wp2
              go_ret2
              exact ⟨_, _, X.out, rfl, rfl⟩
            · by_cases hs : (c : Int) ≤ 2 * (r : Int) + (m : Int)
              · have N := Lib.hid (long_up1 M.out ha2 (by rw [← Hd.out]; omega) (by rw [← Hm.out]; omega))
                clear ha2
                go_wp2
                go_round
                case rel => exact ⟨a - u, (2 * q) + d + 1, (2 * r) + m - c, u / 2, j, by congr 1; omega, by congr 1, by congr 1 <;> omega, by congr 1, ⟨by rw [Hu.out], HJ.out, by rw [Hu.out, Hd.out, Hm.out]; exact N.out⟩⟩
                case measure => simp [intOf]; omega
              · have N := Lib.hid (long_up0 M.out ha2 (by rw [← Hd.out]; omega) (by rw [← Hm.out]; omega))
                clear ha2
                go_wp2
                go_round
                case rel => exact ⟨a - u, (2 * q) + d, (2 * r) + m, u / 2, j, by congr 1; omega, by congr 1, by congr 1 <;> omega, by congr 1, ⟨by rw [Hu.out], HJ.out, by rw [Hu.out, Hd.out, Hm.out]; exact N.out⟩⟩
                case measure => simp [intOf]; omega

end Go.Proofs.Ytjlomjdghmjkmaa
