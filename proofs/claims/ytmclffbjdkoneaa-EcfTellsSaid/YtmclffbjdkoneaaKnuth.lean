/- Plain arithmetic: one digit of the schoolbook division of a number of two words by one, as math/bits.Div64 estimates and corrects it. No condition beside those that each theorem names. -/
namespace Go.Proofs.Ytmclffbjdkoneaa.KnuthDiv

/-- one digit of the schoolbook division: the estimate that passes the test is not too great -/
theorem test_le {Y yn1 yn0 u u1 q r : Nat} (hY : Y = yn1 * 4294967296 + yn0) (hu : q * yn1 + r = u) (ht : q * yn0 ≤ 4294967296 * r + u1) :
    q * Y ≤ u * 4294967296 + u1 := by
  subst hY
  rw [Nat.mul_add, ← Nat.mul_assoc, ← hu, Nat.add_mul]
  omega

theorem test_gt {Y yn1 yn0 u u1 q r : Nat} (hY : Y = yn1 * 4294967296 + yn0) (hu : q * yn1 + r = u) (ht : 4294967296 * r + u1 < q * yn0) :
    u * 4294967296 + u1 < q * Y := by
  subst hY
  rw [Nat.mul_add, ← Nat.mul_assoc, ← hu, Nat.add_mul]
  omega

/-- what the loop keeps: the estimate is one, and not too small -/
def Keeps (Y yn1 u u1 q r : Nat) : Prop := q * yn1 + r = u ∧ (u * 4294967296 + u1) / Y ≤ q

theorem quo_lt {Y u u1 : Nat} (hu : u < Y) (h1 : u1 < 4294967296) : (u * 4294967296 + u1) / Y < 4294967296 := by
  rw [Nat.div_lt_iff_lt_mul (by omega)]
  have : (u + 1) * 4294967296 ≤ Y * 4294967296 := Nat.mul_le_mul_right _ hu
  rw [Nat.mul_comm 4294967296 Y]
  omega

theorem start {Y yn1 yn0 u u1 : Nat} (hY : Y = yn1 * 4294967296 + yn0) (hn : 0 < yn1) (h1 : u1 < 4294967296) : Keeps Y yn1 u u1 (u / yn1) (u % yn1) := by
  refine ⟨by rw [Nat.mul_comm]; exact Nat.div_add_mod u yn1, ?_⟩
  have hYp : 0 < Y := by omega
  rw [Nat.le_div_iff_mul_le hn]
  have h : (u * 4294967296 + u1) / Y * Y ≤ u * 4294967296 + u1 := Nat.div_mul_le_self _ _
  subst hY
  generalize (u * 4294967296 + u1) / (yn1 * 4294967296 + yn0) = k at *
  rw [Nat.mul_add, ← Nat.mul_assoc] at h
  generalize k * yn1 = m at *
  omega

/-- a round: the estimate was too great -/
theorem round_big {Y yn1 u u1 q r : Nat} (hk : Keeps Y yn1 u u1 q r) (hu : u < Y) (h1 : u1 < 4294967296) (hq : 4294967296 ≤ q) :
    Keeps Y yn1 u u1 (q - 1) (r + yn1) := by
  obtain ⟨a, b⟩ := hk
  have hl := quo_lt hu h1
  obtain ⟨q', rfl⟩ : ∃ q', q = q' + 1 := ⟨q - 1, by omega⟩
  refine ⟨?_, by simp only [Nat.add_sub_cancel]; omega⟩
  rw [Nat.add_mul] at a
  simp only [Nat.add_sub_cancel]
  omega

theorem round_gt {Y yn1 yn0 u u1 q r : Nat} (hY : Y = yn1 * 4294967296 + yn0) (hk : Keeps Y yn1 u u1 q r) (hu : u < Y) (ht : 4294967296 * r + u1 < q * yn0) :
    Keeps Y yn1 u u1 (q - 1) (r + yn1) := by
  obtain ⟨a, b⟩ := hk
  have hl : (u * 4294967296 + u1) / Y < q := by
    rw [Nat.div_lt_iff_lt_mul (by omega)]
    exact test_gt hY a ht
  have hq0 : 0 < q := Nat.zero_lt_of_lt hl
  obtain ⟨q', rfl⟩ : ∃ q', q = q' + 1 := ⟨q - 1, by omega⟩
  refine ⟨?_, Nat.le_sub_one_of_lt hl⟩
  rw [Nat.add_mul] at a
  simp only [Nat.add_sub_cancel]
  omega

/-- the loop ends as the test fails -/
theorem end_test {Y yn1 yn0 u u1 q r : Nat} (hY : Y = yn1 * 4294967296 + yn0) (hk : Keeps Y yn1 u u1 q r) (hu : u < Y) (ht : q * yn0 ≤ 4294967296 * r + u1) :
    q = (u * 4294967296 + u1) / Y := by
  obtain ⟨a, b⟩ := hk
  have h : q ≤ (u * 4294967296 + u1) / Y := by
    rw [Nat.le_div_iff_mul_le (by omega)]
    exact test_le hY a ht
  omega

/-- or as the rest is great -/
theorem end_rest {Y yn1 yn0 u u1 q r : Nat} (hY : Y = yn1 * 4294967296 + yn0) (h0 : yn0 < 4294967296) (hk : Keeps Y yn1 u u1 q r) (hu : u < Y) (hq : q ≤ 4294967296) (hr : 4294967296 ≤ r) :
    q = (u * 4294967296 + u1) / Y := by
  refine end_test hY hk hu ?_
  have : q * yn0 ≤ 4294967296 * yn0 := Nat.mul_le_mul_right _ hq
  omega

/-- how great the first estimate is -/
theorem first_le {Y yn1 yn0 u : Nat} (hY : Y = yn1 * 4294967296 + yn0) (h0 : yn0 < 4294967296) (hn : 2147483648 ≤ yn1) (hu : u < Y) : u / yn1 ≤ 4294967297 := by
  have : u / yn1 < 4294967298 := by
    rw [Nat.div_lt_iff_lt_mul (by omega)]
    omega
  omega

/-- both digits: the quotient and what is left -/
theorem whole {N y S Y u32 u1 u0 q1 q0 u21 B : Nat} (hy : 0 < y) (hs : 0 < S) (hY : Y = y * S) (hN : N * S = (u32 * B + u1) * B + u0)
    (h1 : q1 = (u32 * B + u1) / Y) (h21 : u21 = (u32 * B + u1) - q1 * Y) (h0 : q0 = (u21 * B + u0) / Y) :
    N / y = q1 * B + q0 ∧ (u21 * B + u0 - q0 * Y) / S = N % y := by
  have hYp : 0 < Y := by rw [hY]; exact Nat.mul_pos hy hs
  have a1 : (u32 * B + u1) = q1 * Y + u21 := by
    have : q1 * Y ≤ u32 * B + u1 := by rw [h1]; exact Nat.div_mul_le_self _ _
    omega
  have a0 : (u21 * B + u0) = q0 * Y + (u21 * B + u0) % Y := by
    have := Nat.div_add_mod (u21 * B + u0) Y
    rw [← h0, Nat.mul_comm] at this
    exact this.symm
  have hlt : (u21 * B + u0) % Y < Y := Nat.mod_lt _ hYp
  have hsub : u21 * B + u0 - q0 * Y = (u21 * B + u0) % Y := by omega
  rw [hsub]
  generalize (u21 * B + u0) % Y = r at *
  have hN2 : N * S = (q1 * B + q0) * Y + r := by
    rw [hN, a1, Nat.add_mul (q1 * B) q0 Y, Nat.mul_right_comm q1 B Y, Nat.add_mul (q1 * Y) u21 B]
    omega
  generalize q1 * B + q0 = Q at *
  rw [hY, ← Nat.mul_assoc] at hN2
  have hN3 : N = Q * y + r / S := by
    have h : N * S / S = (Q * y * S + r) / S := by rw [hN2]
    rw [Nat.mul_div_cancel _ hs, Nat.add_comm, Nat.add_mul_div_right _ _ hs] at h
    omega
  have hr : r / S < y := by
    rw [Nat.div_lt_iff_lt_mul hs, ← hY]; exact hlt
  constructor
  · rw [hN3, Nat.add_comm, Nat.add_mul_div_right _ _ hy, Nat.div_eq_of_lt hr]; omega
  · rw [hN3, Nat.add_comm, Nat.add_mul_mod_self_right, Nat.mod_eq_of_lt hr]

end Go.Proofs.Ytmclffbjdkoneaa.KnuthDiv
