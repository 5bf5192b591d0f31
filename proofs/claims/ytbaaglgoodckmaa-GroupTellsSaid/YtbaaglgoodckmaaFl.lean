/- Floats that stand for whole numbers of at most 53 digits: sums, differences, products, orders and the way back are exact. No program. -/
import Derived.Laws.ComplexArith
namespace Go.Proofs.Ytbaaglgoodckmaa
open Ieee
set_option linter.unusedVariables false
set_option linter.unusedSimpArgs false

theorem pow_ne {k : Nat} (h : k ≠ 0) (p : Nat) : k * 2 ^ p ≠ 0 := Nat.mul_ne_zero h (Nat.ne_of_gt (Nat.two_pow_pos p))
theorem log2_shift {k : Nat} (h : k ≠ 0) (p : Nat) : (k * 2 ^ p).log2 = k.log2 + p := by
  induction p with
  | zero => simp
  | succ p ih =>
    have e : k * 2 ^ (p + 1) = 2 * (k * 2 ^ p) := by rw [Nat.pow_succ, ← Nat.mul_assoc, Nat.mul_comm]
    rw [e, Nat.log2_two_mul (pow_ne h p), ih]
    omega
theorem log2_53 {k : Nat} (h : k ≠ 0) (h1 : k < 9007199254740992) : k.log2 ≤ 52 := by
  have : k.log2 < 53 := (Nat.log2_lt h).2 h1
  omega
/-- a datum stands for the whole number n -/
def Rd (d : Datum) (n : Int) : Prop := ∃ s m i, d = .number s m i ∧ i ≤ 0 ∧ m = n.natAbs * 2 ^ (-i).toNat ∧ (n ≠ 0 → s = decide (n < 0))
theorem rd_signed {s : Bool} {m : Nat} {n : Int} {i : Int} (hm : m = n.natAbs * 2 ^ (-i).toNat) (hs : n ≠ 0 → s = decide (n < 0)) {b : Int} (hb : b ≤ i) (hi : i ≤ 0) : signed s m (i - b).toNat = n * 2 ^ (-b).toNat := by
  have e : m <<< (i - b).toNat = n.natAbs * 2 ^ (-b).toNat := by
    rw [Nat.shiftLeft_eq, hm, Nat.mul_assoc, ← Nat.pow_add, show (-i).toNat + (i - b).toNat = (-b).toNat by omega]
  unfold signed
  rw [e]
  by_cases h0 : n = 0
  · subst h0; simp
  · rw [hs h0]
    by_cases h1 : n < 0
    · rw [decide_eq_true h1, if_pos rfl]
      have : (n.natAbs : Int) = -n := by omega
      rw [Int.natCast_mul, this, Int.neg_mul, Int.neg_neg]; simp
    · rw [decide_eq_false h1, if_neg (by simp)]
      have : (n.natAbs : Int) = n := by omega
      rw [Int.natCast_mul, this]; simp
theorem pow_pos' (p : Nat) : (0 : Int) < 2 ^ p := Int.pow_pos (by omega)
theorem rd_mul_pow (n : Int) (p : Nat) : (n * 2 ^ p = 0 ↔ n = 0) ∧ (n * 2 ^ p < 0 ↔ n < 0) ∧ (n * 2 ^ p).natAbs = n.natAbs * 2 ^ p := by
  have hp := pow_pos' p
  refine ⟨⟨fun h => (Int.mul_eq_zero.1 h).resolve_right (by omega), fun h => by rw [h, Int.zero_mul]⟩, ⟨fun h => ?_, fun h => Int.mul_neg_of_neg_of_pos h hp⟩, ?_⟩
  · by_cases g : 0 ≤ n
    · have := Int.mul_nonneg g (Int.le_of_lt hp); omega
    · omega
  · rw [Int.natAbs_mul, Int.natAbs_pow]; rfl
theorem rd_sum {d e : Datum} {m n : Int} (hd : Rd d m) (he : Rd e n) : ∃ r, d.sum e = some r ∧ Rd r (m + n) := by
  obtain ⟨s, a, i, rfl, hi, ha, hs⟩ := hd
  obtain ⟨t, b, j, rfl, hj, hb, ht⟩ := he
  refine ⟨_, rfl, _, _, _, rfl, by omega, ?_, ?_⟩
  · rw [rd_signed ha hs (by omega) hi, rd_signed hb ht (by omega) hj, ← Int.add_mul, (rd_mul_pow _ _).2.2]
  · intro h
    rw [rd_signed ha hs (by omega) hi, rd_signed hb ht (by omega) hj, ← Int.add_mul, if_neg (fun g => h ((rd_mul_pow _ _).1.1 g))]
    exact decide_eq_decide.2 (rd_mul_pow _ _).2.1
theorem rd_opp {d : Datum} {n : Int} (h : Rd d n) : Rd d.opposite (-n) := by
  obtain ⟨s, a, i, rfl, hi, ha, hs⟩ := h
  refine ⟨!s, a, i, rfl, hi, by rw [Int.natAbs_neg]; exact ha, fun h => ?_⟩
  rw [hs (by omega)]
  by_cases g : n < 0
  · rw [decide_eq_true g, decide_eq_false (by omega)]; rfl
  · rw [decide_eq_false g, decide_eq_true (by omega)]; rfl
theorem rd_product {d e : Datum} {m n : Int} (hd : Rd d m) (he : Rd e n) : ∃ r, d.product e = some r ∧ Rd r (m * n) := by
  obtain ⟨s, a, i, rfl, hi, ha, hs⟩ := hd
  obtain ⟨t, b, j, rfl, hj, hb, ht⟩ := he
  refine ⟨_, rfl, _, _, _, rfl, by omega, ?_, fun h => ?_⟩
  · rw [ha, hb, Int.natAbs_mul, show (-(i + j)).toNat = (-i).toNat + (-j).toNat by omega, Nat.pow_add]
    rw [Nat.mul_assoc, Nat.mul_assoc, Nat.mul_left_comm (2 ^ (-i).toNat)]
  · have h1 : m ≠ 0 := fun g => h (by rw [g, Int.zero_mul])
    have h2 : n ≠ 0 := fun g => h (by rw [g, Int.mul_zero])
    rw [hs h1, ht h2]
    by_cases g1 : m < 0 <;> by_cases g2 : n < 0
    · rw [decide_eq_true g1, decide_eq_true g2, decide_eq_false (by have := Int.mul_pos_of_neg_of_neg g1 g2; omega)]; rfl
    · rw [decide_eq_true g1, decide_eq_false g2, decide_eq_true (Int.mul_neg_of_neg_of_pos g1 (by omega))]; rfl
    · rw [decide_eq_false g1, decide_eq_true g2, decide_eq_true (Int.mul_neg_of_pos_of_neg (by omega) g2)]; rfl
    · rw [decide_eq_false g1, decide_eq_false g2, decide_eq_false (by have := Int.mul_pos (by omega : 0 < m) (by omega : 0 < n); omega)]; rfl
theorem rd_order {d e : Datum} {m n : Int} (hd : Rd d m) (he : Rd e n) : d.order e = some (compare m n) := by
  obtain ⟨s, a, i, rfl, hi, ha, hs⟩ := hd
  obtain ⟨t, b, j, rfl, hj, hb, ht⟩ := he
  show some (compare (signed s a (i - min i j).toNat) (signed t b (j - min i j).toNat)) = _
  rw [rd_signed ha hs (by omega) hi, rd_signed hb ht (by omega) hj]
  have hp := pow_pos' (-min i j).toNat
  congr 1
  rcases Int.lt_trichotomy m n with h | h | h
  · rw [Int.compare_eq_lt.2 h, Int.compare_eq_lt.2 (Int.mul_lt_mul_of_pos_right h hp)]
  · rw [h]; simp
  · rw [Int.compare_eq_gt.2 h, Int.compare_eq_gt.2 (Int.mul_lt_mul_of_pos_right h hp)]
/-- what a number of at most 53 digits is written as -/
theorem cut_even_zero (neg : Bool) (n : Nat) : Toward.even.cut neg n 0 = n := by
  simp [Toward.cut, Nat.mod_one]
theorem cut_exact (way : Toward) (neg : Bool) (k d : Nat) (hk : k ≠ 0) : way.cut neg (k * 2 ^ d) d = k := by
  have hm : min d ((k * 2 ^ d).log2 + 2) = d := by rw [log2_shift hk]; omega
  unfold Toward.cut
  simp only [hm]
  have hg : 1 <<< d = 2 ^ d := by rw [Nat.shiftLeft_eq, Nat.one_mul]
  rw [hg, Nat.mul_div_cancel _ (Nat.two_pow_pos d), Nat.mul_mod_left]
  have := Nat.two_pow_pos d
  have h1 : (2 ^ d == 0) = false := by simp
  cases way <;> simp [h1]
theorem nearest_exact (neg : Bool) (k : Nat) (p : Int) (hp : p ≤ 0) (hk : k ≠ 0) (h : k < 9007199254740992) :
    double.nearest neg (k * 2 ^ (-p).toNat) p = double.word neg ((k.log2 + 1022) * 4503599627370496 + k * 2 ^ (52 - k.log2)) := by
  have hL : double.leastPlace = -1074 := by decide
  have hF : double.fractionBits = 52 := rfl
  have hB : double.binade = 4503599627370496 := by decide
  have hI : double.infRung = 2047 * 4503599627370496 := by decide
  have g0 := log2_53 hk h
  have hm : k * 2 ^ (-p).toNat ≠ 0 := pow_ne hk _
  have hlast : max (p + ((k * 2 ^ (-p).toNat).log2 : Nat) - (double.fractionBits : Int)) double.leastPlace = (k.log2 : Int) - 52 := by
    rw [log2_shift hk, hL, hF]; omega
  unfold Format.nearest
  rw [if_neg hm]
  simp only [hlast]
  simp only [hL, hB, hI]
  have hkept : Toward.even.cut neg ((k * 2 ^ (-p).toNat) <<< (p - ((k.log2 : Int) - 52)).toNat) (((k.log2 : Int) - 52) - p).toNat = k * 2 ^ (52 - k.log2) := by
    by_cases hc : p ≤ (k.log2 : Int) - 52
    · rw [show (p - ((k.log2 : Int) - 52)).toNat = 0 by omega, Nat.shiftLeft_zero, show (-p).toNat = (52 - k.log2) + (((k.log2 : Int) - 52) - p).toNat by omega, Nat.pow_add, ← Nat.mul_assoc]
      exact cut_exact _ _ _ _ (pow_ne hk _)
    · rw [show (((k.log2 : Int) - 52) - p).toNat = 0 by omega, cut_even_zero, Nat.shiftLeft_eq, Nat.mul_assoc, ← Nat.pow_add, show (-p).toNat + (p - ((k.log2 : Int) - 52)).toNat = 52 - k.log2 by omega]
  rw [hkept, show ((k.log2 : Int) - 52 - -1074).toNat = k.log2 + 1022 by omega]
  have hK : k * 2 ^ (52 - k.log2) < 9007199254740992 := by
    have h1 : k < 2 ^ (k.log2 + 1) := Nat.lt_log2_self
    have h2 : k * 2 ^ (52 - k.log2) < 2 ^ (k.log2 + 1) * 2 ^ (52 - k.log2) := Nat.mul_lt_mul_of_pos_right h1 (Nat.two_pow_pos _)
    rw [← Nat.pow_add, show k.log2 + 1 + (52 - k.log2) = 53 by omega] at h2
    exact h2
  rw [Nat.min_eq_left (by omega)]
theorem read_exact (neg : Bool) (k : Nat) (hk : k ≠ 0) (h : k < 9007199254740992) :
    double.read (double.word neg ((k.log2 + 1022) * 4503599627370496 + k * 2 ^ (52 - k.log2))) = .number neg (k * 2 ^ (52 - k.log2)) ((k.log2 : Int) - 52) := by
  have g0 := log2_53 hk h
  have hK : k * 2 ^ (52 - k.log2) < 9007199254740992 := by
    have h1 : k < 2 ^ (k.log2 + 1) := Nat.lt_log2_self
    have h2 : k * 2 ^ (52 - k.log2) < 2 ^ (k.log2 + 1) * 2 ^ (52 - k.log2) := Nat.mul_lt_mul_of_pos_right h1 (Nat.two_pow_pos _)
    rw [← Nat.pow_add, show k.log2 + 1 + (52 - k.log2) = 53 by omega] at h2
    exact h2
  have hK2 : 4503599627370496 ≤ k * 2 ^ (52 - k.log2) := by
    have h1 : 2 ^ k.log2 ≤ k := Nat.log2_self_le hk
    have h2 : 2 ^ k.log2 * 2 ^ (52 - k.log2) ≤ k * 2 ^ (52 - k.log2) := Nat.mul_le_mul_right _ h1
    rw [← Nat.pow_add, show k.log2 + (52 - k.log2) = 52 by omega] at h2
    exact h2
  obtain ⟨K, hKe⟩ : ∃ K, k * 2 ^ (52 - k.log2) = K := ⟨_, rfl⟩
  obtain ⟨g, hge⟩ : ∃ g, k.log2 = g := ⟨_, rfl⟩
  rw [hKe] at hK hK2 ⊢
  rw [hge] at g0 ⊢
  have hL : double.leastPlace = -1074 := by decide
  have hB : double.binade = 4503599627370496 := by decide
  have hI : double.infRung = 2047 * 4503599627370496 := by decide
  have hS : double.signWeight = 2048 * 4503599627370496 := by decide
  have hmod : double.word neg ((g + 1022) * 4503599627370496 + K) % double.signWeight = (g + 1022) * 4503599627370496 + K := by
    rw [hS]; unfold Format.word; rw [hS]; cases neg <;> simp <;> omega
  have hdiv : (double.word neg ((g + 1022) * 4503599627370496 + K) / double.signWeight % 2 == 1) = neg := by
    rw [hS]; unfold Format.word; rw [hS]; cases neg <;> simp <;> omega
  unfold Format.read
  simp only [hmod, hdiv, hB, hI, hL]
  rw [if_neg (by omega), if_pos (by omega)]
  congr 1 <;> omega
theorem rd_write {d : Datum} {n : Int} (hd : Rd d n) (h : n.natAbs < 9007199254740992) : Rd (double.read (double.write d)) n := by
  obtain ⟨s, m, i, rfl, hi, hm, hs⟩ := hd
  by_cases h0 : n = 0
  · subst h0
    have h1 : m = 0 := by rw [hm]; simp
    rw [h1]
    have h2 : double.write (.number s 0 i) = double.word s 0 := rfl
    rw [h2]
    refine ⟨s, 0, -1074, ?_, by omega, by rw [Int.natAbs_zero, Nat.zero_mul], fun h => absurd rfl h⟩
    cases s <;> decide +kernel
  · rw [hm]
    show Rd (double.read (double.nearest s (n.natAbs * 2 ^ (-i).toNat) i)) n
    have hk : n.natAbs ≠ 0 := by omega
    have g0 := log2_53 hk h
    rw [nearest_exact s n.natAbs i hi hk h, read_exact s n.natAbs hk h]
    exact ⟨_, _, _, rfl, by omega, by rw [show (-((n.natAbs.log2 : Int) - 52)).toNat = 52 - n.natAbs.log2 by omega], hs⟩
theorem rd_toInt {d : Datum} {n : Int} (hd : Rd d n) : d.toInt .zero = some n := by
  obtain ⟨s, m, i, rfl, hi, hm, hs⟩ := hd
  have hc : Toward.zero.cut s (m <<< i.toNat) (-i).toNat = n.natAbs := by
    rw [show i.toNat = 0 by omega, Nat.shiftLeft_zero, hm]
    by_cases h0 : n = 0
    · subst h0; simp [Toward.cut]
    · exact cut_exact _ _ _ _ (by omega)
  have hg := rd_signed (s := s) (m := n.natAbs) (n := n) (i := 0) (by simp) hs (b := 0) (by omega) (by omega)
  simp only [Datum.toInt, Datum.integral, hc]
  simpa using hg
/-- a float's word stands for the whole number n -/
def Fl (b : Nat) (n : Int) : Prop := Rd (double.read b) n
theorem fl_int {n : Int} (h : n.natAbs < 9007199254740992) : Fl (floatOfInt .f64 n) n :=
  rd_write (d := .number (decide (n < 0)) n.natAbs 0) ⟨_, _, _, rfl, by omega, by simp, fun _ => rfl⟩ h
theorem fl_add {a b : Nat} {m n : Int} (ha : Fl a m) (hb : Fl b n) (h : (m + n).natAbs < 9007199254740992) : ∃ r, floatBits .add .f64 a b = some r ∧ Fl r (m + n) := by
  obtain ⟨r, hr, g⟩ := rd_sum ha hb
  exact ⟨_, show ((double.read a).sum (double.read b)).map double.write = some (double.write r) by rw [hr]; rfl, rd_write g h⟩
theorem fl_sub {a b : Nat} {m n : Int} (ha : Fl a m) (hb : Fl b n) (h : (m - n).natAbs < 9007199254740992) : ∃ r, floatBits .sub .f64 a b = some r ∧ Fl r (m - n) := by
  obtain ⟨r, hr, g⟩ := rd_sum ha (rd_opp hb)
  exact ⟨_, show ((double.read a).sum (double.read b).opposite).map double.write = some (double.write r) by rw [hr]; rfl, rd_write (by rw [Int.sub_eq_add_neg]; exact g) h⟩
theorem fl_mul {a b : Nat} {m n : Int} (ha : Fl a m) (hb : Fl b n) (h : (m * n).natAbs < 9007199254740992) : ∃ r, floatBits .mul .f64 a b = some r ∧ Fl r (m * n) := by
  obtain ⟨r, hr, g⟩ := rd_product ha hb
  exact ⟨_, show ((double.read a).product (double.read b)).map double.write = some (double.write r) by rw [hr]; rfl, rd_write g h⟩
theorem fl_order {a b : Nat} {m n : Int} (ha : Fl a m) (hb : Fl b n) : FloatKind.f64.format.order a b = some (compare m n) := rd_order ha hb
theorem fl_toInt {a : Nat} {n : Int} (ha : Fl a n) (h : IntKind.i64.min ≤ n ∧ n ≤ IntKind.i64.max) : floatToIntVal .f64 a .i64 = some n := by
  have e : (FloatKind.f64.decode a).toInt .zero = some n := rd_toInt ha
  unfold floatToIntVal
  rw [e]
  exact if_pos h
theorem fl_cmul {a b c d : Nat} {p q r s : Int} (ha : Fl a p) (hb : Fl b q) (hc : Fl c r) (hd : Fl d s) (h1 : (p * r).natAbs < 2251799813685248) (h2 : (q * s).natAbs < 2251799813685248) (h3 : (p * s).natAbs < 2251799813685248) (h4 : (q * r).natAbs < 2251799813685248) :
    ∃ x y, cMulBits a b c d = some (x, y) ∧ Fl x (p * r - q * s) ∧ Fl y (p * s + q * r) := by
  obtain ⟨ac, e1, f1⟩ := fl_mul ha hc (by omega)
  obtain ⟨bd, e2, f2⟩ := fl_mul hb hd (by omega)
  obtain ⟨ad, e3, f3⟩ := fl_mul ha hd (by omega)
  obtain ⟨bc, e4, f4⟩ := fl_mul hb hc (by omega)
  obtain ⟨x, e5, f5⟩ := fl_sub f1 f2 (by omega)
  obtain ⟨y, e6, f6⟩ := fl_add f3 f4 (by omega)
  exact ⟨x, y, by unfold cMulBits; simp [e1, e2, e3, e4, e5, e6], f5, f6⟩
theorem fl_cadd {a b c d : Nat} {p q r s : Int} (ha : Fl a p) (hb : Fl b q) (hc : Fl c r) (hd : Fl d s) (h1 : (p + r).natAbs < 9007199254740992) (h2 : (q + s).natAbs < 9007199254740992) : ∃ x y, cSumBits .add .f64 a b c d = some (x, y) ∧ Fl x (p + r) ∧ Fl y (q + s) := by
  obtain ⟨x, e1, f1⟩ := fl_add ha hc h1
  obtain ⟨y, e2, f2⟩ := fl_add hb hd h2
  exact ⟨x, y, by unfold cSumBits; simp [e1, e2], f1, f2⟩
theorem fl_csub {a b c d : Nat} {p q r s : Int} (ha : Fl a p) (hb : Fl b q) (hc : Fl c r) (hd : Fl d s) (h1 : (p - r).natAbs < 9007199254740992) (h2 : (q - s).natAbs < 9007199254740992) : ∃ x y, cSumBits .sub .f64 a b c d = some (x, y) ∧ Fl x (p - r) ∧ Fl y (q - s) := by
  obtain ⟨x, e1, f1⟩ := fl_sub ha hc h1
  obtain ⟨y, e2, f2⟩ := fl_sub hb hd h2
  exact ⟨x, y, by unfold cSumBits; simp [e1, e2], f1, f2⟩
end Go.Proofs.Ytbaaglgoodckmaa
