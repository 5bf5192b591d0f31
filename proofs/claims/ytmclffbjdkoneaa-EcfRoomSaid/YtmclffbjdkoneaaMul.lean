/- Package fix: MulDiv, Mul and Div, as contracts of the calls: every number. -/
import Derived.Test.YtmclffbjdkoneaaProg
import Derived.Test.YtmclffbjdkoneaaFix
import Derived.WalkKit
import Derived.WalkSpells
import Derived.Deep.QuietTactic
import Derived.BigQuiet
import Derived.Lib.Hide
import Derived.WalkSmall
import Derived.Outline
namespace Go.Proofs.Ytmclffbjdkoneaa
open Go.RowKit

/-- a word of two: its halves -/
theorem halves (N : Nat) : N / 18446744073709551616 * 18446744073709551616 + N % 18446744073709551616 = N := by omega

theorem neg_ediv (N c : Nat) (hc : 0 < c) : (-(N : Int)) / (c : Int) = -(((N / c + (if 0 < N % c then 1 else 0) : Nat)) : Int) := by
  have h1 := Nat.div_add_mod N c
  have h2 := Nat.mod_lt N hc
  generalize hq : N / c = q at *
  generalize hr : N % c = r at *
  have e : (N : Int) = (c : Int) * q + r := by exact_mod_cast h1.symm
  by_cases h : 0 < r
  · rw [if_pos h, e]
    have : -((c : Int) * q + r) = ((c : Int) - r) + c * (-(q : Int) - 1) := by rw [Int.mul_sub, Int.mul_neg]; omega
    rw [this, Int.add_mul_ediv_left _ _ (by omega), Int.ediv_eq_zero_of_lt (by omega) (by omega)]
    omega
  · have hr0 : r = 0 := by omega
    subst hr0
    rw [if_neg h, e]
    have : -((c : Int) * q + ((0 : Nat) : Int)) = 0 + c * (-(q : Int)) := by rw [Int.mul_neg]; omega
    rw [this, Int.add_mul_ediv_left _ _ (by omega)]
    simp

/-- whether a product by a number is too great for a word -/
def bigB (a b c : Int) : Bool := decide (4611686018427387904 < a.natAbs * b.natAbs / c.toNat)

def mdFnOk (a b c : Int) : Bool := decide (1 ≤ c) && !bigB a b c
def mdFnR (a b c : Int) : Int := if mdFnOk a b c then a * b / c else 0

theorem mul_sign (a b : Int) : a * b = if (!(decide (a < 0) == decide (b < 0))) = true then -((a.natAbs * b.natAbs : Nat) : Int) else ((a.natAbs * b.natAbs : Nat) : Int) := by
  rw [Int.natCast_mul]
  by_cases ha : a < 0
  · by_cases hb : b < 0
    · have e1 : (a.natAbs : Int) = -a := by omega
      have e2 : (b.natAbs : Int) = -b := by omega
      simp [ha, hb, e1, e2, Int.neg_mul, Int.mul_neg]
    · have e1 : (a.natAbs : Int) = -a := by omega
      have e2 : (b.natAbs : Int) = b := by omega
      simp [ha, hb, e1, e2, Int.neg_mul]
  · by_cases hb : b < 0
    · have e1 : (a.natAbs : Int) = a := by omega
      have e2 : (b.natAbs : Int) = -b := by omega
      simp [ha, hb, e1, e2, Int.mul_neg]
    · have e1 : (a.natAbs : Int) = a := by omega
      have e2 : (b.natAbs : Int) = b := by omega
      simp [ha, hb, e1, e2]

theorem abs_mul_lt (a b : Int) (ha : inB a = true) (hb : inB b = true) : a.natAbs * b.natAbs ≤ 4611686018427387904 * 4611686018427387904 := by
  rw [inB_iff] at ha hb
  exact Nat.mul_le_mul (by omega) (by omega)

/-- the closure of MulDiv, of a divisor that is 0 or less -/
theorem md_fn_low (p q r : Addr) (a b c : Int) (w : World) (hc : w.cell? p = some (.int .i64 c)) (h : c < 1) :
    Calls Try.prog 28 #[.pointer (some p), .pointer (some q), .pointer (some r)] w fun e w' => e = .returned (.tuple #[.int .i64 (mdFnR a b c), .bool (mdFnOk a b c)]) ∧ Below w.heap.size w w' := by
  have e : mdFnOk a b c = false := by simp [mdFnOk]; omega
  have e2 : mdFnR a b c = 0 := by simp [mdFnR, e]
  rw [e, e2]; clear e e2
  go_enter Try.func28, Try.ntmps28
  go_wp2
  go_ret2
  exact ⟨rfl, Below.refl _ _⟩

/-- quotient, whatever comes -/
theorem quo_any (hi lo c : Nat) (neg : Bool) (w : World) (hc : 0 < c) (hl : lo < 18446744073709551616) (hcb : c < 18446744073709551616) :
    Calls Try.prog 31 #[.int .u64 hi, .int .u64 lo, .int .u64 c, .bool neg] w fun e w' => e = .returned (.tuple #[.int .i64 (quoR (hi * 18446744073709551616 + lo) c neg).1, .bool (quoR (hi * 18446744073709551616 + lo) c neg).2]) ∧ Below w.heap.size w w' := by
  by_cases h : 4611686018427387904 < (hi * 18446744073709551616 + lo) / c
  · simp only [quoR, if_pos h]
    exact quo_big hi lo c neg w hl hcb h
  · simp only [quoR, if_neg h]
    cases neg
    · exact quo_pos hi lo c w hc hl hcb (by omega)
    · exact quo_neg hi lo c w hc hl hcb (by omega)

theorem quo_is (a b c : Int) (h1 : 1 ≤ c) : quoR (a.natAbs * b.natAbs) c.toNat (!(decide (a < 0) == decide (b < 0))) = (mdFnR a b c, mdFnOk a b c) := by
  have hs := mul_sign a b
  have hok : mdFnOk a b c = !bigB a b c := by simp [mdFnOk, h1]
  obtain ⟨n, rfl⟩ : ∃ n : Nat, c = n := ⟨c.toNat, by omega⟩
  have hc0 : 0 < n := by omega
  rw [Int.toNat_natCast]
  unfold quoR
  by_cases h : 4611686018427387904 < a.natAbs * b.natAbs / n
  · have e : mdFnOk a b n = false := by rw [hok]; simp [bigB, h]
    rw [if_pos h]; simp [mdFnR, e]
  · have e : mdFnOk a b n = true := by rw [hok]; simp only [bigB, Int.toNat_natCast, decide_eq_false h]; rfl
    rw [if_neg h]
    simp only [mdFnR, e, if_true]
    generalize (!(decide (a < 0) == decide (b < 0))) = neg at *
    cases neg
    · simp only [Bool.false_eq_true, if_false] at hs ⊢
      rw [hs, ← Int.natCast_ediv]
    · simp only [if_true] at hs ⊢
      rw [hs, neg_ediv _ _ hc0]

set_option maxHeartbeats 1000000 in
theorem md_fn_high (p q r : Addr) (a b c : Int) (w : World) (hc : w.cell? p = some (.int .i64 c)) (ha : w.cell? q = some (.int .i64 a)) (hb : w.cell? r = some (.int .i64 b))
    (h : 1 ≤ c) (hcb : c ≤ 4611686018427387904) (ha1 : -4611686018427387904 ≤ a) (ha2 : a ≤ 4611686018427387904) (hb1 : -4611686018427387904 ≤ b) (hb2 : b ≤ 4611686018427387904) :
    Calls Try.prog 28 #[.pointer (some p), .pointer (some q), .pointer (some r)] w fun e w' => e = .returned (.tuple #[.int .i64 (mdFnR a b c), .bool (mdFnOk a b c)]) ∧ Below w.heap.size w w' := by
  have hq := quo_is a b c h
  have hN := abs_mul_lt a b (by rw [inB_iff]; omega) (by rw [inB_iff]; omega)
  have hlt : a.natAbs < 18446744073709551616 := by omega
  have hltb : b.natAbs < 18446744073709551616 := by omega
  have hm := Try.bits_Mul64 a.natAbs b.natAbs hlt hltb
  have hqc := fun w => quo_any (a.natAbs * b.natAbs / 18446744073709551616) (a.natAbs * b.natAbs % 18446744073709551616) c.toNat (!(decide (a < 0) == decide (b < 0))) w (by omega) (by omega) (by omega)
  rw [halves, hq] at hqc
  generalize hhi : a.natAbs * b.natAbs / 18446744073709551616 = hi at *
  generalize hlo : a.natAbs * b.natAbs % 18446744073709551616 = lo at *
  have hcc : ((c.toNat : Nat) : Int) = c := by omega
  rw [hcc] at hqc
  clear hq hN hhi hlo hcc
  have Hm := Lib.hid hm; clear hm
  have Hq := Lib.hid hqc; clear hqc
  have hn : ¬ c < 1 := by omega
  go_enter Try.func28, Try.ntmps28
  go_wp2
  go_quiet ((first | (go_at_call 30; exact Calls.quiet_of_same ((mag_any _ _ (by assumption) (by assumption)).mono fun _ _ h => ⟨h.1, h.2.symm⟩)) | (go_at_call 29; exact Calls.quiet_of_same (Hm.out _))))
  go_wp2_with (go_at_call 31; refine (Hq.out _).mono ?_; rintro e w' ⟨rfl, hbw⟩)
  go_ret2
  exact ⟨rfl, (below_drewN (Below.refl _ _) _).trans (hbw.mono (Nat.le_refl _))⟩

def mdOk (a b c : Int) : Bool := inB a && inB b && inB c && decide (1 ≤ c) && inB (a * b / c)

theorem big_out (a b c : Int) (h1 : 1 ≤ c) (h : bigB a b c = true) : inB (a * b / c) = false := by
  have hs := mul_sign a b
  obtain ⟨n, rfl⟩ : ∃ n : Nat, c = n := ⟨c.toNat, by omega⟩
  have hc0 : 0 < n := by omega
  simp only [bigB, Int.toNat_natCast, decide_eq_true_eq] at h
  rw [inB_not]
  generalize (!(decide (a < 0) == decide (b < 0))) = neg at *
  cases neg
  · simp only [Bool.false_eq_true, if_false] at hs
    rw [hs, ← Int.natCast_ediv]
    omega
  · simp only [if_true] at hs
    rw [hs, neg_ediv _ _ hc0]
    omega

theorem md_eq (a b c : Int) : okAll [a, b, c] (mdFnR a b c) (mdFnOk a b c) = mdOk a b c ∧ tell (mdFnR a b c) (mdOk a b c) = tell (a * b / c) (mdOk a b c) := by
  by_cases h1 : 1 ≤ c
  · by_cases h : bigB a b c = true
    · have h2 := big_out a b c h1 h
      have e : mdOk a b c = false := by simp [mdOk, h2]
      have e2 : mdFnOk a b c = false := by simp [mdFnOk, h]
      simp [okAll, e, e2, tell]
    · have e2 : mdFnOk a b c = true := by simp [mdFnOk, h, h1]
      have e3 : mdFnR a b c = a * b / c := by simp [mdFnR, e2]
      simp [okAll, mdOk, e2, e3, h1, Bool.and_assoc]
  · have e : mdOk a b c = false := by simp [mdOk, h1]
    have e2 : mdFnOk a b c = false := by simp [mdFnOk, h1]
    simp [okAll, e, e2, tell]

set_option maxHeartbeats 1000000 in
theorem md_any (a b c : Int) (w : World) :
    Calls Try.prog 26 #[.int .i64 a, .int .i64 b, .int .i64 c] w fun e w' => e = .returned (.tuple #[.int .i64 (tell (a * b / c) (mdOk a b c)), .bool (mdOk a b c)]) ∧ Below w.heap.size w w' := by
  obtain ⟨e1, e2⟩ := md_eq a b c
  rw [← e2, ← e1]; clear e1 e2
  go_enter Try.func26, Try.ntmps26
  go_wp2_with fail
  refine (checked_any 3 28 ent_mul _ _ [a, b, c] (mdFnR a b c) (mdFnOk a b c) _ rfl (by simp) ?_ ?_).mono ?_
  · exact row3 a b c _ _ _ (by simp)
  · intro hall
    have ha := (inB_iff _).1 (hall a (by simp))
    have hb := (inB_iff _).1 (hall b (by simp))
    have hc := (inB_iff _).1 (hall c (by simp))
    by_cases h : 1 ≤ c
    · refine md_fn_high _ _ _ a b c _ ?_ ?_ ?_ h hc.2 ha.1 ha.2 hb.1 hb.2
      · go_simp
      · go_simp
      · go_simp
    · refine md_fn_low _ _ _ a b c _ ?_ (by omega)
      go_simp
  · rintro e w' ⟨rfl, hb⟩
    go_wp2
    go_ret2
    exact ⟨rfl, ((((Below.refl _ w).alloc (Nat.le_refl _) _).alloc (by simp) _).alloc (by simp; omega) _).alloc (by simp; omega) _ |>.trans (hb.mono (by simp; omega))⟩

theorem mul_any (a b : Int) (w : World) :
    Calls Try.prog 25 #[.int .i64 a, .int .i64 b] w fun e w' => e = .returned (.tuple #[.int .i64 (tell (a * b) (mdOk a b 1)), .bool (mdOk a b 1)]) ∧ Below w.heap.size w w' := by
  have h := md_any a b 1
  rw [Int.ediv_one] at h
  have H := Lib.hid h; clear h
  go_enter Try.func25, Try.ntmps25
  go_wp2_with (go_at_call 26; refine (H.out _).mono ?_; rintro e w' ⟨rfl, hb⟩)
  go_ret2
  exact ⟨rfl, hb⟩

end Go.Proofs.Ytmclffbjdkoneaa
