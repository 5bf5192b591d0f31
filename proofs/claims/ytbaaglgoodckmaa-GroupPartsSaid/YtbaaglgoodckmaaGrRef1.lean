/- The reference of package group: May, product as contracts of the calls. -/
import Derived.Test.YtbaaglgoodckmaaProg
import Derived.Test.YtbaaglgoodckmaaGr
import Derived.WalkKit
import Derived.WalkSpells
import Derived.WalkSmall
import Derived.Lib.Hide
import Derived.Below
import Derived.Outline
import Derived.OrdersHeld
import Derived.Deep.QuietTactic
import Derived.BigQuiet
import Derived.IntWalk
import Derived.Deep.DeepCutAuto
import Derived.Deep.AppendLies
namespace Go.Proofs.Ytbaaglgoodckmaa
open Go.RowKit
set_option linter.unusedVariables false
set_option linter.unusedSimpArgs false

set_option maxRecDepth 100000 in
set_option maxHeartbeats 8000000 in
theorem rgmay_any (A : Option Addr) (n c : Nat) (l : List Int) (w : World) (hs : Si w A n c l) : Calls Try.prog 14 #[.slice A n c] w fun e w' => e = .returned (.bool (mayG l)) ∧ w = w' := by
  have hl := hs.rd.len
  have m1 := hs.le
  have m2 := hs.max
  unfold maxLen at m2
  obtain ⟨q, hq⟩ : ∃ q, mayG l = q := ⟨_, rfl⟩
  rw [hq]
  have HQ := Lib.hid hq; have HL := Lib.hid hl; have HS := Lib.hid hs
  clear hq hl hs
  go_enter Try.func14, Try.ntmps14
  go_wp2_with fail
  go_loopw [3] (fun i wr => ∃ k : Nat, k ≤ n ∧ i = .int .i64 (k : Int) ∧ Hid (AllD l k) ∧ w = wr) (fun i _ => n - (intOf i).toNat)
  case atStart => exact ⟨0, Nat.zero_le _, rfl, (fun i hi => absurd hi (by omega)), rfl⟩
  case round =>
    obtain ⟨k, hk, rfl, hok, rfl⟩ := hrel
    by_cases hlt : k < n
    · have dlt : decide (k < n) = true := decide_eq_true hlt
      obtain ⟨b, o, hA, hbl, hc⟩ := HS.out.rd.at_ (by omega)
      subst hA
      have y1 := hc k hlt
      obtain ⟨p, hp⟩ : ∃ p, it l k = p := ⟨_, rfl⟩
      rw [hp] at y1
      have HP := Lib.hid hp
      clear hc hp
      have hno : ¬ (0 ≤ p ∧ p ≤ 262144) → q = false := fun h => by
        rw [← HQ.out]
        refine Bool.eq_false_iff.2 (fun h2 => h ?_)
        have h1 := ((mayG_iff l).1 h2).1 k (by rw [HL.out]; exact hlt)
        rw [HP.out] at h1
        exact (d18_iff p).1 h1
      have HNO := Lib.hid hno; clear hno
      by_cases u0 : p < 0
      · have d0 : decide (p < 0) = true := decide_eq_true u0
        obtain rfl := HNO.out (by omega)
        go_wp2_with fail
        go_ret
        exact ⟨rfl, rfl⟩
      · have d0 : decide (p < 0) = false := decide_eq_false u0
        by_cases u1 : 262144 < p
        · have d1 : decide (262144 < p) = true := decide_eq_true u1
          obtain rfl := HNO.out (by omega)
          go_wp2_with fail
          go_ret
          exact ⟨rfl, rfl⟩
        · have d1 : decide (262144 < p) = false := decide_eq_false u1
          have hall := alld_snoc hok.out (by rw [HP.out]; exact (d18_iff p).2 ⟨by omega, by omega⟩)
          have HA := Lib.hid hall; clear hall
          go_wp2_with fail
          go_roundw
          case rel => exact ⟨k + 1, by omega, by go_num, HA, by first | rfl | trivial⟩
          case measure => simp [intOf]; omega
    · obtain rfl : k = n := by omega
      have dlt : decide (k < k) = false := decide_eq_false (by omega)
      have hq2 : q = decide (k ≤ 16) := by
        rw [← HQ.out, Bool.eq_iff_iff, mayG_iff, HL.out, decide_eq_true_eq]
        exact ⟨fun h => h.2, fun h => ⟨hok.out, h⟩⟩
      by_cases h3 : k ≤ 16
      · have d3 : decide (k ≤ 16) = true := decide_eq_true h3
        have d4 : decide ((k : Int) ≤ 16) = true := decide_eq_true (by omega)
        rw [d3] at hq2
        subst hq2
        go_wp2_with fail
        go_ret
        exact ⟨rfl, rfl⟩
      · have d3 : decide (k ≤ 16) = false := decide_eq_false h3
        have d4 : decide ((k : Int) ≤ 16) = false := decide_eq_false (by omega)
        rw [d3] at hq2
        subst hq2
        go_wp2_with fail
        go_ret
        exact ⟨rfl, rfl⟩

set_option maxRecDepth 100000 in
set_option maxHeartbeats 8000000 in
theorem rgprod_any (A : Option Addr) (na ca : Nat) (a : List Int) (A2 : Option Addr) (nb cb : Nat) (b : List Int) (n : Nat) (w : World) (hs : Si w A na ca a) (ht : Si w A2 nb cb b) (ha : mayG a = true) (hb : mayG b = true) (h1 : n ≤ na) (h2 : n ≤ nb) : Calls Try.prog 21 #[.slice A na ca, .slice A2 nb cb, .int .i64 (n : Int)] w fun e w' => e = .returned (.int .i64 (prodG a b n)) ∧ Below w.heap.size w w' := by
  have hla := hs.rd.len; have hlb := ht.rd.len
  have hn : n ≤ 16 := by have := ((mayG_iff a).1 ha).2; omega
  have ha16 : na ≤ 16 := by have := ((mayG_iff a).1 ha).2; omega
  have hb16 : nb ≤ 16 := by have := ((mayG_iff b).1 hb).2; omega
  obtain ⟨da, rfl⟩ : ∃ d, na = d + n := ⟨na - n, by omega⟩
  obtain ⟨db, rfl⟩ : ∃ d, nb = d + n := ⟨nb - n, by omega⟩
  obtain ⟨q, hq⟩ : ∃ q, prodG a b n = q := ⟨_, rfl⟩
  rw [hq]
  have HQ := Lib.hid hq; have HLA := Lib.hid hla; have HLB := Lib.hid hlb; have HS := Lib.hid hs; have HT := Lib.hid ht; have HA := Lib.hid ha; have HB := Lib.hid hb
  have eda : a.length - n = da := by omega
  have edb : b.length - n = db := by omega
  have EDA := Lib.hid eda; have EDB := Lib.hid edb
  clear hq hla hlb hs ht ha hb h1 h2 eda edb
  go_enter Try.func21, Try.ntmps21
  go_wp2_with fail
  go_loopw [7, 8, 9] (fun x y i wr => ∃ k : Nat, k ≤ n ∧ i = .int .i64 (k : Int) ∧ x = .int .i64 (sumTo a n k) ∧ y = .int .i64 (sumTo b n k) ∧ w = wr) (fun _ _ i _ => n - (intOf i).toNat)
  case atStart => exact ⟨0, Nat.zero_le _, rfl, rfl, rfl, rfl⟩
  case round =>
    obtain ⟨k, hk, rfl, rfl, rfl, rfl⟩ := hrel
    by_cases hlt : k < n
    · have dlt : decide (k < n) = true := decide_eq_true hlt
      obtain ⟨b1, o1, hA1, hbl1, hc1⟩ := HS.out.rd.at_ (by omega)
      obtain ⟨b2, o2, hA2, hbl2, hc2⟩ := HT.out.rd.at_ (by omega)
      subst hA1 hA2
      have y1 := hc1 (da + k) (by omega)
      have y2 := hc2 (db + k) (by omega)
      have s1 := sum_bd HA.out n k; have s2 := sum_bd HB.out n k
      have e1 : sumTo a n (k + 1) = sumTo a n k + it a (a.length - n + k) := rfl
      have e2 : sumTo b n (k + 1) = sumTo b n k + it b (b.length - n + k) := rfl
      rw [EDA.out] at e1
      rw [EDB.out] at e2
      have p1 := it_d HA.out (da + k); have p2 := it_d HB.out (db + k)
      obtain ⟨v1, hv1⟩ : ∃ v, it a (da + k) = v := ⟨_, rfl⟩
      obtain ⟨v2, hv2⟩ : ∃ v, it b (db + k) = v := ⟨_, rfl⟩
      obtain ⟨S1, hS1⟩ : ∃ v, sumTo a n k = v := ⟨_, rfl⟩
      obtain ⟨S2, hS2⟩ : ∃ v, sumTo b n k = v := ⟨_, rfl⟩
      rw [hv1] at y1 e1 p1
      rw [hv2] at y2 e2 p2
      rw [hS1] at s1 e1 ⊢
      rw [hS2] at s2 e2 ⊢
      have E1 := Lib.hid e1; have E2 := Lib.hid e2
      have i1 : IntKind.i64.wrap (S1 + v1) = S1 + v1 := IntWalk.i64_in _ (by omega)
      have i2 : IntKind.i64.wrap (S2 + v2) = S2 + v2 := IntWalk.i64_in _ (by omega)
      clear hc1 hc2 hv1 hv2 hS1 hS2 e1 e2 s1 s2 p1 p2
      go_wp2_with fail
      go_roundw
      case rel => exact ⟨k + 1, by omega, by go_num, by rw [E1.out], by rw [E2.out], by first | rfl | trivial⟩
      case measure => simp [intOf]; omega
    · obtain rfl : k = n := by omega
      have dlt : decide (k < k) = false := decide_eq_false (by omega)
      have s1 := sum_bd HA.out k k; have s2 := sum_bd HB.out k k
      have HP0 : ∀ j, prodTo a b k (sumTo a k k) (sumTo b k k) (j + 1) = prodTo a b k (sumTo a k k) (sumTo b k k) j + devG a k (sumTo a k k) j * devG b k (sumTo b k k) j := fun j => rfl
      have HDA := fun j => dev_bd HA.out hn j
      have HDB := fun j => dev_bd HB.out hn j
      have HPB := fun j => prod_bd HA.out HB.out hn j
      have HNA := fun j => nit_bd HA.out hn j
      have HNB := fun j => nit_bd HB.out hn j
      have hq := HQ.out
      unfold prodG at hq
      obtain ⟨X, hX⟩ : ∃ v, sumTo a k k = v := ⟨_, rfl⟩
      obtain ⟨Y, hY⟩ : ∃ v, sumTo b k k = v := ⟨_, rfl⟩
      rw [hX] at s1 HP0 HDA HPB hq ⊢
      rw [hY] at s2 HP0 HDB HPB hq ⊢
      have Q1 := Lib.hid hq; have Q2 := Lib.hid HP0; have Q3 := Lib.hid HDA; have Q4 := Lib.hid HDB; have Q5 := Lib.hid HPB; have Q6 := Lib.hid HNA; have Q7 := Lib.hid HNB
      clear hX hY hq HP0 HDA HDB HPB HNA HNB
      go_wp2_with fail
      go_loopw [10, 11] (fun s i wr => ∃ (j r : Nat), j ≤ k ∧ i = .int .i64 (j : Int) ∧ s = .int .i64 (prodTo a b k X Y j) ∧ wr = w.drewN r) (fun _ i _ => k - (intOf i).toNat)
      case atStart => exact ⟨0, 0, Nat.zero_le _, rfl, rfl, rfl⟩
      case round =>
        obtain ⟨j, r, hj, rfl, rfl, rfl⟩ := hrel
        by_cases hlt : j < k
        · have dlt : decide (j < k) = true := decide_eq_true hlt
          obtain ⟨b1, o1, hA1, hbl1, hc1⟩ := HS.out.rd.at_ (by omega)
          obtain ⟨b2, o2, hA2, hbl2, hc2⟩ := HT.out.rd.at_ (by omega)
          subst hA1 hA2
          have y1 := hc1 (da + j) (by omega)
          have y2 := hc2 (db + j) (by omega)
          have e1 := Q2.out j
          have t1 := Q3.out j; have t2 := Q4.out j; have t3 := Q5.out j
          have u1 := Q6.out (da + j); have u2 := Q7.out (db + j)
          unfold devG at e1 t1 t2
          rw [EDA.out] at e1 t1
          rw [EDB.out] at e1 t2
          obtain ⟨v1, hv1⟩ : ∃ v, it a (da + j) = v := ⟨_, rfl⟩
          obtain ⟨v2, hv2⟩ : ∃ v, it b (db + j) = v := ⟨_, rfl⟩
          rw [hv1] at y1 e1 t1 u1
          rw [hv2] at y2 e1 t2 u2
          obtain ⟨m1, hm1⟩ : ∃ v, (k : Int) * v1 = v := ⟨_, rfl⟩
          obtain ⟨m2, hm2⟩ : ∃ v, (k : Int) * v2 = v := ⟨_, rfl⟩
          rw [hm1] at e1 t1 u1
          rw [hm2] at e1 t2 u2
          obtain ⟨g1, hg1⟩ : ∃ v, m1 - X = v := ⟨_, rfl⟩
          obtain ⟨g2, hg2⟩ : ∃ v, m2 - Y = v := ⟨_, rfl⟩
          rw [hg1] at e1 t1
          rw [hg2] at e1 t2
          have t4 := mul_bd t1 t2
          obtain ⟨z, hz⟩ : ∃ v, g1 * g2 = v := ⟨_, rfl⟩
          rw [hz] at e1 t4
          obtain ⟨S, hS⟩ : ∃ v, prodTo a b k X Y j = v := ⟨_, rfl⟩
          rw [hS] at e1 t3 ⊢
          have E1 := Lib.hid e1
          have i1 : IntKind.i64.wrap ((k : Int) * v1) = m1 := by rw [hm1]; exact IntWalk.i64_in _ (by omega)
          have i2 : IntKind.i64.wrap ((k : Int) * v2) = m2 := by rw [hm2]; exact IntWalk.i64_in _ (by omega)
          have i3 : IntKind.i64.wrap (m1 - X) = g1 := by rw [hg1]; exact IntWalk.i64_in _ (by omega)
          have i4 : IntKind.i64.wrap (m2 - Y) = g2 := by rw [hg2]; exact IntWalk.i64_in _ (by omega)
          have i5 : IntKind.i64.wrap (g1 * g2) = z := by rw [hz]; exact IntWalk.i64_in _ (by omega)
          have i6 : IntKind.i64.wrap (S + z) = S + z := IntWalk.i64_in _ (by omega)
          clear hc1 hc2 hv1 hv2 hm1 hm2 hg1 hg2 hz hS e1 t1 t2 t3 t4 u1 u2
          go_upto_region 12 with fail
          go_quiet (fail)
          go_wp2_with fail
          go_roundw
          case rel => exact ⟨j + 1, _, by omega, by go_num, by rw [E1.out], rfl⟩
          case measure => simp [intOf]; omega
        · obtain rfl : j = k := by omega
          have dlt : decide (j < j) = false := decide_eq_false (by omega)
          rw [Q1.out]
          go_wp2_with fail
          go_ret
          exact ⟨rfl, below_drewN (Below.refl _ _) _⟩
end Go.Proofs.Ytbaaglgoodckmaa
