/- The reference of package rtt: Wait as a contract of the call. -/
import Derived.Test.YtbkmadlekigjfaaRtRef2
import Derived.WalkKit
import Derived.WalkSpells
import Derived.WalkSmall
import Derived.Lib.Hide
import Derived.Below
import Derived.Outline
namespace Go.Proofs.Ytbkmadlekigjfaa
open Go.RowKit
set_option linter.unusedVariables false
set_option linter.unusedSimpArgs false

set_option maxRecDepth 100000 in
set_option maxHeartbeats 4000000 in
theorem rrwait_any (has : Bool) (srtt vr rto shift : Int) (most : Int) (w : World) :
    Calls Try.prog 24 #[.agg #[.bool has, .int .i64 srtt, .int .i64 vr, .int .i64 rto, .int .i64 shift], .int .i64 most] w fun e w' => e = .returned (.int .i64 (wt ⟨has, srtt, vr, rto, shift⟩ most)) ∧ Below w.heap.size w w' := by
  obtain ⟨B, hB⟩ : ∃ B, w.heap.size = B := ⟨_, rfl⟩
  rw [hB]
  have e1 := Bx.new w 23 [.bool has, .int .i64 srtt, .int .i64 vr, .int .i64 rto, .int .i64 shift]
  rw [hB] at e1
  have b1 : Below B w (w.alloc (.cells #[.bool has, .int .i64 srtt, .int .i64 vr, .int .i64 rto, .int .i64 shift] 23)) := (Below.refl _ _).alloc (by omega) _
  go_enter Try.func24, Try.ntmps24
  go_wp2_with (refine rt_load rfl (.tmp 2) rfl rfl e1 rfl ?_)
  refine (rrmay_any has srtt vr rto shift _).mono ?_
  rintro e w2 ⟨he, hb2⟩
  have e2 := e1.kept hb2; have b2 := b1.trans (hb2.mono (Nat.le_of_lt e1.lt))
  have x0 := e2.cell 0 rfl; have x3 := e2.cell 3 rfl; have x4 := e2.cell 4 rfl
  cases hk : rtB ⟨has, srtt, vr, rto, shift⟩ with
  | false =>
    rw [hk] at he; subst he
    have hx : wt ⟨has, srtt, vr, rto, shift⟩ most = 0 := by unfold wt; rw [if_neg (by rw [hk]; simp)]
    have HX := Lib.hid hx; clear hx
    go_wp2_with fail
    go_ret
    exact ⟨by rw [HX.out]; rfl, b2⟩
  | true =>
    rw [hk] at he; subst he
    by_cases c1 : 1 ≤ most
    case neg =>
      have hx : wt ⟨has, srtt, vr, rto, shift⟩ most = 0 := by unfold wt mostOk; rw [if_neg (fun k => c1 k.2.1)]
      have HX := Lib.hid hx; clear hx
      have c1' : most < 1 := by omega
      have d1 : decide (most < 1) = true := decide_eq_true c1'
      go_wp2_with fail
      go_ret
      exact ⟨by rw [HX.out]; rfl, b2⟩
    have c1' : ¬ (most < 1) := by omega
    have d1 : decide (most < 1) = false := decide_eq_false c1'
    by_cases c2 : most ≤ 1099511627776
    case neg =>
      have hx : wt ⟨has, srtt, vr, rto, shift⟩ most = 0 := by unfold wt mostOk; rw [if_neg (fun k => c2 k.2.2)]
      have HX := Lib.hid hx; clear hx
      have c2' : 1099511627776 < most := by omega
      have d2 : decide (1099511627776 < most) = true := decide_eq_true c2'
      go_wp2_with fail
      go_ret
      exact ⟨by rw [HX.out]; rfl, b2⟩
    have c2' : ¬ (1099511627776 < most) := by omega
    have d2 : decide (1099511627776 < most) = false := decide_eq_false c2'
    have hv := (rtB_iff _).1 hk
    have h0 : 0 ≤ shift := hv.h0; have h1 : shift ≤ 16 := hv.h1; have h2 : 0 ≤ rto := hv.o0; have h3 : rto ≤ 1152921504606846976 := hv.o1
    have HK := Lib.hid hk; clear hk hv
    obtain ⟨sh, rfl⟩ : ∃ sh : Nat, shift = (sh : Int) := ⟨shift.toNat, by omega⟩
    have hsh' : ((⟨has, srtt, vr, rto, (sh : Int)⟩ : Rt).shift).toNat = sh := by show ((sh : Int)).toNat = sh; omega
    cases has with
    | true =>
      have hbase : base ⟨true, srtt, vr, rto, (sh : Int)⟩ = rto := rfl
      obtain ⟨Y, hY⟩ : ∃ Y, (rto : Int) * 2 ^ sh = Y := ⟨_, rfl⟩
      have hwt : wt ⟨true, srtt, vr, rto, (sh : Int)⟩ most = minI Y most := by
        unfold wt
        rw [if_pos ⟨HK.out, c1, c2⟩, hbase, hsh', hY]
      have HWT := Lib.hid hwt; clear hwt hbase
      go_wp2_with fail
      go_loopw [6, 7] (fun n i wr => ∃ (q : Nat) (y : Int), q ≤ sh ∧ i = .int .i64 (q : Int) ∧ n = .int .i64 y ∧ rto * 2 ^ q = y ∧ 0 ≤ y ∧ y ≤ 1152921504606846976 ∧ w2 = wr) (fun _ i _ => sh - (intOf i).toNat)
      case atStart => exact ⟨0, rto, Nat.zero_le _, rfl, rfl, by rw [Int.pow_zero, Int.mul_one], by omega, by omega, by first | rfl | trivial⟩
      case round =>
        obtain ⟨q, y, hq, rfl, rfl, hy, y0, y1, rfl⟩ := hrel
        have hyY : y ≤ Y := by
          rw [← hY, ← hy]
          obtain ⟨k, rfl⟩ : ∃ k, sh = q + k := ⟨sh - q, by omega⟩
          rw [Int.pow_add, ← Int.mul_assoc]
          have h1 := pow_pos2 k
          have h2 : (rto : Int) * 2 ^ q * 1 ≤ (rto : Int) * 2 ^ q * 2 ^ k := Int.mul_le_mul_of_nonneg_left h1 (by rw [hy]; exact y0)
          rw [Int.mul_one] at h2
          exact h2
        have HYY := Lib.hid hy; clear hy
        by_cases c3 : q < sh
        · have c3' : (q : Int) < (sh : Int) := by omega
          have g3 : decide ((q : Int) < (sh : Int)) = true := decide_eq_true c3'
          by_cases c4 : y < most
          · have g4 : decide (y < most) = true := decide_eq_true c4
            have hnx : rto * 2 ^ (q + 1) = 2 * y := by rw [Int.pow_succ, ← Int.mul_assoc, HYY.out, Int.mul_comm]
            have HNX := Lib.hid hnx; clear hnx
            go_wp2_with fail
            go_roundw
            case rel => exact ⟨q + 1, 2 * y, by omega, by go_num, rfl, HNX.out, by omega, by omega, by first | rfl | trivial⟩
            case measure => simp [intOf]; omega
          · have g4 : decide (y < most) = false := decide_eq_false c4
            have hr : minI Y most = most := by unfold minI; split <;> omega
            by_cases c5 : most < y
            · have g5 : decide (most < y) = true := decide_eq_true c5
              go_wp2_with fail
              go_ret
              exact ⟨by rw [HWT.out, hr]; rfl, b2⟩
            · have g5 : decide (most < y) = false := decide_eq_false c5
              obtain rfl : y = most := by omega
              go_wp2_with fail
              go_ret
              exact ⟨by rw [HWT.out, hr]; rfl, b2⟩
        · obtain rfl : sh = q := by omega
          obtain rfl : Y = y := by rw [← hY]; exact HYY.out
          have g3 : decide ((sh : Int) < (sh : Int)) = false := decide_eq_false (by omega)
          by_cases c5 : most < Y
          · have g5 : decide (most < Y) = true := decide_eq_true c5
            have hr : minI Y most = most := if_pos c5
            go_wp2_with fail
            go_ret
            exact ⟨by rw [HWT.out, hr]; rfl, b2⟩
          · have g5 : decide (most < Y) = false := decide_eq_false c5
            have hr : minI Y most = Y := if_neg c5
            go_wp2_with fail
            go_ret
            exact ⟨by rw [HWT.out, hr]; rfl, b2⟩
    | false =>
      have hbase : base ⟨false, srtt, vr, rto, (sh : Int)⟩ = 1000000 := rfl
      obtain ⟨Y, hY⟩ : ∃ Y, (1000000 : Int) * 2 ^ sh = Y := ⟨_, rfl⟩
      have hwt : wt ⟨false, srtt, vr, rto, (sh : Int)⟩ most = minI Y most := by
        unfold wt
        rw [if_pos ⟨HK.out, c1, c2⟩, hbase, hsh', hY]
      have HWT := Lib.hid hwt; clear hwt hbase
      go_wp2_with fail
      go_loopw [6, 7] (fun n i wr => ∃ (q : Nat) (y : Int), q ≤ sh ∧ i = .int .i64 (q : Int) ∧ n = .int .i64 y ∧ 1000000 * 2 ^ q = y ∧ 0 ≤ y ∧ y ≤ 1152921504606846976 ∧ w2 = wr) (fun _ i _ => sh - (intOf i).toNat)
      case atStart => exact ⟨0, 1000000, Nat.zero_le _, rfl, rfl, by rw [Int.pow_zero, Int.mul_one], by omega, by omega, by first | rfl | trivial⟩
      case round =>
        obtain ⟨q, y, hq, rfl, rfl, hy, y0, y1, rfl⟩ := hrel
        have hyY : y ≤ Y := by
          rw [← hY, ← hy]
          obtain ⟨k, rfl⟩ : ∃ k, sh = q + k := ⟨sh - q, by omega⟩
          rw [Int.pow_add, ← Int.mul_assoc]
          have h1 := pow_pos2 k
          have h2 : (1000000 : Int) * 2 ^ q * 1 ≤ (1000000 : Int) * 2 ^ q * 2 ^ k := Int.mul_le_mul_of_nonneg_left h1 (by rw [hy]; exact y0)
          rw [Int.mul_one] at h2
          exact h2
        have HYY := Lib.hid hy; clear hy
        by_cases c3 : q < sh
        · have c3' : (q : Int) < (sh : Int) := by omega
          have g3 : decide ((q : Int) < (sh : Int)) = true := decide_eq_true c3'
          by_cases c4 : y < most
          · have g4 : decide (y < most) = true := decide_eq_true c4
            have hnx : 1000000 * 2 ^ (q + 1) = 2 * y := by rw [Int.pow_succ, ← Int.mul_assoc, HYY.out, Int.mul_comm]
            have HNX := Lib.hid hnx; clear hnx
            go_wp2_with fail
            go_roundw
            case rel => exact ⟨q + 1, 2 * y, by omega, by go_num, rfl, HNX.out, by omega, by omega, by first | rfl | trivial⟩
            case measure => simp [intOf]; omega
          · have g4 : decide (y < most) = false := decide_eq_false c4
            have hr : minI Y most = most := by unfold minI; split <;> omega
            by_cases c5 : most < y
            · have g5 : decide (most < y) = true := decide_eq_true c5
              go_wp2_with fail
              go_ret
              exact ⟨by rw [HWT.out, hr]; rfl, b2⟩
            · have g5 : decide (most < y) = false := decide_eq_false c5
              obtain rfl : y = most := by omega
              go_wp2_with fail
              go_ret
              exact ⟨by rw [HWT.out, hr]; rfl, b2⟩
        · obtain rfl : sh = q := by omega
          obtain rfl : Y = y := by rw [← hY]; exact HYY.out
          have g3 : decide ((sh : Int) < (sh : Int)) = false := decide_eq_false (by omega)
          by_cases c5 : most < Y
          · have g5 : decide (most < Y) = true := decide_eq_true c5
            have hr : minI Y most = most := if_pos c5
            go_wp2_with fail
            go_ret
            exact ⟨by rw [HWT.out, hr]; rfl, b2⟩
          · have g5 : decide (most < Y) = false := decide_eq_false c5
            have hr : minI Y most = Y := if_neg c5
            go_wp2_with fail
            go_ret
            exact ⟨by rw [HWT.out, hr]; rfl, b2⟩
end Go.Proofs.Ytbkmadlekigjfaa
