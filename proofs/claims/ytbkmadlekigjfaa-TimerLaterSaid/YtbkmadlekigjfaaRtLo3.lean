/- Package rtt as landed: Double, Wait, Sample, as contracts of the calls. -/
import Derived.Test.YtbkmadlekigjfaaRtLo2
import Derived.WalkKit
import Derived.WalkSpells
import Derived.WalkSmall
import Derived.Lib.Hide
import Derived.Below
import Derived.Outline
namespace Go.Proofs.Ytbkmadlekigjfaa
open Go.RowKit
set_option linter.unusedVariables false
set_option linter.unusedSimpArgs false

/-- one cell of a block of the call's own is stored: what that leaves of old memory -/
theorem Below.own {N B i : Nat} {w W : World} (h : Below N w W) (hl : N ≤ W.heap.size) (hB : N ≤ B) (u : Value) : Below N w (W.setCell ⟨B, i, none⟩ u) :=
  h.grown (rgrown_set W ⟨B, i, none⟩ u) hl (fun k hk => by cases hk; exact hB)

theorem pow16 {n : Nat} (h : n ≤ 16) : (2 : Int) ^ n ≤ 65536 := by
  obtain ⟨k, hk⟩ : ∃ k, 16 = n + k := ⟨16 - n, by omega⟩
  have h1 := pow_pos2 k
  have h2 : (2 : Int) ^ n * 1 ≤ 2 ^ n * 2 ^ k := Int.mul_le_mul_of_nonneg_left h1 (Int.le_trans (by decide) (pow_pos2 n))
  rw [← Int.pow_add, ← hk, Int.mul_one] at h2
  exact Int.le_trans h2 (by decide)

set_option maxRecDepth 100000 in
set_option maxHeartbeats 4000000 in
theorem rtwait_any (has : Bool) (srtt vr rto shift : Int) (most : Int) (w : World) :
    Calls Try.prog 21 #[.agg #[.bool has, .int .i64 srtt, .int .i64 vr, .int .i64 rto, .int .i64 shift], .int .i64 most] w fun e w' => e = .returned (.int .i64 (wt ⟨has, srtt, vr, rto, shift⟩ most)) ∧ Below w.heap.size w w' := by
  obtain ⟨B, hB⟩ : ∃ B, w.heap.size = B := ⟨_, rfl⟩
  rw [hB]
  have e1 := Bx.new w 23 [.bool has, .int .i64 srtt, .int .i64 vr, .int .i64 rto, .int .i64 shift]
  rw [hB] at e1
  have b1 : Below B w (w.alloc (.cells #[.bool has, .int .i64 srtt, .int .i64 vr, .int .i64 rto, .int .i64 shift] 23)) := (Below.refl _ _).alloc (by omega) _
  go_enter Try.func21, Try.ntmps21
  go_wp2_with (refine rt_load rfl (.tmp 2) rfl rfl e1 rfl ?_)
  refine (rtmay_any has srtt vr rto shift _).mono ?_
  rintro e w2 ⟨he, hb2⟩
  have e2 := e1.kept hb2; have b2 := b1.trans (hb2.mono (Nat.le_of_lt e1.lt))
  have x0 := e2.cell 0 rfl; have x3 := e2.cell 3 rfl; have x4 := e2.cell 4 rfl
  cases hk : rtB ⟨has, srtt, vr, rto, shift⟩ with
  | false =>
    rw [hk] at he; subst he
    have hx : wt ⟨has, srtt, vr, rto, shift⟩ most = 0 := by unfold wt; rw [if_neg (by rw [hk]; simp)]
    have HX := Lib.hid hx; clear hx
    go_wp2_with fail
    go_ret
    exact ⟨by rw [HX.out]; rfl, b2⟩
  | true =>
    rw [hk] at he; subst he
    by_cases c1 : 1 ≤ most
    case neg =>
      have hx : wt ⟨has, srtt, vr, rto, shift⟩ most = 0 := by unfold wt mostOk; rw [if_neg (fun k => c1 k.2.1)]
      have HX := Lib.hid hx; clear hx
      have c1' : most < 1 := by omega
      have d1 : decide (most < 1) = true := decide_eq_true c1'
      go_wp2_with fail
      go_ret
      exact ⟨by rw [HX.out]; rfl, b2⟩
    have c1' : ¬ (most < 1) := by omega
    have d1 : decide (most < 1) = false := decide_eq_false c1'
    by_cases c2 : most ≤ 1099511627776
    case neg =>
      have hx : wt ⟨has, srtt, vr, rto, shift⟩ most = 0 := by unfold wt mostOk; rw [if_neg (fun k => c2 k.2.2)]
      have HX := Lib.hid hx; clear hx
      have c2' : 1099511627776 < most := by omega
      have d2 : decide (1099511627776 < most) = true := decide_eq_true c2'
      go_wp2_with fail
      go_ret
      exact ⟨by rw [HX.out]; rfl, b2⟩
    have c2' : ¬ (1099511627776 < most) := by omega
    have d2 : decide (1099511627776 < most) = false := decide_eq_false c2'
    have hv := (rtB_iff _).1 hk
    have h0 : 0 ≤ shift := hv.h0; have h1 : shift ≤ 16 := hv.h1; have h2 : 0 ≤ rto := hv.o0; have h3 : rto ≤ 1152921504606846976 := hv.o1
    have HK := Lib.hid hk; clear hk hv
    obtain ⟨sh, rfl⟩ : ∃ sh : Nat, shift = (sh : Int) := ⟨shift.toNat, by omega⟩
    have hsh' : ((⟨has, srtt, vr, rto, (sh : Int)⟩ : Rt).shift).toNat = sh := by show ((sh : Int)).toNat = sh; omega
    cases has with
    | true =>
      have hbase : base ⟨true, srtt, vr, rto, (sh : Int)⟩ = rto := rfl
      have hsh16 : sh ≤ 16 := by omega
      have hP1 : (1 : Int) ≤ 2 ^ sh := pow_pos2 sh
      have hP2 : (2 : Int) ^ sh ≤ 65536 := pow16 hsh16
      have hwt : wt ⟨true, srtt, vr, rto, (sh : Int)⟩ most = minI (rto * 2 ^ sh) most := by
        unfold wt
        rw [if_pos ⟨HK.out, c1, c2⟩, hbase, hsh']
      clear hbase hsh'
      by_cases k : rto ≤ most
      · obtain ⟨Y, hY⟩ : ∃ Y : Int, rto * 2 ^ sh = Y := ⟨_, rfl⟩
        have hY0 : 0 ≤ Y := by rw [← hY]; exact Int.mul_nonneg (by omega) (Int.le_trans (by decide) hP1)
        have hY1 : Y ≤ 72057594037927936 := by
          rw [← hY]
          have h1 : (rto : Int) * 2 ^ sh ≤ 1099511627776 * 65536 := Int.mul_le_mul (show (rto : Int) ≤ 1099511627776 by omega) hP2 (Int.le_trans (by decide) hP1) (by decide)
          exact Int.le_trans h1 (by decide)
        have hr : minI (rto * 2 ^ sh) most = if Y ≤ most then Y else most := by
          rw [hY]; unfold minI; split <;> split <;> omega
        rw [hr] at hwt
        clear hr hP1 hP2
        by_cases c6 : Y ≤ most
        · rw [if_pos c6] at hwt
          have HWT := Lib.hid hwt; clear hwt
          go_wp2_with fail
          go_ret
          exact ⟨by rw [HWT.out]; rfl, b2⟩
        · rw [if_neg c6] at hwt
          have HWT := Lib.hid hwt; clear hwt
          go_wp2_with fail
          go_ret
          exact ⟨by rw [HWT.out]; rfl, b2⟩
      · obtain ⟨Y, hY⟩ : ∃ Y : Int, most * 2 ^ sh = Y := ⟨_, rfl⟩
        have hY0 : 0 ≤ Y := by rw [← hY]; exact Int.mul_nonneg (by omega) (Int.le_trans (by decide) hP1)
        have hY1 : Y ≤ 72057594037927936 := by
          rw [← hY]
          have h1 : (most : Int) * 2 ^ sh ≤ 1099511627776 * 65536 := Int.mul_le_mul (show (most : Int) ≤ 1099511627776 by omega) hP2 (Int.le_trans (by decide) hP1) (by decide)
          exact Int.le_trans h1 (by decide)
        have hr : minI (rto * 2 ^ sh) most = if Y ≤ most then Y else most := by
          have h2 : most * 1 ≤ most * 2 ^ sh := Int.mul_le_mul_of_nonneg_left hP1 (by omega)
          have h3 : most * 2 ^ sh ≤ rto * 2 ^ sh := Int.mul_le_mul_of_nonneg_right (by omega) (by omega)
          rw [hY] at h2 h3
          unfold minI; split <;> split <;> omega
        rw [hr] at hwt
        clear hr hP1 hP2
        by_cases c6 : Y ≤ most
        · rw [if_pos c6] at hwt
          have HWT := Lib.hid hwt; clear hwt
          go_wp2_with fail
          go_ret
          exact ⟨by rw [HWT.out]; rfl, b2⟩
        · rw [if_neg c6] at hwt
          have HWT := Lib.hid hwt; clear hwt
          go_wp2_with fail
          go_ret
          exact ⟨by rw [HWT.out]; rfl, b2⟩
    | false =>
      have hbase : base ⟨false, srtt, vr, rto, (sh : Int)⟩ = 1000000 := rfl
      have hsh16 : sh ≤ 16 := by omega
      have hP1 : (1 : Int) ≤ 2 ^ sh := pow_pos2 sh
      have hP2 : (2 : Int) ^ sh ≤ 65536 := pow16 hsh16
      have hwt : wt ⟨false, srtt, vr, rto, (sh : Int)⟩ most = minI (1000000 * 2 ^ sh) most := by
        unfold wt
        rw [if_pos ⟨HK.out, c1, c2⟩, hbase, hsh']
      clear hbase hsh'
      by_cases k : 1000000 ≤ most
      · obtain ⟨Y, hY⟩ : ∃ Y : Int, 1000000 * 2 ^ sh = Y := ⟨_, rfl⟩
        have hY0 : 0 ≤ Y := by rw [← hY]; exact Int.mul_nonneg (by omega) (Int.le_trans (by decide) hP1)
        have hY1 : Y ≤ 72057594037927936 := by
          rw [← hY]
          have h1 : (1000000 : Int) * 2 ^ sh ≤ 1099511627776 * 65536 := Int.mul_le_mul (show (1000000 : Int) ≤ 1099511627776 by omega) hP2 (Int.le_trans (by decide) hP1) (by decide)
          exact Int.le_trans h1 (by decide)
        have hr : minI (1000000 * 2 ^ sh) most = if Y ≤ most then Y else most := by
          rw [hY]; unfold minI; split <;> split <;> omega
        rw [hr] at hwt
        clear hr hP1 hP2
        by_cases c6 : Y ≤ most
        · rw [if_pos c6] at hwt
          have HWT := Lib.hid hwt; clear hwt
          go_wp2_with fail
          go_ret
          exact ⟨by rw [HWT.out]; rfl, b2⟩
        · rw [if_neg c6] at hwt
          have HWT := Lib.hid hwt; clear hwt
          go_wp2_with fail
          go_ret
          exact ⟨by rw [HWT.out]; rfl, b2⟩
      · obtain ⟨Y, hY⟩ : ∃ Y : Int, most * 2 ^ sh = Y := ⟨_, rfl⟩
        have hY0 : 0 ≤ Y := by rw [← hY]; exact Int.mul_nonneg (by omega) (Int.le_trans (by decide) hP1)
        have hY1 : Y ≤ 72057594037927936 := by
          rw [← hY]
          have h1 : (most : Int) * 2 ^ sh ≤ 1099511627776 * 65536 := Int.mul_le_mul (show (most : Int) ≤ 1099511627776 by omega) hP2 (Int.le_trans (by decide) hP1) (by decide)
          exact Int.le_trans h1 (by decide)
        have hr : minI (1000000 * 2 ^ sh) most = if Y ≤ most then Y else most := by
          have h2 : most * 1 ≤ most * 2 ^ sh := Int.mul_le_mul_of_nonneg_left hP1 (by omega)
          have h3 : most * 2 ^ sh ≤ 1000000 * 2 ^ sh := Int.mul_le_mul_of_nonneg_right (by omega) (by omega)
          rw [hY] at h2 h3
          unfold minI; split <;> split <;> omega
        rw [hr] at hwt
        clear hr hP1 hP2
        by_cases c6 : Y ≤ most
        · rw [if_pos c6] at hwt
          have HWT := Lib.hid hwt; clear hwt
          go_wp2_with fail
          go_ret
          exact ⟨by rw [HWT.out]; rfl, b2⟩
        · rw [if_neg c6] at hwt
          have HWT := Lib.hid hwt; clear hwt
          go_wp2_with fail
          go_ret
          exact ⟨by rw [HWT.out]; rfl, b2⟩
end Go.Proofs.Ytbkmadlekigjfaa
