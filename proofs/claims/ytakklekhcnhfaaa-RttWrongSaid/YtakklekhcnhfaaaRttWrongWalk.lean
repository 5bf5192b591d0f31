/- The walk of the law RttWrong. -/
import Derived.Test.YtakklekhcnhfaaaProg
import Derived.Test.YtakklekhcnhfaaaRtAwake
import Derived.Test.YtakklekhcnhfaaaRtIn
import Derived.WalkKit
import Derived.WalkSpells
import Derived.WalkSmall
import Derived.Lib.Hide
import Derived.Below
import Derived.Outline
namespace Go.Proofs.Ytakklekhcnhfaaa.rttWrong
open Go.RowKit
set_option linter.unusedVariables false
set_option linter.unusedSimpArgs false

set_option maxRecDepth 100000 in
set_option maxHeartbeats 8000000 in
theorem walk (has : Bool) (srtt vr rto shift : Int) (took least most : Int) (w : World) :
    Calls Try.prog 7 #[.agg #[.bool has, .int .i64 srtt, .int .i64 vr, .int .i64 rto, .int .i64 shift], .int .i64 took, .int .i64 least, .int .i64 most] w fun e w' => e = .returned (.bool true) ∧ Below w.heap.size w w' := by
  obtain ⟨B, hB⟩ : ∃ B, w.heap.size = B := ⟨_, rfl⟩
  rw [hB]
  obtain ⟨w0, hw0⟩ : ∃ w0, w.alloc (.cells #[.bool has, .int .i64 srtt, .int .i64 vr, .int .i64 rto, .int .i64 shift] 23) = w0 := ⟨_, rfl⟩
  have e0 : Bx w0 B 23 [.bool has, .int .i64 srtt, .int .i64 vr, .int .i64 rto, .int .i64 shift] := by rw [← hw0, ← hB]; exact Bx.new w 23 [.bool has, .int .i64 srtt, .int .i64 vr, .int .i64 rto, .int .i64 shift]
  have b0 : Below B w w0 := by rw [← hw0]; exact (Below.refl _ _).alloc (by omega) _
  go_enter Try.func7, Try.ntmps7
  go_wp2_with fail
  clear hw0
  refine (awake_any _).mono ?_
  rintro e w1 ⟨rfl, hb1⟩
  have e1 := e0.kept hb1; have b1 := b0.trans (hb1.mono (Nat.le_of_lt e0.lt))
  go_wp2_with (refine rt_load rfl (.tmp 4) rfl rfl e1 rfl ?_)
  refine (rtsample_any has srtt vr rto shift took least most _).mono ?_
  rintro e w2 h2
  by_cases hf : rtB ⟨has, srtt, vr, rto, shift⟩ = true ∧ ArgOk took least most
  case neg =>
    have hx := smp_no hf
    rw [hx] at h2
    obtain ⟨rfl, hb2⟩ := h2
    dsimp only [zrt]
    have e2 := e1.kept hb2
    have hBz : B ≤ w2.heap.size := Nat.le_of_lt e2.lt
    have e3 := e2.alloc (.cells #[.bool false, .int .i64 0, .int .i64 0, .int .i64 0, .int .i64 0] 23)
    have v3 := Bx.new w2 23 [.bool false, .int .i64 0, .int .i64 0, .int .i64 0, .int .i64 0]
    have b3 := (b1.trans (hb2.mono (Nat.le_of_lt e1.lt))).alloc hBz (.cells #[.bool false, .int .i64 0, .int .i64 0, .int .i64 0, .int .i64 0] 23)
    go_wp2_with (refine rt_load rfl (.tmp 4) rfl rfl e3 rfl ?_)
    refine (rtmay_any has srtt vr rto shift _).mono ?_
    rintro e w4 ⟨he, hb4⟩
    have v4 := v3.kept hb4
    have b4 := b3.trans (hb4.mono (Nat.le_of_lt e3.lt))
    have z0 := v4.cell 0 rfl; have z1 := v4.cell 1 rfl; have z2 := v4.cell 2 rfl; have z3 := v4.cell 3 rfl; have z4 := v4.cell 4 rfl
    clear e0 e1 e2 e3 hx
    cases hk : rtB ⟨has, srtt, vr, rto, shift⟩ with
    | false =>
      rw [hk] at he; subst he
      go_wp2_with fail
      go_ret
      exact ⟨rfl, b4⟩
    | true =>
    rw [hk] at he; subst he
    have hf2 : ¬ ArgOk took least most := fun k => hf ⟨hk, k⟩
    clear hf hk
    unfold ArgOk at hf2
    by_cases c0 : 0 ≤ took
    case neg =>
      have d0 : decide (0 ≤ took) = false := decide_eq_false c0
      go_wp2_with fail
      go_ret
      exact ⟨rfl, b4⟩
    have d0 : decide (0 ≤ took) = true := decide_eq_true c0
    by_cases c1 : took ≤ 1099511627776
    case neg =>
      have d1 : decide (took ≤ 1099511627776) = false := decide_eq_false c1
      go_wp2_with fail
      go_ret
      exact ⟨rfl, b4⟩
    have d1 : decide (took ≤ 1099511627776) = true := decide_eq_true c1
    by_cases c2 : 1 ≤ least
    case neg =>
      have d2 : decide (1 ≤ least) = false := decide_eq_false c2
      go_wp2_with fail
      go_ret
      exact ⟨rfl, b4⟩
    have d2 : decide (1 ≤ least) = true := decide_eq_true c2
    by_cases c3 : least ≤ most
    case neg =>
      have d3 : decide (least ≤ most) = false := decide_eq_false c3
      go_wp2_with fail
      go_ret
      exact ⟨rfl, b4⟩
    have d3 : decide (least ≤ most) = true := decide_eq_true c3
    by_cases c4 : most ≤ 1099511627776
    case neg =>
      have d4 : decide (most ≤ 1099511627776) = false := decide_eq_false c4
      go_wp2_with fail
      go_ret
      exact ⟨rfl, b4⟩
    have d4 : decide (most ≤ 1099511627776) = true := decide_eq_true c4
    exact absurd ⟨c0, c1, c2, c3, c4⟩ hf2
  case pos =>
  obtain ⟨hk, ha⟩ := hf
  have hx := smp_ok hk ha
  have ha' := ha
  unfold ArgOk at ha'
  obtain ⟨c0, c1, c2, c3, c4⟩ := ha'
  have d0 : decide (0 ≤ took) = true := decide_eq_true c0
  have d1 : decide (took ≤ 1099511627776) = true := decide_eq_true c1
  have d2 : decide (1 ≤ least) = true := decide_eq_true c2
  have d3 : decide (least ≤ most) = true := decide_eq_true c3
  have d4 : decide (most ≤ 1099511627776) = true := decide_eq_true c4
  have hz : rtB zrt = true := (rtB_iff _).2 ⟨by decide, by decide, by decide, by decide, by decide, by decide, by decide, by decide, Or.inr ⟨rfl, rfl⟩⟩
  have hx0 := smp_ok hz ha
  obtain ⟨S, hS⟩ : ∃ S, smS ⟨has, srtt, vr, rto, shift⟩ took = S := ⟨_, rfl⟩
  obtain ⟨V, hV⟩ : ∃ V, smV ⟨has, srtt, vr, rto, shift⟩ took = V := ⟨_, rfl⟩
  obtain ⟨C, hC⟩ : ∃ C, clI (smS ⟨has, srtt, vr, rto, shift⟩ took + smM ⟨has, srtt, vr, rto, shift⟩ took) least most = C := ⟨_, rfl⟩
  rw [hC, hS, hV] at hx
  rw [hx] at h2
  obtain ⟨rfl, hb2⟩ := h2
  dsimp only
  have hsame : has = false → smp zrt took least most = (⟨true, S, V, C, 0⟩, 0) ∧ V = took / 2 := by
    intro h
    subst h
    have q1 : smS ⟨false, srtt, vr, rto, shift⟩ took = smS zrt took := rfl
    have q2 : smV ⟨false, srtt, vr, rto, shift⟩ took = smV zrt took := rfl
    have q3 : smM ⟨false, srtt, vr, rto, shift⟩ took = smM zrt took := rfl
    rw [hx0, ← q1, ← q2, ← q3, hC, hS, hV]
    exact ⟨rfl, by rw [← hV]; rfl⟩
  have HSM := Lib.hid hsame; have HK := Lib.hid hk
  clear hsame hx hx0 hS hV hC hk ha hz
  have e2 := e1.kept hb2
  have hBz : B ≤ w2.heap.size := Nat.le_of_lt e2.lt
  have e3 := e2.alloc (.cells #[.bool true, .int .i64 S, .int .i64 V, .int .i64 C, .int .i64 0] 23)
  have v3 := Bx.new w2 23 [.bool true, .int .i64 S, .int .i64 V, .int .i64 C, .int .i64 0]
  have b3 := (b1.trans (hb2.mono (Nat.le_of_lt e1.lt))).alloc hBz (.cells #[.bool true, .int .i64 S, .int .i64 V, .int .i64 C, .int .i64 0] 23)
  go_wp2_with (refine rt_load rfl (.tmp 4) rfl rfl e3 rfl ?_)
  refine (rtmay_any has srtt vr rto shift _).mono ?_
  rintro e w4 ⟨he, hb4⟩
  rw [HK.out] at he; subst he
  have v4 := v3.kept hb4; have e4 := e3.kept hb4
  have b4 := b3.trans (hb4.mono (Nat.le_of_lt e3.lt))
  have x0 := e4.cell 0 rfl
  clear e0 e1 e2 e3 v3
  cases has with
  | true =>
    go_wp2_with fail
    go_ret
    exact ⟨rfl, b4⟩
  | false =>
    have hsv := (HSM.out rfl)
    obtain ⟨hs0, hv0⟩ := hsv
    have HS0 := Lib.hid hs0; have HV0 := Lib.hid hv0; clear hs0 hv0
    go_wp2_with fail
    refine (rtsample_any false 0 0 0 0 took least most _).mono ?_
    rintro e w5 h5
    have h5' : TellE w4 w5 e (smp zrt took least most) := h5
    rw [HS0.out] at h5'
    obtain ⟨rfl, hb5⟩ := h5'
    clear h5
    dsimp only
    have v5 := v4.kept hb5
    have b5 := b4.trans (hb5.mono (Nat.le_of_lt e4.lt))
    have hB5 : B ≤ w5.heap.size := Nat.le_of_lt (e4.kept hb5).lt
    have v6 := v5.alloc (.cells #[.bool true, .int .i64 S, .int .i64 V, .int .i64 C, .int .i64 0] 23)
    have u6 := Bx.new w5 23 [.bool true, .int .i64 S, .int .i64 V, .int .i64 C, .int .i64 0]
    have b6 := b5.alloc hB5 (.cells #[.bool true, .int .i64 S, .int .i64 V, .int .i64 C, .int .i64 0] 23)
    have z2 := v6.cell 2 rfl
    have hq : took.tdiv 2 = took / 2 := Int.tdiv_eq_ediv_of_nonneg c0
    have hq2 : took / 2 = V := HV0.out.symm
    go_wp2_with (first | (refine rt_load rfl (.tmp 10) rfl rfl v6 rfl ?_) | (refine rt_load rfl (.tmp 13) rfl rfl u6 rfl ?_))
    go_ret
    exact ⟨by simp [hq2], b6⟩
end Go.Proofs.Ytakklekhcnhfaaa.rttWrong
