/- Package rtt as landed: Sample as a contract of the call. -/
import Derived.Test.YtakklekhcnhfaaaRtLo3
import Derived.WalkKit
import Derived.WalkSpells
import Derived.WalkSmall
import Derived.Lib.Hide
import Derived.Below
import Derived.Outline
namespace Go.Proofs.Ytakklekhcnhfaaa
open Go.RowKit
set_option linter.unusedVariables false
set_option linter.unusedSimpArgs false

set_option maxRecDepth 100000 in
set_option maxHeartbeats 4000000 in
theorem rtsample_any (has : Bool) (srtt vr rto shift : Int) (took least most : Int) (w : World) :
    Calls Try.prog 10 #[.agg #[.bool has, .int .i64 srtt, .int .i64 vr, .int .i64 rto, .int .i64 shift], .int .i64 took, .int .i64 least, .int .i64 most] w fun e w' => TellE w w' e (smp ⟨has, srtt, vr, rto, shift⟩ took least most) := by
  unfold TellE
  obtain ⟨B, hB⟩ : ∃ B, w.heap.size = B := ⟨_, rfl⟩
  rw [hB]
  have e0 := Bx.new w 23 [.bool has, .int .i64 srtt, .int .i64 vr, .int .i64 rto, .int .i64 shift]
  have e1 := e0.alloc (.cells #[.bool false, .int .i64 0, .int .i64 0, .int .i64 0, .int .i64 0] 23)
  have y1 := two_new w (.cells #[.bool has, .int .i64 srtt, .int .i64 vr, .int .i64 rto, .int .i64 shift] 23) 23 [.bool false, .int .i64 0, .int .i64 0, .int .i64 0, .int .i64 0]
  rw [hB] at e1 y1
  have b1 : Below B w ((w.alloc (.cells #[.bool has, .int .i64 srtt, .int .i64 vr, .int .i64 rto, .int .i64 shift] 23)).alloc (.cells #[.bool false, .int .i64 0, .int .i64 0, .int .i64 0, .int .i64 0] 23)) := by rw [← hB]; exact two_below _ _ _
  clear e0
  go_enter Try.func10, Try.ntmps10
  go_wp2_with (refine rt_load rfl (.tmp 4) rfl rfl e1 rfl ?_)
  obtain ⟨w1, hw1⟩ : ∃ w1, (w.alloc (.cells #[.bool has, .int .i64 srtt, .int .i64 vr, .int .i64 rto, .int .i64 shift] 23)).alloc (.cells #[.bool false, .int .i64 0, .int .i64 0, .int .i64 0, .int .i64 0] 23) = w1 := ⟨_, rfl⟩
  rw [hw1] at e1 y1 b1 ⊢
  clear hw1
  refine (rtmay_any has srtt vr rto shift _).mono ?_
  rintro e w2 ⟨he, hb2⟩
  have e2 := e1.kept hb2; have y2 := y1.kept hb2; have b2 := b1.trans (hb2.mono (Nat.le_of_lt e1.lt))
  clear e1 y1 b1 hb2
  have hBs : B ≤ w2.heap.size := Nat.le_of_lt e2.lt
  cases hk : rtB ⟨has, srtt, vr, rto, shift⟩ with
  | false =>
    rw [hk] at he; subst he
    have hx := smp_no (r := ⟨has, srtt, vr, rto, shift⟩) (took := took) (least := least) (most := most) (fun k => by rw [hk] at k; exact absurd k.1 (by simp))
    have HX := Lib.hid hx; clear hx
    go_wp2_with (refine rt_store rfl (.tmp 8) (.tmp 34) rfl rfl [.bool false, .int .i64 0, .int .i64 0, .int .i64 0, .int .i64 0] rfl y2 rfl rfl rfl ?_)
    refine rt_end (by rfl) (by rfl) (by rfl) (rt_put y2 [.bool false, .int .i64 0, .int .i64 0, .int .i64 0, .int .i64 0]) rfl rfl ?_
    rw [HX.out]
    exact ⟨rfl, b2.grown (rt_grown _ (B + 1) #[.bool false, .int .i64 0, .int .i64 0, .int .i64 0, .int .i64 0]) (Nat.le_of_lt e2.lt) (fun k hk => by cases hk; omega)⟩
  | true =>
  rw [hk] at he; subst he
  by_cases c0 : 0 ≤ took
  case neg =>
    have hx := smp_no (r := ⟨has, srtt, vr, rto, shift⟩) (took := took) (least := least) (most := most) (fun k => by have a := k.2; unfold ArgOk at a; exact c0 a.1)
    have HX := Lib.hid hx; clear hx
    have g0 : took < 0 := by omega
    have d0 : decide (took < 0) = true := decide_eq_true g0
    go_wp2_with (refine rt_store rfl (.tmp 8) (.tmp 34) rfl rfl [.bool false, .int .i64 0, .int .i64 0, .int .i64 0, .int .i64 0] rfl y2 rfl rfl rfl ?_)
    refine rt_end (by rfl) (by rfl) (by rfl) (rt_put y2 [.bool false, .int .i64 0, .int .i64 0, .int .i64 0, .int .i64 0]) rfl rfl ?_
    rw [HX.out]
    exact ⟨rfl, b2.grown (rt_grown _ (B + 1) #[.bool false, .int .i64 0, .int .i64 0, .int .i64 0, .int .i64 0]) (Nat.le_of_lt e2.lt) (fun k hk => by cases hk; omega)⟩
  case pos =>
  have g0 : ¬ (took < 0) := by omega
  have d0 : decide (took < 0) = false := decide_eq_false g0
  by_cases c1 : took ≤ 1099511627776
  case neg =>
    have hx := smp_no (r := ⟨has, srtt, vr, rto, shift⟩) (took := took) (least := least) (most := most) (fun k => by have a := k.2; unfold ArgOk at a; exact c1 a.2.1)
    have HX := Lib.hid hx; clear hx
    have g1 : 1099511627776 < took := by omega
    have d1 : decide (1099511627776 < took) = true := decide_eq_true g1
    go_wp2_with (refine rt_store rfl (.tmp 8) (.tmp 34) rfl rfl [.bool false, .int .i64 0, .int .i64 0, .int .i64 0, .int .i64 0] rfl y2 rfl rfl rfl ?_)
    refine rt_end (by rfl) (by rfl) (by rfl) (rt_put y2 [.bool false, .int .i64 0, .int .i64 0, .int .i64 0, .int .i64 0]) rfl rfl ?_
    rw [HX.out]
    exact ⟨rfl, b2.grown (rt_grown _ (B + 1) #[.bool false, .int .i64 0, .int .i64 0, .int .i64 0, .int .i64 0]) (Nat.le_of_lt e2.lt) (fun k hk => by cases hk; omega)⟩
  case pos =>
  have g1 : ¬ (1099511627776 < took) := by omega
  have d1 : decide (1099511627776 < took) = false := decide_eq_false g1
  by_cases c2 : 1 ≤ least
  case neg =>
    have hx := smp_no (r := ⟨has, srtt, vr, rto, shift⟩) (took := took) (least := least) (most := most) (fun k => by have a := k.2; unfold ArgOk at a; exact c2 a.2.2.1)
    have HX := Lib.hid hx; clear hx
    have g2 : least < 1 := by omega
    have d2 : decide (least < 1) = true := decide_eq_true g2
    go_wp2_with (refine rt_store rfl (.tmp 8) (.tmp 34) rfl rfl [.bool false, .int .i64 0, .int .i64 0, .int .i64 0, .int .i64 0] rfl y2 rfl rfl rfl ?_)
    refine rt_end (by rfl) (by rfl) (by rfl) (rt_put y2 [.bool false, .int .i64 0, .int .i64 0, .int .i64 0, .int .i64 0]) rfl rfl ?_
    rw [HX.out]
    exact ⟨rfl, b2.grown (rt_grown _ (B + 1) #[.bool false, .int .i64 0, .int .i64 0, .int .i64 0, .int .i64 0]) (Nat.le_of_lt e2.lt) (fun k hk => by cases hk; omega)⟩
  case pos =>
  have g2 : ¬ (least < 1) := by omega
  have d2 : decide (least < 1) = false := decide_eq_false g2
  by_cases c3 : least ≤ most
  case neg =>
    have hx := smp_no (r := ⟨has, srtt, vr, rto, shift⟩) (took := took) (least := least) (most := most) (fun k => by have a := k.2; unfold ArgOk at a; exact c3 a.2.2.2.1)
    have HX := Lib.hid hx; clear hx
    have g3 : most < least := by omega
    have d3 : decide (most < least) = true := decide_eq_true g3
    go_wp2_with (refine rt_store rfl (.tmp 8) (.tmp 34) rfl rfl [.bool false, .int .i64 0, .int .i64 0, .int .i64 0, .int .i64 0] rfl y2 rfl rfl rfl ?_)
    refine rt_end (by rfl) (by rfl) (by rfl) (rt_put y2 [.bool false, .int .i64 0, .int .i64 0, .int .i64 0, .int .i64 0]) rfl rfl ?_
    rw [HX.out]
    exact ⟨rfl, b2.grown (rt_grown _ (B + 1) #[.bool false, .int .i64 0, .int .i64 0, .int .i64 0, .int .i64 0]) (Nat.le_of_lt e2.lt) (fun k hk => by cases hk; omega)⟩
  case pos =>
  have g3 : ¬ (most < least) := by omega
  have d3 : decide (most < least) = false := decide_eq_false g3
  by_cases c4 : most ≤ 1099511627776
  case neg =>
    have hx := smp_no (r := ⟨has, srtt, vr, rto, shift⟩) (took := took) (least := least) (most := most) (fun k => by have a := k.2; unfold ArgOk at a; exact c4 a.2.2.2.2)
    have HX := Lib.hid hx; clear hx
    have g4 : 1099511627776 < most := by omega
    have d4 : decide (1099511627776 < most) = true := decide_eq_true g4
    go_wp2_with (refine rt_store rfl (.tmp 8) (.tmp 34) rfl rfl [.bool false, .int .i64 0, .int .i64 0, .int .i64 0, .int .i64 0] rfl y2 rfl rfl rfl ?_)
    refine rt_end (by rfl) (by rfl) (by rfl) (rt_put y2 [.bool false, .int .i64 0, .int .i64 0, .int .i64 0, .int .i64 0]) rfl rfl ?_
    rw [HX.out]
    exact ⟨rfl, b2.grown (rt_grown _ (B + 1) #[.bool false, .int .i64 0, .int .i64 0, .int .i64 0, .int .i64 0]) (Nat.le_of_lt e2.lt) (fun k hk => by cases hk; omega)⟩
  case pos =>
  have g4 : ¬ (1099511627776 < most) := by omega
  have d4 : decide (1099511627776 < most) = false := decide_eq_false g4
  have hx := smp_ok (r := ⟨has, srtt, vr, rto, shift⟩) hk (took := took) (least := least) (most := most) ⟨c0, c1, c2, c3, c4⟩
  have hv := (rtB_iff _).1 hk
  have hvb := smV_bd hv c0 c1
  have hsb := smS_bd hv c0 c1
  have HM := Lib.hid (fun w => measured_any has srtt vr rto shift took w hv c0 c1)
  clear hk hv
  obtain ⟨S, hS⟩ : ∃ S, smS ⟨has, srtt, vr, rto, shift⟩ took = S := ⟨_, rfl⟩
  obtain ⟨V, hV⟩ : ∃ V, smV ⟨has, srtt, vr, rto, shift⟩ took = V := ⟨_, rfl⟩
  have hM : smM ⟨has, srtt, vr, rto, shift⟩ took = if 4 * V < 1000 then 1000 else 4 * V := by unfold smM; rw [hV]
  rw [hM, hS, hV] at hx
  rw [hS] at hsb; rw [hV] at hvb
  rw [hS, hV] at HM
  obtain ⟨hv0, hv1⟩ := hvb; obtain ⟨hs0, hs1⟩ := hsb
  have HT := Lib.hid (fun w => timeout_any true S V rto shift least most w hs0 hs1 hv0 hv1)
  obtain ⟨C, hC⟩ : ∃ C, clI (S + if 4 * V < 1000 then 1000 else 4 * V) least most = C := ⟨_, rfl⟩
  rw [hC] at hx HT
  have HX := Lib.hid hx; clear hx hS hV hM hC
  go_wp2_with (refine rt_load rfl (.tmp 4) rfl rfl e2 rfl ?_)
  refine (HM.out _).mono ?_
  rintro e w3 ⟨rfl, hb3⟩
  have e3 := e2.kept hb3; have y3 := y2.kept hb3; have b3 := b2.trans (hb3.mono (Nat.le_of_lt e2.lt))
  have e4 := rt_put e3 [.bool true, .int .i64 S, .int .i64 V, .int .i64 rto, .int .i64 shift]
  have y4 := y3.grown (rt_grown w3 B #[.bool true, .int .i64 S, .int .i64 V, .int .i64 rto, .int .i64 shift]) (by simp)
  have b4 := b3.grown (rt_grown w3 B #[.bool true, .int .i64 S, .int .i64 V, .int .i64 rto, .int .i64 shift]) (Nat.le_of_lt e3.lt) (fun k hk => by cases hk; exact Nat.le_refl _)
  clear e2 y2 b2
  go_wp2_with (first | (refine rt_store rfl (.tmp 4) (.tmp 37) rfl rfl [.bool true, .int .i64 S, .int .i64 V, .int .i64 rto, .int .i64 shift] rfl e3 rfl rfl rfl ?_) | (refine rt_load rfl (.tmp 4) rfl rfl e4 rfl ?_))
  refine (HT.out _).mono ?_
  rintro e w5 ⟨rfl, hb5⟩
  have e5 := e4.kept hb5; have y5 := y4.kept hb5; have b5 := b4.trans (hb5.mono (Nat.le_of_lt e4.lt))
  have x3 := e5.cell 3 rfl; have f3 := e5.free 3
  have e6 := e5.set 3 (.int .i64 C)
  simp only [List.set_cons_zero, List.set_cons_succ] at e6
  have y6 := y5.far (p := ⟨B, 3, none⟩) (by simp) (.int .i64 C)
  have b6 : Below B w (w5.setCell ⟨B, 3, none⟩ (.int .i64 C)) := Below.own b5 (Nat.le_of_lt e5.lt) (Nat.le_refl _) _
  have x4 := e6.cell 4 rfl; have f4 := e6.free 4
  have e7 := e6.set 4 (.int .i64 0)
  simp only [List.set_cons_zero, List.set_cons_succ] at e7
  have y7 := y6.far (p := ⟨B, 4, none⟩) (by simp) (.int .i64 0)
  have b7 : Below B w ((w5.setCell ⟨B, 3, none⟩ (.int .i64 C)).setCell ⟨B, 4, none⟩ (.int .i64 0)) := Below.own b6 (Nat.le_of_lt e6.lt) (Nat.le_refl _) _
  go_wp2_with (first | (refine rt_load rfl (.tmp 4) rfl rfl e7 rfl ?_) | (refine rt_store rfl (.tmp 8) (.tmp 44) rfl rfl [.bool true, .int .i64 S, .int .i64 V, .int .i64 C, .int .i64 0] rfl y7 rfl rfl rfl ?_))
  refine rt_end (by rfl) (by rfl) (by rfl) (rt_put y7 [.bool true, .int .i64 S, .int .i64 V, .int .i64 C, .int .i64 0]) rfl rfl ?_
  rw [HX.out]
  exact ⟨rfl, b7.grown (rt_grown _ (B + 1) _) (Nat.le_of_lt e7.lt) (fun k hk => by cases hk; omega)⟩
end Go.Proofs.Ytakklekhcnhfaaa
