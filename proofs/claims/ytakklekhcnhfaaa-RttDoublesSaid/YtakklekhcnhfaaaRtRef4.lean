/- The reference of package rtt: Sample as a contract of the call. -/
import Derived.Test.YtakklekhcnhfaaaRtRef3
import Derived.WalkKit
import Derived.WalkSpells
import Derived.WalkSmall
import Derived.Lib.Hide
import Derived.Below
import Derived.Outline
namespace Go.Proofs.Ytakklekhcnhfaaa
open Go.RowKit
set_option linter.unusedVariables false
set_option linter.unusedSimpArgs false

set_option maxRecDepth 100000 in
set_option maxHeartbeats 8000000 in
theorem rrsample_any (has : Bool) (srtt vr rto shift : Int) (took least most : Int) (w : World) :
    Calls Try.prog 11 #[.agg #[.bool has, .int .i64 srtt, .int .i64 vr, .int .i64 rto, .int .i64 shift], .int .i64 took, .int .i64 least, .int .i64 most] w fun e w' => TellE w w' e (smp ⟨has, srtt, vr, rto, shift⟩ took least most) := by
  unfold TellE
  obtain ⟨B, hB⟩ : ∃ B, w.heap.size = B := ⟨_, rfl⟩
  rw [hB]
  have e0 := Bx.new w 23 [.bool has, .int .i64 srtt, .int .i64 vr, .int .i64 rto, .int .i64 shift]
  have e1 := e0.alloc (.cells #[.bool false, .int .i64 0, .int .i64 0, .int .i64 0, .int .i64 0] 23)
  have y1 : Bx ((w.alloc (.cells #[.bool has, .int .i64 srtt, .int .i64 vr, .int .i64 rto, .int .i64 shift] 23)).alloc (.cells #[.bool false, .int .i64 0, .int .i64 0, .int .i64 0, .int .i64 0] 23)) (B + 1) 23 [.bool false, .int .i64 0, .int .i64 0, .int .i64 0, .int .i64 0] := by
    have := Bx.new (w.alloc (.cells #[.bool has, .int .i64 srtt, .int .i64 vr, .int .i64 rto, .int .i64 shift] 23)) 23 [.bool false, .int .i64 0, .int .i64 0, .int .i64 0, .int .i64 0]
    have hsz : (w.alloc (.cells #[.bool has, .int .i64 srtt, .int .i64 vr, .int .i64 rto, .int .i64 shift] 23)).heap.size = B + 1 := by simp [hB]
    rw [hsz] at this; exact this
  rw [hB] at e1
  have b1 : Below B w ((w.alloc (.cells #[.bool has, .int .i64 srtt, .int .i64 vr, .int .i64 rto, .int .i64 shift] 23)).alloc (.cells #[.bool false, .int .i64 0, .int .i64 0, .int .i64 0, .int .i64 0] 23)) := ((Below.refl _ _).alloc (by omega) _).alloc (by simp; omega) _
  clear e0
  go_enter Try.func11, Try.ntmps11
  go_wp2_with (refine rt_load rfl (.tmp 4) rfl rfl e1 rfl ?_)
  obtain ⟨w1, hw1⟩ : ∃ w1, (w.alloc (.cells #[.bool has, .int .i64 srtt, .int .i64 vr, .int .i64 rto, .int .i64 shift] 23)).alloc (.cells #[.bool false, .int .i64 0, .int .i64 0, .int .i64 0, .int .i64 0] 23) = w1 := ⟨_, rfl⟩
  rw [hw1] at e1 y1 b1 ⊢
  clear hw1
  refine (rrmay_any has srtt vr rto shift _).mono ?_
  rintro e w2 ⟨he, hb2⟩
  have e2 := e1.kept hb2; have y2 := y1.kept hb2; have b2 := b1.trans (hb2.mono (Nat.le_of_lt e1.lt))
  clear e1 y1 b1 hb2
  have hBs : B ≤ w2.heap.size := Nat.le_of_lt e2.lt
  have hsz2 : B + 1 < w2.heap.size := y2.lt
  have bad : ∀ (hx : smp ⟨has, srtt, vr, rto, shift⟩ took least most = (zrt, 1)), True := fun _ => trivial
  clear bad
  cases hk : rtB ⟨has, srtt, vr, rto, shift⟩ with
  | false =>
    rw [hk] at he; subst he
    have hx := smp_no (r := ⟨has, srtt, vr, rto, shift⟩) (took := took) (least := least) (most := most) (fun k => by rw [hk] at k; exact absurd k.1 (by simp))
    have HX := Lib.hid hx; clear hx
    go_wp2_with (refine rt_store rfl (.tmp 8) (.tmp 42) rfl rfl [.bool false, .int .i64 0, .int .i64 0, .int .i64 0, .int .i64 0] rfl y2 rfl rfl rfl ?_)
    refine rt_end (by rfl) (by rfl) (by rfl) (rt_put y2 [.bool false, .int .i64 0, .int .i64 0, .int .i64 0, .int .i64 0]) rfl rfl ?_
    rw [HX.out]
    exact ⟨rfl, b2.grown (rt_grown _ (B + 1) #[.bool false, .int .i64 0, .int .i64 0, .int .i64 0, .int .i64 0]) (Nat.le_of_lt e2.lt) (fun k hk => by cases hk; omega)⟩
  | true =>
  rw [hk] at he; subst he
  by_cases c0 : 0 ≤ took
  case neg =>
    have hx := smp_no (r := ⟨has, srtt, vr, rto, shift⟩) (took := took) (least := least) (most := most) (fun k => by have a := k.2; unfold ArgOk at a; exact c0 a.1)
    have HX := Lib.hid hx; clear hx
    have g0 : took < 0 := by omega
    have d0 : decide (took < 0) = true := decide_eq_true g0
    go_wp2_with (refine rt_store rfl (.tmp 8) (.tmp 42) rfl rfl [.bool false, .int .i64 0, .int .i64 0, .int .i64 0, .int .i64 0] rfl y2 rfl rfl rfl ?_)
    refine rt_end (by rfl) (by rfl) (by rfl) (rt_put y2 [.bool false, .int .i64 0, .int .i64 0, .int .i64 0, .int .i64 0]) rfl rfl ?_
    rw [HX.out]
    exact ⟨rfl, b2.grown (rt_grown _ (B + 1) #[.bool false, .int .i64 0, .int .i64 0, .int .i64 0, .int .i64 0]) (Nat.le_of_lt e2.lt) (fun k hk => by cases hk; omega)⟩
  case pos =>
  have g0 : ¬ (took < 0) := by omega
  have d0 : decide (took < 0) = false := decide_eq_false g0
  by_cases c1 : took ≤ 1099511627776
  case neg =>
    have hx := smp_no (r := ⟨has, srtt, vr, rto, shift⟩) (took := took) (least := least) (most := most) (fun k => by have a := k.2; unfold ArgOk at a; exact c1 a.2.1)
    have HX := Lib.hid hx; clear hx
    have g1 : 1099511627776 < took := by omega
    have d1 : decide (1099511627776 < took) = true := decide_eq_true g1
    go_wp2_with (refine rt_store rfl (.tmp 8) (.tmp 42) rfl rfl [.bool false, .int .i64 0, .int .i64 0, .int .i64 0, .int .i64 0] rfl y2 rfl rfl rfl ?_)
    refine rt_end (by rfl) (by rfl) (by rfl) (rt_put y2 [.bool false, .int .i64 0, .int .i64 0, .int .i64 0, .int .i64 0]) rfl rfl ?_
    rw [HX.out]
    exact ⟨rfl, b2.grown (rt_grown _ (B + 1) #[.bool false, .int .i64 0, .int .i64 0, .int .i64 0, .int .i64 0]) (Nat.le_of_lt e2.lt) (fun k hk => by cases hk; omega)⟩
  case pos =>
  have g1 : ¬ (1099511627776 < took) := by omega
  have d1 : decide (1099511627776 < took) = false := decide_eq_false g1
  by_cases c2 : 1 ≤ least
  case neg =>
    have hx := smp_no (r := ⟨has, srtt, vr, rto, shift⟩) (took := took) (least := least) (most := most) (fun k => by have a := k.2; unfold ArgOk at a; exact c2 a.2.2.1)
    have HX := Lib.hid hx; clear hx
    have g2 : least < 1 := by omega
    have d2 : decide (least < 1) = true := decide_eq_true g2
    go_wp2_with (refine rt_store rfl (.tmp 8) (.tmp 42) rfl rfl [.bool false, .int .i64 0, .int .i64 0, .int .i64 0, .int .i64 0] rfl y2 rfl rfl rfl ?_)
    refine rt_end (by rfl) (by rfl) (by rfl) (rt_put y2 [.bool false, .int .i64 0, .int .i64 0, .int .i64 0, .int .i64 0]) rfl rfl ?_
    rw [HX.out]
    exact ⟨rfl, b2.grown (rt_grown _ (B + 1) #[.bool false, .int .i64 0, .int .i64 0, .int .i64 0, .int .i64 0]) (Nat.le_of_lt e2.lt) (fun k hk => by cases hk; omega)⟩
  case pos =>
  have g2 : ¬ (least < 1) := by omega
  have d2 : decide (least < 1) = false := decide_eq_false g2
  by_cases c3 : least ≤ most
  case neg =>
    have hx := smp_no (r := ⟨has, srtt, vr, rto, shift⟩) (took := took) (least := least) (most := most) (fun k => by have a := k.2; unfold ArgOk at a; exact c3 a.2.2.2.1)
    have HX := Lib.hid hx; clear hx
    have g3 : most < least := by omega
    have d3 : decide (most < least) = true := decide_eq_true g3
    go_wp2_with (refine rt_store rfl (.tmp 8) (.tmp 42) rfl rfl [.bool false, .int .i64 0, .int .i64 0, .int .i64 0, .int .i64 0] rfl y2 rfl rfl rfl ?_)
    refine rt_end (by rfl) (by rfl) (by rfl) (rt_put y2 [.bool false, .int .i64 0, .int .i64 0, .int .i64 0, .int .i64 0]) rfl rfl ?_
    rw [HX.out]
    exact ⟨rfl, b2.grown (rt_grown _ (B + 1) #[.bool false, .int .i64 0, .int .i64 0, .int .i64 0, .int .i64 0]) (Nat.le_of_lt e2.lt) (fun k hk => by cases hk; omega)⟩
  case pos =>
  have g3 : ¬ (most < least) := by omega
  have d3 : decide (most < least) = false := decide_eq_false g3
  by_cases c4 : most ≤ 1099511627776
  case neg =>
    have hx := smp_no (r := ⟨has, srtt, vr, rto, shift⟩) (took := took) (least := least) (most := most) (fun k => by have a := k.2; unfold ArgOk at a; exact c4 a.2.2.2.2)
    have HX := Lib.hid hx; clear hx
    have g4 : 1099511627776 < most := by omega
    have d4 : decide (1099511627776 < most) = true := decide_eq_true g4
    go_wp2_with (refine rt_store rfl (.tmp 8) (.tmp 42) rfl rfl [.bool false, .int .i64 0, .int .i64 0, .int .i64 0, .int .i64 0] rfl y2 rfl rfl rfl ?_)
    refine rt_end (by rfl) (by rfl) (by rfl) (rt_put y2 [.bool false, .int .i64 0, .int .i64 0, .int .i64 0, .int .i64 0]) rfl rfl ?_
    rw [HX.out]
    exact ⟨rfl, b2.grown (rt_grown _ (B + 1) #[.bool false, .int .i64 0, .int .i64 0, .int .i64 0, .int .i64 0]) (Nat.le_of_lt e2.lt) (fun k hk => by cases hk; omega)⟩
  case pos =>
  have g4 : ¬ (1099511627776 < most) := by omega
  have d4 : decide (1099511627776 < most) = false := decide_eq_false g4
  have hx := smp_ok (r := ⟨has, srtt, vr, rto, shift⟩) hk (took := took) (least := least) (most := most) ⟨c0, c1, c2, c3, c4⟩
  have HX := Lib.hid hx; clear hx
  have hv := (rtB_iff _).1 hk
  have s0 : 0 ≤ srtt := hv.s0; have s1 : srtt ≤ 1152921504606846976 := hv.s1; have v0 : 0 ≤ vr := hv.v0; have v1 : vr ≤ 1152921504606846976 := hv.v1
  have x0 : ∀ o, (w2.alloc o).cell? ⟨B, 0, none⟩ = some (.bool has) := fun o => (e2.alloc o).cell 0 rfl
  have x1 : ∀ o, (w2.alloc o).cell? ⟨B, 1, none⟩ = some (.int .i64 srtt) := fun o => (e2.alloc o).cell 1 rfl
  have x2 : ∀ o, (w2.alloc o).cell? ⟨B, 2, none⟩ = some (.int .i64 vr) := fun o => (e2.alloc o).cell 2 rfl
  clear hk hv
  cases has with
  | true =>
    by_cases c8 : srtt - took < 0
    · have c8' : decide (srtt - took < 0) = true := decide_eq_true c8
      obtain ⟨OF, hOF⟩ : ∃ OF, -(srtt - took) = OF := ⟨_, rfl⟩
      have o0 : 0 ≤ OF := by omega
      have o1 : OF ≤ 1152921504606846976 := by omega
      obtain ⟨V, hV⟩ : ∃ V, smV ⟨true, srtt, vr, rto, shift⟩ took = V := ⟨_, rfl⟩
      obtain ⟨S, hS⟩ : ∃ S, smS ⟨true, srtt, vr, rto, shift⟩ took = S := ⟨_, rfl⟩
      have hV2 : (3 * vr + OF) / 4 = V := by rw [← hV, ← hOF]; unfold smV offI; rw [if_pos rfl]; dsimp only; rw [if_pos c8]
      have hS2 : srtt * 7 / 8 + (7 * (srtt % 8) % 8 + took) / 8 = S := by rw [← hS, ← sum8]; unfold smS; rw [if_pos rfl]
      have hvb : 0 ≤ V ∧ V ≤ 1152921504606846976 := by omega
      obtain ⟨vb0, vb1⟩ := hvb
      have hS3 : (7 * srtt + took) / 8 = S := by rw [← hS]; unfold smS; rw [if_pos rfl]
      have hsb : 0 ≤ S ∧ S ≤ 1152921504606846976 := by clear hS2; omega
      clear hS3
      obtain ⟨sb0, sb1⟩ := hsb
      obtain ⟨A0, hA0⟩ : ∃ A0, 3 * vr + OF = A0 := ⟨_, rfl⟩
      have a0 : 0 ≤ A0 := by omega
      have a1 : A0 ≤ 4611686018427387904 := by omega
      rw [hA0] at hV2
      have hM1 : mdOk A0 1 4 = true := by
        unfold mdOk
        simp only [Bool.and_eq_true, inB_iff, decide_eq_true_eq]
        omega
      have hM2 : mdOk srtt 7 8 = true := by
        unfold mdOk
        simp only [Bool.and_eq_true, inB_iff, decide_eq_true_eq]
        omega
      obtain ⟨Wh, hWh⟩ : ∃ Wh, srtt * 7 / 8 = Wh := ⟨_, rfl⟩
      have w0b : 0 ≤ Wh := by omega
      have w1b : Wh ≤ 1152921504606846976 := by omega
      obtain ⟨Lf, hLf⟩ : ∃ Lf, 7 * (srtt % 8) % 8 = Lf := ⟨_, rfl⟩
      have l0b : 0 ≤ Lf := by omega
      have l1b : Lf < 8 := by omega
      obtain ⟨Ph, hPh⟩ : ∃ Ph, (Lf + took) / 8 = Ph := ⟨_, rfl⟩
      have p0b : 0 ≤ Ph := by omega
      have p1b : Ph ≤ 1099511627776 := by omega
      rw [hWh, hLf, hPh] at hS2
      have HS := Lib.hid hS; have HV := Lib.hid hV; have HM1 := Lib.hid hM1; have HM2 := Lib.hid hM2; have HV2 := Lib.hid hV2; have HWh := Lib.hid hWh
      clear hS hM1 hM2 hV2 hWh
      go_wp2_with fail
      refine (rdiv_any A0 4 _).mono ?_
      rintro e w3 ⟨rfl, rfl⟩
      rw [HM1.out]
      have ht1 : tell (A0 / 4) true = V := HV2.out
      rw [ht1]
      clear ht1 hA0
      go_wp2_with fail
      refine (rmd_any srtt 7 8 _).mono ?_
      rintro e w4 ⟨rfl, rfl⟩
      rw [HM2.out]
      have ht2 : tell (srtt * 7 / 8) true = Wh := HWh.out
      rw [ht2]
      clear ht2
      have hm4 : smM ⟨true, srtt, vr, rto, shift⟩ took = if 4 * V < 1000 then 1000 else 4 * V := by unfold smM; rw [hV]
      have HM4 := Lib.hid hm4; clear hm4
      by_cases c9 : 4 * V < 1000
      · have hmm : smM ⟨true, srtt, vr, rto, shift⟩ took = 1000 := by rw [HM4.out, if_pos c9]
        have hcl : clI (S + 1000) least most = clI (smS ⟨true, srtt, vr, rto, shift⟩ took + smM ⟨true, srtt, vr, rto, shift⟩ took) least most := by rw [HS.out, hmm]
        have HCL := Lib.hid hcl; clear hcl hmm
        go_wp2_with fail
        refine (rclamp_any (S + 1000) least most _).mono ?_
        rintro e w5 ⟨rfl, rfl⟩
        have hfold : (if S + 1000 < least ∨ most < least then least else if most < S + 1000 then most else S + 1000) = clI (S + 1000) least most := rfl
        rw [hfold]
        obtain ⟨C, hC⟩ : ∃ C, clI (S + 1000) least most = C := ⟨_, rfl⟩
        rw [hC]
        have HC := Lib.hid hC; clear hC hfold
        have v6 := Bx.new w2 23 [.bool true, .int .i64 S, .int .i64 V, .int .i64 C, .int .i64 0]
        have y6 := y2.alloc (.cells #[.bool true, .int .i64 S, .int .i64 V, .int .i64 C, .int .i64 0] 23)
        have b6 := b2.alloc hBs (.cells #[.bool true, .int .i64 S, .int .i64 V, .int .i64 C, .int .i64 0] 23)
        go_wp2_with (first | (refine rt_load rfl (.tmp 11) rfl rfl v6 rfl ?_) | (refine rt_store rfl (.tmp 8) (.tmp 103) rfl rfl [.bool true, .int .i64 S, .int .i64 V, .int .i64 C, .int .i64 0] rfl y6 rfl rfl rfl ?_))
        refine rt_end (by rfl) (by rfl) (by rfl) (rt_put y6 [.bool true, .int .i64 S, .int .i64 V, .int .i64 C, .int .i64 0]) rfl rfl ?_
        rw [HX.out, ← HCL.out, HS.out, HV.out, HC.out]
        exact ⟨rfl, b6.grown (rt_grown _ (B + 1) #[.bool true, .int .i64 S, .int .i64 V, .int .i64 C, .int .i64 0]) (by simp; omega) (fun k hk => by cases hk; omega)⟩
      · have hmm : smM ⟨true, srtt, vr, rto, shift⟩ took = 4 * V := by rw [HM4.out, if_neg c9]
        have hcl : clI (S + 4 * V) least most = clI (smS ⟨true, srtt, vr, rto, shift⟩ took + smM ⟨true, srtt, vr, rto, shift⟩ took) least most := by rw [HS.out, hmm]
        have HCL := Lib.hid hcl; clear hcl hmm
        go_wp2_with fail
        refine (rclamp_any (S + 4 * V) least most _).mono ?_
        rintro e w5 ⟨rfl, rfl⟩
        have hfold : (if S + 4 * V < least ∨ most < least then least else if most < S + 4 * V then most else S + 4 * V) = clI (S + 4 * V) least most := rfl
        rw [hfold]
        obtain ⟨C, hC⟩ : ∃ C, clI (S + 4 * V) least most = C := ⟨_, rfl⟩
        rw [hC]
        have HC := Lib.hid hC; clear hC hfold
        have v6 := Bx.new w2 23 [.bool true, .int .i64 S, .int .i64 V, .int .i64 C, .int .i64 0]
        have y6 := y2.alloc (.cells #[.bool true, .int .i64 S, .int .i64 V, .int .i64 C, .int .i64 0] 23)
        have b6 := b2.alloc hBs (.cells #[.bool true, .int .i64 S, .int .i64 V, .int .i64 C, .int .i64 0] 23)
        go_wp2_with (first | (refine rt_load rfl (.tmp 11) rfl rfl v6 rfl ?_) | (refine rt_store rfl (.tmp 8) (.tmp 103) rfl rfl [.bool true, .int .i64 S, .int .i64 V, .int .i64 C, .int .i64 0] rfl y6 rfl rfl rfl ?_))
        refine rt_end (by rfl) (by rfl) (by rfl) (rt_put y6 [.bool true, .int .i64 S, .int .i64 V, .int .i64 C, .int .i64 0]) rfl rfl ?_
        rw [HX.out, ← HCL.out, HS.out, HV.out, HC.out]
        exact ⟨rfl, b6.grown (rt_grown _ (B + 1) #[.bool true, .int .i64 S, .int .i64 V, .int .i64 C, .int .i64 0]) (by simp; omega) (fun k hk => by cases hk; omega)⟩
    · have c8' : decide (srtt - took < 0) = false := decide_eq_false c8
      obtain ⟨OF, hOF⟩ : ∃ OF, (srtt - took) = OF := ⟨_, rfl⟩
      have o0 : 0 ≤ OF := by omega
      have o1 : OF ≤ 1152921504606846976 := by omega
      obtain ⟨V, hV⟩ : ∃ V, smV ⟨true, srtt, vr, rto, shift⟩ took = V := ⟨_, rfl⟩
      obtain ⟨S, hS⟩ : ∃ S, smS ⟨true, srtt, vr, rto, shift⟩ took = S := ⟨_, rfl⟩
      have hV2 : (3 * vr + OF) / 4 = V := by rw [← hV, ← hOF]; unfold smV offI; rw [if_pos rfl]; dsimp only; rw [if_neg c8]
      have hS2 : srtt * 7 / 8 + (7 * (srtt % 8) % 8 + took) / 8 = S := by rw [← hS, ← sum8]; unfold smS; rw [if_pos rfl]
      have hvb : 0 ≤ V ∧ V ≤ 1152921504606846976 := by omega
      obtain ⟨vb0, vb1⟩ := hvb
      have hS3 : (7 * srtt + took) / 8 = S := by rw [← hS]; unfold smS; rw [if_pos rfl]
      have hsb : 0 ≤ S ∧ S ≤ 1152921504606846976 := by clear hS2; omega
      clear hS3
      obtain ⟨sb0, sb1⟩ := hsb
      obtain ⟨A0, hA0⟩ : ∃ A0, 3 * vr + OF = A0 := ⟨_, rfl⟩
      have a0 : 0 ≤ A0 := by omega
      have a1 : A0 ≤ 4611686018427387904 := by omega
      rw [hA0] at hV2
      have hM1 : mdOk A0 1 4 = true := by
        unfold mdOk
        simp only [Bool.and_eq_true, inB_iff, decide_eq_true_eq]
        omega
      have hM2 : mdOk srtt 7 8 = true := by
        unfold mdOk
        simp only [Bool.and_eq_true, inB_iff, decide_eq_true_eq]
        omega
      obtain ⟨Wh, hWh⟩ : ∃ Wh, srtt * 7 / 8 = Wh := ⟨_, rfl⟩
      have w0b : 0 ≤ Wh := by omega
      have w1b : Wh ≤ 1152921504606846976 := by omega
      obtain ⟨Lf, hLf⟩ : ∃ Lf, 7 * (srtt % 8) % 8 = Lf := ⟨_, rfl⟩
      have l0b : 0 ≤ Lf := by omega
      have l1b : Lf < 8 := by omega
      obtain ⟨Ph, hPh⟩ : ∃ Ph, (Lf + took) / 8 = Ph := ⟨_, rfl⟩
      have p0b : 0 ≤ Ph := by omega
      have p1b : Ph ≤ 1099511627776 := by omega
      rw [hWh, hLf, hPh] at hS2
      have HS := Lib.hid hS; have HV := Lib.hid hV; have HM1 := Lib.hid hM1; have HM2 := Lib.hid hM2; have HV2 := Lib.hid hV2; have HWh := Lib.hid hWh
      clear hS hM1 hM2 hV2 hWh
      go_wp2_with fail
      refine (rdiv_any A0 4 _).mono ?_
      rintro e w3 ⟨rfl, rfl⟩
      rw [HM1.out]
      have ht1 : tell (A0 / 4) true = V := HV2.out
      rw [ht1]
      clear ht1 hA0
      go_wp2_with fail
      refine (rmd_any srtt 7 8 _).mono ?_
      rintro e w4 ⟨rfl, rfl⟩
      rw [HM2.out]
      have ht2 : tell (srtt * 7 / 8) true = Wh := HWh.out
      rw [ht2]
      clear ht2
      have hm4 : smM ⟨true, srtt, vr, rto, shift⟩ took = if 4 * V < 1000 then 1000 else 4 * V := by unfold smM; rw [hV]
      have HM4 := Lib.hid hm4; clear hm4
      by_cases c9 : 4 * V < 1000
      · have hmm : smM ⟨true, srtt, vr, rto, shift⟩ took = 1000 := by rw [HM4.out, if_pos c9]
        have hcl : clI (S + 1000) least most = clI (smS ⟨true, srtt, vr, rto, shift⟩ took + smM ⟨true, srtt, vr, rto, shift⟩ took) least most := by rw [HS.out, hmm]
        have HCL := Lib.hid hcl; clear hcl hmm
        go_wp2_with fail
        refine (rclamp_any (S + 1000) least most _).mono ?_
        rintro e w5 ⟨rfl, rfl⟩
        have hfold : (if S + 1000 < least ∨ most < least then least else if most < S + 1000 then most else S + 1000) = clI (S + 1000) least most := rfl
        rw [hfold]
        obtain ⟨C, hC⟩ : ∃ C, clI (S + 1000) least most = C := ⟨_, rfl⟩
        rw [hC]
        have HC := Lib.hid hC; clear hC hfold
        have v6 := Bx.new w2 23 [.bool true, .int .i64 S, .int .i64 V, .int .i64 C, .int .i64 0]
        have y6 := y2.alloc (.cells #[.bool true, .int .i64 S, .int .i64 V, .int .i64 C, .int .i64 0] 23)
        have b6 := b2.alloc hBs (.cells #[.bool true, .int .i64 S, .int .i64 V, .int .i64 C, .int .i64 0] 23)
        go_wp2_with (first | (refine rt_load rfl (.tmp 11) rfl rfl v6 rfl ?_) | (refine rt_store rfl (.tmp 8) (.tmp 103) rfl rfl [.bool true, .int .i64 S, .int .i64 V, .int .i64 C, .int .i64 0] rfl y6 rfl rfl rfl ?_))
        refine rt_end (by rfl) (by rfl) (by rfl) (rt_put y6 [.bool true, .int .i64 S, .int .i64 V, .int .i64 C, .int .i64 0]) rfl rfl ?_
        rw [HX.out, ← HCL.out, HS.out, HV.out, HC.out]
        exact ⟨rfl, b6.grown (rt_grown _ (B + 1) #[.bool true, .int .i64 S, .int .i64 V, .int .i64 C, .int .i64 0]) (by simp; omega) (fun k hk => by cases hk; omega)⟩
      · have hmm : smM ⟨true, srtt, vr, rto, shift⟩ took = 4 * V := by rw [HM4.out, if_neg c9]
        have hcl : clI (S + 4 * V) least most = clI (smS ⟨true, srtt, vr, rto, shift⟩ took + smM ⟨true, srtt, vr, rto, shift⟩ took) least most := by rw [HS.out, hmm]
        have HCL := Lib.hid hcl; clear hcl hmm
        go_wp2_with fail
        refine (rclamp_any (S + 4 * V) least most _).mono ?_
        rintro e w5 ⟨rfl, rfl⟩
        have hfold : (if S + 4 * V < least ∨ most < least then least else if most < S + 4 * V then most else S + 4 * V) = clI (S + 4 * V) least most := rfl
        rw [hfold]
        obtain ⟨C, hC⟩ : ∃ C, clI (S + 4 * V) least most = C := ⟨_, rfl⟩
        rw [hC]
        have HC := Lib.hid hC; clear hC hfold
        have v6 := Bx.new w2 23 [.bool true, .int .i64 S, .int .i64 V, .int .i64 C, .int .i64 0]
        have y6 := y2.alloc (.cells #[.bool true, .int .i64 S, .int .i64 V, .int .i64 C, .int .i64 0] 23)
        have b6 := b2.alloc hBs (.cells #[.bool true, .int .i64 S, .int .i64 V, .int .i64 C, .int .i64 0] 23)
        go_wp2_with (first | (refine rt_load rfl (.tmp 11) rfl rfl v6 rfl ?_) | (refine rt_store rfl (.tmp 8) (.tmp 103) rfl rfl [.bool true, .int .i64 S, .int .i64 V, .int .i64 C, .int .i64 0] rfl y6 rfl rfl rfl ?_))
        refine rt_end (by rfl) (by rfl) (by rfl) (rt_put y6 [.bool true, .int .i64 S, .int .i64 V, .int .i64 C, .int .i64 0]) rfl rfl ?_
        rw [HX.out, ← HCL.out, HS.out, HV.out, HC.out]
        exact ⟨rfl, b6.grown (rt_grown _ (B + 1) #[.bool true, .int .i64 S, .int .i64 V, .int .i64 C, .int .i64 0]) (by simp; omega) (fun k hk => by cases hk; omega)⟩
  | false =>
    obtain ⟨V, hV⟩ : ∃ V, smV ⟨false, srtt, vr, rto, shift⟩ took = V := ⟨_, rfl⟩
    obtain ⟨S, hS⟩ : ∃ S, smS ⟨false, srtt, vr, rto, shift⟩ took = S := ⟨_, rfl⟩
    have hV2 : took / 2 = V := by rw [← hV]; unfold smV; rw [if_neg (by simp)]
    have hS2 : took = S := by rw [← hS]; unfold smS; rw [if_neg (by simp)]
    have hvb : 0 ≤ V ∧ V ≤ 1152921504606846976 := by omega
    obtain ⟨vb0, vb1⟩ := hvb
    have hsb : 0 ≤ S ∧ S ≤ 1152921504606846976 := by omega
    obtain ⟨sb0, sb1⟩ := hsb
    have hM1 : mdOk took 1 2 = true := by
      unfold mdOk
      simp only [Bool.and_eq_true, inB_iff, decide_eq_true_eq]
      omega
    have HS := Lib.hid hS; have HV := Lib.hid hV; have HM1 := Lib.hid hM1; have HV2 := Lib.hid hV2; have HS2 := Lib.hid hS2
    clear hS hM1 hV2 hS2
    go_wp2_with fail
    refine (rdiv_any took 2 _).mono ?_
    rintro e w3 ⟨rfl, rfl⟩
    rw [HM1.out]
    have ht1 : tell (took / 2) true = V := HV2.out
    rw [ht1]
    clear ht1
    have hS3 := HS2.out
    have hm4 : smM ⟨false, srtt, vr, rto, shift⟩ took = if 4 * V < 1000 then 1000 else 4 * V := by unfold smM; rw [hV]
    have HM4 := Lib.hid hm4; clear hm4
    by_cases c9 : 4 * V < 1000
    · have hmm : smM ⟨false, srtt, vr, rto, shift⟩ took = 1000 := by rw [HM4.out, if_pos c9]
      have hcl : clI (S + 1000) least most = clI (smS ⟨false, srtt, vr, rto, shift⟩ took + smM ⟨false, srtt, vr, rto, shift⟩ took) least most := by rw [HS.out, hmm]
      have HCL := Lib.hid hcl; clear hcl hmm
      go_wp2_with fail
      refine (rclamp_any (S + 1000) least most _).mono ?_
      rintro e w5 ⟨rfl, rfl⟩
      have hfold : (if S + 1000 < least ∨ most < least then least else if most < S + 1000 then most else S + 1000) = clI (S + 1000) least most := rfl
      rw [hfold]
      obtain ⟨C, hC⟩ : ∃ C, clI (S + 1000) least most = C := ⟨_, rfl⟩
      rw [hC]
      have HC := Lib.hid hC; clear hC hfold
      have v6 := Bx.new w2 23 [.bool true, .int .i64 S, .int .i64 V, .int .i64 C, .int .i64 0]
      have y6 := y2.alloc (.cells #[.bool true, .int .i64 S, .int .i64 V, .int .i64 C, .int .i64 0] 23)
      have b6 := b2.alloc hBs (.cells #[.bool true, .int .i64 S, .int .i64 V, .int .i64 C, .int .i64 0] 23)
      go_wp2_with (first | (refine rt_load rfl (.tmp 11) rfl rfl v6 rfl ?_) | (refine rt_store rfl (.tmp 8) (.tmp 103) rfl rfl [.bool true, .int .i64 S, .int .i64 V, .int .i64 C, .int .i64 0] rfl y6 rfl rfl rfl ?_))
      refine rt_end (by rfl) (by rfl) (by rfl) (rt_put y6 [.bool true, .int .i64 S, .int .i64 V, .int .i64 C, .int .i64 0]) rfl rfl ?_
      rw [HX.out, ← HCL.out, HS.out, HV.out, HC.out]
      exact ⟨rfl, b6.grown (rt_grown _ (B + 1) #[.bool true, .int .i64 S, .int .i64 V, .int .i64 C, .int .i64 0]) (by simp; omega) (fun k hk => by cases hk; omega)⟩
    · have hmm : smM ⟨false, srtt, vr, rto, shift⟩ took = 4 * V := by rw [HM4.out, if_neg c9]
      have hcl : clI (S + 4 * V) least most = clI (smS ⟨false, srtt, vr, rto, shift⟩ took + smM ⟨false, srtt, vr, rto, shift⟩ took) least most := by rw [HS.out, hmm]
      have HCL := Lib.hid hcl; clear hcl hmm
      go_wp2_with fail
      refine (rclamp_any (S + 4 * V) least most _).mono ?_
      rintro e w5 ⟨rfl, rfl⟩
      have hfold : (if S + 4 * V < least ∨ most < least then least else if most < S + 4 * V then most else S + 4 * V) = clI (S + 4 * V) least most := rfl
      rw [hfold]
      obtain ⟨C, hC⟩ : ∃ C, clI (S + 4 * V) least most = C := ⟨_, rfl⟩
      rw [hC]
      have HC := Lib.hid hC; clear hC hfold
      have v6 := Bx.new w2 23 [.bool true, .int .i64 S, .int .i64 V, .int .i64 C, .int .i64 0]
      have y6 := y2.alloc (.cells #[.bool true, .int .i64 S, .int .i64 V, .int .i64 C, .int .i64 0] 23)
      have b6 := b2.alloc hBs (.cells #[.bool true, .int .i64 S, .int .i64 V, .int .i64 C, .int .i64 0] 23)
      go_wp2_with (first | (refine rt_load rfl (.tmp 11) rfl rfl v6 rfl ?_) | (refine rt_store rfl (.tmp 8) (.tmp 103) rfl rfl [.bool true, .int .i64 S, .int .i64 V, .int .i64 C, .int .i64 0] rfl y6 rfl rfl rfl ?_))
      refine rt_end (by rfl) (by rfl) (by rfl) (rt_put y6 [.bool true, .int .i64 S, .int .i64 V, .int .i64 C, .int .i64 0]) rfl rfl ?_
      rw [HX.out, ← HCL.out, HS.out, HV.out, HC.out]
      exact ⟨rfl, b6.grown (rt_grown _ (B + 1) #[.bool true, .int .i64 S, .int .i64 V, .int .i64 C, .int .i64 0]) (by simp; omega) (fun k hk => by cases hk; omega)⟩
end Go.Proofs.Ytakklekhcnhfaaa
