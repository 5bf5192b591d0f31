/- EcfMuch: the walk. -/
import Derived.Test.YtmclffbjdkoneaaEcAwake
import Derived.Test.YtmclffbjdkoneaaEcMath
import Derived.Test.YtmclffbjdkoneaaTail2
import Derived.Test.YtmclffbjdkoneaaRoB
import Derived.Deep.QuietTactic
import Derived.BigQuiet
import Derived.IntWalk
import Derived.Deep.AppendLies
import Derived.OrdersHeld
import Derived.Deep.DeepCutAuto
namespace Go.Proofs.Ytmclffbjdkoneaa.ecfMuch
open Go.RowKit
set_option linter.unusedVariables false
set_option linter.unusedSimpArgs false

set_option maxRecDepth 100000 in
set_option maxHeartbeats 16000000 in
theorem walk (f s : Chv) (mss : Int) (w : World) (hf : ChW f) (hs : ChW s) :
    Calls Try.prog 7 #[.agg #[.bool f.up, .int .i64 f.cwnd, .int .i64 f.flight, .int .i64 f.srtt, .int .i64 f.vr], .agg #[.bool s.up, .int .i64 s.cwnd, .int .i64 s.flight, .int .i64 s.srtt, .int .i64 s.vr], .int .i64 mss] w fun e w' => e = .returned (.bool true) ∧ Below w.heap.size w w' := by
  obtain ⟨B, hB⟩ : ∃ B, w.heap.size = B := ⟨_, rfl⟩
  have e0 := (Bx.new w 28 [.bool f.up, .int .i64 f.cwnd, .int .i64 f.flight, .int .i64 f.srtt, .int .i64 f.vr]).alloc (.cells #[.bool s.up, .int .i64 s.cwnd, .int .i64 s.flight, .int .i64 s.srtt, .int .i64 s.vr] 28)
  have y0 := Bx.new (w.alloc (.cells #[.bool f.up, .int .i64 f.cwnd, .int .i64 f.flight, .int .i64 f.srtt, .int .i64 f.vr] 28)) 28 [.bool s.up, .int .i64 s.cwnd, .int .i64 s.flight, .int .i64 s.srtt, .int .i64 s.vr]
  rw [World.size_alloc] at y0
  rw [hB] at e0 y0 ⊢
  have b0 : Below B w ((w.alloc (.cells #[.bool f.up, .int .i64 f.cwnd, .int .i64 f.flight, .int .i64 f.srtt, .int .i64 f.vr] 28)).alloc (.cells #[.bool s.up, .int .i64 s.cwnd, .int .i64 s.flight, .int .i64 s.srtt, .int .i64 s.vr] 28)) := by rw [← hB]; exact ((Below.refl _ _).alloc (Nat.le_refl _) _).alloc (by simp) _
  have HF := Lib.hid hf; have HSW := Lib.hid hs
  have h1 := pick_one s mss
  obtain ⟨rs, hrs⟩ : ∃ v, roomB s mss = v := ⟨_, rfl⟩
  obtain ⟨rf, hrf⟩ : ∃ v, roomB f mss = v := ⟨_, rfl⟩
  obtain ⟨mf, hmf⟩ : ∃ v, chB f = v := ⟨_, rfl⟩
  rw [hrs] at h1
  have H1 := Lib.hid h1; have HRS := Lib.hid hrs; have HRF := Lib.hid hrf; have HMF := Lib.hid hmf
  clear hf hs h1 hrs hrf hmf
  go_enter Try.func7, Try.ntmps7
  go_wp2_with fail
  generalize (w.alloc (.cells #[.bool f.up, .int .i64 f.cwnd, .int .i64 f.flight, .int .i64 f.srtt, .int .i64 f.vr] 28)).alloc (.cells #[.bool s.up, .int .i64 s.cwnd, .int .i64 s.flight, .int .i64 s.srtt, .int .i64 s.vr] 28) = w1 at e0 y0 b0 ⊢
  clear hB
  refine (ecawake_any _).mono ?_
  rintro e w2 ⟨rfl, hb2⟩
  have e2 := e0.kept hb2; have y2 := y0.kept hb2; have b2 := b0.trans (hb2.mono (Nat.le_of_lt e0.lt))
  clear e0 y0 b0 hb2
  have hlit := se_one w2 (x := s) HSW.out 28
  have e3 := e2.alloc (.cells #[.bool s.up, .int .i64 s.cwnd, .int .i64 s.flight, .int .i64 s.srtt, .int .i64 s.vr] 28); have y3 := y2.alloc (.cells #[.bool s.up, .int .i64 s.cwnd, .int .i64 s.flight, .int .i64 s.srtt, .int .i64 s.vr] 28); have b3 := b2.alloc (Nat.le_of_lt e2.lt) (.cells #[.bool s.up, .int .i64 s.cwnd, .int .i64 s.flight, .int .i64 s.srtt, .int .i64 s.vr] 28)
  go_wp2_with (refine ch_load rfl (.tmp 4) rfl rfl y2 rfl ?_)
  generalize w2.alloc (.cells #[.bool s.up, .int .i64 s.cwnd, .int .i64 s.flight, .int .i64 s.srtt, .int .i64 s.vr] 28) = w3 at hlit e3 y3 b3 ⊢
  generalize w2.heap.size = P at hlit ⊢
  refine (ecpick_any _ 1 1 [s] 1 mss false _ hlit).mono ?_
  rw [H1.out]
  rintro e w4 ⟨rfl, hb4⟩
  have e4 := e3.kept hb4; have y4 := y3.kept hb4; have b4 := b3.trans (hb4.mono (Nat.le_of_lt e3.lt))
  clear e2 y2 b2 e3 y3 b3 hlit hb4
  go_upto_region 3 with fail
  cases rs with
  | false =>
    rw [if_neg (by simp)]
    have c0 := y4.cell 0 rfl; have c1 := y4.cell 1 rfl; have c2 := y4.cell 2 rfl; have c3 := y4.cell 3 rfl; have c4 := y4.cell 4 rfl
    go_wp2_with fail
    refine (ecroom_any s mss _).mono ?_
    rw [HRS.out]
    rintro e w5 ⟨rfl, hb5⟩
    have e5 := e4.kept hb5; have y5 := y4.kept hb5; have b5 := b4.trans (hb5.mono (Nat.le_of_lt e4.lt))
    clear c0 c1 c2 c3 c4 e4 y4 b4 hb5
    go_upto_region 5 with fail
    go_wp2_with (refine ch_load rfl (.tmp 3) rfl rfl e5 rfl ?_)
    refine (ecmay_any f _).mono ?_
    rw [HMF.out]
    rintro e w6 ⟨rfl, hb6⟩
    have e6 := e5.kept hb6; have y6 := y5.kept hb6; have b6 := b5.trans (hb6.mono (Nat.le_of_lt e5.lt))
    clear e5 y5 b5 hb6
    cases mf with
    | false =>
      go_wp2_with fail
      go_ret
      exact ⟨rfl, b6⟩
    | true =>
      have c0 := y6.cell 0 rfl; have c1 := y6.cell 1 rfl; have c2 := y6.cell 2 rfl; have c3 := y6.cell 3 rfl; have c4 := y6.cell 4 rfl
      go_wp2_with fail
      refine (ecroom_any s mss _).mono ?_
      rw [HRS.out]
      rintro e w7 ⟨rfl, hb7⟩
      have e7 := e6.kept hb7; have y7 := y6.kept hb7; have b7 := b6.trans (hb7.mono (Nat.le_of_lt e6.lt))
      clear c0 c1 c2 c3 c4 e6 y6 b6 hb7
      go_wp2_with fail
      go_ret
      exact ⟨rfl, b7⟩
  | true =>
    rw [if_pos rfl]
    have c0 := y4.cell 0 rfl; have c1 := y4.cell 1 rfl; have c2 := y4.cell 2 rfl; have c3 := y4.cell 3 rfl; have c4 := y4.cell 4 rfl
    go_wp2_with fail
    refine (ecroom_any s mss _).mono ?_
    rw [HRS.out]
    rintro e w5 ⟨rfl, hb5⟩
    have e5 := e4.kept hb5; have y5 := y4.kept hb5; have b5 := b4.trans (hb5.mono (Nat.le_of_lt e4.lt))
    clear c0 c1 c2 c3 c4 e4 y4 b4 hb5
    go_upto_region 5 with fail
    go_wp2_with (refine ch_load rfl (.tmp 3) rfl rfl e5 rfl ?_)
    refine (ecmay_any f _).mono ?_
    rw [HMF.out]
    rintro e w6 ⟨rfl, hb6⟩
    have e6 := e5.kept hb6; have y6 := y5.kept hb6; have b6 := b5.trans (hb6.mono (Nat.le_of_lt e5.lt))
    clear e5 y5 b5 hb6
    cases mf with
    | false =>
      go_wp2_with fail
      go_ret
      exact ⟨rfl, b6⟩
    | true =>
      have c0 := y6.cell 0 rfl; have c1 := y6.cell 1 rfl; have c2 := y6.cell 2 rfl; have c3 := y6.cell 3 rfl; have c4 := y6.cell 4 rfl
      go_wp2_with fail
      refine (ecroom_any s mss _).mono ?_
      rw [HRS.out]
      rintro e w7 ⟨rfl, hb7⟩
      have e7 := e6.kept hb7; have y7 := y6.kept hb7; have b7 := b6.trans (hb7.mono (Nat.le_of_lt e6.lt))
      clear c0 c1 c2 c3 c4 e6 y6 b6 hb7
      cases rf with
      | true =>
        have c0 := e7.cell 0 rfl; have c1 := e7.cell 1 rfl; have c2 := e7.cell 2 rfl; have c3 := e7.cell 3 rfl; have c4 := e7.cell 4 rfl
        go_wp2_with fail
        refine (ecroom_any f mss _).mono ?_
        rw [HRF.out]
        rintro e w8 ⟨rfl, hb8⟩
        have e8 := e7.kept hb8; have y8 := y7.kept hb8; have b8 := b7.trans (hb8.mono (Nat.le_of_lt e7.lt))
        clear c0 c1 c2 c3 c4 e7 y7 b7 hb8
        go_wp2_with fail
        go_ret
        exact ⟨rfl, b8⟩
      | false =>
        have c0 := e7.cell 0 rfl; have c1 := e7.cell 1 rfl; have c2 := e7.cell 2 rfl; have c3 := e7.cell 3 rfl; have c4 := e7.cell 4 rfl
        go_wp2_with fail
        refine (ecroom_any f mss _).mono ?_
        rw [HRF.out]
        rintro e w8 ⟨rfl, hb8⟩
        have e8 := e7.kept hb8; have y8 := y7.kept hb8; have b8 := b7.trans (hb8.mono (Nat.le_of_lt e7.lt))
        clear c0 c1 c2 c3 c4 e7 y7 b7 hb8
        have c3 := e8.cell 3 rfl; have d3 := y8.cell 3 rfl
        by_cases g0 : f.srtt < 1
        case pos =>
          have h0 : decide (f.srtt < 1) = true := decide_eq_true g0
          go_wp2_with fail
          go_ret
          exact ⟨rfl, b8⟩
        case neg =>
        have h0 : decide (f.srtt < 1) = false := decide_eq_false g0
        by_cases g1 : s.srtt < f.srtt
        case pos =>
          have h1 : decide (s.srtt < f.srtt) = true := decide_eq_true g1
          go_wp2_with fail
          go_ret
          exact ⟨rfl, b8⟩
        case neg =>
        have h1 : decide (s.srtt < f.srtt) = false := decide_eq_false g1
        have f7 := Bx.new w8 28 [.bool f.up, .int .i64 f.cwnd, .int .i64 f.flight, .int .i64 f.srtt, .int .i64 f.vr, .bool s.up, .int .i64 s.cwnd, .int .i64 s.flight, .int .i64 s.srtt, .int .i64 s.vr]
        have hlit := bx_se (l := [f, s]) (n := 2) f7 rfl (by unfold maxLen; omega) (fun x hx => by
          rcases List.mem_cons.1 hx with rfl | hx
          · exact HF.out
          · rw [List.mem_singleton] at hx; subst hx; exact HSW.out)
        have e9 := e8.alloc (.cells #[.bool f.up, .int .i64 f.cwnd, .int .i64 f.flight, .int .i64 f.srtt, .int .i64 f.vr, .bool s.up, .int .i64 s.cwnd, .int .i64 s.flight, .int .i64 s.srtt, .int .i64 s.vr] 28)
        have y9 := y8.alloc (.cells #[.bool f.up, .int .i64 f.cwnd, .int .i64 f.flight, .int .i64 f.srtt, .int .i64 f.vr, .bool s.up, .int .i64 s.cwnd, .int .i64 s.flight, .int .i64 s.srtt, .int .i64 s.vr] 28)
        have b9 := b8.alloc (Nat.le_of_lt e8.lt) (.cells #[.bool f.up, .int .i64 f.cwnd, .int .i64 f.flight, .int .i64 f.srtt, .int .i64 f.vr, .bool s.up, .int .i64 s.cwnd, .int .i64 s.flight, .int .i64 s.srtt, .int .i64 s.vr] 28)
        clear b8
        go_upto_region 7 with fail
        go_wp2_with (first | (refine ch_load rfl (.tmp 3) rfl rfl e8 rfl ?_) | (refine ch_load rfl (.tmp 4) rfl rfl y8 rfl ?_))
        clear e8 y8 f7
        generalize w8.alloc (.cells #[.bool f.up, .int .i64 f.cwnd, .int .i64 f.flight, .int .i64 f.srtt, .int .i64 f.vr, .bool s.up, .int .i64 s.cwnd, .int .i64 s.flight, .int .i64 s.srtt, .int .i64 s.vr] 28) = w9 at hlit e9 y9 b9 ⊢
        generalize w8.heap.size = P8 at hlit ⊢
        have h2 := fun k1 k2 k3 k4 => pick_two f s mss HMF.out HRS.out HRF.out (by omega) (by omega) k1 k2 k3 k4
        obtain ⟨⟨qa, qx⟩, hq⟩ : ∃ p, pickR [f, s] 1099511627776 mss false = p := ⟨_, rfl⟩
        rw [hq] at h2
        have H2 := Lib.hid h2; have HQ := Lib.hid hq; clear h2 hq
        refine (ecpick_any _ 2 2 [f, s] 1099511627776 mss false _ hlit).mono ?_
        rw [HQ.out]
        rintro e w10 ⟨rfl, hb10⟩
        have e10 := e9.kept hb10; have y10 := y9.kept hb10; have b10 := b9.trans (hb10.mono (Nat.le_of_lt e9.lt))
        have c1 := e10.cell 1 rfl; have c4 := e10.cell 4 rfl; have d3 := y10.cell 3 rfl; have d4 := y10.cell 4 rfl
        clear e9 y9 b9 hb10 hlit
        go_upto_region 8 with fail
        by_cases q0 : 1000000 < s.srtt
        case pos =>
          have x0 : decide (1000000 < s.srtt) = true := decide_eq_true q0
          go_wp2_with fail
          go_ret
          exact ⟨rfl, b10⟩
        case neg =>
        have x0 : decide (1000000 < s.srtt) = false := decide_eq_false q0
        by_cases q1 : 1000000 < s.vr
        case pos =>
          have x1 : decide (1000000 < s.vr) = true := decide_eq_true q1
          go_wp2_with fail
          go_ret
          exact ⟨rfl, b10⟩
        case neg =>
        have x1 : decide (1000000 < s.vr) = false := decide_eq_false q1
        by_cases q2 : 1000000 < f.vr
        case pos =>
          have x2 : decide (1000000 < f.vr) = true := decide_eq_true q2
          go_wp2_with fail
          go_ret
          exact ⟨rfl, b10⟩
        case neg =>
        have x2 : decide (1000000 < f.vr) = false := decide_eq_false q2
        by_cases q3 : 100000 < f.cwnd
        case pos =>
          have x3 : decide (100000 < f.cwnd) = true := decide_eq_true q3
          go_wp2_with fail
          go_ret
          exact ⟨rfl, b10⟩
        case neg =>
        have x3 : decide (100000 < f.cwnd) = false := decide_eq_false q3
        have heq := H2.out (by omega) (by omega) (by omega) (by omega)
        cases heq
        go_wp2_with fail
        go_ret
        exact ⟨rfl, b10⟩
end Go.Proofs.Ytmclffbjdkoneaa.ecfMuch
