/- Package rack as it landed: May, Twice, Slack as contracts of the calls. -/
import Derived.Test.YtlanplobdgchaaaRkL2
namespace Go.Proofs.Ytlanplobdgchaaa
open Go.RowKit
set_option linter.unusedVariables false
set_option linter.unusedSimpArgs false

theorem win40 (x : Int) : winB x 0 1099511627776 = brief x := by rw [Bool.eq_iff_iff, win_iff, brief_iff]
theorem rkmay_win (v : Rkv) : rkmay v = (winB v.at_ 0 1152921504606846976 && (winB v.took 0 1152921504606846976 && (winB v.end_ 0 2305843009213693952 && (winB v.far 0 2305843009213693952 && winB v.quarters 0 20)))) := by
  rw [Bool.eq_iff_iff, rkmay_iff]
  simp only [Bool.and_eq_true, win_iff]
  exact ⟨fun h => ⟨⟨h.a0, h.a1⟩, ⟨h.k0, h.k1⟩, ⟨h.e0, h.e1⟩, ⟨h.f0, h.f1⟩, h.q0, h.q1⟩, fun ⟨⟨a, b⟩, ⟨c, d⟩, ⟨e, f⟩, ⟨g, h⟩, i, j⟩ => ⟨a, b, c, d, e, g, f, h, i, j⟩⟩
set_option maxRecDepth 100000 in
set_option maxHeartbeats 8000000 in
theorem rakmay_any (v : Rkv) (w : World) :
    Calls Try.prog 18 #[.agg #[.int .i64 v.at_, .int .i64 v.end_, .int .i64 v.took, .int .i64 v.far, .bool v.mixed, .int .i64 v.quarters]] w fun e w' => e = .returned (.bool (rkmay v)) ∧ Below w.heap.size w w' := by
  obtain ⟨B, hB⟩ : ∃ B, w.heap.size = B := ⟨_, rfl⟩
  have e0 := Bx.new w 23 [.int .i64 v.at_, .int .i64 v.end_, .int .i64 v.took, .int .i64 v.far, .bool v.mixed, .int .i64 v.quarters]
  rw [hB] at e0 ⊢
  have b0 : Below B w (w.alloc (.cells #[.int .i64 v.at_, .int .i64 v.end_, .int .i64 v.took, .int .i64 v.far, .bool v.mixed, .int .i64 v.quarters] 23)) := by rw [← hB]; exact (Below.refl _ _).alloc (Nat.le_refl _) _
  obtain ⟨q, hq⟩ : ∃ q, rkmay v = q := ⟨_, rfl⟩
  rw [hq]
  rw [rkmay_win] at hq
  go_enter Try.func18, Try.ntmps18
  go_upto_region 1 with fail
  change Code.wp _ _ _ _ (w.alloc (.cells #[.int .i64 v.at_, .int .i64 v.end_, .int .i64 v.took, .int .i64 v.far, .bool v.mixed, .int .i64 v.quarters] 23))
  generalize w.alloc (.cells #[.int .i64 v.at_, .int .i64 v.end_, .int .i64 v.took, .int .i64 v.far, .bool v.mixed, .int .i64 v.quarters] 23) = w1 at e0 b0 ⊢
  have c0 := e0.cell 0 rfl; have c1 := e0.cell 1 rfl; have c2 := e0.cell 2 rfl; have c3 := e0.cell 3 rfl; have c5 := e0.cell 5 rfl
  cases h0 : winB v.at_ 0 1152921504606846976 with
  | false =>
    have hF : q = false := by rw [← hq]; simp [h0]
    subst hF
    clear hq
    go_wp2_with (go_at_call 22; refine (rkwin_any _ _ _ _).mono ?_; rintro e wx ⟨rfl, rfl⟩)
    go_ret
    exact ⟨rfl, b0⟩
  | true =>
  cases h1 : winB v.took 0 1152921504606846976 with
  | false =>
    have hF : q = false := by rw [← hq]; simp [h0, h1]
    subst hF
    clear hq
    go_wp2_with (go_at_call 22; refine (rkwin_any _ _ _ _).mono ?_; rintro e wx ⟨rfl, rfl⟩)
    go_ret
    exact ⟨rfl, b0⟩
  | true =>
  cases h2 : winB v.end_ 0 2305843009213693952 with
  | false =>
    have hF : q = false := by rw [← hq]; simp [h0, h1, h2]
    subst hF
    clear hq
    go_wp2_with (go_at_call 22; refine (rkwin_any _ _ _ _).mono ?_; rintro e wx ⟨rfl, rfl⟩)
    go_ret
    exact ⟨rfl, b0⟩
  | true =>
  cases h3 : winB v.far 0 2305843009213693952 with
  | false =>
    have hF : q = false := by rw [← hq]; simp [h0, h1, h2, h3]
    subst hF
    clear hq
    go_wp2_with (go_at_call 22; refine (rkwin_any _ _ _ _).mono ?_; rintro e wx ⟨rfl, rfl⟩)
    go_ret
    exact ⟨rfl, b0⟩
  | true =>
  have hF : q = winB v.quarters 0 20 := by rw [← hq]; simp [h0, h1, h2, h3]
  subst hF
  clear hq
  go_wp2_with (go_at_call 22; refine (rkwin_any _ _ _ _).mono ?_; rintro e wx ⟨rfl, rfl⟩)
  go_ret
  exact ⟨rfl, b0⟩

set_option maxRecDepth 100000 in
set_option maxHeartbeats 8000000 in
theorem raktwice_any (v : Rkv) (w : World) :
    Calls Try.prog 11 #[.agg #[.int .i64 v.at_, .int .i64 v.end_, .int .i64 v.took, .int .i64 v.far, .bool v.mixed, .int .i64 v.quarters]] w fun e w' => TellK w w' e (twiceR v) := by
  unfold TellK
  obtain ⟨B, hB⟩ : ∃ B, w.heap.size = B := ⟨_, rfl⟩
  rw [hB]
  have e0 := (Bx.new w 23 [.int .i64 v.at_, .int .i64 v.end_, .int .i64 v.took, .int .i64 v.far, .bool v.mixed, .int .i64 v.quarters]).alloc (.cells #[.int .i64 0, .int .i64 0, .int .i64 0, .int .i64 0, .bool false, .int .i64 0] 23)
  have y0 := Bx.new (w.alloc (.cells #[.int .i64 v.at_, .int .i64 v.end_, .int .i64 v.took, .int .i64 v.far, .bool v.mixed, .int .i64 v.quarters] 23)) 23 [.int .i64 0, .int .i64 0, .int .i64 0, .int .i64 0, .bool false, .int .i64 0]
  rw [World.size_alloc] at y0
  rw [hB] at e0 y0
  have b0 : Below B w ((w.alloc (.cells #[.int .i64 v.at_, .int .i64 v.end_, .int .i64 v.took, .int .i64 v.far, .bool v.mixed, .int .i64 v.quarters] 23)).alloc (.cells #[.int .i64 0, .int .i64 0, .int .i64 0, .int .i64 0, .bool false, .int .i64 0] 23)) := by rw [← hB]; exact ((Below.refl _ _).alloc (Nat.le_refl _) _).alloc (by simp) _
  obtain ⟨z, hz⟩ : ∃ z, twiceR v = z := ⟨_, rfl⟩
  rw [hz]
  have HZ := Lib.hid hz; clear hz
  go_enter Try.func11, Try.ntmps11
  go_wp2_with (refine rk_load rfl (.tmp 1) rfl rfl e0 rfl ?_)
  generalize (w.alloc (.cells #[.int .i64 v.at_, .int .i64 v.end_, .int .i64 v.took, .int .i64 v.far, .bool v.mixed, .int .i64 v.quarters] 23)).alloc (.cells #[.int .i64 0, .int .i64 0, .int .i64 0, .int .i64 0, .bool false, .int .i64 0] 23) = w1 at e0 y0 b0 ⊢
  refine (rakmay_any v _).mono ?_
  rintro e w2 ⟨rfl, hb2⟩
  have e2 := e0.kept hb2; have y2 := y0.kept hb2; have b2 := b0.trans (hb2.mono (Nat.le_of_lt e0.lt))
  have hBs : B ≤ w2.heap.size := Nat.le_of_lt e2.lt
  have hBt := y2.lt
  clear e0 y0 b0 hb2
  cases hk : rkmay v with
  | false =>
    have hz := HZ.out
    rw [twice_no hk] at hz
    subst hz
    clear HZ hk
    go_wp2_with (refine rk_store rfl (.tmp 2) (.tmp 7) rfl rfl [.int .i64 0, .int .i64 0, .int .i64 0, .int .i64 0, .bool false, .int .i64 0] rfl y2 rfl rfl rfl ?_)
    refine rk_end2 (by rfl) (by rfl) (by rfl) (rk_put y2 [.int .i64 0, .int .i64 0, .int .i64 0, .int .i64 0, .bool false, .int .i64 0]) rfl rfl ?_
    exact ⟨rfl, b2.grown (rk_grown _ (B + 1) #[.int .i64 0, .int .i64 0, .int .i64 0, .int .i64 0, .bool false, .int .i64 0]) hBs (fun k hk => by cases hk; omega)⟩
  | true =>
  have hv := (rkmay_iff v).1 hk
  have q0 := hv.q0; have q1 := hv.q1
  have hz := HZ.out
  rw [twice_ok hk] at hz
  clear HZ hk hv
  go_upto_region 3 with fail
  have x5 := e2.cell 5 rfl; have xf := e2.free 5
  have hw : IntKind.i64.wrap (v.quarters + 1) = v.quarters + 1 := IntWalk.i64_in _ (by omega)
  obtain ⟨m, hm⟩ : ∃ m, moreQ v.quarters = m := ⟨_, rfl⟩
  rw [hm] at hz
  subst hz
  have hcall : ∃ dle : Bool, True := ⟨true, trivial⟩
  clear hcall
  by_cases hq : v.quarters + 1 ≤ 20
  · have hm2 : m = v.quarters + 1 := by rw [← hm]; exact if_pos (by omega)
    subst hm2
    clear hm
    have dq : decide (v.quarters + 1 ≤ 20) = true := decide_eq_true hq
    go_upto_region 4 with fail
    have e3 := e2.set 5 (.int .i64 (v.quarters + 1)); have y3 := y2.far (p := ⟨B, 5, none⟩) (by show B + 1 ≠ B; omega) (.int .i64 (v.quarters + 1))
    have b3 := b2.setCell (p := ⟨B, 5, none⟩) (by show B ≤ B; omega) (.int .i64 (v.quarters + 1))
    have hBs3 := Nat.le_of_lt e3.lt
    generalize w2.setCell ⟨B, 5, none⟩ (.int .i64 (v.quarters + 1)) = w3 at e3 y3 b3 hBs3 ⊢
    clear e2 y2 b2 x5 xf
    go_wp2_with (first | (refine rk_load rfl (.tmp 1) rfl rfl e3 rfl ?_) | (refine rk_store rfl (.tmp 2) (.tmp 13) rfl rfl [.int .i64 v.at_, .int .i64 v.end_, .int .i64 v.took, .int .i64 v.far, .bool v.mixed, .int .i64 (v.quarters + 1)] rfl y3 rfl rfl rfl ?_))
    refine rk_end2 (by rfl) (by rfl) (by rfl) (rk_put y3 [.int .i64 v.at_, .int .i64 v.end_, .int .i64 v.took, .int .i64 v.far, .bool v.mixed, .int .i64 (v.quarters + 1)]) rfl rfl ?_
    exact ⟨rfl, b3.grown (rk_grown _ (B + 1) #[.int .i64 v.at_, .int .i64 v.end_, .int .i64 v.took, .int .i64 v.far, .bool v.mixed, .int .i64 (v.quarters + 1)]) hBs3 (fun k hk => by cases hk; omega)⟩
  · have hm2 : m = 20 := by rw [← hm]; exact (if_neg (by omega)).trans (by omega)
    subst hm2
    clear hm
    have dq : decide (v.quarters + 1 ≤ 20) = false := decide_eq_false hq
    go_upto_region 4 with fail
    have e3 := e2.set 5 (.int .i64 20); have y3 := y2.far (p := ⟨B, 5, none⟩) (by show B + 1 ≠ B; omega) (.int .i64 20)
    have b3 := b2.setCell (p := ⟨B, 5, none⟩) (by show B ≤ B; omega) (.int .i64 20)
    have hBs3 := Nat.le_of_lt e3.lt
    generalize w2.setCell ⟨B, 5, none⟩ (.int .i64 20) = w3 at e3 y3 b3 hBs3 ⊢
    clear e2 y2 b2 x5 xf
    go_wp2_with (first | (refine rk_load rfl (.tmp 1) rfl rfl e3 rfl ?_) | (refine rk_store rfl (.tmp 2) (.tmp 13) rfl rfl [.int .i64 v.at_, .int .i64 v.end_, .int .i64 v.took, .int .i64 v.far, .bool v.mixed, .int .i64 20] rfl y3 rfl rfl rfl ?_))
    refine rk_end2 (by rfl) (by rfl) (by rfl) (rk_put y3 [.int .i64 v.at_, .int .i64 v.end_, .int .i64 v.took, .int .i64 v.far, .bool v.mixed, .int .i64 20]) rfl rfl ?_
    exact ⟨rfl, b3.grown (rk_grown _ (B + 1) #[.int .i64 v.at_, .int .i64 v.end_, .int .i64 v.took, .int .i64 v.far, .bool v.mixed, .int .i64 20]) hBs3 (fun k hk => by cases hk; omega)⟩

set_option maxRecDepth 100000 in
set_option maxHeartbeats 8000000 in
theorem rakslack_any (v : Rkv) (least srtt : Int) (w : World) :
    Calls Try.prog 16 #[.agg #[.int .i64 v.at_, .int .i64 v.end_, .int .i64 v.took, .int .i64 v.far, .bool v.mixed, .int .i64 v.quarters], .int .i64 least, .int .i64 srtt] w fun e w' => e = .returned (.int .i64 (slackR v least srtt)) ∧ Below w.heap.size w w' := by
  obtain ⟨B, hB⟩ : ∃ B, w.heap.size = B := ⟨_, rfl⟩
  rw [hB]
  have e0 := Bx.new w 23 [.int .i64 v.at_, .int .i64 v.end_, .int .i64 v.took, .int .i64 v.far, .bool v.mixed, .int .i64 v.quarters]
  rw [hB] at e0
  have b0 : Below B w (w.alloc (.cells #[.int .i64 v.at_, .int .i64 v.end_, .int .i64 v.took, .int .i64 v.far, .bool v.mixed, .int .i64 v.quarters] 23)) := by rw [← hB]; exact (Below.refl _ _).alloc (Nat.le_refl _) _
  obtain ⟨z, hz⟩ : ∃ z, slackR v least srtt = z := ⟨_, rfl⟩
  rw [hz]
  have HZ := Lib.hid hz; clear hz
  have hmx : ∃ mx, v.mixed = mx := ⟨_, rfl⟩
  go_enter Try.func16, Try.ntmps16
  go_wp2_with (refine rk_load rfl (.tmp 3) rfl rfl e0 rfl ?_)
  generalize w.alloc (.cells #[.int .i64 v.at_, .int .i64 v.end_, .int .i64 v.took, .int .i64 v.far, .bool v.mixed, .int .i64 v.quarters] 23) = w1 at e0 b0 ⊢
  refine (rakmay_any v _).mono ?_
  rintro e w2 ⟨rfl, hb2⟩
  have e2 := e0.kept hb2; have b2 := b0.trans (hb2.mono (Nat.le_of_lt e0.lt))
  clear e0 b0 hb2
  have c4 := e2.cell 4 rfl; have c5 := e2.cell 5 rfl
  clear hmx
  cases hk : rkmay v with
  | false =>
    have hz := HZ.out
    rw [show slackR v least srtt = 0 from if_neg (fun h => by have := h.1; rw [hk] at this; cases this)] at hz
    subst hz
    clear HZ hk
    go_wp2_with (go_at_call 22; refine (rkwin_any _ _ _ _).mono ?_; rintro e wx ⟨rfl, rfl⟩)
    go_ret
    exact ⟨rfl, b2⟩
  | true =>
  cases h1 : brief least with
  | false =>
    have hz := HZ.out
    rw [show slackR v least srtt = 0 from if_neg (fun h => by have := h.2.2.1; rw [h1] at this; cases this)] at hz
    subst hz
    rw [← win40] at h1
    clear HZ hk
    go_wp2_with (go_at_call 22; refine (rkwin_any _ _ _ _).mono ?_; rintro e wx ⟨rfl, rfl⟩)
    go_ret
    exact ⟨rfl, b2⟩
  | true =>
  cases h2 : brief srtt with
  | false =>
    have hz := HZ.out
    rw [show slackR v least srtt = 0 from if_neg (fun h => by have := h.2.2.2; rw [h2] at this; cases this)] at hz
    subst hz
    rw [← win40] at h1 h2
    clear HZ hk
    go_wp2_with (go_at_call 22; refine (rkwin_any _ _ _ _).mono ?_; rintro e wx ⟨rfl, rfl⟩)
    go_ret
    exact ⟨rfl, b2⟩
  | true =>
  cases hx : v.mixed with
  | false =>
    have hz := HZ.out
    rw [show slackR v least srtt = 0 from if_neg (fun h => by have := h.2.1; rw [hx] at this; cases this)] at hz
    subst hz
    rw [← win40] at h1 h2
    rw [hx] at c4
    have HX := Lib.hid hx
    clear HZ hk hx
    go_wp2_with (go_at_call 22; refine (rkwin_any _ _ _ _).mono ?_; rintro e wx ⟨rfl, rfl⟩)
    go_ret
    exact ⟨rfl, b2⟩
  | true =>
    have hz := HZ.out
    rw [show slackR v least srtt = if srtt < slackN v.quarters least then srtt else slackN v.quarters least from if_pos ⟨hk, hx, h1, h2⟩] at hz
    have hv := (rkmay_iff v).1 hk
    have q0 := hv.q0; have q1 := hv.q1
    have l1 := (brief_iff least).1 h1
    rw [← win40] at h1 h2
    rw [hx] at c4
    have hp0 : 0 ≤ (v.quarters + 1) * least := Int.mul_nonneg (by omega) l1.1
    have hp1 : (v.quarters + 1) * least ≤ 21 * 1099511627776 := Int.mul_le_mul (by omega) l1.2 l1.1 (by omega)
    have hsn : slackN v.quarters least = ((v.quarters + 1) * least).tdiv 4 := by unfold slackN; rw [Int.tdiv_eq_ediv_of_nonneg hp0]
    rw [hsn] at hz
    have hw1 : IntKind.i64.wrap (v.quarters + 1) = v.quarters + 1 := IntWalk.i64_in _ (by omega)
    have hw2 : IntKind.i64.wrap ((v.quarters + 1) * least) = (v.quarters + 1) * least := IntWalk.i64_in _ (by omega)
    obtain ⟨T, hT⟩ : ∃ T, ((v.quarters + 1) * least).tdiv 4 = T := ⟨_, rfl⟩
    have hT0 : 0 ≤ T ∧ T ≤ 21 * 1099511627776 := by rw [← hT, Int.tdiv_eq_ediv_of_nonneg hp0]; omega
    have hw3 : IntKind.i64.wrap (((v.quarters + 1) * least).tdiv 4) = T := by rw [hT]; exact IntWalk.i64_in _ (by omega)
    rw [hT] at hz
    have HP := Lib.hid (And.intro hp0 hp1); have HX := Lib.hid hx; have HV := Lib.hid hv; have HT := Lib.hid hT
    clear HZ hk hx hv hp0 hp1 hT hsn
    by_cases hlt : srtt < T
    · rw [if_pos hlt] at hz
      subst hz
      have dq : decide (T ≤ srtt) = false := decide_eq_false (by omega)
      have dq2 : decide (srtt ≤ T) = true := decide_eq_true (by omega)
      go_wp2_with (go_at_call 22; refine (rkwin_any _ _ _ _).mono ?_; rintro e wx ⟨rfl, rfl⟩)
      go_ret
      exact ⟨rfl, b2⟩
    · rw [if_neg hlt] at hz
      subst hz
      have dq : decide (T ≤ srtt) = true := decide_eq_true (by omega)
      go_wp2_with (go_at_call 22; refine (rkwin_any _ _ _ _).mono ?_; rintro e wx ⟨rfl, rfl⟩)
      go_ret
      exact ⟨rfl, b2⟩

end Go.Proofs.Ytlanplobdgchaaa
