/- The reference of package rack: Slack as a contract of the call. -/
import Derived.Test.YtlanplobdgchaaaProg
import Derived.Test.YtlanplobdgchaaaRkRef1
import Derived.Test.YtlanplobdgchaaaRmd
import Derived.WalkKit
import Derived.WalkSpells
import Derived.WalkSmall
import Derived.Lib.Hide
import Derived.Below
import Derived.Outline
import Derived.Deep.QuietTactic
import Derived.BigQuiet
import Derived.IntWalk
import Derived.Deep.DeepCutAuto
import Derived.OrdersHeld
import Derived.StillTail
import Derived.Test.YtlanplobdgchaaaTail
import Derived.Laws.Rows
import Derived.Laws.Tables
namespace Go.Proofs.Ytlanplobdgchaaa
open Go.RowKit
set_option linter.unusedVariables false
set_option linter.unusedSimpArgs false

theorem slack_no {v : Rkv} {a b : Int} (h : ¬ SlackOk v a b) : slackR v a b = 0 := if_neg h
theorem slack_md {q l : Int} (q0 : 0 ≤ q) (q1 : q ≤ 20) (l0 : 0 ≤ l) (l1 : l ≤ 1099511627776) : tell ((q + 1) * l / 4) (mdOk (q + 1) l 4) = slackN q l ∧ 0 ≤ slackN q l ∧ slackN q l ≤ 5772436045824 := by
  have h0 : 0 ≤ (q + 1) * l := Int.mul_nonneg (by omega) l0
  have h1 : (q + 1) * l ≤ 21 * 1099511627776 := Int.mul_le_mul (by omega) l1 l0 (by omega)
  unfold slackN mdOk
  obtain ⟨M, hM⟩ : ∃ M, (q + 1) * l = M := ⟨_, rfl⟩
  rw [hM] at h0 h1 ⊢
  rw [(inB_iff (q + 1)).2 (by omega), (inB_iff l).2 (by omega), (inB_iff 4).2 (by omega), (inB_iff (M / 4)).2 (by omega), decide_eq_true (by omega : (1 : Int) ≤ 4)]
  exact ⟨rfl, by omega, by omega⟩

set_option maxRecDepth 100000 in
set_option maxHeartbeats 8000000 in
theorem rkslack_any (v : Rkv) (least srtt : Int) (w : World) :
    Calls Try.prog 17 #[.agg #[.int .i64 v.at_, .int .i64 v.end_, .int .i64 v.took, .int .i64 v.far, .bool v.mixed, .int .i64 v.quarters], .int .i64 least, .int .i64 srtt] w fun e w' => e = .returned (.int .i64 (slackR v least srtt)) ∧ Below w.heap.size w w' := by
  obtain ⟨B, hB⟩ : ∃ B, w.heap.size = B := ⟨_, rfl⟩
  rw [hB]
  have e0 := Bx.new w 23 [.int .i64 v.at_, .int .i64 v.end_, .int .i64 v.took, .int .i64 v.far, .bool v.mixed, .int .i64 v.quarters]
  rw [hB] at e0
  have b0 : Below B w (w.alloc (.cells #[.int .i64 v.at_, .int .i64 v.end_, .int .i64 v.took, .int .i64 v.far, .bool v.mixed, .int .i64 v.quarters] 23)) := by rw [← hB]; exact (Below.refl _ _).alloc (Nat.le_refl _) _
  obtain ⟨z, hz⟩ : ∃ z, slackR v least srtt = z := ⟨_, rfl⟩
  rw [hz]
  have HZ := Lib.hid hz; clear hz
  go_enter Try.func17, Try.ntmps17
  go_wp2_with (refine rk_load rfl (.tmp 3) rfl rfl e0 rfl ?_)
  generalize w.alloc (.cells #[.int .i64 v.at_, .int .i64 v.end_, .int .i64 v.took, .int .i64 v.far, .bool v.mixed, .int .i64 v.quarters] 23) = w1 at e0 b0 ⊢
  refine (rkmay_any v _).mono ?_
  rintro e w2 ⟨rfl, hb2⟩
  have e2 := e0.kept hb2; have b2 := b0.trans (hb2.mono (Nat.le_of_lt e0.lt))
  clear e0 b0 hb2
  cases hk : rkmay v with
  | false =>
    have hz := HZ.out
    rw [slack_no (fun h => by have := h.1; rw [hk] at this; cases this)] at hz
    subst hz
    clear HZ hk
    go_wp2_with (go_at_call 27; refine (rkbrief_any _ _).mono ?_; rintro e wx ⟨rfl, rfl⟩)
    go_ret
    exact ⟨rfl, b2⟩
  | true =>
  have hv := (rkmay_iff v).1 hk
  have q0 := hv.q0; have q1 := hv.q1
  cases hm : v.mixed with
  | false =>
    have x4 : w2.cell? ⟨B, 4, none⟩ = some (.bool false) := by rw [← hm]; exact e2.cell 4 rfl
    have hz := HZ.out
    rw [slack_no (fun h => by have := h.2.1; rw [hm] at this; cases this)] at hz
    subst hz
    clear HZ hk hm hv
    go_wp2_with (go_at_call 27; refine (rkbrief_any _ _).mono ?_; rintro e wx ⟨rfl, rfl⟩)
    go_ret
    exact ⟨rfl, b2⟩
  | true =>
  have x4 : w2.cell? ⟨B, 4, none⟩ = some (.bool true) := by rw [← hm]; exact e2.cell 4 rfl
  have HM := Lib.hid hm; clear hm
  cases h1 : brief least with
  | false =>
    have hz := HZ.out
    rw [slack_no (fun h => by have := h.2.2.1; rw [h1] at this; cases this)] at hz
    subst hz
    clear HZ hk hv
    go_wp2_with (go_at_call 27; refine (rkbrief_any _ _).mono ?_; rintro e wx ⟨rfl, rfl⟩)
    go_ret
    exact ⟨rfl, b2⟩
  | true =>
  cases h2 : brief srtt with
  | false =>
    have hz := HZ.out
    rw [slack_no (fun h => by have := h.2.2.2; rw [h2] at this; cases this)] at hz
    subst hz
    clear HZ hk hv
    go_wp2_with (go_at_call 27; refine (rkbrief_any _ _).mono ?_; rintro e wx ⟨rfl, rfl⟩)
    go_ret
    exact ⟨rfl, b2⟩
  | true =>
  have hl := (brief_iff least).1 h1
  obtain ⟨hmd, n0, n1⟩ := slack_md q0 q1 hl.1 hl.2
  have hz := HZ.out
  unfold slackR at hz
  rw [if_pos ⟨hk, HM.out, h1, h2⟩] at hz
  obtain ⟨N, hN⟩ : ∃ N, slackN v.quarters least = N := ⟨_, rfl⟩
  rw [hN] at hz hmd n0 n1
  have HMD := Lib.hid hmd
  have hw : IntKind.i64.wrap (v.quarters + 1) = v.quarters + 1 := IntWalk.i64_in _ (by omega)
  have x5 := e2.cell 5 rfl
  clear HZ hk hv hl hmd hN
  go_upto_region 5 with (first | (go_at_call 27; refine (rkbrief_any _ _).mono ?_; rintro e wx ⟨rfl, rfl⟩) | (go_at_call 31; refine (rmd_any (v.quarters + 1) least 4 _).mono ?_; rintro e wy ⟨rfl, rfl⟩; rw [HMD.out]))
  by_cases h3 : srtt < N
  · have d3 : decide (srtt < N) = true := decide_eq_true h3
    rw [if_pos h3] at hz
    subst hz
    go_wp2_with fail
    go_ret
    exact ⟨rfl, b2⟩
  · have d3 : decide (srtt < N) = false := decide_eq_false h3
    rw [if_neg h3] at hz
    subst hz
    go_wp2_with fail
    go_ret
    exact ⟨rfl, b2⟩
end Go.Proofs.Ytlanplobdgchaaa
