/- RackTwice: the walk. -/
import Derived.Test.YtlanplobdgchaaaProg
import Derived.Test.YtlanplobdgchaaaRkAwake
import Derived.Test.YtlanplobdgchaaaRkMath
import Derived.Deep.LoopGhost
import Derived.WalkKit
import Derived.WalkSpells
import Derived.WalkSmall
import Derived.Lib.Hide
import Derived.Below
import Derived.Outline
import Derived.Deep.QuietTactic
import Derived.BigQuiet
import Derived.IntWalk
import Derived.Deep.DeepCutAuto
import Derived.OrdersHeld
import Derived.StillTail
import Derived.Test.YtlanplobdgchaaaTail
import Derived.Laws.Rows
import Derived.Laws.Tables
namespace Go.Proofs.Ytlanplobdgchaaa.rackTwice
open Go.RowKit
set_option linter.unusedVariables false
set_option linter.unusedSimpArgs false

def qi (k : Nat) : Int := if k < 20 then (k : Int) else 20
theorem qi_more (k : Nat) : moreQ (qi k) = qi (k + 1) := by
  unfold moreQ qi
  by_cases h : k < 20
  · rw [if_pos h, if_pos (by omega : (k : Int) < 20)]
    by_cases g : k + 1 < 20
    · rw [if_pos g]; omega
    · rw [if_neg g]; omega
  · rw [if_neg h, if_neg (by omega : ¬ (20 : Int) < 20), if_neg (by omega : ¬ k + 1 < 20)]
theorem qi_bd (k : Nat) : 0 ≤ qi k ∧ qi k ≤ 20 := by unfold qi; split <;> omega
theorem qi_may {v : Rkv} (h : rkmay v = true) (k : Nat) : rkmay ⟨v.at_, v.end_, v.took, v.far, true, (qi k)⟩ = true := by
  have hv := (rkmay_iff v).1 h
  have := qi_bd k
  exact (rkmay_iff _).2 ⟨hv.a0, hv.a1, hv.k0, hv.k1, hv.e0, hv.f0, hv.e1, hv.f1, this.1, this.2⟩

set_option maxRecDepth 100000 in
set_option maxHeartbeats 8000000 in
theorem walk (v : Rkv) (a n : Int) (w : World) :
    Calls Try.prog 7 #[.agg #[.int .i64 v.at_, .int .i64 v.end_, .int .i64 v.took, .int .i64 v.far, .bool v.mixed, .int .i64 v.quarters], .int .i64 a, .int .i64 n] w fun e w' => e = .returned (.bool true) ∧ Below w.heap.size w w' := by
  obtain ⟨B, hB⟩ : ∃ B, w.heap.size = B := ⟨_, rfl⟩
  rw [hB]
  have e0 := Bx.new w 23 [.int .i64 v.at_, .int .i64 v.end_, .int .i64 v.took, .int .i64 v.far, .bool v.mixed, .int .i64 v.quarters]
  rw [hB] at e0
  have b0 : Below B w (w.alloc (.cells #[.int .i64 v.at_, .int .i64 v.end_, .int .i64 v.took, .int .i64 v.far, .bool v.mixed, .int .i64 v.quarters] 23)) := by rw [← hB]; exact (Below.refl _ _).alloc (Nat.le_refl _) _
  go_enter Try.func7, Try.ntmps7
  go_wp2_with fail
  generalize w.alloc (.cells #[.int .i64 v.at_, .int .i64 v.end_, .int .i64 v.took, .int .i64 v.far, .bool v.mixed, .int .i64 v.quarters] 23) = w1 at e0 b0 ⊢
  refine (rakawake_any _).mono ?_
  rintro e w2 ⟨rfl, hb2⟩
  have e2 := e0.kept hb2; have b2 := b0.trans (hb2.mono (Nat.le_of_lt e0.lt))
  clear e0 b0 hb2
  by_cases c0 : n < 0
  case pos =>
    have d0 : decide (n < 0) = true := decide_eq_true c0
    go_wp2_with fail
    go_ret
    exact ⟨rfl, b2⟩
  have d0 : decide (n < 0) = false := decide_eq_false c0
  by_cases c1 : 40 < n
  case pos =>
    have d1 : decide (40 < n) = true := decide_eq_true c1
    go_wp2_with fail
    go_ret
    exact ⟨rfl, b2⟩
  have d1 : decide (40 < n) = false := decide_eq_false c1
  by_cases c2 : a < 0
  case pos =>
    have d2 : decide (a < 0) = true := decide_eq_true c2
    go_wp2_with fail
    go_ret
    exact ⟨rfl, b2⟩
  have d2 : decide (a < 0) = false := decide_eq_false c2
  by_cases c3 : 1073741824 < a
  case pos =>
    have d3 : decide (1073741824 < a) = true := decide_eq_true c3
    go_wp2_with fail
    go_ret
    exact ⟨rfl, b2⟩
  have d3 : decide (1073741824 < a) = false := decide_eq_false c3
  have x0 := e2.cell 0 rfl; have x1 := e2.cell 1 rfl; have x2 := e2.cell 2 rfl; have x3 := e2.cell 3 rfl; have x4 := e2.cell 4 rfl; have x5 := e2.cell 5 rfl
  by_cases cq : v.quarters = 0
  case neg =>
    have dq : (v.quarters != 0) = true := by simpa using cq
    go_wp2_with fail
    go_ret
    exact ⟨rfl, b2⟩
  have dq : (v.quarters != 0) = false := by simp [cq]
  have CQH := Lib.hid cq; clear cq
  cases hm : v.mixed with
  | false =>
    rw [hm] at x4
    have HM := Lib.hid hm; clear hm
    go_wp2_with fail
    go_ret
    exact ⟨rfl, b2⟩
  | true =>
  rw [hm] at x4
  have HM := Lib.hid hm; clear hm
  have hmay := rakmay_any v w2
  rw [HM.out] at hmay
  cases hk : rkmay v with
  | false =>
    rw [hk] at hmay
    clear hk
    go_wp2_with (go_at_call 18; refine hmay.mono ?_; rintro e w3 ⟨rfl, hb3⟩)
    go_ret
    exact ⟨rfl, b2.trans (hb3.mono (Nat.le_of_lt e2.lt))⟩
  | true =>
  rw [hk] at hmay
  have HK := Lib.hid hk; clear hk
  go_upto_region 4 with (go_at_call 18; refine hmay.mono ?_; rintro e w3 ⟨rfl, hb3⟩)
  have e3 : Bx w3 B 23 [.int .i64 v.at_, .int .i64 v.end_, .int .i64 v.took, .int .i64 v.far, .bool true, .int .i64 (qi 0)] := by
    have := e2.kept hb3
    rw [HM.out, CQH.out] at this
    exact this
  have b3 := b2.trans (hb3.mono (Nat.le_of_lt e2.lt))
  obtain ⟨N, hN⟩ : ∃ N : Nat, n = (N : Int) := ⟨n.toNat, by omega⟩
  subst hN
  clear e2 b2 hb3 hmay x0 x1 x2 x3 x4 x5 dq
  go_wp2_with fail
  go_loopw [8] (fun i wr => ∃ k : Nat, k ≤ N ∧ i = .int .i64 (k : Int) ∧ Bx wr B 23 [.int .i64 v.at_, .int .i64 v.end_, .int .i64 v.took, .int .i64 v.far, .bool true, .int .i64 (qi k)] ∧ Below B w wr) (fun i _ => N - (intOf i).toNat)
  case atStart => exact ⟨0, Nat.zero_le _, rfl, e3, b3⟩
  case round =>
    obtain ⟨k, hkN, rfl, er, br⟩ := hrel
    clear e3 b3
    by_cases hlt : k < N
    case pos =>
      have hd : decide (k < N) = true := decide_eq_true hlt
      go_wp2_with (refine rk_load rfl (.tmp 3) rfl rfl er rfl ?_)
      refine (raktwice_any ⟨v.at_, v.end_, v.took, v.far, true, (qi k)⟩ _).mono ?_
      rintro e w5 ⟨he, hb5⟩
      have ht : twiceR ⟨v.at_, v.end_, v.took, v.far, true, (qi k)⟩ = (⟨v.at_, v.end_, v.took, v.far, true, (qi (k + 1))⟩, 0) := by rw [twice_ok (qi_may HK.out k), ← qi_more]
      rw [ht] at he
      dsimp only at he
      subst he
      have e5 := (er.kept hb5).alloc (.cells #[.int .i64 v.at_, .int .i64 v.end_, .int .i64 v.took, .int .i64 v.far, .bool true, .int .i64 (qi (k + 1))] 23)
      have hB5 : B ≤ w5.heap.size := Nat.le_of_lt (er.kept hb5).lt
      have b5 := (br.trans (hb5.mono (Nat.le_of_lt er.lt))).alloc hB5 (.cells #[.int .i64 v.at_, .int .i64 v.end_, .int .i64 v.took, .int .i64 v.far, .bool true, .int .i64 (qi (k + 1))] 23)
      have n5 := Bx.new w5 23 [.int .i64 v.at_, .int .i64 v.end_, .int .i64 v.took, .int .i64 v.far, .bool true, .int .i64 (qi (k + 1))]
      clear ht er br hb5
      go_upto_region 8 with fail
      obtain ⟨Q, hQ⟩ : ∃ Q, w5.heap.size = Q := ⟨_, rfl⟩
      rw [hQ] at n5 ⊢
      generalize w5.alloc (.cells #[.int .i64 v.at_, .int .i64 v.end_, .int .i64 v.took, .int .i64 v.far, .bool true, .int .i64 (qi (k + 1))] 23) = w6 at e5 b5 n5 ⊢
      have hB6 : B ≤ w6.heap.size := Nat.le_of_lt e5.lt
      have e7 := rk_put e5 [.int .i64 v.at_, .int .i64 v.end_, .int .i64 v.took, .int .i64 v.far, .bool true, .int .i64 (qi (k + 1))]
      have b7 := b5.grown (rk_grown w6 B #[.int .i64 v.at_, .int .i64 v.end_, .int .i64 v.took, .int .i64 v.far, .bool true, .int .i64 (qi (k + 1))]) hB6 (fun b h => by cases h; exact Nat.le_refl _)
      go_wp2_with (first | (refine rk_load rfl (.tmp 9) rfl rfl n5 rfl ?_) | (refine rk_store rfl (.tmp 3) (.tmp 59) rfl rfl [.int .i64 v.at_, .int .i64 v.end_, .int .i64 v.took, .int .i64 v.far, .bool true, .int .i64 (qi (k + 1))] rfl e5 rfl rfl rfl ?_))
      go_roundw
      case rel => exact ⟨k + 1, by omega, by go_num, e7, b7⟩
      case measure => simp [intOf]; omega
    case neg =>
    obtain rfl : k = N := by omega
    have hd : decide (k < k) = false := decide_eq_false (by omega)
    obtain ⟨q, hq⟩ : ∃ q, qi k = q := ⟨_, rfl⟩
    have hqb := qi_bd k
    have hmq := qi_may HK.out k
    rw [hq] at er hqb hmq
    obtain ⟨q0, q1⟩ := hqb
    have hst := slack_top (v := ⟨v.at_, v.end_, v.took, v.far, true, q⟩) (a := a) hmq rfl (by omega) (by omega)
    dsimp only at hst
    have hbd : (q + 1) * a ≤ 21 * 1073741824 := Int.mul_le_mul (by omega) (by omega) (by omega) (by omega)
    have hbd0 : 0 ≤ (q + 1) * a := Int.mul_nonneg (by omega) (by omega)
    obtain ⟨M, hM⟩ : ∃ M, (q + 1) * a = M := ⟨_, rfl⟩
    rw [hM] at hst hbd hbd0
    obtain ⟨T, hT⟩ : ∃ T, M / 4 = T := ⟨_, rfl⟩
    rw [hT] at hst
    have HST := Lib.hid hst; have HMQ := Lib.hid hmq
    have hs0 : slackR ⟨v.at_, v.end_, v.took, v.far, true, q⟩ a 0 = 0 := slack_none
    have HS0 := Lib.hid hs0
    have a2 : IntKind.i64.wrap (M.tdiv 4) = T := by rw [IntWalk.i64_quo _ _ (by omega), ← hT]

    have hq' : q = if k < 20 then (k : Int) else 20 := by rw [← hq]; rfl
    clear hst hs0 hmq hq hT q0 q1
    by_cases h20 : 20 < k
    · have d20 : decide (20 < k) = true := decide_eq_true h20
      have hqv : q = 20 := by rw [hq', if_neg (by omega)]
      have a1 : IntKind.i64.wrap (21 * a) = M := by rw [← hM, hqv]; exact IntWalk.i64_in _ (by omega)
      have A1 := Lib.hid hqv
      clear hq' hM hqv hbd hbd0
      go_wp2_with (refine rk_load rfl (.tmp 3) rfl rfl er rfl ?_)
      refine (rakslack_any ⟨v.at_, v.end_, v.took, v.far, true, q⟩ a 1099511627776 _).mono ?_
      rintro e w5 ⟨rfl, hb5⟩
      rw [HST.out]
      have e5 := er.kept hb5; have b5 := br.trans (hb5.mono (Nat.le_of_lt er.lt))
      have x0 := e5.cell 0 rfl; have x1 := e5.cell 1 rfl; have x2 := e5.cell 2 rfl; have x3 := e5.cell 3 rfl; have x4 := e5.cell 4 rfl; have x5 := e5.cell 5 rfl
      clear er br hb5
      go_wp2_with fail
      refine (rakslack_any ⟨v.at_, v.end_, v.took, v.far, true, q⟩ a 0 _).mono ?_
      rintro e w6 ⟨rfl, hb6⟩
      rw [HS0.out]
      have e6 := e5.kept hb6; have b6 := b5.trans (hb6.mono (Nat.le_of_lt e5.lt))
      clear x0 x1 x2 x3 x4 x5
      have x0 := e6.cell 0 rfl; have x1 := e6.cell 1 rfl; have x2 := e6.cell 2 rfl; have x3 := e6.cell 3 rfl; have x4 := e6.cell 4 rfl; have x5 := e6.cell 5 rfl
      clear e5 b5 hb6
      go_wp2_with fail
      refine (rakmay_any ⟨v.at_, v.end_, v.took, v.far, true, q⟩ _).mono ?_
      rintro e w7 ⟨rfl, hb7⟩
      rw [HMQ.out]
      have b7 := b6.trans (hb7.mono (Nat.le_of_lt e6.lt))
      go_wp2_with fail
      go_ret
      exact ⟨rfl, b7⟩
    · have d20 : decide (20 < k) = false := decide_eq_false h20
      have hqv : q = (k : Int) := by rw [hq']; split <;> omega
      have a1 : IntKind.i64.wrap (((k : Int) + 1) * a) = M := by rw [← hM, hqv]; exact IntWalk.i64_in _ (by rw [← hqv, hM]; omega)
      have A1 := Lib.hid hqv
      clear hq' hM hqv hbd hbd0
      go_wp2_with (refine rk_load rfl (.tmp 3) rfl rfl er rfl ?_)
      refine (rakslack_any ⟨v.at_, v.end_, v.took, v.far, true, q⟩ a 1099511627776 _).mono ?_
      rintro e w5 ⟨rfl, hb5⟩
      rw [HST.out]
      have e5 := er.kept hb5; have b5 := br.trans (hb5.mono (Nat.le_of_lt er.lt))
      have x0 := e5.cell 0 rfl; have x1 := e5.cell 1 rfl; have x2 := e5.cell 2 rfl; have x3 := e5.cell 3 rfl; have x4 := e5.cell 4 rfl; have x5 := e5.cell 5 rfl
      clear er br hb5
      go_wp2_with fail
      refine (rakslack_any ⟨v.at_, v.end_, v.took, v.far, true, q⟩ a 0 _).mono ?_
      rintro e w6 ⟨rfl, hb6⟩
      rw [HS0.out]
      have e6 := e5.kept hb6; have b6 := b5.trans (hb6.mono (Nat.le_of_lt e5.lt))
      clear x0 x1 x2 x3 x4 x5
      have x0 := e6.cell 0 rfl; have x1 := e6.cell 1 rfl; have x2 := e6.cell 2 rfl; have x3 := e6.cell 3 rfl; have x4 := e6.cell 4 rfl; have x5 := e6.cell 5 rfl
      clear e5 b5 hb6
      go_wp2_with fail
      refine (rakmay_any ⟨v.at_, v.end_, v.took, v.far, true, q⟩ _).mono ?_
      rintro e w7 ⟨rfl, hb7⟩
      rw [HMQ.out]
      have b7 := b6.trans (hb7.mono (Nat.le_of_lt e6.lt))
      go_wp2_with fail
      go_ret
      exact ⟨rfl, b7⟩
end Go.Proofs.Ytlanplobdgchaaa.rackTwice
