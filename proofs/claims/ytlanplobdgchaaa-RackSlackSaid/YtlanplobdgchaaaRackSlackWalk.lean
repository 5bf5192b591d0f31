/- RackSlack: the walk. -/
import Derived.Test.YtlanplobdgchaaaProg
import Derived.Test.YtlanplobdgchaaaRkAwake
import Derived.Test.YtlanplobdgchaaaRkMath
import Derived.WalkKit
import Derived.WalkSpells
import Derived.WalkSmall
import Derived.Lib.Hide
import Derived.Below
import Derived.Outline
import Derived.Deep.QuietTactic
import Derived.BigQuiet
import Derived.IntWalk
import Derived.Deep.DeepCutAuto
import Derived.OrdersHeld
import Derived.StillTail
import Derived.Test.YtlanplobdgchaaaTail
import Derived.Laws.Rows
import Derived.Laws.Tables
namespace Go.Proofs.Ytlanplobdgchaaa.rackSlack
open Go.RowKit
set_option linter.unusedVariables false
set_option linter.unusedSimpArgs false

set_option maxRecDepth 100000 in
set_option maxHeartbeats 8000000 in
theorem walk (v : Rkv) (a b : Int) (w : World) :
    Calls Try.prog 5 #[.agg #[.int .i64 v.at_, .int .i64 v.end_, .int .i64 v.took, .int .i64 v.far, .bool v.mixed, .int .i64 v.quarters], .int .i64 a, .int .i64 b] w fun e w' => e = .returned (.bool true) ∧ Below w.heap.size w w' := by
  obtain ⟨B, hB⟩ : ∃ B, w.heap.size = B := ⟨_, rfl⟩
  rw [hB]
  have e0 := Bx.new w 23 [.int .i64 v.at_, .int .i64 v.end_, .int .i64 v.took, .int .i64 v.far, .bool v.mixed, .int .i64 v.quarters]
  rw [hB] at e0
  have b0 : Below B w (w.alloc (.cells #[.int .i64 v.at_, .int .i64 v.end_, .int .i64 v.took, .int .i64 v.far, .bool v.mixed, .int .i64 v.quarters] 23)) := by rw [← hB]; exact (Below.refl _ _).alloc (Nat.le_refl _) _
  go_enter Try.func5, Try.ntmps5
  go_wp2_with fail
  generalize w.alloc (.cells #[.int .i64 v.at_, .int .i64 v.end_, .int .i64 v.took, .int .i64 v.far, .bool v.mixed, .int .i64 v.quarters] 23) = w1 at e0 b0 ⊢
  refine (rakawake_any _).mono ?_
  rintro e w2 ⟨rfl, hb2⟩
  have e2 := e0.kept hb2; have b2 := b0.trans (hb2.mono (Nat.le_of_lt e0.lt))
  clear e0 b0 hb2
  go_wp2_with (refine rk_load rfl (.tmp 3) rfl rfl e2 rfl ?_)
  refine (raktwice_any v _).mono ?_
  rintro e w3 ⟨he, hb3⟩
  have e3 := e2.kept hb3; have b3 := b2.trans (hb3.mono (Nat.le_of_lt e2.lt))
  have hB3 := e3.lt
  clear e2 b2 hb3
  cases hk : rkmay v with
  | false =>
    have ht : twiceR v = (zrk, 1) := twice_no hk
    rw [ht] at he
    dsimp only [zrk] at he
    subst he
    clear ht hk
    have e4 := e3.alloc (.cells #[.int .i64 0, .int .i64 0, .int .i64 0, .int .i64 0, .bool false, .int .i64 0] 23); have b4 := b3.alloc (Nat.le_of_lt hB3) (.cells #[.int .i64 0, .int .i64 0, .int .i64 0, .int .i64 0, .bool false, .int .i64 0] 23)
    go_upto_region 3 with fail
    generalize w3.alloc (.cells #[.int .i64 0, .int .i64 0, .int .i64 0, .int .i64 0, .bool false, .int .i64 0] 23) = w4 at e4 b4 ⊢
    go_wp2_with (refine rk_load rfl (.tmp 3) rfl rfl e4 rfl ?_)
    refine (rakslack_any v a b _).mono ?_
    rintro e w5 ⟨rfl, hb5⟩
    have b5 := b4.trans (hb5.mono (Nat.le_of_lt e4.lt))
    go_wp2_with fail
    go_ret
    exact ⟨rfl, b5⟩
  | true =>
  have ht : twiceR v = (⟨v.at_, v.end_, v.took, v.far, v.mixed, moreQ v.quarters⟩, 0) := twice_ok hk
  rw [ht] at he
  dsimp only at he
  subst he
  have s1 := slack_more (a := a) (b := b) hk
  clear ht hk
  have e4 := e3.alloc (.cells #[.int .i64 v.at_, .int .i64 v.end_, .int .i64 v.took, .int .i64 v.far, .bool v.mixed, .int .i64 (moreQ v.quarters)] 23); have b4 := b3.alloc (Nat.le_of_lt hB3) (.cells #[.int .i64 v.at_, .int .i64 v.end_, .int .i64 v.took, .int .i64 v.far, .bool v.mixed, .int .i64 (moreQ v.quarters)] 23)
  have n4 := Bx.new w3 23 [.int .i64 v.at_, .int .i64 v.end_, .int .i64 v.took, .int .i64 v.far, .bool v.mixed, .int .i64 (moreQ v.quarters)]
  go_upto_region 3 with fail
  obtain ⟨Q, hQ⟩ : ∃ Q, w3.heap.size = Q := ⟨_, rfl⟩
  rw [hQ] at n4 ⊢
  generalize w3.alloc (.cells #[.int .i64 v.at_, .int .i64 v.end_, .int .i64 v.took, .int .i64 v.far, .bool v.mixed, .int .i64 (moreQ v.quarters)] 23) = w4 at e4 b4 n4 ⊢
  clear e3 b3 hB3 hQ
  have s2 : v.mixed = false → slackR v a b = 0 := slack_mix
  have s3 : v.mixed = false → slackR ⟨v.at_, v.end_, v.took, v.far, v.mixed, moreQ v.quarters⟩ a b = 0 := fun h => slack_mix h
  have s4 : 0 ≤ b → 0 ≤ slackR v a b ∧ slackR v a b ≤ b := slack_bd
  have s5 : 0 ≤ b → 0 ≤ slackR ⟨v.at_, v.end_, v.took, v.far, v.mixed, moreQ v.quarters⟩ a b ∧ slackR ⟨v.at_, v.end_, v.took, v.far, v.mixed, moreQ v.quarters⟩ a b ≤ b := slack_bd
  have hc1 := fun w' => rakslack_any v a b w'
  have hc2 := fun w' => rakslack_any ⟨v.at_, v.end_, v.took, v.far, v.mixed, moreQ v.quarters⟩ a b w'
  obtain ⟨S, hS⟩ : ∃ S, slackR v a b = S := ⟨_, rfl⟩
  obtain ⟨T, hT⟩ : ∃ T, slackR ⟨v.at_, v.end_, v.took, v.far, v.mixed, moreQ v.quarters⟩ a b = T := ⟨_, rfl⟩
  rw [hS] at s1 s2 s4
  rw [hT] at s1 s3 s5
  simp only [hS] at hc1
  simp only [hT] at hc2
  have H2 := Lib.hid s2; have H3 := Lib.hid s3; have H4 := Lib.hid s4; have H5 := Lib.hid s5; have H1 := Lib.hid s1; have HC1 := Lib.hid hc1; have HC2 := Lib.hid hc2
  clear s1 s2 s3 s4 s5 hc1 hc2 hS hT
  go_wp2_with (refine rk_load rfl (.tmp 3) rfl rfl e4 rfl ?_)
  refine (HC1.out _).mono ?_
  rintro e w5 ⟨rfl, hb5⟩
  have e5 := e4.kept hb5; have n5 := n4.kept hb5; have b5 := b4.trans (hb5.mono (Nat.le_of_lt e4.lt))
  clear e4 n4 b4 hb5
  by_cases c0 : a < 0
  case pos =>
    have d0 : decide (a < 0) = true := decide_eq_true c0
    go_wp2_with fail
    go_ret
    exact ⟨rfl, b5⟩
  have d0 : decide (a < 0) = false := decide_eq_false c0
  by_cases c1 : 1099511627776 < a
  case pos =>
    have d1 : decide (1099511627776 < a) = true := decide_eq_true c1
    go_wp2_with fail
    go_ret
    exact ⟨rfl, b5⟩
  have d1 : decide (1099511627776 < a) = false := decide_eq_false c1
  by_cases c2 : b < 0
  case pos =>
    have d2 : decide (b < 0) = true := decide_eq_true c2
    go_wp2_with fail
    go_ret
    exact ⟨rfl, b5⟩
  have d2 : decide (b < 0) = false := decide_eq_false c2
  by_cases c3 : 1099511627776 < b
  case pos =>
    have d3 : decide (1099511627776 < b) = true := decide_eq_true c3
    go_wp2_with fail
    go_ret
    exact ⟨rfl, b5⟩
  have d3 : decide (1099511627776 < b) = false := decide_eq_false c3
  obtain ⟨p0, p1⟩ := H4.out (by omega)
  obtain ⟨q0, q1⟩ := H5.out (by omega)
  have p2 : S ≤ T := H1.out
  have f0 : decide (0 ≤ S) = true := decide_eq_true p0
  have f1 : decide (S ≤ b) = true := decide_eq_true p1
  have f2 : decide (S ≤ T) = true := decide_eq_true p2
  have f3 : decide (T ≤ b) = true := decide_eq_true q1
  go_wp2_with (refine rk_load rfl (.tmp 8) rfl rfl n5 rfl ?_)
  refine (HC2.out _).mono ?_
  rintro e w6 ⟨rfl, hb6⟩
  have e6 := e5.kept hb6; have n6 := n5.kept hb6; have b6 := b5.trans (hb6.mono (Nat.le_of_lt e5.lt))
  have x0 := e6.cell 0 rfl; have y0 := n6.cell 0 rfl
  have x4 := e6.cell 4 rfl; have y4 := n6.cell 4 rfl
  cases hm : v.mixed with
  | true =>
    rw [hm] at x4 y4
    have HM := Lib.hid hm
    clear hm e6 n6 e5 n5 b5 hb6 p0 p1 p2 q0 q1
    go_wp2_with fail
    go_ret
    exact ⟨rfl, b6⟩
  | false =>
    have z1 := H2.out hm; have z2 := H3.out hm
    rw [hm] at x4 y4
    subst z1 z2
    have HM := Lib.hid hm
    clear hm e6 n6 e5 n5 b5 hb6 p0 p1 p2 q0 q1
    go_wp2_with fail
    go_ret
    exact ⟨rfl, b6⟩
end Go.Proofs.Ytlanplobdgchaaa.rackSlack
