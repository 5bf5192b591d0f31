/- The reference of package sent: in, One, Chain, May as contracts of the calls. -/
import Derived.Test.YtbkmadlekigjfaaProg
import Derived.Test.YtbkmadlekigjfaaSt
import Derived.WalkKit
import Derived.WalkSpells
import Derived.WalkSmall
import Derived.Lib.Hide
import Derived.Below
import Derived.Outline
import Derived.Deep.QuietTactic
import Derived.BigQuiet
import Derived.IntWalk
import Derived.Deep.DeepCutAuto
import Derived.OrdersHeld
import Derived.StillTail
import Derived.Test.YtbkmadlekigjfaaTail
import Derived.Laws.Rows
import Derived.Laws.Tables
namespace Go.Proofs.Ytbkmadlekigjfaa
open Go.RowKit
set_option linter.unusedVariables false
set_option linter.unusedSimpArgs false

theorem rsin_any (x : Int) (w : World) :
    Calls Try.prog 33 #[.int .i64 x] w fun e w' => e = .returned (.bool (t60 x)) ∧ w = w' := by
  have e : t60 x = (decide (0 ≤ x) && decide (x ≤ 1152921504606846976)) := by unfold t60; rw [Bool.decide_and]
  by_cases h1 : 0 ≤ x
  · by_cases h2 : x ≤ 1152921504606846976
    · rw [decide_eq_true h1, decide_eq_true h2] at e
      rw [e]
      go_enter Try.func33, Try.ntmps33
      go_wp2
      go_ret
      exact ⟨rfl, rfl⟩
    · rw [decide_eq_true h1, decide_eq_false h2] at e
      rw [e]
      go_enter Try.func33, Try.ntmps33
      go_wp2
      go_ret
      exact ⟨rfl, rfl⟩
  · rw [decide_eq_false h1] at e
    rw [e]
    have h1' : x < 0 := by omega
    go_enter Try.func33, Try.ntmps33
    go_wp2
    go_ret
    exact ⟨rfl, rfl⟩

set_option maxRecDepth 100000 in
set_option maxHeartbeats 4000000 in
theorem rsone_any (x : Prt) (w : World) :
    Calls Try.prog 31 #[.agg #[.int .i64 x.seq, .int .i64 x.len, .int .i64 x.dsn, .int .i64 x.at_, .int .i64 x.tries, .bool x.came, .bool x.lost, .int .i64 x.total, .int .i64 x.last]] w fun e w' => e = .returned (.bool (oneB x)) ∧ Below w.heap.size w w' := by
  obtain ⟨B, hB⟩ : ∃ B, w.heap.size = B := ⟨_, rfl⟩
  rw [hB]
  have e0 := Bx.new w 38 (El.cells x)
  rw [hB] at e0
  have b0 : Below B w (w.alloc (.cells #[.int .i64 x.seq, .int .i64 x.len, .int .i64 x.dsn, .int .i64 x.at_, .int .i64 x.tries, .bool x.came, .bool x.lost, .int .i64 x.total, .int .i64 x.last] 38)) := by rw [← hB]; exact (Below.refl _ _).alloc (Nat.le_refl _) _
  have x0 := e0.cell 0 rfl; have x1 := e0.cell 1 rfl; have x2 := e0.cell 2 rfl; have x3 := e0.cell 3 rfl; have x4 := e0.cell 4 rfl; have x5 := e0.cell 5 rfl; have x6 := e0.cell 6 rfl; have x7 := e0.cell 7 rfl; have x8 := e0.cell 8 rfl
  change World.cell? (w.alloc (.cells #[.int .i64 x.seq, .int .i64 x.len, .int .i64 x.dsn, .int .i64 x.at_, .int .i64 x.tries, .bool x.came, .bool x.lost, .int .i64 x.total, .int .i64 x.last] 38)) _ = _ at x0 x1 x2 x3 x4 x5 x6 x7 x8
  obtain ⟨q, hq⟩ : ∃ q, oneB x = q := ⟨_, rfl⟩
  rw [hq]
  have HQ := Lib.hid hq; clear hq
  obtain ⟨a0, a1, a2, a3, a4, a5, a6, a7, a8⟩ := x
  dsimp only at x0 x1 x2 x3 x4 x5 x6 x7 x8 b0 ⊢
  clear e0
  cases t0 : t60 a0 with
  | false =>
    have hq := HQ.out
    unfold oneB at hq
    simp only [t0, Bool.true_and, Bool.false_and] at hq
    subst hq
    go_enter Try.func31, Try.ntmps31
    go_wp2_with (go_at_call 33; refine (rsin_any _ _).mono ?_; rintro e wx ⟨rfl, rfl⟩)
    go_ret
    exact ⟨rfl, b0⟩
  | true =>
  cases t1 : t60 a2 with
  | false =>
    have hq := HQ.out
    unfold oneB at hq
    simp only [t0, t1, Bool.true_and, Bool.false_and] at hq
    subst hq
    go_enter Try.func31, Try.ntmps31
    go_wp2_with (go_at_call 33; refine (rsin_any _ _).mono ?_; rintro e wx ⟨rfl, rfl⟩)
    go_ret
    exact ⟨rfl, b0⟩
  | true =>
  cases t2 : t60 a3 with
  | false =>
    have hq := HQ.out
    unfold oneB at hq
    simp only [t0, t1, t2, Bool.true_and, Bool.false_and] at hq
    subst hq
    go_enter Try.func31, Try.ntmps31
    go_wp2_with (go_at_call 33; refine (rsin_any _ _).mono ?_; rintro e wx ⟨rfl, rfl⟩)
    go_ret
    exact ⟨rfl, b0⟩
  | true =>
  cases t3 : t60 a7 with
  | false =>
    have hq := HQ.out
    unfold oneB at hq
    simp only [t0, t1, t2, t3, Bool.true_and, Bool.false_and] at hq
    subst hq
    go_enter Try.func31, Try.ntmps31
    go_wp2_with (go_at_call 33; refine (rsin_any _ _).mono ?_; rintro e wx ⟨rfl, rfl⟩)
    go_ret
    exact ⟨rfl, b0⟩
  | true =>
  cases t4 : t60 a8 with
  | false =>
    have hq := HQ.out
    unfold oneB at hq
    simp only [t0, t1, t2, t3, t4, Bool.true_and, Bool.false_and] at hq
    subst hq
    go_enter Try.func31, Try.ntmps31
    go_wp2_with (go_at_call 33; refine (rsin_any _ _).mono ?_; rintro e wx ⟨rfl, rfl⟩)
    go_ret
    exact ⟨rfl, b0⟩
  | true =>
  by_cases hcl : (a5 && a6) = true
  case pos =>
    have h5 : a5 = true := by cases a5 <;> simp_all
    have h6 : a6 = true := by cases a6 <;> simp_all
    subst h5 h6
    have hq := HQ.out
    unfold oneB at hq
    simp only [t0, t1, t2, t3, t4, Bool.true_and, Bool.false_and, Bool.and_self, Bool.not_true] at hq
    subst hq
    go_enter Try.func31, Try.ntmps31
    go_wp2_with (go_at_call 33; refine (rsin_any _ _).mono ?_; rintro e wx ⟨rfl, rfl⟩)
    go_ret
    exact ⟨rfl, b0⟩
  have hcl' : (a5 && a6) = false := by simpa using hcl
  have hq := HQ.out
  unfold oneB at hq
  simp only [t0, t1, t2, t3, t4, hcl', Bool.true_and, Bool.not_false] at hq
  have HQ2 := Lib.hid hq
  clear hq HQ hcl
  by_cases c1 : 1 ≤ a1
  case neg =>
    have dc1 : decide (1 ≤ a1) = false := decide_eq_false c1
    cases a5 with
    | false =>
      clear hcl'
      have hq := HQ2.out
      rw [decide_eq_false (fun h => c1 h.1)] at hq
      subst hq
      clear HQ2
      go_enter Try.func31, Try.ntmps31
      go_wp2_with (go_at_call 33; refine (rsin_any _ _).mono ?_; rintro e wx ⟨rfl, rfl⟩)
      go_ret
      exact ⟨rfl, b0⟩
    | true =>
      have h6 : a6 = false := by simpa using hcl'
      subst h6
      clear hcl'
      have hq := HQ2.out
      rw [decide_eq_false (fun h => c1 h.1)] at hq
      subst hq
      clear HQ2
      go_enter Try.func31, Try.ntmps31
      go_wp2_with (go_at_call 33; refine (rsin_any _ _).mono ?_; rintro e wx ⟨rfl, rfl⟩)
      go_ret
      exact ⟨rfl, b0⟩
  have dc1 : decide (1 ≤ a1) = true := decide_eq_true c1
  by_cases c2 : a1 ≤ 1460
  case neg =>
    have dc2 : decide (a1 ≤ 1460) = false := decide_eq_false c2
    cases a5 with
    | false =>
      clear hcl'
      have hq := HQ2.out
      rw [decide_eq_false (fun h => c2 h.2.1)] at hq
      subst hq
      clear HQ2
      go_enter Try.func31, Try.ntmps31
      go_wp2_with (go_at_call 33; refine (rsin_any _ _).mono ?_; rintro e wx ⟨rfl, rfl⟩)
      go_ret
      exact ⟨rfl, b0⟩
    | true =>
      have h6 : a6 = false := by simpa using hcl'
      subst h6
      clear hcl'
      have hq := HQ2.out
      rw [decide_eq_false (fun h => c2 h.2.1)] at hq
      subst hq
      clear HQ2
      go_enter Try.func31, Try.ntmps31
      go_wp2_with (go_at_call 33; refine (rsin_any _ _).mono ?_; rintro e wx ⟨rfl, rfl⟩)
      go_ret
      exact ⟨rfl, b0⟩
  have dc2 : decide (a1 ≤ 1460) = true := decide_eq_true c2
  by_cases c3 : 1 ≤ a4
  case neg =>
    have dc3 : decide (1 ≤ a4) = false := decide_eq_false c3
    cases a5 with
    | false =>
      clear hcl'
      have hq := HQ2.out
      rw [decide_eq_false (fun h => c3 h.2.2.1)] at hq
      subst hq
      clear HQ2
      go_enter Try.func31, Try.ntmps31
      go_wp2_with (go_at_call 33; refine (rsin_any _ _).mono ?_; rintro e wx ⟨rfl, rfl⟩)
      go_ret
      exact ⟨rfl, b0⟩
    | true =>
      have h6 : a6 = false := by simpa using hcl'
      subst h6
      clear hcl'
      have hq := HQ2.out
      rw [decide_eq_false (fun h => c3 h.2.2.1)] at hq
      subst hq
      clear HQ2
      go_enter Try.func31, Try.ntmps31
      go_wp2_with (go_at_call 33; refine (rsin_any _ _).mono ?_; rintro e wx ⟨rfl, rfl⟩)
      go_ret
      exact ⟨rfl, b0⟩
  have dc3 : decide (1 ≤ a4) = true := decide_eq_true c3
  by_cases c4 : a4 ≤ 1000
  case neg =>
    have dc4 : decide (a4 ≤ 1000) = false := decide_eq_false c4
    cases a5 with
    | false =>
      clear hcl'
      have hq := HQ2.out
      rw [decide_eq_false (fun h => c4 h.2.2.2)] at hq
      subst hq
      clear HQ2
      go_enter Try.func31, Try.ntmps31
      go_wp2_with (go_at_call 33; refine (rsin_any _ _).mono ?_; rintro e wx ⟨rfl, rfl⟩)
      go_ret
      exact ⟨rfl, b0⟩
    | true =>
      have h6 : a6 = false := by simpa using hcl'
      subst h6
      clear hcl'
      have hq := HQ2.out
      rw [decide_eq_false (fun h => c4 h.2.2.2)] at hq
      subst hq
      clear HQ2
      go_enter Try.func31, Try.ntmps31
      go_wp2_with (go_at_call 33; refine (rsin_any _ _).mono ?_; rintro e wx ⟨rfl, rfl⟩)
      go_ret
      exact ⟨rfl, b0⟩
  have dc4 : decide (a4 ≤ 1000) = true := decide_eq_true c4
  cases a5 with
  | false =>
    clear hcl'
    have hq := HQ2.out
    rw [decide_eq_true ⟨c1, c2, c3, c4⟩] at hq
    subst hq
    clear HQ2
    go_enter Try.func31, Try.ntmps31
    go_wp2_with (go_at_call 33; refine (rsin_any _ _).mono ?_; rintro e wx ⟨rfl, rfl⟩)
    go_ret
    exact ⟨rfl, b0⟩
  | true =>
    have h6 : a6 = false := by simpa using hcl'
    subst h6
    clear hcl'
    have hq := HQ2.out
    rw [decide_eq_true ⟨c1, c2, c3, c4⟩] at hq
    subst hq
    clear HQ2
    go_enter Try.func31, Try.ntmps31
    go_wp2_with (go_at_call 33; refine (rsin_any _ _).mono ?_; rintro e wx ⟨rfl, rfl⟩)
    go_ret
    exact ⟨rfl, b0⟩
end Go.Proofs.Ytbkmadlekigjfaa
