/- Package vegas as it landed: within, weight, Verdict, Queue as contracts of the calls. -/
import Derived.Test.YtjlomjdghmjkmaaVgRef1
import Derived.Test.YtjlomjdghmjkmaaMore
import Derived.Laws.EntriesVeiled
namespace Go.Proofs.Ytjlomjdghmjkmaa
open Go.RowKit
set_option linter.unusedVariables false
set_option linter.unusedSimpArgs false

/-- low to high -/
def vinB (n lo hi : Int) : Bool := decide (lo ≤ n) && decide (n ≤ hi)
theorem vin_iff (n lo hi : Int) : vinB n lo hi = true ↔ lo ≤ n ∧ n ≤ hi := by unfold vinB; simp
theorem vin_any (n lo hi : Int) (w : World) :
    Calls Try.prog 19 #[.int .i64 n, .int .i64 lo, .int .i64 hi] w fun e w' => e = .returned (.bool (vinB n lo hi)) ∧ w = w' := by
  by_cases h1 : lo ≤ n
  · have e1 : vinB n lo hi = decide (n ≤ hi) := by unfold vinB; rw [decide_eq_true h1]; rfl
    rw [e1]
    clear e1
    have d1 : decide (lo ≤ n) = true := decide_eq_true h1
    go_enter Try.func19, Try.ntmps19
    go_wp2
    go_ret
    exact ⟨rfl, rfl⟩
  · have e1 : vinB n lo hi = false := by unfold vinB; rw [decide_eq_false h1]; rfl
    rw [e1]
    clear e1
    have d1 : decide (lo ≤ n) = false := decide_eq_false h1
    go_enter Try.func19, Try.ntmps19
    go_wp2
    go_ret
    exact ⟨rfl, rfl⟩

set_option maxRecDepth 100000 in
set_option maxHeartbeats 8000000 in
theorem vgweight_any (c r : Int) (w : World) : Calls Try.prog 23 #[.agg #[.int .i64 c, .int .i64 r]] w fun e w' => e = .returned (.int .i64 (wt (c, r))) ∧ Below w.heap.size w w' := by
  obtain ⟨B, hB⟩ : ∃ B, w.heap.size = B := ⟨_, rfl⟩
  have e0 := Bx.new w 38 [.int .i64 c, .int .i64 r]
  rw [hB] at e0 ⊢
  have b0 : Below B w (w.alloc (.cells #[.int .i64 c, .int .i64 r] 38)) := by rw [← hB]; exact (Below.refl _ _).alloc (Nat.le_refl _) _
  obtain ⟨q, hq⟩ : ∃ q, wt (c, r) = q := ⟨_, rfl⟩
  rw [hq]
  go_enter Try.func23, Try.ntmps23
  go_upto_region 1 with fail
  change Code.wp _ _ _ _ (w.alloc (.cells #[.int .i64 c, .int .i64 r] 38))
  generalize w.alloc (.cells #[.int .i64 c, .int .i64 r] 38) = w1 at e0 b0 ⊢
  have c0 := e0.cell 0 rfl; have c1 := e0.cell 1 rfl
  cases h0 : vinB c 1 1073741824 with
  | false =>
    have hF : q = 0 := by rw [← hq]; exact wt_no (fun h => by rw [(vin_iff _ _ _).2 ⟨h.1, h.2.1⟩] at h0; cases h0)
    subst hF
    clear hq
    go_wp2_with (go_at_call 19; refine (vin_any _ _ _ _).mono ?_; rintro e wx ⟨rfl, rfl⟩)
    go_ret
    exact ⟨rfl, b0⟩
  | true =>
  cases h1 : vinB r 1 1099511627776 with
  | false =>
    have hF : q = 0 := by rw [← hq]; exact wt_no (fun h => by rw [(vin_iff _ _ _).2 h.2.2] at h1; cases h1)
    subst hF
    clear hq
    go_wp2_with (go_at_call 19; refine (vin_any _ _ _ _).mono ?_; rintro e wx ⟨rfl, rfl⟩)
    go_ret
    exact ⟨rfl, b0⟩
  | true =>
  have g0 := (vin_iff _ _ _).1 h0; have g1 := (vin_iff _ _ _).1 h1
  have hr : 1 ≤ c ∧ c ≤ 1073741824 ∧ 1 ≤ r ∧ r ≤ 1099511627776 := ⟨g0.1, g0.2, g1.1, g1.2⟩
  rw [wt_yes hr] at hq
  dsimp only at hq
  have mm := fun w => md_any 1048576 c r w
  rw [md_wt hr] at mm
  obtain ⟨tq, htq⟩ : ∃ tq, tell (1048576 * c / r) true = tq := ⟨_, rfl⟩
  have ht : tq = q := by rw [← htq, ← hq]; rfl
  rw [htq, ht] at mm
  have hBs := Nat.le_of_lt e0.lt
  clear hq htq ht hr g0 g1
  go_wp2_with (first | (go_at_call 19; refine (vin_any _ _ _ _).mono ?_; rintro e wx ⟨rfl, rfl⟩) | (go_at_call 24; refine (mm _).mono ?_; rintro e wm ⟨rfl, hbm⟩))
  go_ret
  exact ⟨rfl, b0.trans (hbm.mono hBs)⟩

set_option maxRecDepth 100000 in
set_option maxHeartbeats 8000000 in
theorem vverd_same (q a : Int) (slow : Bool) (w : World) : Calls Try.prog 16 #[.int .i64 q, .int .i64 a, .bool slow] w fun e w' => e = .returned (.int .i64 (verdR q a slow)) ∧ w = w' := by
  by_cases h1 : a < q
  · have d1 : decide (a < q) = true := decide_eq_true h1
    have d2 : decide (q < a) = false := decide_eq_false (by omega)
    have d3 : decide (q = a) = false := decide_eq_false (by omega)
    have d4 : (q == a) = false := by simp; omega
    cases slow with
    | true =>
      rw [show verdR q a true = 3 from by unfold verdR; rw [if_pos rfl, if_pos h1]]
      go_enter Try.func16, Try.ntmps16
      go_wp2
      go_ret
      exact ⟨rfl, rfl⟩
    | false =>
      rw [show verdR q a false = 2 from by unfold verdR; rw [if_neg (by simp), if_neg (by omega), if_pos h1]]
      go_enter Try.func16, Try.ntmps16
      go_wp2
      go_ret
      exact ⟨rfl, rfl⟩
  · have d1 : decide (a < q) = false := decide_eq_false h1
    cases slow with
    | true =>
      rw [show verdR q a true = 0 from by unfold verdR; rw [if_pos rfl, if_neg h1]]
      go_enter Try.func16, Try.ntmps16
      go_wp2
      go_ret
      exact ⟨rfl, rfl⟩
    | false =>
      by_cases h2 : q < a
      · have d2 : decide (q < a) = true := decide_eq_true h2
        have d3 : decide (q = a) = false := decide_eq_false (by omega)
        have d4 : (q == a) = false := by simp; omega
        rw [show verdR q a false = 1 from by unfold verdR; rw [if_neg (by simp), if_pos h2]]
        go_enter Try.func16, Try.ntmps16
        go_wp2
        go_ret
        exact ⟨rfl, rfl⟩
      · have d2 : decide (q < a) = false := decide_eq_false h2
        have d3 : decide (q = a) = true := decide_eq_true (by omega)
        have d4 : (q == a) = true := by simp; omega
        rw [show verdR q a false = 0 from by unfold verdR; rw [if_neg (by simp), if_neg h2, if_neg h1]]
        go_enter Try.func16, Try.ntmps16
        go_wp2
        go_ret
        exact ⟨rfl, rfl⟩

theorem vgverd_any (q a : Int) (slow : Bool) (w : World) : Calls Try.prog 16 #[.int .i64 q, .int .i64 a, .bool slow] w fun e w' => e = .returned (.int .i64 (verdR q a slow)) ∧ Below w.heap.size w w' :=
  (vverd_same q a slow w).mono fun _ _ h => ⟨h.1, h.2 ▸ Below.refl _ _⟩

set_option maxRecDepth 100000 in
set_option maxHeartbeats 8000000 in
theorem vgqueue_any (cwnd srtt base mss : Int) (w : World) : Calls Try.prog 14 #[.int .i64 cwnd, .int .i64 srtt, .int .i64 base, .int .i64 mss] w fun e w' => e = .returned (.int .i64 (queueR cwnd srtt base mss)) ∧ Below w.heap.size w w' := by
  obtain ⟨q, hq⟩ : ∃ q, queueR cwnd srtt base mss = q := ⟨_, rfl⟩
  rw [hq]
  have HQ := Lib.hid hq; clear hq
  cases h0 : vinB srtt 1 1099511627776 with
  | false =>
    have hF : q = 0 := by rw [← HQ.out]; exact queue_no (fun h => by rw [(vin_iff _ _ _).2 ⟨h.2.2.1, h.2.2.2.1⟩] at h0; cases h0)
    subst hF
    clear HQ
    go_enter Try.func14, Try.ntmps14
    go_wp2_with (go_at_call 19; refine (vin_any _ _ _ _).mono ?_; rintro e wx ⟨rfl, rfl⟩)
    go_ret
    exact ⟨rfl, Below.refl _ _⟩
  | true =>
  cases h1 : vinB base 1 srtt with
  | false =>
    have hF : q = 0 := by rw [← HQ.out]; exact queue_no (fun h => by rw [(vin_iff _ _ _).2 ⟨h.2.2.2.2.1, h.2.2.2.2.2.1⟩] at h1; cases h1)
    subst hF
    clear HQ
    go_enter Try.func14, Try.ntmps14
    go_wp2_with (go_at_call 19; refine (vin_any _ _ _ _).mono ?_; rintro e wx ⟨rfl, rfl⟩)
    go_ret
    exact ⟨rfl, Below.refl _ _⟩
  | true =>
  cases h2 : vinB cwnd 1 1073741824 with
  | false =>
    have hF : q = 0 := by rw [← HQ.out]; exact queue_no (fun h => by rw [(vin_iff _ _ _).2 ⟨h.1, h.2.1⟩] at h2; cases h2)
    subst hF
    clear HQ
    go_enter Try.func14, Try.ntmps14
    go_wp2_with (go_at_call 19; refine (vin_any _ _ _ _).mono ?_; rintro e wx ⟨rfl, rfl⟩)
    go_ret
    exact ⟨rfl, Below.refl _ _⟩
  | true =>
  cases h3 : vinB mss 1 1460 with
  | false =>
    have hF : q = 0 := by rw [← HQ.out]; exact queue_no (fun h => by rw [(vin_iff _ _ _).2 h.2.2.2.2.2.2] at h3; cases h3)
    subst hF
    clear HQ
    go_enter Try.func14, Try.ntmps14
    go_wp2_with (go_at_call 19; refine (vin_any _ _ _ _).mono ?_; rintro e wx ⟨rfl, rfl⟩)
    go_ret
    exact ⟨rfl, Below.refl _ _⟩
  | true =>
  have g0 := (vin_iff _ _ _).1 h0; have g1 := (vin_iff _ _ _).1 h1; have g2 := (vin_iff _ _ _).1 h2; have g3 := (vin_iff _ _ _).1 h3
  have hok : QuOk cwnd srtt base mss := ⟨g2.1, g2.2, g0.1, g0.2, g1.1, g1.2, g3.1, g3.2⟩
  have hF := HQ.out
  rw [queue_ok hok] at hF
  obtain ⟨u0, u1⟩ := qb_bd hok
  rw [Int.mul_comm] at hF u0 u1
  have m1 : mdOk cwnd (srtt - base) srtt = true := by
    unfold mdOk
    rw [(inB_iff (srtt - base)).2 (by omega), (inB_iff cwnd).2 (by omega), (inB_iff srtt).2 (by omega), decide_eq_true (by omega : 1 ≤ srtt), (inB_iff _).2 (by omega)]
    rfl
  have p1 := fun w => md_any cwnd (srtt - base) srtt w
  rw [m1] at p1
  obtain ⟨y, hy⟩ : ∃ y, cwnd * (srtt - base) / srtt = y := ⟨_, rfl⟩
  rw [hy] at p1 hF u0 u1
  have ht : tell y true = y := rfl
  rw [ht] at p1
  have v0 : 0 ≤ y / mss := Int.ediv_nonneg u0 (by omega)
  have v1 : y / mss ≤ y := Int.ediv_le_self _ u0
  have i1 : IntKind.i64.wrap (srtt - base) = srtt - base := IntWalk.i64_in _ (by omega)
  have a3 : y.tdiv mss = q := by rw [Int.tdiv_eq_ediv_of_nonneg u0]; exact hF
  have i2 : IntKind.i64.wrap q = q := IntWalk.i64_in _ (by omega)
  have hn0 : ¬ mss = 0 := by omega
  have hne : (mss == 0) = false := by simpa using hn0
  clear hok hF m1 hy ht v0 v1 HQ u0 u1 g0 g1 g2 g3
  go_enter Try.func14, Try.ntmps14
  go_wp2_with (first | (go_at_call 19; refine (vin_any _ _ _ _).mono ?_; rintro e wx ⟨rfl, rfl⟩) | (go_at_call 24; refine (p1 _).mono ?_; rintro e wm ⟨rfl, hbm⟩))
  go_ret
  exact ⟨rfl, hbm⟩
end Go.Proofs.Ytjlomjdghmjkmaa
