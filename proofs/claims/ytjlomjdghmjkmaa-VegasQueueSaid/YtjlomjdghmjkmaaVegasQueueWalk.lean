/- VegasQueue: the walk. -/
import Derived.Test.YtjlomjdghmjkmaaVgAwake
import Derived.Deep.QuietTactic
import Derived.BigQuiet
import Derived.IntWalk
import Derived.Deep.AppendLies
namespace Go.Proofs.Ytjlomjdghmjkmaa.vegasQueue
open Go.RowKit
set_option linter.unusedVariables false
set_option linter.unusedSimpArgs false

set_option maxRecDepth 100000 in
set_option maxHeartbeats 16000000 in
theorem walk (cwnd more srtt base mss : Int) (w : World) :
    Calls Try.prog 6 #[.int .i64 cwnd, .int .i64 more, .int .i64 srtt, .int .i64 base, .int .i64 mss] w fun e w' => e = .returned (.bool true) ∧ Below w.heap.size w w' := by
  go_enter Try.func6, Try.ntmps6
  go_wp2_with fail
  refine (vgawake_any _).mono ?_
  rintro e w2 ⟨rfl, b2⟩
  have z2 := b2.size
  by_cases c0 : cwnd < 1
  case pos =>
    have d0 : decide (cwnd < 1) = true := decide_eq_true c0
    go_wp2_with fail
    go_ret
    exact ⟨rfl, b2⟩
  case neg =>
  have d0 : decide (cwnd < 1) = false := decide_eq_false c0
  by_cases c1 : more < 0
  case pos =>
    have d1 : decide (more < 0) = true := decide_eq_true c1
    go_wp2_with fail
    go_ret
    exact ⟨rfl, b2⟩
  case neg =>
  have d1 : decide (more < 0) = false := decide_eq_false c1
  by_cases c2 : 536870912 < cwnd
  case pos =>
    have d2 : decide (536870912 < cwnd) = true := decide_eq_true c2
    go_wp2_with fail
    go_ret
    exact ⟨rfl, b2⟩
  case neg =>
  have d2 : decide (536870912 < cwnd) = false := decide_eq_false c2
  by_cases c3 : 536870912 < more
  case pos =>
    have d3 : decide (536870912 < more) = true := decide_eq_true c3
    go_wp2_with fail
    go_ret
    exact ⟨rfl, b2⟩
  case neg =>
  have d3 : decide (536870912 < more) = false := decide_eq_false c3
  by_cases c4 : mss < 1
  case pos =>
    have d4 : decide (mss < 1) = true := decide_eq_true c4
    go_wp2_with fail
    go_ret
    exact ⟨rfl, b2⟩
  case neg =>
  have d4 : decide (mss < 1) = false := decide_eq_false c4
  by_cases c5 : 1460 < mss
  case pos =>
    have d5 : decide (1460 < mss) = true := decide_eq_true c5
    go_wp2_with fail
    go_ret
    exact ⟨rfl, b2⟩
  case neg =>
  have d5 : decide (1460 < mss) = false := decide_eq_false c5
  by_cases c6 : srtt < 1
  case pos =>
    have d6 : decide (srtt < 1) = true := decide_eq_true c6
    go_wp2_with fail
    go_ret
    exact ⟨rfl, b2⟩
  case neg =>
  have d6 : decide (srtt < 1) = false := decide_eq_false c6
  by_cases c7 : 1099511627776 < srtt
  case pos =>
    have d7 : decide (1099511627776 < srtt) = true := decide_eq_true c7
    go_wp2_with fail
    go_ret
    exact ⟨rfl, b2⟩
  case neg =>
  have d7 : decide (1099511627776 < srtt) = false := decide_eq_false c7
  obtain ⟨f0, f1, f2, f3, f4⟩ := queue_facts (cwnd := cwnd) (more := more) (srtt := srtt) (base := base) (mss := mss) (by omega) (by omega) (by omega) (by omega) (by omega) (by omega) (by omega) (by omega)
  have i1 : IntKind.i64.wrap (cwnd + more) = cwnd + more := IntWalk.i64_in _ (by omega)
  have hq : cwnd.tdiv mss = cwnd / mss := Int.tdiv_eq_ediv_of_nonneg (by omega)
  have hd0 : 0 ≤ cwnd / mss := Int.ediv_nonneg (by omega) (by omega)
  have hd1 : cwnd / mss ≤ cwnd := Int.ediv_le_self _ (by omega)
  have nz : ¬ mss = 0 := by omega
  have nz' : (mss == 0) = false := by simpa using nz
  obtain ⟨d, hd⟩ : ∃ d, cwnd / mss = d := ⟨_, rfl⟩
  rw [hd] at f1 hq hd0 hd1
  obtain ⟨n, hn⟩ : ∃ x, queueR cwnd srtt base mss = x := ⟨_, rfl⟩
  obtain ⟨m, hm⟩ : ∃ x, queueR (cwnd + more) srtt base mss = x := ⟨_, rfl⟩
  rw [hn] at f0 f1 f2 f4
  rw [hm] at f2
  have HN := Lib.hid hn; have HM := Lib.hid hm; have H3 := Lib.hid f3; have H4 := Lib.hid f4
  have e0 : decide (0 ≤ n) = true := decide_eq_true f0
  have e1 : decide (n ≤ d) = true := decide_eq_true f1
  have e2 : decide (n ≤ m) = true := decide_eq_true f2
  have i2 : IntKind.i64.wrap d = d := IntWalk.i64_in _ (by omega)
  clear f0 f1 f2 f3 f4 hd hn hm
  go_upto_region 4 with fail
  clear d0 d1 d2 d3 d4 d5 d6 d7 c0 c1 c2 c3 c4 c5 c6 c7
  go_wp2_with fail
  refine (vgqueue_any cwnd srtt base mss _).mono ?_
  rintro e w3 ⟨rfl, hb3⟩
  rw [HN.out]
  have b3 := b2.trans (hb3.mono z2); have z3 := b3.size
  clear hb3
  go_wp2_with fail
  refine (vgqueue_any (cwnd + more) srtt base mss _).mono ?_
  rintro e w4 ⟨rfl, hb4⟩
  rw [HM.out]
  have b4 := b3.trans (hb4.mono z3); have z4 := b4.size
  clear hb4
  go_wp2_with fail
  refine (vgqueue_any cwnd srtt srtt mss _).mono ?_
  rintro e w5 ⟨rfl, hb5⟩
  rw [H3.out]
  have b5 := b4.trans (hb5.mono z4)
  clear hb5
  by_cases h : base ≤ srtt
  case pos =>
    have dh : decide (base ≤ srtt) = true := decide_eq_true h
    clear h
    go_wp2_with fail
    go_ret
    exact ⟨rfl, b5⟩
  case neg =>
    have dh : decide (base ≤ srtt) = false := decide_eq_false h
    obtain rfl : n = 0 := H4.out (by omega)
    clear h
    go_wp2_with fail
    go_ret
    exact ⟨rfl, b5⟩
end Go.Proofs.Ytjlomjdghmjkmaa.vegasQueue
