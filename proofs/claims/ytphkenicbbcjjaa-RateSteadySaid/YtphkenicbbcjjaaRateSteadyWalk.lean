/- The walk of the law RateSteady. -/
import Derived.Test.YtphkenicbbcjjaaProg
import Derived.Test.YtphkenicbbcjjaaRaAwake
import Derived.Test.YtphkenicbbcjjaaRaRef3
import Derived.Test.YtphkenicbbcjjaaRaSer
import Derived.Test.YtphkenicbbcjjaaTail
import Derived.Deep.LoopGhost
import Derived.WalkKit
import Derived.WalkSpells
import Derived.WalkSmall
import Derived.Lib.Hide
import Derived.Below
import Derived.Outline
import Derived.Laws.Tables
import Derived.Laws.Rows
import Derived.OrdersHeld
import Derived.Deep.QuietTactic
import Derived.BigQuiet
import Derived.IntWalk
import Derived.Deep.DeepCutAuto
namespace Go.Proofs.Ytphkenicbbcjjaa.rateSteady
open Go.RowKit
set_option linter.unusedVariables false
set_option linter.unusedSimpArgs false

set_option maxRecDepth 100000 in
set_option maxHeartbeats 8000000 in
theorem walk (bytes later n : Int) (w : World) :
    Calls Try.prog 7 #[.int .i64 bytes, .int .i64 later, .int .i64 n] w fun e w' => e = .returned (.bool true) ∧ Below w.heap.size w w' := by
  obtain ⟨B, hB⟩ : ∃ B, w.heap.size = B := ⟨_, rfl⟩
  rw [hB]
  have HB := Lib.hid hB; clear hB
  go_enter Try.func7, Try.ntmps7
  go_wp2_with fail
  refine (raawake_any _).mono ?_
  rintro e w1 ⟨rfl, hb1⟩
  have b1 : Below B w w1 := by rw [← HB.out]; exact hb1
  have z1 : B ≤ w1.heap.size := by rw [← HB.out]; exact hb1.size
  clear hb1
  by_cases c0 : bytes < 0
  case pos =>
    have dc0 : decide (bytes < 0) = true := decide_eq_true c0
    go_wp2_with fail
    go_ret
    exact ⟨rfl, b1⟩
  case neg =>
  have dc0 : decide (bytes < 0) = false := decide_eq_false c0
  by_cases c1 : 1000000000 < bytes
  case pos =>
    have dc1 : decide (1000000000 < bytes) = true := decide_eq_true c1
    go_wp2_with fail
    go_ret
    exact ⟨rfl, b1⟩
  case neg =>
  have dc1 : decide (1000000000 < bytes) = false := decide_eq_false c1
  by_cases c2 : later < 1
  case pos =>
    have dc2 : decide (later < 1) = true := decide_eq_true c2
    go_wp2_with fail
    go_ret
    exact ⟨rfl, b1⟩
  case neg =>
  have dc2 : decide (later < 1) = false := decide_eq_false c2
  by_cases c3 : 1000000000 < later
  case pos =>
    have dc3 : decide (1000000000 < later) = true := decide_eq_true c3
    go_wp2_with fail
    go_ret
    exact ⟨rfl, b1⟩
  case neg =>
  have dc3 : decide (1000000000 < later) = false := decide_eq_false c3
  by_cases c4 : n < 1
  case pos =>
    have dc4 : decide (n < 1) = true := decide_eq_true c4
    go_wp2_with fail
    go_ret
    exact ⟨rfl, b1⟩
  case neg =>
  have dc4 : decide (n < 1) = false := decide_eq_false c4
  by_cases c5 : 30 < n
  case pos =>
    have dc5 : decide (30 < n) = true := decide_eq_true c5
    go_wp2_with fail
    go_ret
    exact ⟨rfl, b1⟩
  case neg =>
  have dc5 : decide (30 < n) = false := decide_eq_false c5
  obtain ⟨q, hq⟩ : ∃ q, 1000000 * bytes / later = q := ⟨_, rfl⟩
  have hq0 : 0 ≤ q := by rw [← hq]; exact Int.ediv_nonneg (by omega) (by omega)
  have hq1 : q ≤ 1000000000000000 := by
    rw [← hq]; have := Int.ediv_le_self (a := 1000000 * bytes) later (by omega); omega
  have HQ := Lib.hid hq; clear hq
  go_wp2_with fail
  have e2 := Bx.new w1 24 [.int .i64 0, .int .i64 0, .slice none 0 0]
  have b2 := b1.alloc z1 (.cells #[.int .i64 0, .int .i64 0, .slice none 0 0] 24)
  obtain ⟨P, hP⟩ : ∃ P, w1.heap.size = P := ⟨_, rfl⟩
  rw [hP] at e2 z1 ⊢
  generalize w1.alloc (.cells #[.int .i64 0, .int .i64 0, .slice none 0 0] 24) = w2 at e2 b2 ⊢
  have hBP := z1
  clear b1 z1 hP
  obtain ⟨N, hN⟩ : ∃ N : Nat, n = (N : Int) := ⟨n.toNat, by omega⟩
  subst hN
  go_loopw [9] (fun i wr => ∃ (k : Nat) (tb ta : Int) (R : Option Addr) (m d : Nat) (l : List Int), k ≤ N ∧ i = .int .i64 (k : Int) ∧ Bx wr P 24 [.int .i64 tb, .int .i64 ta, .slice R m d] ∧ Sq wr (fun b => b ≠ P) R m d l ∧ Below B w wr ∧ Hid (tb = k * bytes ∧ ta = k * later ∧ Stq l q) ∧ 0 ≤ tb ∧ tb ≤ 1000000000 * k ∧ 0 ≤ ta ∧ ta ≤ 1000000000 * k) (fun i _ => N - (intOf i).toNat)
  case atStart => exact ⟨0, 0, 0, none, 0, 0, [], Nat.zero_le _, rfl, e2, Sq.none _ _, b2, Lib.hid ⟨by simp, by simp, by simp, fun x hx => by cases hx⟩, by omega, by omega, by omega, by omega⟩
  case round =>
    obtain ⟨k, tb, ta, R, m, d, l, hk, rfl, er, sr, br, HI, u0, u1, u2, u3⟩ := hrel
    clear e2 b2
    have x0 := er.cell 0 rfl; have x1 := er.cell 1 rfl
    by_cases hlt : k < N
    case pos =>
      have dlt : decide (k < N) = true := decide_eq_true hlt
      have hm0 : ramay ⟨tb, ta, l⟩ = true := stq_may HI.out.2.2 hq0 (by omega) u0 (by omega) u2 (by omega)
      have hm1 : ramay ⟨tb + bytes, ta + later, l⟩ = true := stq_may HI.out.2.2 hq0 (by omega) (by omega) (by omega) (by omega) (by omega)
      have hm2 : ramay ⟨tb + bytes, ta + later, pushR l q⟩ = true := stq_may (stq_push HI.out.2.2) hq0 (by omega) (by omega) (by omega) (by omega) (by omega)
      have HX := Lib.hid (came_is (later := later) (b := bytes) hm0 (by omega) u2 (by omega) (by omega) (by omega) (by omega))
      have HY := Lib.hid (samp_is (q := q) hm1 (by omega) u2 u0 (by omega) HQ.out (by omega))
      have HZ := Lib.hid (stq_best HI.out.2.2 hq0 hm2)
      clear hm0 hm1 hm2
      obtain ⟨mm, hmm⟩ : ∃ mm, bytes * 1000000 = mm := ⟨_, rfl⟩
      have a1 : IntKind.i64.wrap (bytes * 1000000) = mm := by rw [IntWalk.i64_in _ (by omega), hmm]
      have a2 : IntKind.i64.wrap (mm.tdiv later) = q := by rw [IntWalk.i64_quo _ _ (by omega), ← HQ.out, ← hmm, Int.mul_comm]
      have a3 : mm.tdiv later = q := by rw [Int.tdiv_eq_ediv_of_nonneg (by omega), ← HQ.out, ← hmm, Int.mul_comm]
      have hne : (later == 0) = false := by simp; omega
      have HMM := Lib.hid hmm; clear hmm
      have hPr := er.lt
      go_upto_region 11 with (refine ra_load rfl (.tmp 8) rfl rfl er rfl ?_)
      refine (ratcame_any tb ta R m d l (ta + later) bytes (fun b => b ≠ P) _ sr (fun b hb => by omega)).mono ?_
      rintro e w5 ⟨R1, m1, d1, he, hs5, hb5⟩
      rw [HX.out] at he hs5
      dsimp only at he hs5
      subst he
      have e5 := (er.kept hb5).alloc (.cells #[.int .i64 (tb + bytes), .int .i64 (ta + later), .slice R1 m1 d1] 24)
      have b5 := (br.trans (hb5.mono (by omega))).alloc (by have := (er.kept hb5).lt; omega) (.cells #[.int .i64 (tb + bytes), .int .i64 (ta + later), .slice R1 m1 d1] 24)
      have s5 := hs5.alloc (.cells #[.int .i64 (tb + bytes), .int .i64 (ta + later), .slice R1 m1 d1] 24)
      have n5 := Bx.new w5 24 [.int .i64 (tb + bytes), .int .i64 (ta + later), .slice R1 m1 d1]
      obtain ⟨Q5, hQ5⟩ : ∃ V, w5.heap.size = V := ⟨_, rfl⟩
      rw [hQ5] at n5
      clear hs5 er sr br hb5 x0 x1
      have hP5 := e5.lt
      go_upto_region 12 with (refine ra_load rfl (.tmp 12) rfl rfl n5 rfl ?_)
      refine (ratsamp_any (tb + bytes) (ta + later) R1 m1 d1 l tb ta (fun b => b ≠ P) _ s5 (fun b hb => by omega)).mono ?_
      rintro e w6 ⟨R2, m2, d2, he, hs6, hb6⟩
      rw [HY.out] at he hs6
      dsimp only at he hs6
      subst he
      have e6 := (e5.kept hb6).alloc (.cells #[.int .i64 (tb + bytes), .int .i64 (ta + later), .slice R2 m2 d2] 24)
      have b6 := (b5.trans (hb6.mono (by omega))).alloc (by have := (e5.kept hb6).lt; omega) (.cells #[.int .i64 (tb + bytes), .int .i64 (ta + later), .slice R2 m2 d2] 24)
      have s6 := hs6.alloc (.cells #[.int .i64 (tb + bytes), .int .i64 (ta + later), .slice R2 m2 d2] 24)
      have n6 := Bx.new w6 24 [.int .i64 (tb + bytes), .int .i64 (ta + later), .slice R2 m2 d2]
      obtain ⟨Q6, hQ6⟩ : ∃ V, w6.heap.size = V := ⟨_, rfl⟩
      rw [hQ6] at n6
      clear hs6 e5 s5 b5 n5 hb6
      have hP6 := e6.lt
      have y0 := n6.cell 0 rfl; have y1 := n6.cell 1 rfl; have y2 := n6.cell 2 rfl
      go_wp2_with fail
      refine (ratbest_any (tb + bytes) (ta + later) R2 m2 d2 (pushR l q) _ s6.si).mono ?_
      rintro e w7 ⟨rfl, hb7⟩
      rw [HZ.out]
      have e7 := e6.kept hb7; have n7 := n6.kept hb7; have s7 := s6.keep hb7
      have b7 := b6.trans (hb7.mono (by omega))
      clear e6 n6 s6 b6 hb7 y0 y1 y2
      have e8 := ra_put e7 [.int .i64 (tb + bytes), .int .i64 (ta + later), .slice R2 m2 d2]
      have hP7 := e7.lt
      have b8 := b7.grown (ra_grown w7 P #[.int .i64 (tb + bytes), .int .i64 (ta + later), .slice R2 m2 d2]) (by omega) (fun b h => by cases h; exact hBP)
      have s8 := s7.grown (ra_grown w7 P #[.int .i64 (tb + bytes), .int .i64 (ta + later), .slice R2 m2 d2]) (fun b hb h => hb (by cases h; rfl))
      go_upto_region 14 with fail
      go_wp2_with (first | (refine ra_load rfl (.tmp 14) rfl rfl n7 rfl ?_) | (refine ra_store rfl (.tmp 8) (.tmp 92) rfl rfl [.int .i64 (tb + bytes), .int .i64 (ta + later), .slice R2 m2 d2] rfl e7 rfl rfl rfl ?_))
      go_roundw
      case rel => exact ⟨k + 1, tb + bytes, ta + later, R2, m2, d2, pushR l q, by omega, by go_num, e8, s8, b8, Lib.hid ⟨by rw [HI.out.1, Int.natCast_succ, Int.add_mul, Int.one_mul], by rw [HI.out.2.1, Int.natCast_succ, Int.add_mul, Int.one_mul], stq_push HI.out.2.2⟩, by omega, by omega, by omega, by omega⟩
      case measure => simp [intOf]; omega
    case neg =>
    obtain rfl : k = N := by omega
    have dlt : decide (k < k) = false := decide_eq_false (by omega)
    have a1 : IntKind.i64.wrap ((k : Int) * bytes) = tb := by rw [← HI.out.1]; exact IntWalk.i64_in _ (by omega)
    have a2 : IntKind.i64.wrap ((k : Int) * later) = ta := by rw [← HI.out.2.1]; exact IntWalk.i64_in _ (by omega)
    go_wp2_with fail
    go_ret
    exact ⟨rfl, br⟩
end Go.Proofs.Ytphkenicbbcjjaa.rateSteady
