/- RackLate: the walk. -/
import Derived.Test.YtlanplobdgchaaaProg
import Derived.Test.YtlanplobdgchaaaRkAwake
import Derived.Test.YtlanplobdgchaaaRkMath
import Derived.Deep.LoopGhost
import Derived.WalkKit
import Derived.WalkSpells
import Derived.WalkSmall
import Derived.Lib.Hide
import Derived.Below
import Derived.Outline
import Derived.Deep.QuietTactic
import Derived.BigQuiet
import Derived.IntWalk
import Derived.Deep.DeepCutAuto
import Derived.OrdersHeld
import Derived.StillTail
import Derived.Test.YtlanplobdgchaaaTail
import Derived.Laws.Rows
import Derived.Laws.Tables
namespace Go.Proofs.Ytlanplobdgchaaa.rackLate
open Go.RowKit
set_option linter.unusedVariables false
set_option linter.unusedSimpArgs false

set_option maxRecDepth 100000 in
set_option maxHeartbeats 16000000 in
theorem walk (v : Rkv) (A : Option Addr) (n c : Nat) (l : List Prt) (now more slack : Int) (w : World) (hs : Se w A n c l) :
    Calls Try.prog 6 #[.agg #[.int .i64 v.at_, .int .i64 v.end_, .int .i64 v.took, .int .i64 v.far, .bool v.mixed, .int .i64 v.quarters], .slice A n c, .int .i64 now, .int .i64 more, .int .i64 slack] w fun e w' => e = .returned (.bool true) ∧ Below w.heap.size w w' := by
  obtain ⟨B, hB⟩ : ∃ B, w.heap.size = B := ⟨_, rfl⟩
  rw [hB]
  have hl := hs.rd.len
  have m1 := hs.le
  have m2 := hs.max
  have m3 : n ≤ 9223372036854775807 := by unfold maxLen at m2; omega
  clear m1 m2
  have HL := Lib.hid hl
  have e0 := Bx.new w 23 [.int .i64 v.at_, .int .i64 v.end_, .int .i64 v.took, .int .i64 v.far, .bool v.mixed, .int .i64 v.quarters]
  rw [hB] at e0
  have b0 : Below B w (w.alloc (.cells #[.int .i64 v.at_, .int .i64 v.end_, .int .i64 v.took, .int .i64 v.far, .bool v.mixed, .int .i64 v.quarters] 23)) := by rw [← hB]; exact (Below.refl _ _).alloc (Nat.le_refl _) _
  have s0 := hs.alloc (.cells #[.int .i64 v.at_, .int .i64 v.end_, .int .i64 v.took, .int .i64 v.far, .bool v.mixed, .int .i64 v.quarters] 23)
  clear hs hl
  go_enter Try.func6, Try.ntmps6
  go_wp2_with fail
  generalize w.alloc (.cells #[.int .i64 v.at_, .int .i64 v.end_, .int .i64 v.took, .int .i64 v.far, .bool v.mixed, .int .i64 v.quarters] 23) = w1 at e0 b0 s0 ⊢
  refine (rakawake_any _).mono ?_
  rintro e w2 ⟨rfl, hb2⟩
  have e2 := e0.kept hb2; have b2 := b0.trans (hb2.mono (Nat.le_of_lt e0.lt)); have s2 := s0.keep hb2
  clear e0 b0 s0 hb2 hB
  by_cases c0 : 520 < n
  case pos =>
    have d0 : decide ((520 : Int) < (n : Int)) = true := decide_eq_true (by omega)
    have d0' : decide (520 < n) = true := decide_eq_true c0
    go_wp2_with fail
    go_ret
    exact ⟨rfl, b2⟩
  have d0 : decide ((520 : Int) < (n : Int)) = false := decide_eq_false (by omega)
  have d0' : decide (520 < n) = false := decide_eq_false c0
  by_cases c1 : more < 0
  case pos =>
    have d1 : decide (more < 0) = true := decide_eq_true c1
    go_wp2_with fail
    go_ret
    exact ⟨rfl, b2⟩
  have d1 : decide (more < 0) = false := decide_eq_false c1
  by_cases c2 : 1000000000 < more
  case pos =>
    have d2 : decide (1000000000 < more) = true := decide_eq_true c2
    go_wp2_with fail
    go_ret
    exact ⟨rfl, b2⟩
  have d2 : decide (1000000000 < more) = false := decide_eq_false c2
  by_cases c3 : 1000000000000 < now
  case pos =>
    have d3 : decide (1000000000000 < now) = true := decide_eq_true c3
    go_wp2_with fail
    go_ret
    exact ⟨rfl, b2⟩
  have d3 : decide (1000000000000 < now) = false := decide_eq_false c3
  by_cases c4 : 1000000000 < slack
  case pos =>
    have d4 : decide (1000000000 < slack) = true := decide_eq_true c4
    go_wp2_with fail
    go_ret
    exact ⟨rfl, b2⟩
  have d4 : decide (1000000000 < slack) = false := decide_eq_false c4
  have hn1 : n ≤ 1000 := by omega
  by_cases hok : LostOk v l now slack
  case neg =>
    have hx : lostR v l now slack = ([], 0, 0, 1) := lost_no hok
    have HX := Lib.hid hx
    clear hx hok
    go_wp2_with (refine rk_load rfl (.tmp 5) rfl rfl e2 rfl ?_)
    refine (raklost_any v A n c l _ _ _ s2 hn1).mono ?_
    rintro e w3 ⟨G1, m1, d1, he, hsG1, hb3⟩
    rw [HX.out] at he hsG1
    dsimp only at he hsG1
    subst he
    obtain rfl : 0 = m1 := hsG1.se.rd.len
    have e3 := e2.kept hb3; have s3 := s2.keep hb3; have b3 := b2.trans (hb3.mono (Nat.le_of_lt e2.lt))
    clear e2 s2 b2 hb3 hsG1
    go_wp2_with (refine rk_load rfl (.tmp 5) rfl rfl e3 rfl ?_)
    refine (raklost_any v A n c l _ _ _ s3 hn1).mono ?_
    rintro e w4 ⟨G2, m2, d2, he, hsG2, hb4⟩
    subst he
    have e4 := e3.kept hb4; have s4 := s3.keep hb4; have b4 := b3.trans (hb4.mono (Nat.le_of_lt e3.lt))
    clear e3 s3 b3 hb4 hsG2
    go_wp2_with (refine rk_load rfl (.tmp 5) rfl rfl e4 rfl ?_)
    refine (raklost_any v A n c l _ _ _ s4 hn1).mono ?_
    rintro e w5 ⟨G3, m3, d3, he, hsG3, hb5⟩
    subst he
    have e5 := e4.kept hb5; have s5 := s4.keep hb5; have b5 := b4.trans (hb5.mono (Nat.le_of_lt e4.lt))
    clear hb5 hsG3
    go_wp2_with fail
    go_ret
    exact ⟨rfl, b5⟩
  case pos =>
  obtain ⟨hk, hf, ht, hr⟩ := hok
  have htn := (t60_iff now).1 ht
  have hrb := (brief_iff slack).1 hr
  obtain ⟨t0, t1⟩ := htn
  obtain ⟨r0, r1⟩ := hrb
  have wN : IntKind.i64.wrap (now + more) = now + more := IntWalk.i64_in _ (by omega)
  have wS : IntKind.i64.wrap (slack + more) = slack + more := IntWalk.i64_in _ (by omega)
  have hx1 := lost_ok (l := l) (v := v) (a := now) (b := slack) ⟨hk, hf, ht, hr⟩
  have hx2 := lost_ok (l := l) (v := v) (a := now + more) (b := slack) ⟨hk, hf, (t60_iff _).2 (by omega), hr⟩
  have hx3 := lost_ok (l := l) (v := v) (a := now) (b := slack + more) ⟨hk, hf, ht, (brief_iff _).2 (by omega)⟩
  have h12 := lostN_le (v := v) (l := l) (now := now) (slack := slack) (now' := now + more) (slack' := slack) (fun x _ h => late_later (by omega) h)
  have h31 := lostN_le (v := v) (l := l) (now := now) (slack := slack + more) (now' := now) (slack' := slack) (fun x _ h => late_less (by omega) h)
  have h0 : v.at_ = 0 → v.end_ = 0 → lostN v now slack l = 0 := fun ha he => lostN_zero (fun x hx => late_nothing (part_mem hf hx) ha he)
  have hMO : 0 ≤ more := by omega
  obtain ⟨N1, hN1⟩ : ∃ N, lostN v now slack l = N := ⟨_, rfl⟩
  obtain ⟨N2, hN2⟩ : ∃ N, lostN v (now + more) slack l = N := ⟨_, rfl⟩
  obtain ⟨N3, hN3⟩ : ∃ N, lostN v now (slack + more) l = N := ⟨_, rfl⟩
  rw [hN1] at hx1 h12 h31 h0
  rw [hN2] at hx2 h12
  rw [hN3] at hx3 h31
  have f2 : decide (N2 < N1) = false := decide_eq_false (by omega)
  have f3 : decide (N1 < N3) = false := decide_eq_false (by omega)
  have WN := Lib.hid wN; have WS := Lib.hid wS; have H0 := Lib.hid h0; have HMO := Lib.hid hMO
  have HX1 := Lib.hid hx1; have HX2 := Lib.hid hx2; have HX3 := Lib.hid hx3
  clear hk hf ht hr t0 t1 r0 r1 hx1 hx2 hx3 h12 h31 h0 hN1 hN2 hN3 hMO c1 c2 c3 c4
  go_wp2_with (refine rk_load rfl (.tmp 5) rfl rfl e2 rfl ?_)
  refine (raklost_any v A n c l _ _ _ s2 hn1).mono ?_
  rintro e w3 ⟨G1, m1, d1, he, hsG1, hb3⟩
  rw [HX1.out] at he hsG1
  dsimp only at he hsG1
  subst he
  obtain rfl : n = m1 := HL.out.symm.trans ((lostL_len _ _ _ _).symm.trans hsG1.se.rd.len)
  have e3 := e2.kept hb3; have s3 := s2.keep hb3; have b3 := b2.trans (hb3.mono (Nat.le_of_lt e2.lt))
  have g1 := hsG1.se
  clear e2 s2 b2 hb3 hsG1
  go_wp2_with (refine rk_load rfl (.tmp 5) rfl rfl e3 rfl ?_)
  refine (raklost_any v A n c l _ _ _ s3 hn1).mono ?_
  rintro e w4 ⟨G2, m2, d2, he, hsG2, hb4⟩
  rw [HX2.out] at he hsG2
  dsimp only at he hsG2
  subst he
  obtain rfl : n = m2 := HL.out.symm.trans ((lostL_len _ _ _ _).symm.trans hsG2.se.rd.len)
  have e4 := e3.kept hb4; have s4 := s3.keep hb4; have b4 := b3.trans (hb4.mono (Nat.le_of_lt e3.lt))
  have g1 := g1.keep hb4; have g2 := hsG2.se
  clear e3 s3 b3 hb4 hsG2
  go_wp2_with (refine rk_load rfl (.tmp 5) rfl rfl e4 rfl ?_)
  refine (raklost_any v A n c l _ _ _ s4 hn1).mono ?_
  rintro e w5 ⟨G3, m3, d3, he, hsG3, hb5⟩
  rw [HX3.out] at he hsG3
  dsimp only at he hsG3
  subst he
  obtain rfl : n = m3 := HL.out.symm.trans ((lostL_len _ _ _ _).symm.trans hsG3.se.rd.len)
  have e5 := e4.kept hb5; have s5 := s4.keep hb5; have b5 := b4.trans (hb5.mono (Nat.le_of_lt e4.lt))
  have g1 := g1.keep hb5; have g2 := g2.keep hb5; have g3 := hsG3.se
  clear e4 s4 b4 hb5 hsG3
  have x0 := e5.cell 0 rfl; have x1 := e5.cell 1 rfl
  have hf1 : ((0 : Int) < N1) → ¬ (v.at_ = 0 ∧ v.end_ = 0) := fun h g => by have := H0.out g.1 g.2; omega
  have HF1 := Lib.hid hf1; clear hf1
  clear wN wS
  by_cases ha : v.at_ = 0
  case neg =>
    have da : (v.at_ == 0) = false := by simpa using ha
    clear ha
    go_wp2_with fail
    go_loopw [24] (fun i wr => ∃ k : Nat, k ≤ n ∧ i = .int .i64 (k : Int) ∧ w5 = wr) (fun i _ => n - (intOf i).toNat)
    case atStart => exact ⟨0, Nat.zero_le _, rfl, rfl⟩
    case round =>
      obtain ⟨k, hkn, rfl, rfl⟩ := hrel
      by_cases hlt : k < n
      case neg =>
        obtain rfl : k = n := by omega
        have hd : decide (k < k) = false := decide_eq_false (by omega)
        go_wp2_with fail
        go_ret
        exact ⟨rfl, b5⟩
      case pos =>
      have hd : decide (k < n) = true := decide_eq_true hlt
      have hkl : k < l.length := by rw [HL.out]; exact hlt
      obtain ⟨p1, o1, hA1, hl1, hc1⟩ := g1.rd.at_ (by omega)
      obtain ⟨p2, o2, hA2, hl2, hc2⟩ := g2.rd.at_ (by omega)
      obtain ⟨p3, o3, hA3, hl3, hc3⟩ := g3.rd.at_ (by omega)
      subst hA1 hA2 hA3
      have z1 := (prt_at hc1 hlt).c6; have z2 := (prt_at hc2 hlt).c6; have z3 := (prt_at hc3 hlt).c6
      rw [lostL_ge _ _ _ _ hkl, lostP_flag] at z1 z2 z3
      have q1 : ((ge l k).lost || lateB v now slack (ge l k)) = true → ((ge l k).lost || lateB v (now + more) slack (ge l k)) = true := fun h => by
        rw [Bool.or_eq_true] at h ⊢; exact h.imp id (late_later HMO.out)
      have q2 : ((ge l k).lost || lateB v now (slack + more) (ge l k)) = true → ((ge l k).lost || lateB v now slack (ge l k)) = true := fun h => by
        rw [Bool.or_eq_true] at h ⊢; exact h.imp id (late_less HMO.out)
      obtain ⟨F1, hF1⟩ : ∃ F, ((ge l k).lost || lateB v now slack (ge l k)) = F := ⟨_, rfl⟩
      obtain ⟨F2, hF2⟩ : ∃ F, ((ge l k).lost || lateB v (now + more) slack (ge l k)) = F := ⟨_, rfl⟩
      obtain ⟨F3, hF3⟩ : ∃ F, ((ge l k).lost || lateB v now (slack + more) (ge l k)) = F := ⟨_, rfl⟩
      rw [hF1] at z1 q1 q2
      rw [hF2] at z2 q1
      rw [hF3] at z3 q2
      clear hc1 hc2 hc3 hl1 hl2 hl3 hF1 hF2 hF3 hkl
      cases F1 with
      | true =>
        obtain rfl : F2 = true := q1 rfl
        clear q1 q2
        cases F3 with
        | true =>
          go_wp2_with fail
          go_roundw
          case rel => exact ⟨k + 1, by omega, by go_num, by first | trivial | rfl⟩
          case measure => simp [intOf]; omega
        | false =>
          go_wp2_with fail
          go_roundw
          case rel => exact ⟨k + 1, by omega, by go_num, by first | trivial | rfl⟩
          case measure => simp [intOf]; omega
      | false =>
        have q3 : F3 = false := by cases F3 with
          | true => exact absurd (q2 rfl) (by simp)
          | false => rfl
        subst q3
        clear q1 q2
        go_wp2_with fail
        go_roundw
        case rel => exact ⟨k + 1, by omega, by go_num, by first | trivial | rfl⟩
        case measure => simp [intOf]; omega
  case pos =>
  have da : (v.at_ == 0) = true := by simpa using ha
  by_cases he : v.end_ = 0
  case neg =>
    have de : (v.end_ == 0) = false := by simpa using he
    clear ha he
    go_wp2_with fail
    go_loopw [24] (fun i wr => ∃ k : Nat, k ≤ n ∧ i = .int .i64 (k : Int) ∧ w5 = wr) (fun i _ => n - (intOf i).toNat)
    case atStart => exact ⟨0, Nat.zero_le _, rfl, rfl⟩
    case round =>
      obtain ⟨k, hkn, rfl, rfl⟩ := hrel
      by_cases hlt : k < n
      case neg =>
        obtain rfl : k = n := by omega
        have hd : decide (k < k) = false := decide_eq_false (by omega)
        go_wp2_with fail
        go_ret
        exact ⟨rfl, b5⟩
      case pos =>
      have hd : decide (k < n) = true := decide_eq_true hlt
      have hkl : k < l.length := by rw [HL.out]; exact hlt
      obtain ⟨p1, o1, hA1, hl1, hc1⟩ := g1.rd.at_ (by omega)
      obtain ⟨p2, o2, hA2, hl2, hc2⟩ := g2.rd.at_ (by omega)
      obtain ⟨p3, o3, hA3, hl3, hc3⟩ := g3.rd.at_ (by omega)
      subst hA1 hA2 hA3
      have z1 := (prt_at hc1 hlt).c6; have z2 := (prt_at hc2 hlt).c6; have z3 := (prt_at hc3 hlt).c6
      rw [lostL_ge _ _ _ _ hkl, lostP_flag] at z1 z2 z3
      have q1 : ((ge l k).lost || lateB v now slack (ge l k)) = true → ((ge l k).lost || lateB v (now + more) slack (ge l k)) = true := fun h => by
        rw [Bool.or_eq_true] at h ⊢; exact h.imp id (late_later HMO.out)
      have q2 : ((ge l k).lost || lateB v now (slack + more) (ge l k)) = true → ((ge l k).lost || lateB v now slack (ge l k)) = true := fun h => by
        rw [Bool.or_eq_true] at h ⊢; exact h.imp id (late_less HMO.out)
      obtain ⟨F1, hF1⟩ : ∃ F, ((ge l k).lost || lateB v now slack (ge l k)) = F := ⟨_, rfl⟩
      obtain ⟨F2, hF2⟩ : ∃ F, ((ge l k).lost || lateB v (now + more) slack (ge l k)) = F := ⟨_, rfl⟩
      obtain ⟨F3, hF3⟩ : ∃ F, ((ge l k).lost || lateB v now (slack + more) (ge l k)) = F := ⟨_, rfl⟩
      rw [hF1] at z1 q1 q2
      rw [hF2] at z2 q1
      rw [hF3] at z3 q2
      clear hc1 hc2 hc3 hl1 hl2 hl3 hF1 hF2 hF3 hkl
      cases F1 with
      | true =>
        obtain rfl : F2 = true := q1 rfl
        clear q1 q2
        cases F3 with
        | true =>
          go_wp2_with fail
          go_roundw
          case rel => exact ⟨k + 1, by omega, by go_num, by first | trivial | rfl⟩
          case measure => simp [intOf]; omega
        | false =>
          go_wp2_with fail
          go_roundw
          case rel => exact ⟨k + 1, by omega, by go_num, by first | trivial | rfl⟩
          case measure => simp [intOf]; omega
      | false =>
        have q3 : F3 = false := by cases F3 with
          | true => exact absurd (q2 rfl) (by simp)
          | false => rfl
        subst q3
        clear q1 q2
        go_wp2_with fail
        go_roundw
        case rel => exact ⟨k + 1, by omega, by go_num, by first | trivial | rfl⟩
        case measure => simp [intOf]; omega
  case pos =>
  have de : (v.end_ == 0) = true := by simpa using he
  obtain rfl : N1 = 0 := H0.out ha he
  clear ha he
  go_wp2_with fail
  go_loopw [24] (fun i wr => ∃ k : Nat, k ≤ n ∧ i = .int .i64 (k : Int) ∧ w5 = wr) (fun i _ => n - (intOf i).toNat)
  case atStart => exact ⟨0, Nat.zero_le _, rfl, rfl⟩
  case round =>
    obtain ⟨k, hkn, rfl, rfl⟩ := hrel
    by_cases hlt : k < n
    case neg =>
      obtain rfl : k = n := by omega
      have hd : decide (k < k) = false := decide_eq_false (by omega)
      go_wp2_with fail
      go_ret
      exact ⟨rfl, b5⟩
    case pos =>
    have hd : decide (k < n) = true := decide_eq_true hlt
    have hkl : k < l.length := by rw [HL.out]; exact hlt
    obtain ⟨p1, o1, hA1, hl1, hc1⟩ := g1.rd.at_ (by omega)
    obtain ⟨p2, o2, hA2, hl2, hc2⟩ := g2.rd.at_ (by omega)
    obtain ⟨p3, o3, hA3, hl3, hc3⟩ := g3.rd.at_ (by omega)
    subst hA1 hA2 hA3
    have z1 := (prt_at hc1 hlt).c6; have z2 := (prt_at hc2 hlt).c6; have z3 := (prt_at hc3 hlt).c6
    rw [lostL_ge _ _ _ _ hkl, lostP_flag] at z1 z2 z3
    have q1 : ((ge l k).lost || lateB v now slack (ge l k)) = true → ((ge l k).lost || lateB v (now + more) slack (ge l k)) = true := fun h => by
      rw [Bool.or_eq_true] at h ⊢; exact h.imp id (late_later HMO.out)
    have q2 : ((ge l k).lost || lateB v now (slack + more) (ge l k)) = true → ((ge l k).lost || lateB v now slack (ge l k)) = true := fun h => by
      rw [Bool.or_eq_true] at h ⊢; exact h.imp id (late_less HMO.out)
    obtain ⟨F1, hF1⟩ : ∃ F, ((ge l k).lost || lateB v now slack (ge l k)) = F := ⟨_, rfl⟩
    obtain ⟨F2, hF2⟩ : ∃ F, ((ge l k).lost || lateB v (now + more) slack (ge l k)) = F := ⟨_, rfl⟩
    obtain ⟨F3, hF3⟩ : ∃ F, ((ge l k).lost || lateB v now (slack + more) (ge l k)) = F := ⟨_, rfl⟩
    rw [hF1] at z1 q1 q2
    rw [hF2] at z2 q1
    rw [hF3] at z3 q2
    clear hc1 hc2 hc3 hl1 hl2 hl3 hF1 hF2 hF3 hkl
    cases F1 with
    | true =>
      obtain rfl : F2 = true := q1 rfl
      clear q1 q2
      cases F3 with
      | true =>
        go_wp2_with fail
        go_roundw
        case rel => exact ⟨k + 1, by omega, by go_num, by first | trivial | rfl⟩
        case measure => simp [intOf]; omega
      | false =>
        go_wp2_with fail
        go_roundw
        case rel => exact ⟨k + 1, by omega, by go_num, by first | trivial | rfl⟩
        case measure => simp [intOf]; omega
    | false =>
      have q3 : F3 = false := by cases F3 with
        | true => exact absurd (q2 rfl) (by simp)
        | false => rfl
      subst q3
      clear q1 q2
      go_wp2_with fail
      go_roundw
      case rel => exact ⟨k + 1, by omega, by go_num, by first | trivial | rfl⟩
      case measure => simp [intOf]; omega
end Go.Proofs.Ytlanplobdgchaaa.rackLate
