/- The walk of the law LeastTurns. -/
import Derived.Test.YtihheanjlabioaaProg
import Derived.Test.YtihheanjlabioaaLeAwake
import Derived.Test.YtihheanjlabioaaLeIn
import Derived.Test.YtihheanjlabioaaLeMath
import Derived.WalkKit
import Derived.WalkSpells
import Derived.WalkSmall
import Derived.Lib.Hide
import Derived.Below
import Derived.Outline
namespace Go.Proofs.Ytihheanjlabioaa.leastTurns
open Go.RowKit
set_option linter.unusedVariables false
set_option linter.unusedSimpArgs false

set_option maxRecDepth 100000 in
set_option maxHeartbeats 8000000 in
theorem walk (span : Int) (A : Option Addr) (n c : Nat) (high : Int) (l : List Sp) (at_ nn : Int) (w : World) (hw1 : W64 span) (hw2 : W64 high) (hs : Ss w A n c l) :
    Calls Try.prog 5 #[.agg #[.int .i64 span, .slice A n c, .int .i64 high], .int .i64 at_, .int .i64 nn] w fun e w' => e = .returned (.bool true) ∧ Below w.heap.size w w' := by
  obtain ⟨B, hB⟩ : ∃ B, w.heap.size = B := ⟨_, rfl⟩
  rw [hB]
  have HL := Lib.hid hs.rd.len
  have e0 := Bx.new w 24 [.int .i64 span, .slice A n c, .int .i64 high]
  rw [hB] at e0
  have b0 : Below B w (w.alloc (.cells #[.int .i64 span, .slice A n c, .int .i64 high] 24)) := by rw [← hB]; exact (Below.refl _ _).alloc (Nat.le_refl _) _
  have s0 := hs.alloc (.cells #[.int .i64 span, .slice A n c, .int .i64 high] 24)
  clear hs hw1 hw2
  go_enter Try.func5, Try.ntmps5
  go_wp2_with fail
  generalize w.alloc (.cells #[.int .i64 span, .slice A n c, .int .i64 high] 24) = w0 at e0 b0 s0 ⊢
  refine (leawake_any _).mono ?_
  rintro e w1 ⟨rfl, hb1⟩
  have e1 := e0.kept hb1; have s1 := s0.keep hb1; have b1 := b0.trans (hb1.mono (Nat.le_of_lt e0.lt))
  by_cases hn : n ≤ 200
  case neg =>
    have x1 := e1.cell 1 rfl
    have hd : decide (200 < n) = true := decide_eq_true (by omega)
    go_wp2_with fail
    go_ret
    exact ⟨rfl, b1⟩
  case pos =>
  have hd : decide (200 < n) = false := decide_eq_false (by omega)
  have x1 := e1.cell 1 rfl
  by_cases hm : MetOk ⟨span, l, high⟩ at_ nn
  case neg =>
    go_wp2_with (refine le_load rfl (.tmp 3) rfl rfl e1 rfl ?_)
    refine (lemet_any span A n c high l at_ nn _ s1).mono ?_
    rintro e w2 ⟨R1, m1, d1, he, hr2, hb2⟩
    rw [met_no hm] at he hr2
    dsimp only [zlv] at he hr2
    subst he
    have hm0 : m1 = 0 := by have := hr2.ss.rd.len; simpa using this.symm
    subst hm0
    have e2 := (e1.kept hb2).alloc (.cells #[.int .i64 0, .slice R1 0 d1, .int .i64 0] 24)
    have s2 := (s1.keep hb2).alloc (.cells #[.int .i64 0, .slice R1 0 d1, .int .i64 0] 24)
    have b2 := (b1.trans (hb2.mono (Nat.le_of_lt e1.lt))).alloc (Nat.le_of_lt (e1.kept hb2).lt) (.cells #[.int .i64 0, .slice R1 0 d1, .int .i64 0] 24)
    obtain ⟨V1, hV1⟩ : ∃ V, w2.heap.size = V := ⟨_, rfl⟩
    have p2 := Bx.new w2 24 [.int .i64 0, .slice R1 0 d1, .int .i64 0]
    rw [hV1] at p2
    have y1 := p2.cell 1 rfl
    clear x1
    go_wp2_with fail
    go_ret
    exact ⟨rfl, b2⟩
  case pos =>
    have hv := (lmay_iff _).1 hm.1
    have a0 := hm.2.1; have a1 := hm.2.2.1; have n0 := hm.2.2.2.1; have n1 := hm.2.2.2.2.1
    have hbd : 0 ≤ (ofR ⟨span, l, high⟩ at_).1 ∧ (ofR ⟨span, l, high⟩ at_).1 ≤ 1152921504606846976 := of_bd hv at_
    have hh0 := hv.h0; have hh1 := hv.h1
    dsimp only at hh0 hh1
    obtain ⟨y, hy⟩ : ∃ y, ofR ⟨span, l, high⟩ at_ = y := ⟨_, rfl⟩
    rw [hy] at hbd
    obtain ⟨om, ob⟩ := y
    obtain ⟨om0, om1⟩ := hbd
    dsimp only at om0 om1
    have HY := Lib.hid hy; clear hy
    by_cases hh : highR ⟨span, l, high⟩ at_ nn = 8
    case pos =>
      go_wp2_with (refine le_load rfl (.tmp 3) rfl rfl e1 rfl ?_)
      refine (lemet_any span A n c high l at_ nn _ s1).mono ?_
      rintro e w2 ⟨R1, m1, d1, he, hr2, hb2⟩
      rw [met_turn hm hh] at he hr2
      dsimp only at he hr2
      subst he
      have hm1 : m1 = 1 := by have := hr2.ss.rd.len; simpa using this.symm
      subst hm1
      have e2 := (e1.kept hb2).alloc (.cells #[.int .i64 span, .slice R1 1 d1, .int .i64 0] 24)
      have s2 := (s1.keep hb2).alloc (.cells #[.int .i64 span, .slice R1 1 d1, .int .i64 0] 24)
      have b2 := (b1.trans (hb2.mono (Nat.le_of_lt e1.lt))).alloc (Nat.le_of_lt (e1.kept hb2).lt) (.cells #[.int .i64 span, .slice R1 1 d1, .int .i64 0] 24)
      obtain ⟨V1, hV1⟩ : ∃ V, w2.heap.size = V := ⟨_, rfl⟩
      have p2 := Bx.new w2 24 [.int .i64 span, .slice R1 1 d1, .int .i64 0]
      rw [hV1] at p2
      have q2 := hr2.ss.alloc (.cells #[.int .i64 span, .slice R1 1 d1, .int .i64 0] 24)
      clear x1
      go_wp2_with (refine le_load rfl (.tmp 3) rfl rfl e2 rfl ?_)
      refine (leof_any span A n c high l at_ _ s2).mono ?_
      rintro e w3 ⟨rfl, hb3⟩
      rw [HY.out]
      dsimp only
      have e3 := e2.kept hb3
      have s3 := s2.keep hb3
      have p3 := p2.kept hb3
      have q3 := q2.keep hb3
      have b3 := b2.trans (hb3.mono (Nat.le_of_lt e2.lt))
      have x0 := e3.cell 0 rfl; have x2 := e3.cell 2 rfl; have y0 := p3.cell 0 rfl; have y1 := p3.cell 1 rfl; have y2 := p3.cell 2 rfl
      have hft := far_turn hv hh
      have hf := hft.1; have h7 := hft.2
      dsimp only at h7
      unfold farB at hf
      rw [HY.out] at hf
      dsimp only at hf
      rw [Bool.and_eq_true, decide_eq_true_eq] at hf
      obtain ⟨rfl, hlt⟩ := hf
      have dlt : decide (2 * om < nn) = true := decide_eq_true hlt
      have dh : (high == 7) = true := by simp [h7]
      obtain ⟨b, o, hA, hbl, hc⟩ := q3.rd.at_ (by omega)
      cases hA
      obtain ⟨z1, z2⟩ := hc 0 (by omega)
      simp only [Nat.zero_mul, Nat.add_zero] at z1 z2
      have z1' : w3.cell? ⟨b, o, none⟩ = some (.int .i64 at_) := z1
      have z2' : w3.cell? ⟨b, o + 1, none⟩ = some (.int .i64 nn) := z2
      clear hc z1 z2 h7 hft hh hv hm
      go_wp2_with fail
      go_ret
      exact ⟨rfl, b3⟩
    case neg =>
      obtain ⟨H, hH⟩ : ∃ H, highR ⟨span, l, high⟩ at_ nn = H := ⟨_, rfl⟩
      obtain ⟨LL, hLL⟩ : ∃ L, ownR (leftR ⟨span, l, high⟩ at_ nn) at_ nn = L := ⟨_, rfl⟩
      go_wp2_with (refine le_load rfl (.tmp 3) rfl rfl e1 rfl ?_)
      refine (lemet_any span A n c high l at_ nn _ s1).mono ?_
      rintro e w2 ⟨R1, m1, d1, he, hr2, hb2⟩
      rw [met_ok hm hh, hH, hLL] at he hr2
      dsimp only at he hr2
      subst he
      have hlm := (lmay_iff _).2 (met_valid hm).1
      rw [met_ok hm hh, hH, hLL] at hlm
      have HM := Lib.hid hlm; have HH := Lib.hid hH
      clear hlm hh hm hv hH hLL
      have e2 := (e1.kept hb2).alloc (.cells #[.int .i64 span, .slice R1 m1 d1, .int .i64 H] 24)
      have s2 := (s1.keep hb2).alloc (.cells #[.int .i64 span, .slice R1 m1 d1, .int .i64 H] 24)
      have b2 := (b1.trans (hb2.mono (Nat.le_of_lt e1.lt))).alloc (Nat.le_of_lt (e1.kept hb2).lt) (.cells #[.int .i64 span, .slice R1 m1 d1, .int .i64 H] 24)
      obtain ⟨V1, hV1⟩ : ∃ V, w2.heap.size = V := ⟨_, rfl⟩
      have p2 := Bx.new w2 24 [.int .i64 span, .slice R1 m1 d1, .int .i64 H]
      rw [hV1] at p2
      have q2 := hr2.ss.alloc (.cells #[.int .i64 span, .slice R1 m1 d1, .int .i64 H] 24)
      clear x1
      go_wp2_with (refine le_load rfl (.tmp 3) rfl rfl e2 rfl ?_)
      refine (leof_any span A n c high l at_ _ s2).mono ?_
      rintro e w3 ⟨rfl, hb3⟩
      rw [HY.out]
      dsimp only
      have e3 := e2.kept hb3
      have s3 := s2.keep hb3
      have p3 := p2.kept hb3
      have q3 := q2.keep hb3
      have b3 := b2.trans (hb3.mono (Nat.le_of_lt e2.lt))
      have x0 := e3.cell 0 rfl; have x2 := e3.cell 2 rfl; have y0 := p3.cell 0 rfl; have y1 := p3.cell 1 rfl; have y2 := p3.cell 2 rfl
      cases ob with
      | false =>
        obtain rfl : 0 = H := by rw [← HH.out]; unfold highR farB; rw [HY.out]; rfl
        go_wp2_with fail
        refine (lemay_any span R1 m1 d1 0 LL _ q3).mono ?_
        rintro e w4 ⟨rfl, hb4⟩
        rw [HM.out]
        have b4 := b3.trans (hb4.mono (Nat.le_of_lt e3.lt))
        go_wp2_with fail
        go_ret
        exact ⟨rfl, b4⟩
      | true =>
        by_cases hlt : 2 * om < nn
        · have dlt : decide (2 * om < nn) = true := decide_eq_true hlt
          obtain rfl : high + 1 = H := by rw [← HH.out]; unfold highR farB; rw [HY.out]; dsimp only; rw [dlt]; rfl
          have dg : decide (0 < high + 1) = true := decide_eq_true (by omega)
          have dg2 : decide (0 ≤ high) = true := decide_eq_true (by omega)
          go_wp2_with fail
          refine (lemay_any span R1 m1 d1 (high + 1) LL _ q3).mono ?_
          rintro e w4 ⟨rfl, hb4⟩
          rw [HM.out]
          have b4 := b3.trans (hb4.mono (Nat.le_of_lt e3.lt))
          go_wp2_with fail
          go_ret
          exact ⟨rfl, b4⟩
        · have dlt : decide (2 * om < nn) = false := decide_eq_false hlt
          obtain rfl : 0 = H := by rw [← HH.out]; unfold highR farB; rw [HY.out]; dsimp only; rw [dlt]; rfl
          go_wp2_with fail
          refine (lemay_any span R1 m1 d1 0 LL _ q3).mono ?_
          rintro e w4 ⟨rfl, hb4⟩
          rw [HM.out]
          have b4 := b3.trans (hb4.mono (Nat.le_of_lt e3.lt))
          go_wp2_with fail
          go_ret
          exact ⟨rfl, b4⟩
end Go.Proofs.Ytihheanjlabioaa.leastTurns
