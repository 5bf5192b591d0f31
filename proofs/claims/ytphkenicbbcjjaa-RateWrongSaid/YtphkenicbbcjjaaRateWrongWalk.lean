/- The walk of the law RateWrong. -/
import Derived.Test.YtphkenicbbcjjaaProg
import Derived.Test.YtphkenicbbcjjaaRaAwake
import Derived.Test.YtphkenicbbcjjaaRaRef3
import Derived.Test.YtphkenicbbcjjaaRaMath
import Derived.Test.YtphkenicbbcjjaaTail
import Derived.Deep.LoopGhost
import Derived.WalkKit
import Derived.WalkSpells
import Derived.WalkSmall
import Derived.Lib.Hide
import Derived.Below
import Derived.Outline
import Derived.Laws.Tables
import Derived.Laws.Rows
import Derived.OrdersHeld
import Derived.Deep.QuietTactic
import Derived.BigQuiet
import Derived.IntWalk
import Derived.Deep.DeepCutAuto
namespace Go.Proofs.Ytphkenicbbcjjaa.rateWrong
open Go.RowKit
set_option linter.unusedVariables false
set_option linter.unusedSimpArgs false

set_option maxRecDepth 100000 in
set_option maxHeartbeats 8000000 in
theorem walk (total last : Int) (A : Option Addr) (n c : Nat) (l : List Int) (a1 a2 a3 a4 : Int) (w : World) (hs : Si w A n c l) :
    Calls Try.prog 6 #[.agg #[.int .i64 total, .int .i64 last, .slice A n c], .int .i64 a1, .int .i64 a2, .int .i64 a3, .int .i64 a4] w fun e w' => e = .returned (.bool true) ∧ Below w.heap.size w w' := by
  obtain ⟨B, hB⟩ : ∃ B, w.heap.size = B := ⟨_, rfl⟩
  rw [hB]
  have e0 := Bx.new w 24 [.int .i64 total, .int .i64 last, .slice A n c]
  rw [hB] at e0
  have b0 : Below B w (w.alloc (.cells #[.int .i64 total, .int .i64 last, .slice A n c] 24)) := by rw [← hB]; exact (Below.refl _ _).alloc (Nat.le_refl _) _
  have s0 := hs.alloc (.cells #[.int .i64 total, .int .i64 last, .slice A n c] 24)
  go_enter Try.func6, Try.ntmps6
  go_wp2_with fail
  generalize w.alloc (.cells #[.int .i64 total, .int .i64 last, .slice A n c] 24) = w0 at e0 b0 s0 ⊢
  refine (raawake_any _).mono ?_
  rintro e w1 ⟨rfl, hb1⟩
  have e1 := e0.kept hb1
  have s1 := s0.keep hb1
  have b1 := b0.trans (hb1.mono (Nat.le_of_lt e0.lt))
  have HL : Hid (l.length = n) := Lib.hid hs.rd.len
  have x2 := e1.cell 2 rfl
  by_cases hn : n ≤ 40
  case neg =>
    have d0 : decide ((40 : Int) < (n : Int)) = true := decide_eq_true (by omega)
    have HN := Lib.hid hn; clear hn
    go_wp2_with fail
    go_ret
    exact ⟨rfl, b1⟩
  case pos =>
  have d0 : decide ((40 : Int) < (n : Int)) = false := decide_eq_false (by omega)
  have HN := Lib.hid hn; clear hn
  clear hs
  cases hk : ramay ⟨total, last, l⟩ with
  | false =>
    have HK := Lib.hid hk
    have HX : Hid (cameR ⟨total, last, l⟩ a1 a2 = (zrv, 1)) := Lib.hid (came_no (fun h => by have := h.1; rw [hk] at this; cases this))
    have HY : Hid (sampR ⟨total, last, l⟩ a3 a4 = (zrv, 0, 1)) := Lib.hid (samp_no (fun h => by have := h.1; rw [hk] at this; cases this))
    clear hk
    go_wp2_with (refine ra_load rfl (.tmp 5) rfl rfl e1 rfl ?_)
    clear x2
    refine (ratcame_any total last A n c l a1 a2 (fun _ => True) _ s1.sq (fun _ _ => trivial)).mono ?_
    rintro e w2 ⟨R1, m1, d1, he, hs1, hb2⟩
    rw [HX.out] at he hs1
    dsimp only [zrv] at he hs1
    subst he
    have hm1 : 0 = m1 := hs1.len
    subst hm1
    have e2 := (e1.kept hb2).alloc (.cells #[.int .i64 0, .int .i64 0, .slice R1 0 d1] 24)
    have s2 := (s1.keep hb2).alloc (.cells #[.int .i64 0, .int .i64 0, .slice R1 0 d1] 24)
    have b2 := (b1.trans (hb2.mono (Nat.le_of_lt e1.lt))).alloc (Nat.le_of_lt (e1.kept hb2).lt) (.cells #[.int .i64 0, .int .i64 0, .slice R1 0 d1] 24)
    have pp2 := hs1.si.alloc (.cells #[.int .i64 0, .int .i64 0, .slice R1 0 d1] 24)
    clear hs1
    obtain ⟨V1, hV1⟩ : ∃ V, w2.heap.size = V := ⟨_, rfl⟩
    have p2 := Bx.new w2 24 [.int .i64 0, .int .i64 0, .slice R1 0 d1]
    rw [hV1] at p2
    go_wp2_with (refine ra_load rfl (.tmp 5) rfl rfl e2 rfl ?_)
    refine (ratsamp_any total last A n c l a3 a4 (fun _ => True) _ s2.sq (fun _ _ => trivial)).mono ?_
    rintro e w3 ⟨R2, m2, d2, he, hs2, hb3⟩
    rw [HY.out] at he hs2
    dsimp only [zrv] at he hs2
    subst he
    have hm2 : 0 = m2 := hs2.len
    subst hm2
    have e3 := (e2.kept hb3).alloc (.cells #[.int .i64 0, .int .i64 0, .slice R2 0 d2] 24)
    have s3 := (s2.keep hb3).alloc (.cells #[.int .i64 0, .int .i64 0, .slice R2 0 d2] 24)
    have p3 := (p2.kept hb3).alloc (.cells #[.int .i64 0, .int .i64 0, .slice R2 0 d2] 24)
    have pp3 := (pp2.keep hb3).alloc (.cells #[.int .i64 0, .int .i64 0, .slice R2 0 d2] 24)
    have b3 := (b2.trans (hb3.mono (Nat.le_of_lt e2.lt))).alloc (Nat.le_of_lt (e2.kept hb3).lt) (.cells #[.int .i64 0, .int .i64 0, .slice R2 0 d2] 24)
    have rr3 := hs2.si.alloc (.cells #[.int .i64 0, .int .i64 0, .slice R2 0 d2] 24)
    clear hs2
    obtain ⟨V2, hV2⟩ : ∃ V, w3.heap.size = V := ⟨_, rfl⟩
    have r3 := Bx.new w3 24 [.int .i64 0, .int .i64 0, .slice R2 0 d2]
    rw [hV2] at r3
    go_wp2_with (refine ra_load rfl (.tmp 5) rfl rfl e3 rfl ?_)
    refine (ratmay_any total last A n c l _ s3).mono ?_
    rintro e w4 ⟨rfl, hb4⟩
    rw [HK.out]
    have e4 := e3.kept hb4
    have s4 := s3.keep hb4
    have p4 := p3.kept hb4
    have pp4 := pp3.keep hb4
    have r4 := r3.kept hb4
    have rr4 := rr3.keep hb4
    have b4 := b3.trans (hb4.mono (Nat.le_of_lt e3.lt))
    have ex0 := e4.cell 0 rfl; have ex1 := e4.cell 1 rfl; have ex2 := e4.cell 2 rfl
    have px0 := p4.cell 0 rfl; have px1 := p4.cell 1 rfl; have px2 := p4.cell 2 rfl
    have rx0 := r4.cell 0 rfl; have rx1 := r4.cell 1 rfl; have rx2 := r4.cell 2 rfl
    go_wp2_with fail
    go_ret
    exact ⟨rfl, b4⟩
  | true =>
    have HK := Lib.hid hk; clear hk
    rcases came_cases (v := ⟨total, last, l⟩) (a := a1) (b := a2) with hx | hx | ⟨hx, hok1, hok2⟩
    · have HX := Lib.hid hx; clear hx
      by_cases c0 : 0 ≤ a3
      case neg =>
        have c0d : decide (0 ≤ a3) = false := decide_eq_false c0
        have HY : Hid (sampR ⟨total, last, l⟩ a3 a4 = (zrv, 0, 1)) := Lib.hid (samp_no (fun h => c0 h.2.1))
        go_wp2_with (refine ra_load rfl (.tmp 5) rfl rfl e1 rfl ?_)
        clear x2
        refine (ratcame_any total last A n c l a1 a2 (fun _ => True) _ s1.sq (fun _ _ => trivial)).mono ?_
        rintro e w2 ⟨R1, m1, d1, he, hs1, hb2⟩
        rw [HX.out] at he hs1
        dsimp only [zrv] at he hs1
        subst he
        have hm1 : 0 = m1 := hs1.len
        subst hm1
        have e2 := (e1.kept hb2).alloc (.cells #[.int .i64 0, .int .i64 0, .slice R1 0 d1] 24)
        have s2 := (s1.keep hb2).alloc (.cells #[.int .i64 0, .int .i64 0, .slice R1 0 d1] 24)
        have b2 := (b1.trans (hb2.mono (Nat.le_of_lt e1.lt))).alloc (Nat.le_of_lt (e1.kept hb2).lt) (.cells #[.int .i64 0, .int .i64 0, .slice R1 0 d1] 24)
        have pp2 := hs1.si.alloc (.cells #[.int .i64 0, .int .i64 0, .slice R1 0 d1] 24)
        clear hs1
        obtain ⟨V1, hV1⟩ : ∃ V, w2.heap.size = V := ⟨_, rfl⟩
        have p2 := Bx.new w2 24 [.int .i64 0, .int .i64 0, .slice R1 0 d1]
        rw [hV1] at p2
        go_wp2_with (refine ra_load rfl (.tmp 5) rfl rfl e2 rfl ?_)
        refine (ratsamp_any total last A n c l a3 a4 (fun _ => True) _ s2.sq (fun _ _ => trivial)).mono ?_
        rintro e w3 ⟨R2, m2, d2, he, hs2, hb3⟩
        rw [HY.out] at he hs2
        dsimp only [zrv] at he hs2
        subst he
        have hm2 : 0 = m2 := hs2.len
        subst hm2
        have e3 := (e2.kept hb3).alloc (.cells #[.int .i64 0, .int .i64 0, .slice R2 0 d2] 24)
        have s3 := (s2.keep hb3).alloc (.cells #[.int .i64 0, .int .i64 0, .slice R2 0 d2] 24)
        have p3 := (p2.kept hb3).alloc (.cells #[.int .i64 0, .int .i64 0, .slice R2 0 d2] 24)
        have pp3 := (pp2.keep hb3).alloc (.cells #[.int .i64 0, .int .i64 0, .slice R2 0 d2] 24)
        have b3 := (b2.trans (hb3.mono (Nat.le_of_lt e2.lt))).alloc (Nat.le_of_lt (e2.kept hb3).lt) (.cells #[.int .i64 0, .int .i64 0, .slice R2 0 d2] 24)
        have rr3 := hs2.si.alloc (.cells #[.int .i64 0, .int .i64 0, .slice R2 0 d2] 24)
        clear hs2
        obtain ⟨V2, hV2⟩ : ∃ V, w3.heap.size = V := ⟨_, rfl⟩
        have r3 := Bx.new w3 24 [.int .i64 0, .int .i64 0, .slice R2 0 d2]
        rw [hV2] at r3
        go_wp2_with (refine ra_load rfl (.tmp 5) rfl rfl e3 rfl ?_)
        refine (ratmay_any total last A n c l _ s3).mono ?_
        rintro e w4 ⟨rfl, hb4⟩
        rw [HK.out]
        have e4 := e3.kept hb4
        have s4 := s3.keep hb4
        have p4 := p3.kept hb4
        have pp4 := pp3.keep hb4
        have r4 := r3.kept hb4
        have rr4 := rr3.keep hb4
        have b4 := b3.trans (hb4.mono (Nat.le_of_lt e3.lt))
        have ex0 := e4.cell 0 rfl; have ex1 := e4.cell 1 rfl; have ex2 := e4.cell 2 rfl
        have px0 := p4.cell 0 rfl; have px1 := p4.cell 1 rfl; have px2 := p4.cell 2 rfl
        have rx0 := r4.cell 0 rfl; have rx1 := r4.cell 1 rfl; have rx2 := r4.cell 2 rfl
        go_wp2_with fail
        go_ret
        exact ⟨rfl, b4⟩
      case pos =>
      have c0d : decide (0 ≤ a3) = true := decide_eq_true c0
      by_cases c1 : a3 ≤ total
      case neg =>
        have c1d : decide (a3 ≤ total) = false := decide_eq_false c1
        have HY : Hid (sampR ⟨total, last, l⟩ a3 a4 = (zrv, 0, 1)) := Lib.hid (samp_no (fun h => c1 h.2.2.1))
        go_wp2_with (refine ra_load rfl (.tmp 5) rfl rfl e1 rfl ?_)
        clear x2
        refine (ratcame_any total last A n c l a1 a2 (fun _ => True) _ s1.sq (fun _ _ => trivial)).mono ?_
        rintro e w2 ⟨R1, m1, d1, he, hs1, hb2⟩
        rw [HX.out] at he hs1
        dsimp only [zrv] at he hs1
        subst he
        have hm1 : 0 = m1 := hs1.len
        subst hm1
        have e2 := (e1.kept hb2).alloc (.cells #[.int .i64 0, .int .i64 0, .slice R1 0 d1] 24)
        have s2 := (s1.keep hb2).alloc (.cells #[.int .i64 0, .int .i64 0, .slice R1 0 d1] 24)
        have b2 := (b1.trans (hb2.mono (Nat.le_of_lt e1.lt))).alloc (Nat.le_of_lt (e1.kept hb2).lt) (.cells #[.int .i64 0, .int .i64 0, .slice R1 0 d1] 24)
        have pp2 := hs1.si.alloc (.cells #[.int .i64 0, .int .i64 0, .slice R1 0 d1] 24)
        clear hs1
        obtain ⟨V1, hV1⟩ : ∃ V, w2.heap.size = V := ⟨_, rfl⟩
        have p2 := Bx.new w2 24 [.int .i64 0, .int .i64 0, .slice R1 0 d1]
        rw [hV1] at p2
        go_wp2_with (refine ra_load rfl (.tmp 5) rfl rfl e2 rfl ?_)
        refine (ratsamp_any total last A n c l a3 a4 (fun _ => True) _ s2.sq (fun _ _ => trivial)).mono ?_
        rintro e w3 ⟨R2, m2, d2, he, hs2, hb3⟩
        rw [HY.out] at he hs2
        dsimp only [zrv] at he hs2
        subst he
        have hm2 : 0 = m2 := hs2.len
        subst hm2
        have e3 := (e2.kept hb3).alloc (.cells #[.int .i64 0, .int .i64 0, .slice R2 0 d2] 24)
        have s3 := (s2.keep hb3).alloc (.cells #[.int .i64 0, .int .i64 0, .slice R2 0 d2] 24)
        have p3 := (p2.kept hb3).alloc (.cells #[.int .i64 0, .int .i64 0, .slice R2 0 d2] 24)
        have pp3 := (pp2.keep hb3).alloc (.cells #[.int .i64 0, .int .i64 0, .slice R2 0 d2] 24)
        have b3 := (b2.trans (hb3.mono (Nat.le_of_lt e2.lt))).alloc (Nat.le_of_lt (e2.kept hb3).lt) (.cells #[.int .i64 0, .int .i64 0, .slice R2 0 d2] 24)
        have rr3 := hs2.si.alloc (.cells #[.int .i64 0, .int .i64 0, .slice R2 0 d2] 24)
        clear hs2
        obtain ⟨V2, hV2⟩ : ∃ V, w3.heap.size = V := ⟨_, rfl⟩
        have r3 := Bx.new w3 24 [.int .i64 0, .int .i64 0, .slice R2 0 d2]
        rw [hV2] at r3
        go_wp2_with (refine ra_load rfl (.tmp 5) rfl rfl e3 rfl ?_)
        refine (ratmay_any total last A n c l _ s3).mono ?_
        rintro e w4 ⟨rfl, hb4⟩
        rw [HK.out]
        have e4 := e3.kept hb4
        have s4 := s3.keep hb4
        have p4 := p3.kept hb4
        have pp4 := pp3.keep hb4
        have r4 := r3.kept hb4
        have rr4 := rr3.keep hb4
        have b4 := b3.trans (hb4.mono (Nat.le_of_lt e3.lt))
        have ex0 := e4.cell 0 rfl; have ex1 := e4.cell 1 rfl; have ex2 := e4.cell 2 rfl
        have px0 := p4.cell 0 rfl; have px1 := p4.cell 1 rfl; have px2 := p4.cell 2 rfl
        have rx0 := r4.cell 0 rfl; have rx1 := r4.cell 1 rfl; have rx2 := r4.cell 2 rfl
        go_wp2_with fail
        go_ret
        exact ⟨rfl, b4⟩
      case pos =>
      have c1d : decide (a3 ≤ total) = true := decide_eq_true c1
      by_cases c2 : 0 ≤ a4
      case neg =>
        have c2d : decide (0 ≤ a4) = false := decide_eq_false c2
        have HY : Hid (sampR ⟨total, last, l⟩ a3 a4 = (zrv, 0, 1)) := Lib.hid (samp_no (fun h => c2 h.2.2.2.1))
        go_wp2_with (refine ra_load rfl (.tmp 5) rfl rfl e1 rfl ?_)
        clear x2
        refine (ratcame_any total last A n c l a1 a2 (fun _ => True) _ s1.sq (fun _ _ => trivial)).mono ?_
        rintro e w2 ⟨R1, m1, d1, he, hs1, hb2⟩
        rw [HX.out] at he hs1
        dsimp only [zrv] at he hs1
        subst he
        have hm1 : 0 = m1 := hs1.len
        subst hm1
        have e2 := (e1.kept hb2).alloc (.cells #[.int .i64 0, .int .i64 0, .slice R1 0 d1] 24)
        have s2 := (s1.keep hb2).alloc (.cells #[.int .i64 0, .int .i64 0, .slice R1 0 d1] 24)
        have b2 := (b1.trans (hb2.mono (Nat.le_of_lt e1.lt))).alloc (Nat.le_of_lt (e1.kept hb2).lt) (.cells #[.int .i64 0, .int .i64 0, .slice R1 0 d1] 24)
        have pp2 := hs1.si.alloc (.cells #[.int .i64 0, .int .i64 0, .slice R1 0 d1] 24)
        clear hs1
        obtain ⟨V1, hV1⟩ : ∃ V, w2.heap.size = V := ⟨_, rfl⟩
        have p2 := Bx.new w2 24 [.int .i64 0, .int .i64 0, .slice R1 0 d1]
        rw [hV1] at p2
        go_wp2_with (refine ra_load rfl (.tmp 5) rfl rfl e2 rfl ?_)
        refine (ratsamp_any total last A n c l a3 a4 (fun _ => True) _ s2.sq (fun _ _ => trivial)).mono ?_
        rintro e w3 ⟨R2, m2, d2, he, hs2, hb3⟩
        rw [HY.out] at he hs2
        dsimp only [zrv] at he hs2
        subst he
        have hm2 : 0 = m2 := hs2.len
        subst hm2
        have e3 := (e2.kept hb3).alloc (.cells #[.int .i64 0, .int .i64 0, .slice R2 0 d2] 24)
        have s3 := (s2.keep hb3).alloc (.cells #[.int .i64 0, .int .i64 0, .slice R2 0 d2] 24)
        have p3 := (p2.kept hb3).alloc (.cells #[.int .i64 0, .int .i64 0, .slice R2 0 d2] 24)
        have pp3 := (pp2.keep hb3).alloc (.cells #[.int .i64 0, .int .i64 0, .slice R2 0 d2] 24)
        have b3 := (b2.trans (hb3.mono (Nat.le_of_lt e2.lt))).alloc (Nat.le_of_lt (e2.kept hb3).lt) (.cells #[.int .i64 0, .int .i64 0, .slice R2 0 d2] 24)
        have rr3 := hs2.si.alloc (.cells #[.int .i64 0, .int .i64 0, .slice R2 0 d2] 24)
        clear hs2
        obtain ⟨V2, hV2⟩ : ∃ V, w3.heap.size = V := ⟨_, rfl⟩
        have r3 := Bx.new w3 24 [.int .i64 0, .int .i64 0, .slice R2 0 d2]
        rw [hV2] at r3
        go_wp2_with (refine ra_load rfl (.tmp 5) rfl rfl e3 rfl ?_)
        refine (ratmay_any total last A n c l _ s3).mono ?_
        rintro e w4 ⟨rfl, hb4⟩
        rw [HK.out]
        have e4 := e3.kept hb4
        have s4 := s3.keep hb4
        have p4 := p3.kept hb4
        have pp4 := pp3.keep hb4
        have r4 := r3.kept hb4
        have rr4 := rr3.keep hb4
        have b4 := b3.trans (hb4.mono (Nat.le_of_lt e3.lt))
        have ex0 := e4.cell 0 rfl; have ex1 := e4.cell 1 rfl; have ex2 := e4.cell 2 rfl
        have px0 := p4.cell 0 rfl; have px1 := p4.cell 1 rfl; have px2 := p4.cell 2 rfl
        have rx0 := r4.cell 0 rfl; have rx1 := r4.cell 1 rfl; have rx2 := r4.cell 2 rfl
        go_wp2_with fail
        go_ret
        exact ⟨rfl, b4⟩
      case pos =>
      have c2d : decide (0 ≤ a4) = true := decide_eq_true c2
      by_cases c3 : a4 ≤ last
      case neg =>
        have c3d : decide (a4 ≤ last) = false := decide_eq_false c3
        have HY : Hid (sampR ⟨total, last, l⟩ a3 a4 = (zrv, 0, 1)) := Lib.hid (samp_no (fun h => c3 h.2.2.2.2))
        go_wp2_with (refine ra_load rfl (.tmp 5) rfl rfl e1 rfl ?_)
        clear x2
        refine (ratcame_any total last A n c l a1 a2 (fun _ => True) _ s1.sq (fun _ _ => trivial)).mono ?_
        rintro e w2 ⟨R1, m1, d1, he, hs1, hb2⟩
        rw [HX.out] at he hs1
        dsimp only [zrv] at he hs1
        subst he
        have hm1 : 0 = m1 := hs1.len
        subst hm1
        have e2 := (e1.kept hb2).alloc (.cells #[.int .i64 0, .int .i64 0, .slice R1 0 d1] 24)
        have s2 := (s1.keep hb2).alloc (.cells #[.int .i64 0, .int .i64 0, .slice R1 0 d1] 24)
        have b2 := (b1.trans (hb2.mono (Nat.le_of_lt e1.lt))).alloc (Nat.le_of_lt (e1.kept hb2).lt) (.cells #[.int .i64 0, .int .i64 0, .slice R1 0 d1] 24)
        have pp2 := hs1.si.alloc (.cells #[.int .i64 0, .int .i64 0, .slice R1 0 d1] 24)
        clear hs1
        obtain ⟨V1, hV1⟩ : ∃ V, w2.heap.size = V := ⟨_, rfl⟩
        have p2 := Bx.new w2 24 [.int .i64 0, .int .i64 0, .slice R1 0 d1]
        rw [hV1] at p2
        go_wp2_with (refine ra_load rfl (.tmp 5) rfl rfl e2 rfl ?_)
        refine (ratsamp_any total last A n c l a3 a4 (fun _ => True) _ s2.sq (fun _ _ => trivial)).mono ?_
        rintro e w3 ⟨R2, m2, d2, he, hs2, hb3⟩
        rw [HY.out] at he hs2
        dsimp only [zrv] at he hs2
        subst he
        have hm2 : 0 = m2 := hs2.len
        subst hm2
        have e3 := (e2.kept hb3).alloc (.cells #[.int .i64 0, .int .i64 0, .slice R2 0 d2] 24)
        have s3 := (s2.keep hb3).alloc (.cells #[.int .i64 0, .int .i64 0, .slice R2 0 d2] 24)
        have p3 := (p2.kept hb3).alloc (.cells #[.int .i64 0, .int .i64 0, .slice R2 0 d2] 24)
        have pp3 := (pp2.keep hb3).alloc (.cells #[.int .i64 0, .int .i64 0, .slice R2 0 d2] 24)
        have b3 := (b2.trans (hb3.mono (Nat.le_of_lt e2.lt))).alloc (Nat.le_of_lt (e2.kept hb3).lt) (.cells #[.int .i64 0, .int .i64 0, .slice R2 0 d2] 24)
        have rr3 := hs2.si.alloc (.cells #[.int .i64 0, .int .i64 0, .slice R2 0 d2] 24)
        clear hs2
        obtain ⟨V2, hV2⟩ : ∃ V, w3.heap.size = V := ⟨_, rfl⟩
        have r3 := Bx.new w3 24 [.int .i64 0, .int .i64 0, .slice R2 0 d2]
        rw [hV2] at r3
        go_wp2_with (refine ra_load rfl (.tmp 5) rfl rfl e3 rfl ?_)
        refine (ratmay_any total last A n c l _ s3).mono ?_
        rintro e w4 ⟨rfl, hb4⟩
        rw [HK.out]
        have e4 := e3.kept hb4
        have s4 := s3.keep hb4
        have p4 := p3.kept hb4
        have pp4 := pp3.keep hb4
        have r4 := r3.kept hb4
        have rr4 := rr3.keep hb4
        have b4 := b3.trans (hb4.mono (Nat.le_of_lt e3.lt))
        have ex0 := e4.cell 0 rfl; have ex1 := e4.cell 1 rfl; have ex2 := e4.cell 2 rfl
        have px0 := p4.cell 0 rfl; have px1 := p4.cell 1 rfl; have px2 := p4.cell 2 rfl
        have rx0 := r4.cell 0 rfl; have rx1 := r4.cell 1 rfl; have rx2 := r4.cell 2 rfl
        go_wp2_with fail
        go_ret
        exact ⟨rfl, b4⟩
      case pos =>
      have c3d : decide (a4 ≤ last) = true := decide_eq_true c3
      have hok : SampOk ⟨total, last, l⟩ a3 a4 := ⟨HK.out, c0, c1, c2, c3⟩
      have HOK := Lib.hid hok; clear hok
      by_cases c5 : a4 = last
      case pos =>
        subst c5
        have HY : Hid (sampR ⟨total, a4, l⟩ a3 a4 = (⟨total, a4, l⟩, 0, 0)) := Lib.hid (samp_same HOK.out (by show a4 - a4 ≤ 0; omega))
        go_wp2_with (refine ra_load rfl (.tmp 5) rfl rfl e1 rfl ?_)
        clear x2
        refine (ratcame_any total a4 A n c l a1 a2 (fun _ => True) _ s1.sq (fun _ _ => trivial)).mono ?_
        rintro e w2 ⟨R1, m1, d1, he, hs1, hb2⟩
        rw [HX.out] at he hs1
        dsimp only [zrv] at he hs1
        subst he
        have hm1 : 0 = m1 := hs1.len
        subst hm1
        have e2 := (e1.kept hb2).alloc (.cells #[.int .i64 0, .int .i64 0, .slice R1 0 d1] 24)
        have s2 := (s1.keep hb2).alloc (.cells #[.int .i64 0, .int .i64 0, .slice R1 0 d1] 24)
        have b2 := (b1.trans (hb2.mono (Nat.le_of_lt e1.lt))).alloc (Nat.le_of_lt (e1.kept hb2).lt) (.cells #[.int .i64 0, .int .i64 0, .slice R1 0 d1] 24)
        have pp2 := hs1.si.alloc (.cells #[.int .i64 0, .int .i64 0, .slice R1 0 d1] 24)
        clear hs1
        obtain ⟨V1, hV1⟩ : ∃ V, w2.heap.size = V := ⟨_, rfl⟩
        have p2 := Bx.new w2 24 [.int .i64 0, .int .i64 0, .slice R1 0 d1]
        rw [hV1] at p2
        go_wp2_with (refine ra_load rfl (.tmp 5) rfl rfl e2 rfl ?_)
        refine (ratsamp_any total a4 A n c l a3 a4 (fun _ => True) _ s2.sq (fun _ _ => trivial)).mono ?_
        rintro e w3 ⟨R2, m2, d2, he, hs2, hb3⟩
        rw [HY.out] at he hs2
        dsimp only [zrv] at he hs2
        subst he
        have hm2 : n = m2 := HL.out.symm.trans hs2.len
        subst hm2
        have e3 := (e2.kept hb3).alloc (.cells #[.int .i64 total, .int .i64 a4, .slice R2 n d2] 24)
        have s3 := (s2.keep hb3).alloc (.cells #[.int .i64 total, .int .i64 a4, .slice R2 n d2] 24)
        have p3 := (p2.kept hb3).alloc (.cells #[.int .i64 total, .int .i64 a4, .slice R2 n d2] 24)
        have pp3 := (pp2.keep hb3).alloc (.cells #[.int .i64 total, .int .i64 a4, .slice R2 n d2] 24)
        have b3 := (b2.trans (hb3.mono (Nat.le_of_lt e2.lt))).alloc (Nat.le_of_lt (e2.kept hb3).lt) (.cells #[.int .i64 total, .int .i64 a4, .slice R2 n d2] 24)
        have rr3 := hs2.si.alloc (.cells #[.int .i64 total, .int .i64 a4, .slice R2 n d2] 24)
        clear hs2
        obtain ⟨V2, hV2⟩ : ∃ V, w3.heap.size = V := ⟨_, rfl⟩
        have r3 := Bx.new w3 24 [.int .i64 total, .int .i64 a4, .slice R2 n d2]
        rw [hV2] at r3
        go_wp2_with (refine ra_load rfl (.tmp 5) rfl rfl e3 rfl ?_)
        refine (ratmay_any total a4 A n c l _ s3).mono ?_
        rintro e w4 ⟨rfl, hb4⟩
        rw [HK.out]
        have e4 := e3.kept hb4
        have s4 := s3.keep hb4
        have p4 := p3.kept hb4
        have pp4 := pp3.keep hb4
        have r4 := r3.kept hb4
        have rr4 := rr3.keep hb4
        have b4 := b3.trans (hb4.mono (Nat.le_of_lt e3.lt))
        have ex0 := e4.cell 0 rfl; have ex1 := e4.cell 1 rfl; have ex2 := e4.cell 2 rfl
        have px0 := p4.cell 0 rfl; have px1 := p4.cell 1 rfl; have px2 := p4.cell 2 rfl
        have rx0 := r4.cell 0 rfl; have rx1 := r4.cell 1 rfl; have rx2 := r4.cell 2 rfl
        go_wp2_with fail
        go_ret
        exact ⟨rfl, b4⟩
      case neg =>
      have c5d : (a4 == last) = false := by simpa using c5
      obtain ⟨nr, hnr⟩ : ∃ nr, numR (total - a3) (last - a4) = nr := ⟨_, rfl⟩
      have hnb := num_bd (a := total - a3) (d := last - a4) (by omega) (by omega)
      rw [hnr] at hnb
      obtain ⟨nr0, nr1⟩ := hnb
      have HY : Hid (sampR ⟨total, last, l⟩ a3 a4 = (⟨total, last, pushR l nr⟩, nr, 0)) := Lib.hid (by rw [samp_ok HOK.out (by show ¬ last - a4 ≤ 0; omega)]; show ((⟨total, last, pushR l (numR (total - a3) (last - a4))⟩ : Rv), numR (total - a3) (last - a4), (0 : Int)) = _; rw [hnr])
      clear hnr
      go_wp2_with (refine ra_load rfl (.tmp 5) rfl rfl e1 rfl ?_)
      clear x2
      refine (ratcame_any total last A n c l a1 a2 (fun _ => True) _ s1.sq (fun _ _ => trivial)).mono ?_
      rintro e w2 ⟨R1, m1, d1, he, hs1, hb2⟩
      rw [HX.out] at he hs1
      dsimp only [zrv] at he hs1
      subst he
      have hm1 : 0 = m1 := hs1.len
      subst hm1
      have e2 := (e1.kept hb2).alloc (.cells #[.int .i64 0, .int .i64 0, .slice R1 0 d1] 24)
      have s2 := (s1.keep hb2).alloc (.cells #[.int .i64 0, .int .i64 0, .slice R1 0 d1] 24)
      have b2 := (b1.trans (hb2.mono (Nat.le_of_lt e1.lt))).alloc (Nat.le_of_lt (e1.kept hb2).lt) (.cells #[.int .i64 0, .int .i64 0, .slice R1 0 d1] 24)
      have pp2 := hs1.si.alloc (.cells #[.int .i64 0, .int .i64 0, .slice R1 0 d1] 24)
      clear hs1
      obtain ⟨V1, hV1⟩ : ∃ V, w2.heap.size = V := ⟨_, rfl⟩
      have p2 := Bx.new w2 24 [.int .i64 0, .int .i64 0, .slice R1 0 d1]
      rw [hV1] at p2
      go_wp2_with (refine ra_load rfl (.tmp 5) rfl rfl e2 rfl ?_)
      refine (ratsamp_any total last A n c l a3 a4 (fun _ => True) _ s2.sq (fun _ _ => trivial)).mono ?_
      rintro e w3 ⟨R2, m2, d2, he, hs2, hb3⟩
      rw [HY.out] at he hs2
      dsimp only [zrv] at he hs2
      subst he
      have e3 := (e2.kept hb3).alloc (.cells #[.int .i64 total, .int .i64 last, .slice R2 m2 d2] 24)
      have s3 := (s2.keep hb3).alloc (.cells #[.int .i64 total, .int .i64 last, .slice R2 m2 d2] 24)
      have p3 := (p2.kept hb3).alloc (.cells #[.int .i64 total, .int .i64 last, .slice R2 m2 d2] 24)
      have pp3 := (pp2.keep hb3).alloc (.cells #[.int .i64 total, .int .i64 last, .slice R2 m2 d2] 24)
      have b3 := (b2.trans (hb3.mono (Nat.le_of_lt e2.lt))).alloc (Nat.le_of_lt (e2.kept hb3).lt) (.cells #[.int .i64 total, .int .i64 last, .slice R2 m2 d2] 24)
      have rr3 := hs2.si.alloc (.cells #[.int .i64 total, .int .i64 last, .slice R2 m2 d2] 24)
      clear hs2
      obtain ⟨V2, hV2⟩ : ∃ V, w3.heap.size = V := ⟨_, rfl⟩
      have r3 := Bx.new w3 24 [.int .i64 total, .int .i64 last, .slice R2 m2 d2]
      rw [hV2] at r3
      go_wp2_with (refine ra_load rfl (.tmp 5) rfl rfl e3 rfl ?_)
      refine (ratmay_any total last A n c l _ s3).mono ?_
      rintro e w4 ⟨rfl, hb4⟩
      rw [HK.out]
      have e4 := e3.kept hb4
      have s4 := s3.keep hb4
      have p4 := p3.kept hb4
      have pp4 := pp3.keep hb4
      have r4 := r3.kept hb4
      have rr4 := rr3.keep hb4
      have b4 := b3.trans (hb4.mono (Nat.le_of_lt e3.lt))
      have ex0 := e4.cell 0 rfl; have ex1 := e4.cell 1 rfl; have ex2 := e4.cell 2 rfl
      have px0 := p4.cell 0 rfl; have px1 := p4.cell 1 rfl; have px2 := p4.cell 2 rfl
      have rx0 := r4.cell 0 rfl; have rx1 := r4.cell 1 rfl; have rx2 := r4.cell 2 rfl
      go_wp2_with fail
      go_ret
      exact ⟨rfl, b4⟩
    · have HX := Lib.hid hx; clear hx
      by_cases c0 : 0 ≤ a3
      case neg =>
        have c0d : decide (0 ≤ a3) = false := decide_eq_false c0
        have HY : Hid (sampR ⟨total, last, l⟩ a3 a4 = (zrv, 0, 1)) := Lib.hid (samp_no (fun h => c0 h.2.1))
        go_wp2_with (refine ra_load rfl (.tmp 5) rfl rfl e1 rfl ?_)
        clear x2
        refine (ratcame_any total last A n c l a1 a2 (fun _ => True) _ s1.sq (fun _ _ => trivial)).mono ?_
        rintro e w2 ⟨R1, m1, d1, he, hs1, hb2⟩
        rw [HX.out] at he hs1
        dsimp only [zrv] at he hs1
        subst he
        have hm1 : 0 = m1 := hs1.len
        subst hm1
        have e2 := (e1.kept hb2).alloc (.cells #[.int .i64 0, .int .i64 0, .slice R1 0 d1] 24)
        have s2 := (s1.keep hb2).alloc (.cells #[.int .i64 0, .int .i64 0, .slice R1 0 d1] 24)
        have b2 := (b1.trans (hb2.mono (Nat.le_of_lt e1.lt))).alloc (Nat.le_of_lt (e1.kept hb2).lt) (.cells #[.int .i64 0, .int .i64 0, .slice R1 0 d1] 24)
        have pp2 := hs1.si.alloc (.cells #[.int .i64 0, .int .i64 0, .slice R1 0 d1] 24)
        clear hs1
        obtain ⟨V1, hV1⟩ : ∃ V, w2.heap.size = V := ⟨_, rfl⟩
        have p2 := Bx.new w2 24 [.int .i64 0, .int .i64 0, .slice R1 0 d1]
        rw [hV1] at p2
        go_wp2_with (refine ra_load rfl (.tmp 5) rfl rfl e2 rfl ?_)
        refine (ratsamp_any total last A n c l a3 a4 (fun _ => True) _ s2.sq (fun _ _ => trivial)).mono ?_
        rintro e w3 ⟨R2, m2, d2, he, hs2, hb3⟩
        rw [HY.out] at he hs2
        dsimp only [zrv] at he hs2
        subst he
        have hm2 : 0 = m2 := hs2.len
        subst hm2
        have e3 := (e2.kept hb3).alloc (.cells #[.int .i64 0, .int .i64 0, .slice R2 0 d2] 24)
        have s3 := (s2.keep hb3).alloc (.cells #[.int .i64 0, .int .i64 0, .slice R2 0 d2] 24)
        have p3 := (p2.kept hb3).alloc (.cells #[.int .i64 0, .int .i64 0, .slice R2 0 d2] 24)
        have pp3 := (pp2.keep hb3).alloc (.cells #[.int .i64 0, .int .i64 0, .slice R2 0 d2] 24)
        have b3 := (b2.trans (hb3.mono (Nat.le_of_lt e2.lt))).alloc (Nat.le_of_lt (e2.kept hb3).lt) (.cells #[.int .i64 0, .int .i64 0, .slice R2 0 d2] 24)
        have rr3 := hs2.si.alloc (.cells #[.int .i64 0, .int .i64 0, .slice R2 0 d2] 24)
        clear hs2
        obtain ⟨V2, hV2⟩ : ∃ V, w3.heap.size = V := ⟨_, rfl⟩
        have r3 := Bx.new w3 24 [.int .i64 0, .int .i64 0, .slice R2 0 d2]
        rw [hV2] at r3
        go_wp2_with (refine ra_load rfl (.tmp 5) rfl rfl e3 rfl ?_)
        refine (ratmay_any total last A n c l _ s3).mono ?_
        rintro e w4 ⟨rfl, hb4⟩
        rw [HK.out]
        have e4 := e3.kept hb4
        have s4 := s3.keep hb4
        have p4 := p3.kept hb4
        have pp4 := pp3.keep hb4
        have r4 := r3.kept hb4
        have rr4 := rr3.keep hb4
        have b4 := b3.trans (hb4.mono (Nat.le_of_lt e3.lt))
        have ex0 := e4.cell 0 rfl; have ex1 := e4.cell 1 rfl; have ex2 := e4.cell 2 rfl
        have px0 := p4.cell 0 rfl; have px1 := p4.cell 1 rfl; have px2 := p4.cell 2 rfl
        have rx0 := r4.cell 0 rfl; have rx1 := r4.cell 1 rfl; have rx2 := r4.cell 2 rfl
        go_wp2_with fail
        go_ret
        exact ⟨rfl, b4⟩
      case pos =>
      have c0d : decide (0 ≤ a3) = true := decide_eq_true c0
      by_cases c1 : a3 ≤ total
      case neg =>
        have c1d : decide (a3 ≤ total) = false := decide_eq_false c1
        have HY : Hid (sampR ⟨total, last, l⟩ a3 a4 = (zrv, 0, 1)) := Lib.hid (samp_no (fun h => c1 h.2.2.1))
        go_wp2_with (refine ra_load rfl (.tmp 5) rfl rfl e1 rfl ?_)
        clear x2
        refine (ratcame_any total last A n c l a1 a2 (fun _ => True) _ s1.sq (fun _ _ => trivial)).mono ?_
        rintro e w2 ⟨R1, m1, d1, he, hs1, hb2⟩
        rw [HX.out] at he hs1
        dsimp only [zrv] at he hs1
        subst he
        have hm1 : 0 = m1 := hs1.len
        subst hm1
        have e2 := (e1.kept hb2).alloc (.cells #[.int .i64 0, .int .i64 0, .slice R1 0 d1] 24)
        have s2 := (s1.keep hb2).alloc (.cells #[.int .i64 0, .int .i64 0, .slice R1 0 d1] 24)
        have b2 := (b1.trans (hb2.mono (Nat.le_of_lt e1.lt))).alloc (Nat.le_of_lt (e1.kept hb2).lt) (.cells #[.int .i64 0, .int .i64 0, .slice R1 0 d1] 24)
        have pp2 := hs1.si.alloc (.cells #[.int .i64 0, .int .i64 0, .slice R1 0 d1] 24)
        clear hs1
        obtain ⟨V1, hV1⟩ : ∃ V, w2.heap.size = V := ⟨_, rfl⟩
        have p2 := Bx.new w2 24 [.int .i64 0, .int .i64 0, .slice R1 0 d1]
        rw [hV1] at p2
        go_wp2_with (refine ra_load rfl (.tmp 5) rfl rfl e2 rfl ?_)
        refine (ratsamp_any total last A n c l a3 a4 (fun _ => True) _ s2.sq (fun _ _ => trivial)).mono ?_
        rintro e w3 ⟨R2, m2, d2, he, hs2, hb3⟩
        rw [HY.out] at he hs2
        dsimp only [zrv] at he hs2
        subst he
        have hm2 : 0 = m2 := hs2.len
        subst hm2
        have e3 := (e2.kept hb3).alloc (.cells #[.int .i64 0, .int .i64 0, .slice R2 0 d2] 24)
        have s3 := (s2.keep hb3).alloc (.cells #[.int .i64 0, .int .i64 0, .slice R2 0 d2] 24)
        have p3 := (p2.kept hb3).alloc (.cells #[.int .i64 0, .int .i64 0, .slice R2 0 d2] 24)
        have pp3 := (pp2.keep hb3).alloc (.cells #[.int .i64 0, .int .i64 0, .slice R2 0 d2] 24)
        have b3 := (b2.trans (hb3.mono (Nat.le_of_lt e2.lt))).alloc (Nat.le_of_lt (e2.kept hb3).lt) (.cells #[.int .i64 0, .int .i64 0, .slice R2 0 d2] 24)
        have rr3 := hs2.si.alloc (.cells #[.int .i64 0, .int .i64 0, .slice R2 0 d2] 24)
        clear hs2
        obtain ⟨V2, hV2⟩ : ∃ V, w3.heap.size = V := ⟨_, rfl⟩
        have r3 := Bx.new w3 24 [.int .i64 0, .int .i64 0, .slice R2 0 d2]
        rw [hV2] at r3
        go_wp2_with (refine ra_load rfl (.tmp 5) rfl rfl e3 rfl ?_)
        refine (ratmay_any total last A n c l _ s3).mono ?_
        rintro e w4 ⟨rfl, hb4⟩
        rw [HK.out]
        have e4 := e3.kept hb4
        have s4 := s3.keep hb4
        have p4 := p3.kept hb4
        have pp4 := pp3.keep hb4
        have r4 := r3.kept hb4
        have rr4 := rr3.keep hb4
        have b4 := b3.trans (hb4.mono (Nat.le_of_lt e3.lt))
        have ex0 := e4.cell 0 rfl; have ex1 := e4.cell 1 rfl; have ex2 := e4.cell 2 rfl
        have px0 := p4.cell 0 rfl; have px1 := p4.cell 1 rfl; have px2 := p4.cell 2 rfl
        have rx0 := r4.cell 0 rfl; have rx1 := r4.cell 1 rfl; have rx2 := r4.cell 2 rfl
        go_wp2_with fail
        go_ret
        exact ⟨rfl, b4⟩
      case pos =>
      have c1d : decide (a3 ≤ total) = true := decide_eq_true c1
      by_cases c2 : 0 ≤ a4
      case neg =>
        have c2d : decide (0 ≤ a4) = false := decide_eq_false c2
        have HY : Hid (sampR ⟨total, last, l⟩ a3 a4 = (zrv, 0, 1)) := Lib.hid (samp_no (fun h => c2 h.2.2.2.1))
        go_wp2_with (refine ra_load rfl (.tmp 5) rfl rfl e1 rfl ?_)
        clear x2
        refine (ratcame_any total last A n c l a1 a2 (fun _ => True) _ s1.sq (fun _ _ => trivial)).mono ?_
        rintro e w2 ⟨R1, m1, d1, he, hs1, hb2⟩
        rw [HX.out] at he hs1
        dsimp only [zrv] at he hs1
        subst he
        have hm1 : 0 = m1 := hs1.len
        subst hm1
        have e2 := (e1.kept hb2).alloc (.cells #[.int .i64 0, .int .i64 0, .slice R1 0 d1] 24)
        have s2 := (s1.keep hb2).alloc (.cells #[.int .i64 0, .int .i64 0, .slice R1 0 d1] 24)
        have b2 := (b1.trans (hb2.mono (Nat.le_of_lt e1.lt))).alloc (Nat.le_of_lt (e1.kept hb2).lt) (.cells #[.int .i64 0, .int .i64 0, .slice R1 0 d1] 24)
        have pp2 := hs1.si.alloc (.cells #[.int .i64 0, .int .i64 0, .slice R1 0 d1] 24)
        clear hs1
        obtain ⟨V1, hV1⟩ : ∃ V, w2.heap.size = V := ⟨_, rfl⟩
        have p2 := Bx.new w2 24 [.int .i64 0, .int .i64 0, .slice R1 0 d1]
        rw [hV1] at p2
        go_wp2_with (refine ra_load rfl (.tmp 5) rfl rfl e2 rfl ?_)
        refine (ratsamp_any total last A n c l a3 a4 (fun _ => True) _ s2.sq (fun _ _ => trivial)).mono ?_
        rintro e w3 ⟨R2, m2, d2, he, hs2, hb3⟩
        rw [HY.out] at he hs2
        dsimp only [zrv] at he hs2
        subst he
        have hm2 : 0 = m2 := hs2.len
        subst hm2
        have e3 := (e2.kept hb3).alloc (.cells #[.int .i64 0, .int .i64 0, .slice R2 0 d2] 24)
        have s3 := (s2.keep hb3).alloc (.cells #[.int .i64 0, .int .i64 0, .slice R2 0 d2] 24)
        have p3 := (p2.kept hb3).alloc (.cells #[.int .i64 0, .int .i64 0, .slice R2 0 d2] 24)
        have pp3 := (pp2.keep hb3).alloc (.cells #[.int .i64 0, .int .i64 0, .slice R2 0 d2] 24)
        have b3 := (b2.trans (hb3.mono (Nat.le_of_lt e2.lt))).alloc (Nat.le_of_lt (e2.kept hb3).lt) (.cells #[.int .i64 0, .int .i64 0, .slice R2 0 d2] 24)
        have rr3 := hs2.si.alloc (.cells #[.int .i64 0, .int .i64 0, .slice R2 0 d2] 24)
        clear hs2
        obtain ⟨V2, hV2⟩ : ∃ V, w3.heap.size = V := ⟨_, rfl⟩
        have r3 := Bx.new w3 24 [.int .i64 0, .int .i64 0, .slice R2 0 d2]
        rw [hV2] at r3
        go_wp2_with (refine ra_load rfl (.tmp 5) rfl rfl e3 rfl ?_)
        refine (ratmay_any total last A n c l _ s3).mono ?_
        rintro e w4 ⟨rfl, hb4⟩
        rw [HK.out]
        have e4 := e3.kept hb4
        have s4 := s3.keep hb4
        have p4 := p3.kept hb4
        have pp4 := pp3.keep hb4
        have r4 := r3.kept hb4
        have rr4 := rr3.keep hb4
        have b4 := b3.trans (hb4.mono (Nat.le_of_lt e3.lt))
        have ex0 := e4.cell 0 rfl; have ex1 := e4.cell 1 rfl; have ex2 := e4.cell 2 rfl
        have px0 := p4.cell 0 rfl; have px1 := p4.cell 1 rfl; have px2 := p4.cell 2 rfl
        have rx0 := r4.cell 0 rfl; have rx1 := r4.cell 1 rfl; have rx2 := r4.cell 2 rfl
        go_wp2_with fail
        go_ret
        exact ⟨rfl, b4⟩
      case pos =>
      have c2d : decide (0 ≤ a4) = true := decide_eq_true c2
      by_cases c3 : a4 ≤ last
      case neg =>
        have c3d : decide (a4 ≤ last) = false := decide_eq_false c3
        have HY : Hid (sampR ⟨total, last, l⟩ a3 a4 = (zrv, 0, 1)) := Lib.hid (samp_no (fun h => c3 h.2.2.2.2))
        go_wp2_with (refine ra_load rfl (.tmp 5) rfl rfl e1 rfl ?_)
        clear x2
        refine (ratcame_any total last A n c l a1 a2 (fun _ => True) _ s1.sq (fun _ _ => trivial)).mono ?_
        rintro e w2 ⟨R1, m1, d1, he, hs1, hb2⟩
        rw [HX.out] at he hs1
        dsimp only [zrv] at he hs1
        subst he
        have hm1 : 0 = m1 := hs1.len
        subst hm1
        have e2 := (e1.kept hb2).alloc (.cells #[.int .i64 0, .int .i64 0, .slice R1 0 d1] 24)
        have s2 := (s1.keep hb2).alloc (.cells #[.int .i64 0, .int .i64 0, .slice R1 0 d1] 24)
        have b2 := (b1.trans (hb2.mono (Nat.le_of_lt e1.lt))).alloc (Nat.le_of_lt (e1.kept hb2).lt) (.cells #[.int .i64 0, .int .i64 0, .slice R1 0 d1] 24)
        have pp2 := hs1.si.alloc (.cells #[.int .i64 0, .int .i64 0, .slice R1 0 d1] 24)
        clear hs1
        obtain ⟨V1, hV1⟩ : ∃ V, w2.heap.size = V := ⟨_, rfl⟩
        have p2 := Bx.new w2 24 [.int .i64 0, .int .i64 0, .slice R1 0 d1]
        rw [hV1] at p2
        go_wp2_with (refine ra_load rfl (.tmp 5) rfl rfl e2 rfl ?_)
        refine (ratsamp_any total last A n c l a3 a4 (fun _ => True) _ s2.sq (fun _ _ => trivial)).mono ?_
        rintro e w3 ⟨R2, m2, d2, he, hs2, hb3⟩
        rw [HY.out] at he hs2
        dsimp only [zrv] at he hs2
        subst he
        have hm2 : 0 = m2 := hs2.len
        subst hm2
        have e3 := (e2.kept hb3).alloc (.cells #[.int .i64 0, .int .i64 0, .slice R2 0 d2] 24)
        have s3 := (s2.keep hb3).alloc (.cells #[.int .i64 0, .int .i64 0, .slice R2 0 d2] 24)
        have p3 := (p2.kept hb3).alloc (.cells #[.int .i64 0, .int .i64 0, .slice R2 0 d2] 24)
        have pp3 := (pp2.keep hb3).alloc (.cells #[.int .i64 0, .int .i64 0, .slice R2 0 d2] 24)
        have b3 := (b2.trans (hb3.mono (Nat.le_of_lt e2.lt))).alloc (Nat.le_of_lt (e2.kept hb3).lt) (.cells #[.int .i64 0, .int .i64 0, .slice R2 0 d2] 24)
        have rr3 := hs2.si.alloc (.cells #[.int .i64 0, .int .i64 0, .slice R2 0 d2] 24)
        clear hs2
        obtain ⟨V2, hV2⟩ : ∃ V, w3.heap.size = V := ⟨_, rfl⟩
        have r3 := Bx.new w3 24 [.int .i64 0, .int .i64 0, .slice R2 0 d2]
        rw [hV2] at r3
        go_wp2_with (refine ra_load rfl (.tmp 5) rfl rfl e3 rfl ?_)
        refine (ratmay_any total last A n c l _ s3).mono ?_
        rintro e w4 ⟨rfl, hb4⟩
        rw [HK.out]
        have e4 := e3.kept hb4
        have s4 := s3.keep hb4
        have p4 := p3.kept hb4
        have pp4 := pp3.keep hb4
        have r4 := r3.kept hb4
        have rr4 := rr3.keep hb4
        have b4 := b3.trans (hb4.mono (Nat.le_of_lt e3.lt))
        have ex0 := e4.cell 0 rfl; have ex1 := e4.cell 1 rfl; have ex2 := e4.cell 2 rfl
        have px0 := p4.cell 0 rfl; have px1 := p4.cell 1 rfl; have px2 := p4.cell 2 rfl
        have rx0 := r4.cell 0 rfl; have rx1 := r4.cell 1 rfl; have rx2 := r4.cell 2 rfl
        go_wp2_with fail
        go_ret
        exact ⟨rfl, b4⟩
      case pos =>
      have c3d : decide (a4 ≤ last) = true := decide_eq_true c3
      have hok : SampOk ⟨total, last, l⟩ a3 a4 := ⟨HK.out, c0, c1, c2, c3⟩
      have HOK := Lib.hid hok; clear hok
      by_cases c5 : a4 = last
      case pos =>
        subst c5
        have HY : Hid (sampR ⟨total, a4, l⟩ a3 a4 = (⟨total, a4, l⟩, 0, 0)) := Lib.hid (samp_same HOK.out (by show a4 - a4 ≤ 0; omega))
        go_wp2_with (refine ra_load rfl (.tmp 5) rfl rfl e1 rfl ?_)
        clear x2
        refine (ratcame_any total a4 A n c l a1 a2 (fun _ => True) _ s1.sq (fun _ _ => trivial)).mono ?_
        rintro e w2 ⟨R1, m1, d1, he, hs1, hb2⟩
        rw [HX.out] at he hs1
        dsimp only [zrv] at he hs1
        subst he
        have hm1 : 0 = m1 := hs1.len
        subst hm1
        have e2 := (e1.kept hb2).alloc (.cells #[.int .i64 0, .int .i64 0, .slice R1 0 d1] 24)
        have s2 := (s1.keep hb2).alloc (.cells #[.int .i64 0, .int .i64 0, .slice R1 0 d1] 24)
        have b2 := (b1.trans (hb2.mono (Nat.le_of_lt e1.lt))).alloc (Nat.le_of_lt (e1.kept hb2).lt) (.cells #[.int .i64 0, .int .i64 0, .slice R1 0 d1] 24)
        have pp2 := hs1.si.alloc (.cells #[.int .i64 0, .int .i64 0, .slice R1 0 d1] 24)
        clear hs1
        obtain ⟨V1, hV1⟩ : ∃ V, w2.heap.size = V := ⟨_, rfl⟩
        have p2 := Bx.new w2 24 [.int .i64 0, .int .i64 0, .slice R1 0 d1]
        rw [hV1] at p2
        go_wp2_with (refine ra_load rfl (.tmp 5) rfl rfl e2 rfl ?_)
        refine (ratsamp_any total a4 A n c l a3 a4 (fun _ => True) _ s2.sq (fun _ _ => trivial)).mono ?_
        rintro e w3 ⟨R2, m2, d2, he, hs2, hb3⟩
        rw [HY.out] at he hs2
        dsimp only [zrv] at he hs2
        subst he
        have hm2 : n = m2 := HL.out.symm.trans hs2.len
        subst hm2
        have e3 := (e2.kept hb3).alloc (.cells #[.int .i64 total, .int .i64 a4, .slice R2 n d2] 24)
        have s3 := (s2.keep hb3).alloc (.cells #[.int .i64 total, .int .i64 a4, .slice R2 n d2] 24)
        have p3 := (p2.kept hb3).alloc (.cells #[.int .i64 total, .int .i64 a4, .slice R2 n d2] 24)
        have pp3 := (pp2.keep hb3).alloc (.cells #[.int .i64 total, .int .i64 a4, .slice R2 n d2] 24)
        have b3 := (b2.trans (hb3.mono (Nat.le_of_lt e2.lt))).alloc (Nat.le_of_lt (e2.kept hb3).lt) (.cells #[.int .i64 total, .int .i64 a4, .slice R2 n d2] 24)
        have rr3 := hs2.si.alloc (.cells #[.int .i64 total, .int .i64 a4, .slice R2 n d2] 24)
        clear hs2
        obtain ⟨V2, hV2⟩ : ∃ V, w3.heap.size = V := ⟨_, rfl⟩
        have r3 := Bx.new w3 24 [.int .i64 total, .int .i64 a4, .slice R2 n d2]
        rw [hV2] at r3
        go_wp2_with (refine ra_load rfl (.tmp 5) rfl rfl e3 rfl ?_)
        refine (ratmay_any total a4 A n c l _ s3).mono ?_
        rintro e w4 ⟨rfl, hb4⟩
        rw [HK.out]
        have e4 := e3.kept hb4
        have s4 := s3.keep hb4
        have p4 := p3.kept hb4
        have pp4 := pp3.keep hb4
        have r4 := r3.kept hb4
        have rr4 := rr3.keep hb4
        have b4 := b3.trans (hb4.mono (Nat.le_of_lt e3.lt))
        have ex0 := e4.cell 0 rfl; have ex1 := e4.cell 1 rfl; have ex2 := e4.cell 2 rfl
        have px0 := p4.cell 0 rfl; have px1 := p4.cell 1 rfl; have px2 := p4.cell 2 rfl
        have rx0 := r4.cell 0 rfl; have rx1 := r4.cell 1 rfl; have rx2 := r4.cell 2 rfl
        go_wp2_with fail
        go_ret
        exact ⟨rfl, b4⟩
      case neg =>
      have c5d : (a4 == last) = false := by simpa using c5
      obtain ⟨nr, hnr⟩ : ∃ nr, numR (total - a3) (last - a4) = nr := ⟨_, rfl⟩
      have hnb := num_bd (a := total - a3) (d := last - a4) (by omega) (by omega)
      rw [hnr] at hnb
      obtain ⟨nr0, nr1⟩ := hnb
      have HY : Hid (sampR ⟨total, last, l⟩ a3 a4 = (⟨total, last, pushR l nr⟩, nr, 0)) := Lib.hid (by rw [samp_ok HOK.out (by show ¬ last - a4 ≤ 0; omega)]; show ((⟨total, last, pushR l (numR (total - a3) (last - a4))⟩ : Rv), numR (total - a3) (last - a4), (0 : Int)) = _; rw [hnr])
      clear hnr
      go_wp2_with (refine ra_load rfl (.tmp 5) rfl rfl e1 rfl ?_)
      clear x2
      refine (ratcame_any total last A n c l a1 a2 (fun _ => True) _ s1.sq (fun _ _ => trivial)).mono ?_
      rintro e w2 ⟨R1, m1, d1, he, hs1, hb2⟩
      rw [HX.out] at he hs1
      dsimp only [zrv] at he hs1
      subst he
      have hm1 : 0 = m1 := hs1.len
      subst hm1
      have e2 := (e1.kept hb2).alloc (.cells #[.int .i64 0, .int .i64 0, .slice R1 0 d1] 24)
      have s2 := (s1.keep hb2).alloc (.cells #[.int .i64 0, .int .i64 0, .slice R1 0 d1] 24)
      have b2 := (b1.trans (hb2.mono (Nat.le_of_lt e1.lt))).alloc (Nat.le_of_lt (e1.kept hb2).lt) (.cells #[.int .i64 0, .int .i64 0, .slice R1 0 d1] 24)
      have pp2 := hs1.si.alloc (.cells #[.int .i64 0, .int .i64 0, .slice R1 0 d1] 24)
      clear hs1
      obtain ⟨V1, hV1⟩ : ∃ V, w2.heap.size = V := ⟨_, rfl⟩
      have p2 := Bx.new w2 24 [.int .i64 0, .int .i64 0, .slice R1 0 d1]
      rw [hV1] at p2
      go_wp2_with (refine ra_load rfl (.tmp 5) rfl rfl e2 rfl ?_)
      refine (ratsamp_any total last A n c l a3 a4 (fun _ => True) _ s2.sq (fun _ _ => trivial)).mono ?_
      rintro e w3 ⟨R2, m2, d2, he, hs2, hb3⟩
      rw [HY.out] at he hs2
      dsimp only [zrv] at he hs2
      subst he
      have e3 := (e2.kept hb3).alloc (.cells #[.int .i64 total, .int .i64 last, .slice R2 m2 d2] 24)
      have s3 := (s2.keep hb3).alloc (.cells #[.int .i64 total, .int .i64 last, .slice R2 m2 d2] 24)
      have p3 := (p2.kept hb3).alloc (.cells #[.int .i64 total, .int .i64 last, .slice R2 m2 d2] 24)
      have pp3 := (pp2.keep hb3).alloc (.cells #[.int .i64 total, .int .i64 last, .slice R2 m2 d2] 24)
      have b3 := (b2.trans (hb3.mono (Nat.le_of_lt e2.lt))).alloc (Nat.le_of_lt (e2.kept hb3).lt) (.cells #[.int .i64 total, .int .i64 last, .slice R2 m2 d2] 24)
      have rr3 := hs2.si.alloc (.cells #[.int .i64 total, .int .i64 last, .slice R2 m2 d2] 24)
      clear hs2
      obtain ⟨V2, hV2⟩ : ∃ V, w3.heap.size = V := ⟨_, rfl⟩
      have r3 := Bx.new w3 24 [.int .i64 total, .int .i64 last, .slice R2 m2 d2]
      rw [hV2] at r3
      go_wp2_with (refine ra_load rfl (.tmp 5) rfl rfl e3 rfl ?_)
      refine (ratmay_any total last A n c l _ s3).mono ?_
      rintro e w4 ⟨rfl, hb4⟩
      rw [HK.out]
      have e4 := e3.kept hb4
      have s4 := s3.keep hb4
      have p4 := p3.kept hb4
      have pp4 := pp3.keep hb4
      have r4 := r3.kept hb4
      have rr4 := rr3.keep hb4
      have b4 := b3.trans (hb4.mono (Nat.le_of_lt e3.lt))
      have ex0 := e4.cell 0 rfl; have ex1 := e4.cell 1 rfl; have ex2 := e4.cell 2 rfl
      have px0 := p4.cell 0 rfl; have px1 := p4.cell 1 rfl; have px2 := p4.cell 2 rfl
      have rx0 := r4.cell 0 rfl; have rx1 := r4.cell 1 rfl; have rx2 := r4.cell 2 rfl
      go_wp2_with fail
      go_ret
      exact ⟨rfl, b4⟩
    · have HX := Lib.hid hx; clear hx
      have HC1 := Lib.hid hok1; have HC2 := Lib.hid hok2; clear hok1 hok2
      by_cases c0 : 0 ≤ a3
      case neg =>
        have c0d : decide (0 ≤ a3) = false := decide_eq_false c0
        have HY : Hid (sampR ⟨total, last, l⟩ a3 a4 = (zrv, 0, 1)) := Lib.hid (samp_no (fun h => c0 h.2.1))
        go_wp2_with (refine ra_load rfl (.tmp 5) rfl rfl e1 rfl ?_)
        clear x2
        refine (ratcame_any total last A n c l a1 a2 (fun _ => True) _ s1.sq (fun _ _ => trivial)).mono ?_
        rintro e w2 ⟨R1, m1, d1, he, hs1, hb2⟩
        rw [HX.out] at he hs1
        dsimp only [zrv] at he hs1
        subst he
        have hm1 : n = m1 := HL.out.symm.trans hs1.len
        subst hm1
        have e2 := (e1.kept hb2).alloc (.cells #[.int .i64 (total + a2), .int .i64 a1, .slice R1 n d1] 24)
        have s2 := (s1.keep hb2).alloc (.cells #[.int .i64 (total + a2), .int .i64 a1, .slice R1 n d1] 24)
        have b2 := (b1.trans (hb2.mono (Nat.le_of_lt e1.lt))).alloc (Nat.le_of_lt (e1.kept hb2).lt) (.cells #[.int .i64 (total + a2), .int .i64 a1, .slice R1 n d1] 24)
        have pp2 := hs1.si.alloc (.cells #[.int .i64 (total + a2), .int .i64 a1, .slice R1 n d1] 24)
        clear hs1
        obtain ⟨V1, hV1⟩ : ∃ V, w2.heap.size = V := ⟨_, rfl⟩
        have p2 := Bx.new w2 24 [.int .i64 (total + a2), .int .i64 a1, .slice R1 n d1]
        rw [hV1] at p2
        go_wp2_with (refine ra_load rfl (.tmp 5) rfl rfl e2 rfl ?_)
        refine (ratsamp_any total last A n c l a3 a4 (fun _ => True) _ s2.sq (fun _ _ => trivial)).mono ?_
        rintro e w3 ⟨R2, m2, d2, he, hs2, hb3⟩
        rw [HY.out] at he hs2
        dsimp only [zrv] at he hs2
        subst he
        have hm2 : 0 = m2 := hs2.len
        subst hm2
        have e3 := (e2.kept hb3).alloc (.cells #[.int .i64 0, .int .i64 0, .slice R2 0 d2] 24)
        have s3 := (s2.keep hb3).alloc (.cells #[.int .i64 0, .int .i64 0, .slice R2 0 d2] 24)
        have p3 := (p2.kept hb3).alloc (.cells #[.int .i64 0, .int .i64 0, .slice R2 0 d2] 24)
        have pp3 := (pp2.keep hb3).alloc (.cells #[.int .i64 0, .int .i64 0, .slice R2 0 d2] 24)
        have b3 := (b2.trans (hb3.mono (Nat.le_of_lt e2.lt))).alloc (Nat.le_of_lt (e2.kept hb3).lt) (.cells #[.int .i64 0, .int .i64 0, .slice R2 0 d2] 24)
        have rr3 := hs2.si.alloc (.cells #[.int .i64 0, .int .i64 0, .slice R2 0 d2] 24)
        clear hs2
        obtain ⟨V2, hV2⟩ : ∃ V, w3.heap.size = V := ⟨_, rfl⟩
        have r3 := Bx.new w3 24 [.int .i64 0, .int .i64 0, .slice R2 0 d2]
        rw [hV2] at r3
        go_wp2_with (refine ra_load rfl (.tmp 5) rfl rfl e3 rfl ?_)
        refine (ratmay_any total last A n c l _ s3).mono ?_
        rintro e w4 ⟨rfl, hb4⟩
        rw [HK.out]
        have e4 := e3.kept hb4
        have s4 := s3.keep hb4
        have p4 := p3.kept hb4
        have pp4 := pp3.keep hb4
        have r4 := r3.kept hb4
        have rr4 := rr3.keep hb4
        have b4 := b3.trans (hb4.mono (Nat.le_of_lt e3.lt))
        have ex0 := e4.cell 0 rfl; have ex1 := e4.cell 1 rfl; have ex2 := e4.cell 2 rfl
        have px0 := p4.cell 0 rfl; have px1 := p4.cell 1 rfl; have px2 := p4.cell 2 rfl
        have rx0 := r4.cell 0 rfl; have rx1 := r4.cell 1 rfl; have rx2 := r4.cell 2 rfl
        go_wp2_with fail
        refine (ratmay_any total last A n c l _ s4).mono ?_
        rintro e w5 ⟨rfl, hb5⟩
        rw [HK.out]
        have e5 := e4.kept hb5
        have s5 := s4.keep hb5
        have p5 := p4.kept hb5
        have pp5 := pp4.keep hb5
        have r5 := r4.kept hb5
        have rr5 := rr4.keep hb5
        have b5 := b4.trans (hb5.mono (Nat.le_of_lt e4.lt))
        have ex0 := e5.cell 0 rfl; have ex1 := e5.cell 1 rfl; have ex2 := e5.cell 2 rfl
        have px0 := p5.cell 0 rfl; have px1 := p5.cell 1 rfl; have px2 := p5.cell 2 rfl
        have rx0 := r5.cell 0 rfl; have rx1 := r5.cell 1 rfl; have rx2 := r5.cell 2 rfl
        go_wp2_with fail
        go_ret
        exact ⟨rfl, b5⟩
      case pos =>
      have c0d : decide (0 ≤ a3) = true := decide_eq_true c0
      by_cases c1 : a3 ≤ total
      case neg =>
        have c1d : decide (a3 ≤ total) = false := decide_eq_false c1
        have HY : Hid (sampR ⟨total, last, l⟩ a3 a4 = (zrv, 0, 1)) := Lib.hid (samp_no (fun h => c1 h.2.2.1))
        go_wp2_with (refine ra_load rfl (.tmp 5) rfl rfl e1 rfl ?_)
        clear x2
        refine (ratcame_any total last A n c l a1 a2 (fun _ => True) _ s1.sq (fun _ _ => trivial)).mono ?_
        rintro e w2 ⟨R1, m1, d1, he, hs1, hb2⟩
        rw [HX.out] at he hs1
        dsimp only [zrv] at he hs1
        subst he
        have hm1 : n = m1 := HL.out.symm.trans hs1.len
        subst hm1
        have e2 := (e1.kept hb2).alloc (.cells #[.int .i64 (total + a2), .int .i64 a1, .slice R1 n d1] 24)
        have s2 := (s1.keep hb2).alloc (.cells #[.int .i64 (total + a2), .int .i64 a1, .slice R1 n d1] 24)
        have b2 := (b1.trans (hb2.mono (Nat.le_of_lt e1.lt))).alloc (Nat.le_of_lt (e1.kept hb2).lt) (.cells #[.int .i64 (total + a2), .int .i64 a1, .slice R1 n d1] 24)
        have pp2 := hs1.si.alloc (.cells #[.int .i64 (total + a2), .int .i64 a1, .slice R1 n d1] 24)
        clear hs1
        obtain ⟨V1, hV1⟩ : ∃ V, w2.heap.size = V := ⟨_, rfl⟩
        have p2 := Bx.new w2 24 [.int .i64 (total + a2), .int .i64 a1, .slice R1 n d1]
        rw [hV1] at p2
        go_wp2_with (refine ra_load rfl (.tmp 5) rfl rfl e2 rfl ?_)
        refine (ratsamp_any total last A n c l a3 a4 (fun _ => True) _ s2.sq (fun _ _ => trivial)).mono ?_
        rintro e w3 ⟨R2, m2, d2, he, hs2, hb3⟩
        rw [HY.out] at he hs2
        dsimp only [zrv] at he hs2
        subst he
        have hm2 : 0 = m2 := hs2.len
        subst hm2
        have e3 := (e2.kept hb3).alloc (.cells #[.int .i64 0, .int .i64 0, .slice R2 0 d2] 24)
        have s3 := (s2.keep hb3).alloc (.cells #[.int .i64 0, .int .i64 0, .slice R2 0 d2] 24)
        have p3 := (p2.kept hb3).alloc (.cells #[.int .i64 0, .int .i64 0, .slice R2 0 d2] 24)
        have pp3 := (pp2.keep hb3).alloc (.cells #[.int .i64 0, .int .i64 0, .slice R2 0 d2] 24)
        have b3 := (b2.trans (hb3.mono (Nat.le_of_lt e2.lt))).alloc (Nat.le_of_lt (e2.kept hb3).lt) (.cells #[.int .i64 0, .int .i64 0, .slice R2 0 d2] 24)
        have rr3 := hs2.si.alloc (.cells #[.int .i64 0, .int .i64 0, .slice R2 0 d2] 24)
        clear hs2
        obtain ⟨V2, hV2⟩ : ∃ V, w3.heap.size = V := ⟨_, rfl⟩
        have r3 := Bx.new w3 24 [.int .i64 0, .int .i64 0, .slice R2 0 d2]
        rw [hV2] at r3
        go_wp2_with (refine ra_load rfl (.tmp 5) rfl rfl e3 rfl ?_)
        refine (ratmay_any total last A n c l _ s3).mono ?_
        rintro e w4 ⟨rfl, hb4⟩
        rw [HK.out]
        have e4 := e3.kept hb4
        have s4 := s3.keep hb4
        have p4 := p3.kept hb4
        have pp4 := pp3.keep hb4
        have r4 := r3.kept hb4
        have rr4 := rr3.keep hb4
        have b4 := b3.trans (hb4.mono (Nat.le_of_lt e3.lt))
        have ex0 := e4.cell 0 rfl; have ex1 := e4.cell 1 rfl; have ex2 := e4.cell 2 rfl
        have px0 := p4.cell 0 rfl; have px1 := p4.cell 1 rfl; have px2 := p4.cell 2 rfl
        have rx0 := r4.cell 0 rfl; have rx1 := r4.cell 1 rfl; have rx2 := r4.cell 2 rfl
        go_wp2_with fail
        refine (ratmay_any total last A n c l _ s4).mono ?_
        rintro e w5 ⟨rfl, hb5⟩
        rw [HK.out]
        have e5 := e4.kept hb5
        have s5 := s4.keep hb5
        have p5 := p4.kept hb5
        have pp5 := pp4.keep hb5
        have r5 := r4.kept hb5
        have rr5 := rr4.keep hb5
        have b5 := b4.trans (hb5.mono (Nat.le_of_lt e4.lt))
        have ex0 := e5.cell 0 rfl; have ex1 := e5.cell 1 rfl; have ex2 := e5.cell 2 rfl
        have px0 := p5.cell 0 rfl; have px1 := p5.cell 1 rfl; have px2 := p5.cell 2 rfl
        have rx0 := r5.cell 0 rfl; have rx1 := r5.cell 1 rfl; have rx2 := r5.cell 2 rfl
        go_wp2_with fail
        go_ret
        exact ⟨rfl, b5⟩
      case pos =>
      have c1d : decide (a3 ≤ total) = true := decide_eq_true c1
      by_cases c2 : 0 ≤ a4
      case neg =>
        have c2d : decide (0 ≤ a4) = false := decide_eq_false c2
        have HY : Hid (sampR ⟨total, last, l⟩ a3 a4 = (zrv, 0, 1)) := Lib.hid (samp_no (fun h => c2 h.2.2.2.1))
        go_wp2_with (refine ra_load rfl (.tmp 5) rfl rfl e1 rfl ?_)
        clear x2
        refine (ratcame_any total last A n c l a1 a2 (fun _ => True) _ s1.sq (fun _ _ => trivial)).mono ?_
        rintro e w2 ⟨R1, m1, d1, he, hs1, hb2⟩
        rw [HX.out] at he hs1
        dsimp only [zrv] at he hs1
        subst he
        have hm1 : n = m1 := HL.out.symm.trans hs1.len
        subst hm1
        have e2 := (e1.kept hb2).alloc (.cells #[.int .i64 (total + a2), .int .i64 a1, .slice R1 n d1] 24)
        have s2 := (s1.keep hb2).alloc (.cells #[.int .i64 (total + a2), .int .i64 a1, .slice R1 n d1] 24)
        have b2 := (b1.trans (hb2.mono (Nat.le_of_lt e1.lt))).alloc (Nat.le_of_lt (e1.kept hb2).lt) (.cells #[.int .i64 (total + a2), .int .i64 a1, .slice R1 n d1] 24)
        have pp2 := hs1.si.alloc (.cells #[.int .i64 (total + a2), .int .i64 a1, .slice R1 n d1] 24)
        clear hs1
        obtain ⟨V1, hV1⟩ : ∃ V, w2.heap.size = V := ⟨_, rfl⟩
        have p2 := Bx.new w2 24 [.int .i64 (total + a2), .int .i64 a1, .slice R1 n d1]
        rw [hV1] at p2
        go_wp2_with (refine ra_load rfl (.tmp 5) rfl rfl e2 rfl ?_)
        refine (ratsamp_any total last A n c l a3 a4 (fun _ => True) _ s2.sq (fun _ _ => trivial)).mono ?_
        rintro e w3 ⟨R2, m2, d2, he, hs2, hb3⟩
        rw [HY.out] at he hs2
        dsimp only [zrv] at he hs2
        subst he
        have hm2 : 0 = m2 := hs2.len
        subst hm2
        have e3 := (e2.kept hb3).alloc (.cells #[.int .i64 0, .int .i64 0, .slice R2 0 d2] 24)
        have s3 := (s2.keep hb3).alloc (.cells #[.int .i64 0, .int .i64 0, .slice R2 0 d2] 24)
        have p3 := (p2.kept hb3).alloc (.cells #[.int .i64 0, .int .i64 0, .slice R2 0 d2] 24)
        have pp3 := (pp2.keep hb3).alloc (.cells #[.int .i64 0, .int .i64 0, .slice R2 0 d2] 24)
        have b3 := (b2.trans (hb3.mono (Nat.le_of_lt e2.lt))).alloc (Nat.le_of_lt (e2.kept hb3).lt) (.cells #[.int .i64 0, .int .i64 0, .slice R2 0 d2] 24)
        have rr3 := hs2.si.alloc (.cells #[.int .i64 0, .int .i64 0, .slice R2 0 d2] 24)
        clear hs2
        obtain ⟨V2, hV2⟩ : ∃ V, w3.heap.size = V := ⟨_, rfl⟩
        have r3 := Bx.new w3 24 [.int .i64 0, .int .i64 0, .slice R2 0 d2]
        rw [hV2] at r3
        go_wp2_with (refine ra_load rfl (.tmp 5) rfl rfl e3 rfl ?_)
        refine (ratmay_any total last A n c l _ s3).mono ?_
        rintro e w4 ⟨rfl, hb4⟩
        rw [HK.out]
        have e4 := e3.kept hb4
        have s4 := s3.keep hb4
        have p4 := p3.kept hb4
        have pp4 := pp3.keep hb4
        have r4 := r3.kept hb4
        have rr4 := rr3.keep hb4
        have b4 := b3.trans (hb4.mono (Nat.le_of_lt e3.lt))
        have ex0 := e4.cell 0 rfl; have ex1 := e4.cell 1 rfl; have ex2 := e4.cell 2 rfl
        have px0 := p4.cell 0 rfl; have px1 := p4.cell 1 rfl; have px2 := p4.cell 2 rfl
        have rx0 := r4.cell 0 rfl; have rx1 := r4.cell 1 rfl; have rx2 := r4.cell 2 rfl
        go_wp2_with fail
        refine (ratmay_any total last A n c l _ s4).mono ?_
        rintro e w5 ⟨rfl, hb5⟩
        rw [HK.out]
        have e5 := e4.kept hb5
        have s5 := s4.keep hb5
        have p5 := p4.kept hb5
        have pp5 := pp4.keep hb5
        have r5 := r4.kept hb5
        have rr5 := rr4.keep hb5
        have b5 := b4.trans (hb5.mono (Nat.le_of_lt e4.lt))
        have ex0 := e5.cell 0 rfl; have ex1 := e5.cell 1 rfl; have ex2 := e5.cell 2 rfl
        have px0 := p5.cell 0 rfl; have px1 := p5.cell 1 rfl; have px2 := p5.cell 2 rfl
        have rx0 := r5.cell 0 rfl; have rx1 := r5.cell 1 rfl; have rx2 := r5.cell 2 rfl
        go_wp2_with fail
        go_ret
        exact ⟨rfl, b5⟩
      case pos =>
      have c2d : decide (0 ≤ a4) = true := decide_eq_true c2
      by_cases c3 : a4 ≤ last
      case neg =>
        have c3d : decide (a4 ≤ last) = false := decide_eq_false c3
        have HY : Hid (sampR ⟨total, last, l⟩ a3 a4 = (zrv, 0, 1)) := Lib.hid (samp_no (fun h => c3 h.2.2.2.2))
        go_wp2_with (refine ra_load rfl (.tmp 5) rfl rfl e1 rfl ?_)
        clear x2
        refine (ratcame_any total last A n c l a1 a2 (fun _ => True) _ s1.sq (fun _ _ => trivial)).mono ?_
        rintro e w2 ⟨R1, m1, d1, he, hs1, hb2⟩
        rw [HX.out] at he hs1
        dsimp only [zrv] at he hs1
        subst he
        have hm1 : n = m1 := HL.out.symm.trans hs1.len
        subst hm1
        have e2 := (e1.kept hb2).alloc (.cells #[.int .i64 (total + a2), .int .i64 a1, .slice R1 n d1] 24)
        have s2 := (s1.keep hb2).alloc (.cells #[.int .i64 (total + a2), .int .i64 a1, .slice R1 n d1] 24)
        have b2 := (b1.trans (hb2.mono (Nat.le_of_lt e1.lt))).alloc (Nat.le_of_lt (e1.kept hb2).lt) (.cells #[.int .i64 (total + a2), .int .i64 a1, .slice R1 n d1] 24)
        have pp2 := hs1.si.alloc (.cells #[.int .i64 (total + a2), .int .i64 a1, .slice R1 n d1] 24)
        clear hs1
        obtain ⟨V1, hV1⟩ : ∃ V, w2.heap.size = V := ⟨_, rfl⟩
        have p2 := Bx.new w2 24 [.int .i64 (total + a2), .int .i64 a1, .slice R1 n d1]
        rw [hV1] at p2
        go_wp2_with (refine ra_load rfl (.tmp 5) rfl rfl e2 rfl ?_)
        refine (ratsamp_any total last A n c l a3 a4 (fun _ => True) _ s2.sq (fun _ _ => trivial)).mono ?_
        rintro e w3 ⟨R2, m2, d2, he, hs2, hb3⟩
        rw [HY.out] at he hs2
        dsimp only [zrv] at he hs2
        subst he
        have hm2 : 0 = m2 := hs2.len
        subst hm2
        have e3 := (e2.kept hb3).alloc (.cells #[.int .i64 0, .int .i64 0, .slice R2 0 d2] 24)
        have s3 := (s2.keep hb3).alloc (.cells #[.int .i64 0, .int .i64 0, .slice R2 0 d2] 24)
        have p3 := (p2.kept hb3).alloc (.cells #[.int .i64 0, .int .i64 0, .slice R2 0 d2] 24)
        have pp3 := (pp2.keep hb3).alloc (.cells #[.int .i64 0, .int .i64 0, .slice R2 0 d2] 24)
        have b3 := (b2.trans (hb3.mono (Nat.le_of_lt e2.lt))).alloc (Nat.le_of_lt (e2.kept hb3).lt) (.cells #[.int .i64 0, .int .i64 0, .slice R2 0 d2] 24)
        have rr3 := hs2.si.alloc (.cells #[.int .i64 0, .int .i64 0, .slice R2 0 d2] 24)
        clear hs2
        obtain ⟨V2, hV2⟩ : ∃ V, w3.heap.size = V := ⟨_, rfl⟩
        have r3 := Bx.new w3 24 [.int .i64 0, .int .i64 0, .slice R2 0 d2]
        rw [hV2] at r3
        go_wp2_with (refine ra_load rfl (.tmp 5) rfl rfl e3 rfl ?_)
        refine (ratmay_any total last A n c l _ s3).mono ?_
        rintro e w4 ⟨rfl, hb4⟩
        rw [HK.out]
        have e4 := e3.kept hb4
        have s4 := s3.keep hb4
        have p4 := p3.kept hb4
        have pp4 := pp3.keep hb4
        have r4 := r3.kept hb4
        have rr4 := rr3.keep hb4
        have b4 := b3.trans (hb4.mono (Nat.le_of_lt e3.lt))
        have ex0 := e4.cell 0 rfl; have ex1 := e4.cell 1 rfl; have ex2 := e4.cell 2 rfl
        have px0 := p4.cell 0 rfl; have px1 := p4.cell 1 rfl; have px2 := p4.cell 2 rfl
        have rx0 := r4.cell 0 rfl; have rx1 := r4.cell 1 rfl; have rx2 := r4.cell 2 rfl
        go_wp2_with fail
        refine (ratmay_any total last A n c l _ s4).mono ?_
        rintro e w5 ⟨rfl, hb5⟩
        rw [HK.out]
        have e5 := e4.kept hb5
        have s5 := s4.keep hb5
        have p5 := p4.kept hb5
        have pp5 := pp4.keep hb5
        have r5 := r4.kept hb5
        have rr5 := rr4.keep hb5
        have b5 := b4.trans (hb5.mono (Nat.le_of_lt e4.lt))
        have ex0 := e5.cell 0 rfl; have ex1 := e5.cell 1 rfl; have ex2 := e5.cell 2 rfl
        have px0 := p5.cell 0 rfl; have px1 := p5.cell 1 rfl; have px2 := p5.cell 2 rfl
        have rx0 := r5.cell 0 rfl; have rx1 := r5.cell 1 rfl; have rx2 := r5.cell 2 rfl
        go_wp2_with fail
        go_ret
        exact ⟨rfl, b5⟩
      case pos =>
      have c3d : decide (a4 ≤ last) = true := decide_eq_true c3
      have hok : SampOk ⟨total, last, l⟩ a3 a4 := ⟨HK.out, c0, c1, c2, c3⟩
      have HOK := Lib.hid hok; clear hok
      by_cases c5 : a4 = last
      case pos =>
        subst c5
        have HY : Hid (sampR ⟨total, a4, l⟩ a3 a4 = (⟨total, a4, l⟩, 0, 0)) := Lib.hid (samp_same HOK.out (by show a4 - a4 ≤ 0; omega))
        go_wp2_with (refine ra_load rfl (.tmp 5) rfl rfl e1 rfl ?_)
        clear x2
        refine (ratcame_any total a4 A n c l a1 a2 (fun _ => True) _ s1.sq (fun _ _ => trivial)).mono ?_
        rintro e w2 ⟨R1, m1, d1, he, hs1, hb2⟩
        rw [HX.out] at he hs1
        dsimp only [zrv] at he hs1
        subst he
        have hm1 : n = m1 := HL.out.symm.trans hs1.len
        subst hm1
        have e2 := (e1.kept hb2).alloc (.cells #[.int .i64 (total + a2), .int .i64 a1, .slice R1 n d1] 24)
        have s2 := (s1.keep hb2).alloc (.cells #[.int .i64 (total + a2), .int .i64 a1, .slice R1 n d1] 24)
        have b2 := (b1.trans (hb2.mono (Nat.le_of_lt e1.lt))).alloc (Nat.le_of_lt (e1.kept hb2).lt) (.cells #[.int .i64 (total + a2), .int .i64 a1, .slice R1 n d1] 24)
        have pp2 := hs1.si.alloc (.cells #[.int .i64 (total + a2), .int .i64 a1, .slice R1 n d1] 24)
        clear hs1
        obtain ⟨V1, hV1⟩ : ∃ V, w2.heap.size = V := ⟨_, rfl⟩
        have p2 := Bx.new w2 24 [.int .i64 (total + a2), .int .i64 a1, .slice R1 n d1]
        rw [hV1] at p2
        go_wp2_with (refine ra_load rfl (.tmp 5) rfl rfl e2 rfl ?_)
        refine (ratsamp_any total a4 A n c l a3 a4 (fun _ => True) _ s2.sq (fun _ _ => trivial)).mono ?_
        rintro e w3 ⟨R2, m2, d2, he, hs2, hb3⟩
        rw [HY.out] at he hs2
        dsimp only [zrv] at he hs2
        subst he
        have hm2 : n = m2 := HL.out.symm.trans hs2.len
        subst hm2
        have e3 := (e2.kept hb3).alloc (.cells #[.int .i64 total, .int .i64 a4, .slice R2 n d2] 24)
        have s3 := (s2.keep hb3).alloc (.cells #[.int .i64 total, .int .i64 a4, .slice R2 n d2] 24)
        have p3 := (p2.kept hb3).alloc (.cells #[.int .i64 total, .int .i64 a4, .slice R2 n d2] 24)
        have pp3 := (pp2.keep hb3).alloc (.cells #[.int .i64 total, .int .i64 a4, .slice R2 n d2] 24)
        have b3 := (b2.trans (hb3.mono (Nat.le_of_lt e2.lt))).alloc (Nat.le_of_lt (e2.kept hb3).lt) (.cells #[.int .i64 total, .int .i64 a4, .slice R2 n d2] 24)
        have rr3 := hs2.si.alloc (.cells #[.int .i64 total, .int .i64 a4, .slice R2 n d2] 24)
        clear hs2
        obtain ⟨V2, hV2⟩ : ∃ V, w3.heap.size = V := ⟨_, rfl⟩
        have r3 := Bx.new w3 24 [.int .i64 total, .int .i64 a4, .slice R2 n d2]
        rw [hV2] at r3
        go_wp2_with (refine ra_load rfl (.tmp 5) rfl rfl e3 rfl ?_)
        refine (ratmay_any total a4 A n c l _ s3).mono ?_
        rintro e w4 ⟨rfl, hb4⟩
        rw [HK.out]
        have e4 := e3.kept hb4
        have s4 := s3.keep hb4
        have p4 := p3.kept hb4
        have pp4 := pp3.keep hb4
        have r4 := r3.kept hb4
        have rr4 := rr3.keep hb4
        have b4 := b3.trans (hb4.mono (Nat.le_of_lt e3.lt))
        have ex0 := e4.cell 0 rfl; have ex1 := e4.cell 1 rfl; have ex2 := e4.cell 2 rfl
        have px0 := p4.cell 0 rfl; have px1 := p4.cell 1 rfl; have px2 := p4.cell 2 rfl
        have rx0 := r4.cell 0 rfl; have rx1 := r4.cell 1 rfl; have rx2 := r4.cell 2 rfl
        go_wp2_with fail
        refine (ratmay_any total a4 A n c l _ s4).mono ?_
        rintro e w5 ⟨rfl, hb5⟩
        rw [HK.out]
        have e5 := e4.kept hb5
        have s5 := s4.keep hb5
        have p5 := p4.kept hb5
        have pp5 := pp4.keep hb5
        have r5 := r4.kept hb5
        have rr5 := rr4.keep hb5
        have b5 := b4.trans (hb5.mono (Nat.le_of_lt e4.lt))
        have ex0 := e5.cell 0 rfl; have ex1 := e5.cell 1 rfl; have ex2 := e5.cell 2 rfl
        have px0 := p5.cell 0 rfl; have px1 := p5.cell 1 rfl; have px2 := p5.cell 2 rfl
        have rx0 := r5.cell 0 rfl; have rx1 := r5.cell 1 rfl; have rx2 := r5.cell 2 rfl
        go_wp2_with fail
        go_ret
        exact ⟨rfl, b5⟩
      case neg =>
      have c5d : (a4 == last) = false := by simpa using c5
      obtain ⟨nr, hnr⟩ : ∃ nr, numR (total - a3) (last - a4) = nr := ⟨_, rfl⟩
      have hnb := num_bd (a := total - a3) (d := last - a4) (by omega) (by omega)
      rw [hnr] at hnb
      obtain ⟨nr0, nr1⟩ := hnb
      have HY : Hid (sampR ⟨total, last, l⟩ a3 a4 = (⟨total, last, pushR l nr⟩, nr, 0)) := Lib.hid (by rw [samp_ok HOK.out (by show ¬ last - a4 ≤ 0; omega)]; show ((⟨total, last, pushR l (numR (total - a3) (last - a4))⟩ : Rv), numR (total - a3) (last - a4), (0 : Int)) = _; rw [hnr])
      clear hnr
      go_wp2_with (refine ra_load rfl (.tmp 5) rfl rfl e1 rfl ?_)
      clear x2
      refine (ratcame_any total last A n c l a1 a2 (fun _ => True) _ s1.sq (fun _ _ => trivial)).mono ?_
      rintro e w2 ⟨R1, m1, d1, he, hs1, hb2⟩
      rw [HX.out] at he hs1
      dsimp only [zrv] at he hs1
      subst he
      have hm1 : n = m1 := HL.out.symm.trans hs1.len
      subst hm1
      have e2 := (e1.kept hb2).alloc (.cells #[.int .i64 (total + a2), .int .i64 a1, .slice R1 n d1] 24)
      have s2 := (s1.keep hb2).alloc (.cells #[.int .i64 (total + a2), .int .i64 a1, .slice R1 n d1] 24)
      have b2 := (b1.trans (hb2.mono (Nat.le_of_lt e1.lt))).alloc (Nat.le_of_lt (e1.kept hb2).lt) (.cells #[.int .i64 (total + a2), .int .i64 a1, .slice R1 n d1] 24)
      have pp2 := hs1.si.alloc (.cells #[.int .i64 (total + a2), .int .i64 a1, .slice R1 n d1] 24)
      clear hs1
      obtain ⟨V1, hV1⟩ : ∃ V, w2.heap.size = V := ⟨_, rfl⟩
      have p2 := Bx.new w2 24 [.int .i64 (total + a2), .int .i64 a1, .slice R1 n d1]
      rw [hV1] at p2
      go_wp2_with (refine ra_load rfl (.tmp 5) rfl rfl e2 rfl ?_)
      refine (ratsamp_any total last A n c l a3 a4 (fun _ => True) _ s2.sq (fun _ _ => trivial)).mono ?_
      rintro e w3 ⟨R2, m2, d2, he, hs2, hb3⟩
      rw [HY.out] at he hs2
      dsimp only [zrv] at he hs2
      subst he
      have e3 := (e2.kept hb3).alloc (.cells #[.int .i64 total, .int .i64 last, .slice R2 m2 d2] 24)
      have s3 := (s2.keep hb3).alloc (.cells #[.int .i64 total, .int .i64 last, .slice R2 m2 d2] 24)
      have p3 := (p2.kept hb3).alloc (.cells #[.int .i64 total, .int .i64 last, .slice R2 m2 d2] 24)
      have pp3 := (pp2.keep hb3).alloc (.cells #[.int .i64 total, .int .i64 last, .slice R2 m2 d2] 24)
      have b3 := (b2.trans (hb3.mono (Nat.le_of_lt e2.lt))).alloc (Nat.le_of_lt (e2.kept hb3).lt) (.cells #[.int .i64 total, .int .i64 last, .slice R2 m2 d2] 24)
      have rr3 := hs2.si.alloc (.cells #[.int .i64 total, .int .i64 last, .slice R2 m2 d2] 24)
      clear hs2
      obtain ⟨V2, hV2⟩ : ∃ V, w3.heap.size = V := ⟨_, rfl⟩
      have r3 := Bx.new w3 24 [.int .i64 total, .int .i64 last, .slice R2 m2 d2]
      rw [hV2] at r3
      go_wp2_with (refine ra_load rfl (.tmp 5) rfl rfl e3 rfl ?_)
      refine (ratmay_any total last A n c l _ s3).mono ?_
      rintro e w4 ⟨rfl, hb4⟩
      rw [HK.out]
      have e4 := e3.kept hb4
      have s4 := s3.keep hb4
      have p4 := p3.kept hb4
      have pp4 := pp3.keep hb4
      have r4 := r3.kept hb4
      have rr4 := rr3.keep hb4
      have b4 := b3.trans (hb4.mono (Nat.le_of_lt e3.lt))
      have ex0 := e4.cell 0 rfl; have ex1 := e4.cell 1 rfl; have ex2 := e4.cell 2 rfl
      have px0 := p4.cell 0 rfl; have px1 := p4.cell 1 rfl; have px2 := p4.cell 2 rfl
      have rx0 := r4.cell 0 rfl; have rx1 := r4.cell 1 rfl; have rx2 := r4.cell 2 rfl
      go_wp2_with fail
      refine (ratmay_any total last A n c l _ s4).mono ?_
      rintro e w5 ⟨rfl, hb5⟩
      rw [HK.out]
      have e5 := e4.kept hb5
      have s5 := s4.keep hb5
      have p5 := p4.kept hb5
      have pp5 := pp4.keep hb5
      have r5 := r4.kept hb5
      have rr5 := rr4.keep hb5
      have b5 := b4.trans (hb5.mono (Nat.le_of_lt e4.lt))
      have ex0 := e5.cell 0 rfl; have ex1 := e5.cell 1 rfl; have ex2 := e5.cell 2 rfl
      have px0 := p5.cell 0 rfl; have px1 := p5.cell 1 rfl; have px2 := p5.cell 2 rfl
      have rx0 := r5.cell 0 rfl; have rx1 := r5.cell 1 rfl; have rx2 := r5.cell 2 rfl
      go_wp2_with fail
      go_ret
      exact ⟨rfl, b5⟩
end Go.Proofs.Ytphkenicbbcjjaa.rateWrong
