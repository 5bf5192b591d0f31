/- The walk of the law LeastWrong. -/
import Derived.Test.YtihheanjlabioaaProg
import Derived.Test.YtihheanjlabioaaLeAwake
import Derived.Test.YtihheanjlabioaaLeIn
import Derived.Test.YtihheanjlabioaaLeMath
import Derived.WalkKit
import Derived.WalkSpells
import Derived.WalkSmall
import Derived.Lib.Hide
import Derived.Below
import Derived.Outline
namespace Go.Proofs.Ytihheanjlabioaa.leastWrong
open Go.RowKit
set_option linter.unusedVariables false
set_option linter.unusedSimpArgs false

set_option maxRecDepth 100000 in
set_option maxHeartbeats 8000000 in
theorem walk (span : Int) (A : Option Addr) (n c : Nat) (high : Int) (l : List Sp) (at_ nn : Int) (w : World) (hw1 : W64 span) (hw2 : W64 high) (hs : Ss w A n c l) :
    Calls Try.prog 7 #[.agg #[.int .i64 span, .slice A n c, .int .i64 high], .int .i64 at_, .int .i64 nn] w fun e w' => e = .returned (.bool true) ∧ Below w.heap.size w w' := by
  obtain ⟨B, hB⟩ : ∃ B, w.heap.size = B := ⟨_, rfl⟩
  rw [hB]
  have HL := Lib.hid hs.rd.len
  have e0 := Bx.new w 24 [.int .i64 span, .slice A n c, .int .i64 high]
  rw [hB] at e0
  have b0 : Below B w (w.alloc (.cells #[.int .i64 span, .slice A n c, .int .i64 high] 24)) := by rw [← hB]; exact (Below.refl _ _).alloc (Nat.le_refl _) _
  have s0 := hs.alloc (.cells #[.int .i64 span, .slice A n c, .int .i64 high] 24)
  clear hs hw1 hw2
  go_enter Try.func7, Try.ntmps7
  go_wp2_with fail
  generalize w.alloc (.cells #[.int .i64 span, .slice A n c, .int .i64 high] 24) = w0 at e0 b0 s0 ⊢
  refine (leawake_any _).mono ?_
  rintro e w1 ⟨rfl, hb1⟩
  have e1 := e0.kept hb1; have s1 := s0.keep hb1; have b1 := b0.trans (hb1.mono (Nat.le_of_lt e0.lt))
  by_cases hn : n ≤ 200
  case neg =>
    have x1 := e1.cell 1 rfl
    have hd : decide (200 < n) = true := decide_eq_true (by omega)
    go_wp2_with fail
    go_ret
    exact ⟨rfl, b1⟩
  case pos =>
  have hd : decide (200 < n) = false := decide_eq_false (by omega)
  have x1 := e1.cell 1 rfl
  by_cases hm : MetOk ⟨span, l, high⟩ at_ nn
  case neg =>
    go_wp2_with (refine le_load rfl (.tmp 3) rfl rfl e1 rfl ?_)
    refine (lemet_any span A n c high l at_ nn _ s1).mono ?_
    rintro e w2 ⟨R1, m1, d1, he, hr2, hb2⟩
    rw [met_no hm] at he hr2
    dsimp only [zlv] at he hr2
    subst he
    have hm0 : m1 = 0 := by have := hr2.ss.rd.len; simpa using this.symm
    subst hm0
    have e2 := (e1.kept hb2).alloc (.cells #[.int .i64 0, .slice R1 0 d1, .int .i64 0] 24)
    have s2 := (s1.keep hb2).alloc (.cells #[.int .i64 0, .slice R1 0 d1, .int .i64 0] 24)
    have b2 := (b1.trans (hb2.mono (Nat.le_of_lt e1.lt))).alloc (Nat.le_of_lt (e1.kept hb2).lt) (.cells #[.int .i64 0, .slice R1 0 d1, .int .i64 0] 24)
    obtain ⟨V1, hV1⟩ : ∃ V, w2.heap.size = V := ⟨_, rfl⟩
    have p2 := Bx.new w2 24 [.int .i64 0, .slice R1 0 d1, .int .i64 0]
    rw [hV1] at p2
    have x1' := e2.cell 1 rfl
    clear x1
    have x1 := x1'
    clear x1'
    have y0 := p2.cell 0 rfl; have y1 := p2.cell 1 rfl; have y2 := p2.cell 2 rfl
    go_wp2_with (refine le_load rfl (.tmp 3) rfl rfl e2 rfl ?_)
    clear x1 y0 y1 y2
    refine (lemay_any span A n c high l _ s2).mono ?_
    rintro e w3 ⟨rfl, hb3⟩
    have e3 := e2.kept hb3
    have s3 := s2.keep hb3
    have p3 := p2.kept hb3
    have b3 := b2.trans (hb3.mono (Nat.le_of_lt e2.lt))
    have x1 := e3.cell 1 rfl
    have y0 := p3.cell 0 rfl; have y1 := p3.cell 1 rfl; have y2 := p3.cell 2 rfl
    cases hk : lmay ⟨span, l, high⟩ with
    | false =>
      go_wp2_with fail
      go_ret
      exact ⟨rfl, b3⟩
    | true =>
    by_cases c1 : 0 ≤ at_
    case neg =>
      have dc1 : decide (0 ≤ at_) = false := decide_eq_false c1
      go_wp2_with fail
      go_ret
      exact ⟨rfl, b3⟩
    case pos =>
    have dc1 : decide (0 ≤ at_) = true := decide_eq_true c1
    by_cases c2 : at_ ≤ 1152921504606846976
    case neg =>
      have dc2 : decide (at_ ≤ 1152921504606846976) = false := decide_eq_false c2
      go_wp2_with fail
      go_ret
      exact ⟨rfl, b3⟩
    case pos =>
    have dc2 : decide (at_ ≤ 1152921504606846976) = true := decide_eq_true c2
    by_cases c3 : 0 ≤ nn
    case neg =>
      have dc3 : decide (0 ≤ nn) = false := decide_eq_false c3
      go_wp2_with fail
      go_ret
      exact ⟨rfl, b3⟩
    case pos =>
    have dc3 : decide (0 ≤ nn) = true := decide_eq_true c3
    by_cases c4 : nn ≤ 1152921504606846976
    case neg =>
      have dc4 : decide (nn ≤ 1152921504606846976) = false := decide_eq_false c4
      go_wp2_with fail
      go_ret
      exact ⟨rfl, b3⟩
    case pos =>
    have dc4 : decide (nn ≤ 1152921504606846976) = true := decide_eq_true c4
    have HS3 := Lib.hid s3; clear s3
    by_cases hn0 : n = 0
    case pos =>
      exact absurd ⟨hk, c1, c2, c3, c4, fun h => absurd h (by dsimp only; rw [HL.out]; omega)⟩ hm
    case neg =>
    have dn0 : ((n : Int) == 0) = false := by simp; omega
    obtain ⟨j, hj⟩ : ∃ j, n = j + 1 := ⟨n - 1, by omega⟩
    have hnj : (n : Int) - 1 = (j : Int) := by omega
    have hjn : j < n := by omega
    obtain ⟨b, o, hA, hbl, hc⟩ := HS3.out.rd.at_ (by omega)
    subst hA
    obtain ⟨z1, z2⟩ := hc j hjn
    obtain ⟨⟨pp, mm⟩, hpp⟩ : ∃ p, sp l j = p := ⟨_, rfl⟩
    rw [hpp] at z1 z2
    simp only at z1 z2
    have HP := Lib.hid hpp
    clear hc hpp z2
    by_cases c5 : pp ≤ at_
    case neg =>
      have d5 : decide (pp ≤ at_) = false := decide_eq_false c5
      clear hj hn0
      go_wp2_with fail
      go_ret
      exact ⟨rfl, b3⟩
    case pos =>
    have d5 : decide (pp ≤ at_) = true := decide_eq_true c5
    exact absurd ⟨hk, c1, c2, c3, c4, fun h => by dsimp only; rw [HL.out, show n - 1 = j by omega, HP.out]; exact c5⟩ hm
  case pos =>
    go_wp2_with (refine le_load rfl (.tmp 3) rfl rfl e1 rfl ?_)
    refine (lemet_any span A n c high l at_ nn _ s1).mono ?_
    rintro e w2 ⟨R1, m1, d1, he, hr2, hb2⟩
    obtain ⟨x, hx⟩ : ∃ x, metR ⟨span, l, high⟩ at_ nn = x := ⟨_, rfl⟩
    have hok := (met_valid hm).2
    obtain ⟨x, xb, xe⟩ := x
    rw [hx] at he hr2 hok
    dsimp only at he hr2 hok
    subst hok he
    clear hx
    have e2 := (e1.kept hb2).alloc (.cells #[.int .i64 x.span, .slice R1 m1 d1, .int .i64 x.high] 24)
    have s2 := (s1.keep hb2).alloc (.cells #[.int .i64 x.span, .slice R1 m1 d1, .int .i64 x.high] 24)
    have b2 := (b1.trans (hb2.mono (Nat.le_of_lt e1.lt))).alloc (Nat.le_of_lt (e1.kept hb2).lt) (.cells #[.int .i64 x.span, .slice R1 m1 d1, .int .i64 x.high] 24)
    obtain ⟨V1, hV1⟩ : ∃ V, w2.heap.size = V := ⟨_, rfl⟩
    have p2 := Bx.new w2 24 [.int .i64 x.span, .slice R1 m1 d1, .int .i64 x.high]
    rw [hV1] at p2
    have x1' := e2.cell 1 rfl
    clear x1
    have x1 := x1'
    clear x1'
    have y0 := p2.cell 0 rfl; have y1 := p2.cell 1 rfl; have y2 := p2.cell 2 rfl
    go_wp2_with (refine le_load rfl (.tmp 3) rfl rfl e2 rfl ?_)
    clear x1 y0 y1 y2
    refine (lemay_any span A n c high l _ s2).mono ?_
    rintro e w3 ⟨rfl, hb3⟩
    have e3 := e2.kept hb3
    have s3 := s2.keep hb3
    have p3 := p2.kept hb3
    have b3 := b2.trans (hb3.mono (Nat.le_of_lt e2.lt))
    have x1 := e3.cell 1 rfl
    have y0 := p3.cell 0 rfl; have y1 := p3.cell 1 rfl; have y2 := p3.cell 2 rfl
    have hk := hm.1
    rw [hk]
    have c1 := hm.2.1; have c2 := hm.2.2.1; have c3 := hm.2.2.2.1; have c4 := hm.2.2.2.2.1
    have dc1 : decide (0 ≤ at_) = true := decide_eq_true c1
    have dc2 : decide (at_ ≤ 1152921504606846976) = true := decide_eq_true c2
    have dc3 : decide (0 ≤ nn) = true := decide_eq_true c3
    have dc4 : decide (nn ≤ 1152921504606846976) = true := decide_eq_true c4
    have HS3 := Lib.hid s3; clear s3
    by_cases hn0 : n = 0
    case pos =>
      have dn0 : ((n : Int) == 0) = true := by simp; omega
      clear hn0
      go_wp2_with fail
      go_ret
      exact ⟨rfl, b3⟩
    case neg =>
    have dn0 : ((n : Int) == 0) = false := by simp; omega
    obtain ⟨j, hj⟩ : ∃ j, n = j + 1 := ⟨n - 1, by omega⟩
    have hnj : (n : Int) - 1 = (j : Int) := by omega
    have hjn : j < n := by omega
    obtain ⟨b, o, hA, hbl, hc⟩ := HS3.out.rd.at_ (by omega)
    subst hA
    obtain ⟨z1, z2⟩ := hc j hjn
    obtain ⟨⟨pp, mm⟩, hpp⟩ : ∃ p, sp l j = p := ⟨_, rfl⟩
    rw [hpp] at z1 z2
    simp only at z1 z2
    have HP := Lib.hid hpp
    clear hc hpp z2
    by_cases c5 : pp ≤ at_
    case neg =>
      have d5 : decide (pp ≤ at_) = false := decide_eq_false c5
      exact absurd (by have h6 := hm.2.2.2.2.2; dsimp only at h6; rw [HL.out] at h6; have h7 := h6 (by omega); rw [show n - 1 = j by omega, HP.out] at h7; exact h7) c5
    case pos =>
    have d5 : decide (pp ≤ at_) = true := decide_eq_true c5
    clear hj hn0
    go_wp2_with fail
    go_ret
    exact ⟨rfl, b3⟩
end Go.Proofs.Ytihheanjlabioaa.leastWrong
