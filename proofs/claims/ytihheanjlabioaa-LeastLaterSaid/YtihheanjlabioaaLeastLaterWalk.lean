/- The walk of the law LeastLater. -/
import Derived.Test.YtihheanjlabioaaProg
import Derived.Test.YtihheanjlabioaaLeAwake
import Derived.Test.YtihheanjlabioaaLeIn
import Derived.Test.YtihheanjlabioaaLeMath
import Derived.WalkKit
import Derived.WalkSpells
import Derived.WalkSmall
import Derived.Lib.Hide
import Derived.Below
import Derived.Outline
namespace Go.Proofs.Ytihheanjlabioaa.leastLater
open Go.RowKit
set_option linter.unusedVariables false
set_option linter.unusedSimpArgs false

set_option maxRecDepth 100000 in
set_option maxHeartbeats 8000000 in
theorem walk (span : Int) (A : Option Addr) (n c : Nat) (high : Int) (l : List Sp) (at_ more nn : Int) (w : World) (hw1 : W64 span) (hw2 : W64 high) (hs : Ss w A n c l) :
    Calls Try.prog 6 #[.agg #[.int .i64 span, .slice A n c, .int .i64 high], .int .i64 at_, .int .i64 more, .int .i64 nn] w fun e w' => e = .returned (.bool true) ∧ Below w.heap.size w w' := by
  obtain ⟨B, hB⟩ : ∃ B, w.heap.size = B := ⟨_, rfl⟩
  rw [hB]
  have HL := Lib.hid hs.rd.len
  have e0 := Bx.new w 24 [.int .i64 span, .slice A n c, .int .i64 high]
  rw [hB] at e0
  have b0 : Below B w (w.alloc (.cells #[.int .i64 span, .slice A n c, .int .i64 high] 24)) := by rw [← hB]; exact (Below.refl _ _).alloc (Nat.le_refl _) _
  have s0 := hs.alloc (.cells #[.int .i64 span, .slice A n c, .int .i64 high] 24)
  clear hs hw1 hw2
  go_enter Try.func6, Try.ntmps6
  go_wp2_with fail
  generalize w.alloc (.cells #[.int .i64 span, .slice A n c, .int .i64 high] 24) = w0 at e0 b0 s0 ⊢
  refine (leawake_any _).mono ?_
  rintro e w1 ⟨rfl, hb1⟩
  have e1 := e0.kept hb1; have s1 := s0.keep hb1; have b1 := b0.trans (hb1.mono (Nat.le_of_lt e0.lt))
  by_cases hn : n ≤ 200
  case neg =>
    have x1 := e1.cell 1 rfl
    have hd : decide (200 < n) = true := decide_eq_true (by omega)
    go_wp2_with fail
    go_ret
    exact ⟨rfl, b1⟩
  case pos =>
  have hd : decide (200 < n) = false := decide_eq_false (by omega)
  have x1 := e1.cell 1 rfl
  have x0 := e1.cell 0 rfl; have x2 := e1.cell 2 rfl
  go_wp2_with fail
  clear x0 x1 x2
  refine (lemay_any span A n c high l _ s1).mono ?_
  rintro e w2 ⟨rfl, hb2⟩
  have e2 := e1.kept hb2
  have s2 := s1.keep hb2
  have b2 := b1.trans (hb2.mono (Nat.le_of_lt e1.lt))
  cases hk : lmay ⟨span, l, high⟩ with
  | false =>
    go_wp2_with fail
    go_ret
    exact ⟨rfl, b2⟩
  | true =>
  by_cases c1 : at_ < 0
  case pos =>
    have dc1 : decide (at_ < 0) = true := decide_eq_true c1
    go_wp2_with fail
    go_ret
    exact ⟨rfl, b2⟩
  case neg =>
  have dc1 : decide (at_ < 0) = false := decide_eq_false c1
  by_cases c2 : more < 0
  case pos =>
    have dc2 : decide (more < 0) = true := decide_eq_true c2
    go_wp2_with fail
    go_ret
    exact ⟨rfl, b2⟩
  case neg =>
  have dc2 : decide (more < 0) = false := decide_eq_false c2
  by_cases c3 : 1000000000 < at_
  case pos =>
    have dc3 : decide (1000000000 < at_) = true := decide_eq_true c3
    go_wp2_with fail
    go_ret
    exact ⟨rfl, b2⟩
  case neg =>
  have dc3 : decide (1000000000 < at_) = false := decide_eq_false c3
  by_cases c4 : 1000000000 < more
  case pos =>
    have dc4 : decide (1000000000 < more) = true := decide_eq_true c4
    go_wp2_with fail
    go_ret
    exact ⟨rfl, b2⟩
  case neg =>
  have dc4 : decide (1000000000 < more) = false := decide_eq_false c4
  have hv := (lmay_iff _).1 hk
  have hla := of_later hv (a := at_) (m := more) (by omega) (by omega) (by omega)
  obtain ⟨y, hy⟩ : ∃ y, ofR ⟨span, l, high⟩ at_ = y := ⟨_, rfl⟩
  obtain ⟨z, hz⟩ : ∃ z, ofR ⟨span, l, high⟩ (at_ + more) = z := ⟨_, rfl⟩
  rw [hy, hz] at hla
  obtain ⟨ya, yx⟩ := y
  obtain ⟨zb, zy⟩ := z
  have HY := Lib.hid hy; have HZ := Lib.hid hz; have HV := Lib.hid hv
  clear hy hz hv hk
  have HLA := Lib.hid hla; clear hla
  go_wp2_with (refine le_load rfl (.tmp 4) rfl rfl e2 rfl ?_)
  refine (leof_any span A n c high l at_ _ s2).mono ?_
  rintro e w3 ⟨rfl, hb3⟩
  rw [HY.out]
  dsimp only
  have e3 := e2.kept hb3
  have s3 := s2.keep hb3
  have b3 := b2.trans (hb3.mono (Nat.le_of_lt e2.lt))
  go_wp2_with (refine le_load rfl (.tmp 4) rfl rfl e3 rfl ?_)
  refine (leof_any span A n c high l (at_ + more) _ s3).mono ?_
  rintro e w4 ⟨rfl, hb4⟩
  rw [HZ.out]
  dsimp only
  have e4 := e3.kept hb4
  have s4 := s3.keep hb4
  have b4 := b3.trans (hb4.mono (Nat.le_of_lt e3.lt))
  have pass : zy = false ∨ (zy = true ∧ yx = true ∧ ¬ zb < ya) := by
    cases zy with
    | false => exact .inl rfl
    | true =>
      have h := HLA.out rfl
      try dsimp only at h
      exact .inr ⟨rfl, h.1, by omega⟩
  rcases pass with rfl | ⟨rfl, rfl, hnlt⟩
  case inl =>
    by_cases hm : MetOk ⟨span, l, high⟩ at_ nn
    case neg =>
      go_wp2_with (refine le_load rfl (.tmp 4) rfl rfl e4 rfl ?_)
      refine (lemet_any span A n c high l at_ nn _ s4).mono ?_
      rintro e w5 ⟨R1, m1, d1, he, hr5, hb5⟩
      rw [met_no hm] at he hr5
      dsimp only [zlv] at he hr5
      subst he
      have hm0 : m1 = 0 := by have := hr5.ss.rd.len; simpa using this.symm
      subst hm0
      have e5 := (e4.kept hb5).alloc (.cells #[.int .i64 0, .slice R1 0 d1, .int .i64 0] 24)
      have s5 := (s4.keep hb5).alloc (.cells #[.int .i64 0, .slice R1 0 d1, .int .i64 0] 24)
      have b5 := (b4.trans (hb5.mono (Nat.le_of_lt e4.lt))).alloc (Nat.le_of_lt (e4.kept hb5).lt) (.cells #[.int .i64 0, .slice R1 0 d1, .int .i64 0] 24)
      obtain ⟨V1, hV1⟩ : ∃ V, w5.heap.size = V := ⟨_, rfl⟩
      have p5 := Bx.new w5 24 [.int .i64 0, .slice R1 0 d1, .int .i64 0]
      rw [hV1] at p5
      have q5 := hr5.ss.alloc (.cells #[.int .i64 0, .slice R1 0 d1, .int .i64 0] 24)
      go_wp2_with (refine le_load rfl (.tmp 14) rfl rfl p5 rfl ?_)
      obtain ⟨c, hc⟩ : ∃ c, ofR ⟨0, [], 0⟩ at_ = c := ⟨_, rfl⟩
      obtain ⟨c1', c2'⟩ := c
      refine (leof_any 0 R1 0 d1 0 [] at_ _ q5).mono ?_
      rintro e w6 ⟨rfl, hb6⟩
      rw [hc]
      dsimp only
      clear hc
      have e6 := e5.kept hb6
      have s6 := s5.keep hb6
      have p6 := p5.kept hb6
      have q6 := q5.keep hb6
      have b6 := b5.trans (hb6.mono (Nat.le_of_lt e5.lt))
      go_wp2_with fail
      go_ret
      exact ⟨rfl, b6⟩
    case pos =>
      have hmo := met_of hm
      have hx0 := (met_valid hm).2
      obtain ⟨x, hx⟩ : ∃ x, metR ⟨span, l, high⟩ at_ nn = x := ⟨_, rfl⟩
      obtain ⟨x, xb, xe⟩ := x
      rw [hx, HY.out] at hmo
      rw [hx] at hx0
      dsimp only at hmo hx0
      subst hx0
      obtain ⟨c, hc⟩ : ∃ c, ofR x at_ = c := ⟨_, rfl⟩
      rw [hc] at hmo
      obtain ⟨cc, cz⟩ := c
      dsimp only at hmo
      obtain ⟨rfl, g1, g2, g3⟩ := hmo
      have HC := Lib.hid hc; clear hc
      have dc1 : decide (cc ≤ nn) = true := decide_eq_true g1
      go_wp2_with (refine le_load rfl (.tmp 4) rfl rfl e4 rfl ?_)
      refine (lemet_any span A n c high l at_ nn _ s4).mono ?_
      rintro e w5 ⟨R1, m1, d1, he, hr5, hb5⟩
      rw [hx] at he hr5
      dsimp only at he hr5
      subst he
      have e5 := (e4.kept hb5).alloc (.cells #[.int .i64 x.span, .slice R1 m1 d1, .int .i64 x.high] 24)
      have s5 := (s4.keep hb5).alloc (.cells #[.int .i64 x.span, .slice R1 m1 d1, .int .i64 x.high] 24)
      have b5 := (b4.trans (hb5.mono (Nat.le_of_lt e4.lt))).alloc (Nat.le_of_lt (e4.kept hb5).lt) (.cells #[.int .i64 x.span, .slice R1 m1 d1, .int .i64 x.high] 24)
      obtain ⟨V1, hV1⟩ : ∃ V, w5.heap.size = V := ⟨_, rfl⟩
      have p5 := Bx.new w5 24 [.int .i64 x.span, .slice R1 m1 d1, .int .i64 x.high]
      rw [hV1] at p5
      have q5 := hr5.ss.alloc (.cells #[.int .i64 x.span, .slice R1 m1 d1, .int .i64 x.high] 24)
      go_wp2_with (refine le_load rfl (.tmp 14) rfl rfl p5 rfl ?_)
      refine (leof_any x.span R1 m1 d1 x.high x.l at_ _ q5).mono ?_
      rintro e w6 ⟨rfl, hb6⟩
      rw [HC.out]
      dsimp only
      have e6 := e5.kept hb6
      have s6 := s5.keep hb6
      have p6 := p5.kept hb6
      have q6 := q5.keep hb6
      have b6 := b5.trans (hb6.mono (Nat.le_of_lt e5.lt))

      clear hx hm
      cases xb with
      | true =>
        go_wp2_with fail
        go_ret
        exact ⟨rfl, b6⟩
      | false =>
        cases yx with
        | false =>
          have g4 : cc = nn := by rcases g3 with h | h | h; cases h; cases h; exact h
          have g5 : (cc == nn) = true := by simp [g4]
          clear g2 g3 g4
          go_wp2_with fail
          go_ret
          exact ⟨rfl, b6⟩
        | true =>
          have g4 : cc ≤ ya := by rcases g2 with h | h | h; cases h; cases h; exact h
          have g5 : decide (cc ≤ ya) = true := decide_eq_true g4
          clear g2 g3
          go_wp2_with fail
          go_ret
          exact ⟨rfl, b6⟩
  case inr =>
    have dnl : decide (zb < ya) = false := decide_eq_false hnlt
    by_cases hm : MetOk ⟨span, l, high⟩ at_ nn
    case neg =>
      go_wp2_with (refine le_load rfl (.tmp 4) rfl rfl e4 rfl ?_)
      refine (lemet_any span A n c high l at_ nn _ s4).mono ?_
      rintro e w5 ⟨R1, m1, d1, he, hr5, hb5⟩
      rw [met_no hm] at he hr5
      dsimp only [zlv] at he hr5
      subst he
      have hm0 : m1 = 0 := by have := hr5.ss.rd.len; simpa using this.symm
      subst hm0
      have e5 := (e4.kept hb5).alloc (.cells #[.int .i64 0, .slice R1 0 d1, .int .i64 0] 24)
      have s5 := (s4.keep hb5).alloc (.cells #[.int .i64 0, .slice R1 0 d1, .int .i64 0] 24)
      have b5 := (b4.trans (hb5.mono (Nat.le_of_lt e4.lt))).alloc (Nat.le_of_lt (e4.kept hb5).lt) (.cells #[.int .i64 0, .slice R1 0 d1, .int .i64 0] 24)
      obtain ⟨V1, hV1⟩ : ∃ V, w5.heap.size = V := ⟨_, rfl⟩
      have p5 := Bx.new w5 24 [.int .i64 0, .slice R1 0 d1, .int .i64 0]
      rw [hV1] at p5
      have q5 := hr5.ss.alloc (.cells #[.int .i64 0, .slice R1 0 d1, .int .i64 0] 24)
      go_wp2_with (refine le_load rfl (.tmp 14) rfl rfl p5 rfl ?_)
      obtain ⟨c, hc⟩ : ∃ c, ofR ⟨0, [], 0⟩ at_ = c := ⟨_, rfl⟩
      obtain ⟨c1', c2'⟩ := c
      refine (leof_any 0 R1 0 d1 0 [] at_ _ q5).mono ?_
      rintro e w6 ⟨rfl, hb6⟩
      rw [hc]
      dsimp only
      clear hc
      have e6 := e5.kept hb6
      have s6 := s5.keep hb6
      have p6 := p5.kept hb6
      have q6 := q5.keep hb6
      have b6 := b5.trans (hb6.mono (Nat.le_of_lt e5.lt))
      go_wp2_with fail
      go_ret
      exact ⟨rfl, b6⟩
    case pos =>
      have hmo := met_of hm
      have hx0 := (met_valid hm).2
      obtain ⟨x, hx⟩ : ∃ x, metR ⟨span, l, high⟩ at_ nn = x := ⟨_, rfl⟩
      obtain ⟨x, xb, xe⟩ := x
      rw [hx, HY.out] at hmo
      rw [hx] at hx0
      dsimp only at hmo hx0
      subst hx0
      obtain ⟨c, hc⟩ : ∃ c, ofR x at_ = c := ⟨_, rfl⟩
      rw [hc] at hmo
      obtain ⟨cc, cz⟩ := c
      dsimp only at hmo
      obtain ⟨rfl, g1, g2, g3⟩ := hmo
      have HC := Lib.hid hc; clear hc
      have dc1 : decide (cc ≤ nn) = true := decide_eq_true g1
      go_wp2_with (refine le_load rfl (.tmp 4) rfl rfl e4 rfl ?_)
      refine (lemet_any span A n c high l at_ nn _ s4).mono ?_
      rintro e w5 ⟨R1, m1, d1, he, hr5, hb5⟩
      rw [hx] at he hr5
      dsimp only at he hr5
      subst he
      have e5 := (e4.kept hb5).alloc (.cells #[.int .i64 x.span, .slice R1 m1 d1, .int .i64 x.high] 24)
      have s5 := (s4.keep hb5).alloc (.cells #[.int .i64 x.span, .slice R1 m1 d1, .int .i64 x.high] 24)
      have b5 := (b4.trans (hb5.mono (Nat.le_of_lt e4.lt))).alloc (Nat.le_of_lt (e4.kept hb5).lt) (.cells #[.int .i64 x.span, .slice R1 m1 d1, .int .i64 x.high] 24)
      obtain ⟨V1, hV1⟩ : ∃ V, w5.heap.size = V := ⟨_, rfl⟩
      have p5 := Bx.new w5 24 [.int .i64 x.span, .slice R1 m1 d1, .int .i64 x.high]
      rw [hV1] at p5
      have q5 := hr5.ss.alloc (.cells #[.int .i64 x.span, .slice R1 m1 d1, .int .i64 x.high] 24)
      go_wp2_with (refine le_load rfl (.tmp 14) rfl rfl p5 rfl ?_)
      refine (leof_any x.span R1 m1 d1 x.high x.l at_ _ q5).mono ?_
      rintro e w6 ⟨rfl, hb6⟩
      rw [HC.out]
      dsimp only
      have e6 := e5.kept hb6
      have s6 := s5.keep hb6
      have p6 := p5.kept hb6
      have q6 := q5.keep hb6
      have b6 := b5.trans (hb6.mono (Nat.le_of_lt e5.lt))

      clear hx hm
      cases xb with
      | true =>
        go_wp2_with fail
        go_ret
        exact ⟨rfl, b6⟩
      | false =>
        have g4 : cc ≤ ya := by rcases g2 with h | h | h; cases h; cases h; exact h
        have g5 : decide (cc ≤ ya) = true := decide_eq_true g4
        clear g2 g3
        go_wp2_with fail
        go_ret
        exact ⟨rfl, b6⟩
end Go.Proofs.Ytihheanjlabioaa.leastLater
