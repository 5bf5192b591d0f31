/- XmpSlow: the walk. -/
import Derived.Test.YtookmfgnhflpaaaXmAwake
import Derived.Test.YtookmfgnhflpaaaXmMath
import Derived.Deep.QuietTactic
import Derived.BigQuiet
import Derived.IntWalk
import Derived.Deep.AppendLies
namespace Go.Proofs.Ytookmfgnhflpaaa.xmpSlow
open Go.RowKit
set_option linter.unusedVariables false
set_option linter.unusedSimpArgs false

set_option maxRecDepth 100000 in
set_option maxHeartbeats 16000000 in
theorem walk (c t a b : Int) (mss most : Int) (w : World) :
    Calls Try.prog 6 #[.agg #[.int .i64 c, .int .i64 t], .int .i64 a, .int .i64 b, .int .i64 mss, .int .i64 most] w fun e w' => e = .returned (.bool true) ∧ Below w.heap.size w w' := by
  obtain ⟨B, hB⟩ : ∃ B, w.heap.size = B := ⟨_, rfl⟩
  rw [hB]
  have e0 := Bx.new w 23 [.int .i64 c, .int .i64 t]
  rw [hB] at e0
  have b0 : Below B w (w.alloc (.cells #[.int .i64 c, .int .i64 t] 23)) := by rw [← hB]; exact (Below.refl _ _).alloc (Nat.le_refl _) _
  go_enter Try.func6, Try.ntmps6
  go_wp2_with fail
  generalize w.alloc (.cells #[.int .i64 c, .int .i64 t] 23) = w1 at e0 b0 ⊢
  clear hB
  refine (xmawake_any _).mono ?_
  rintro e w2 ⟨rfl, hb2⟩
  have e2 := e0.kept hb2; have b2 := b0.trans (hb2.mono (Nat.le_of_lt e0.lt))
  clear e0 b0 hb2
  obtain ⟨q, hq⟩ : ∃ q, xmB c t mss most = q := ⟨_, rfl⟩
  have HXM := Lib.hid hq
  clear hq
  have xe0 := e2.cell 0 rfl; have xe1 := e2.cell 1 rfl
  go_wp2_with fail
  clear xe0 xe1
  refine (xwmay_any c t mss most _).mono ?_
  rintro e w3 ⟨rfl, hb3⟩
  rw [HXM.out]
  have e3 := (e2.kept hb3)
  have b3 := b2.trans (hb3.mono (Nat.le_of_lt e2.lt))
  clear e2 b2 hb3
  cases q with
  | false =>
    go_wp2_with fail
    go_ret
    exact ⟨rfl, b3⟩
  | true =>
  by_cases c0 : a < 0
  case pos =>
    have d0 : decide (a < 0) = true := decide_eq_true c0
    go_wp2_with fail
    go_ret
    exact ⟨rfl, b3⟩
  case neg =>
  have d0 : decide (a < 0) = false := decide_eq_false c0
  by_cases c1 : b < 0
  case pos =>
    have d1 : decide (b < 0) = true := decide_eq_true c1
    go_wp2_with fail
    go_ret
    exact ⟨rfl, b3⟩
  case neg =>
  have d1 : decide (b < 0) = false := decide_eq_false c1
  by_cases c2 : 1000000000 < a
  case pos =>
    have d2 : decide (1000000000 < a) = true := decide_eq_true c2
    go_wp2_with fail
    go_ret
    exact ⟨rfl, b3⟩
  case neg =>
  have d2 : decide (1000000000 < a) = false := decide_eq_false c2
  by_cases c3 : 1000000000 < b
  case pos =>
    have d3 : decide (1000000000 < b) = true := decide_eq_true c3
    go_wp2_with fail
    go_ret
    exact ⟨rfl, b3⟩
  case neg =>
  have d3 : decide (1000000000 < b) = false := decide_eq_false c3
  obtain ⟨xa, hA, hAB, ya, hY, hyc⟩ := slow_two (c := c) (t := t) (a := a) (b := b) HXM.out (by omega) (by omega) (by omega) (by omega)
  obtain ⟨ra, hR, hrc⟩ := rnd_below (c := c) (t := t) (mss := mss) (most := most) HXM.out
  rw [hY] at hAB
  have AA := Lib.hid hA; have AB := Lib.hid hAB; have AY := Lib.hid hY; have AR := Lib.hid hR; have HYC := Lib.hid hyc; have HRC := Lib.hid hrc
  have iw : IntKind.i64.wrap (a + b) = a + b := IntWalk.i64_in _ (by omega)
  clear hA hAB hY hR hyc hrc c0 c1 c2 c3
  go_upto_region 4 with fail
  go_wp2_with (first | (refine xw_load rfl (.tmp 5) rfl rfl e3 rfl ?_))
  refine (xwslow_any c t a mss most _).mono ?_
  rintro e u3 ⟨he, hb4⟩
  rw [AA.out] at he
  dsimp only at he
  subst he
  have e4 := (e3.kept hb4).alloc (.cells #[.int .i64 xa, .int .i64 t] 23)
  have b4 := (b3.trans (hb4.mono (Nat.le_of_lt e3.lt))).alloc (Nat.le_of_lt (e3.kept hb4).lt) (.cells #[.int .i64 xa, .int .i64 t] 23)
  have f4 := Bx.new u3 23 [.int .i64 xa, .int .i64 t]
  have elt : B < u3.heap.size := (e3.kept hb4).lt
  clear e3 b3 hb4
  go_upto_region 5 with fail
  obtain ⟨Qf, hQ⟩ : ∃ Q, u3.heap.size = Q := ⟨_, rfl⟩
  rw [hQ] at f4 ⊢
  generalize u3.alloc (.cells #[.int .i64 xa, .int .i64 t] 23) = w4 at e4 b4 f4 ⊢
  have hltf : B < Qf := by rw [← hQ]; exact Nat.lt_of_lt_of_le elt (Nat.le_refl _)
  clear hQ
  go_wp2_with (first | (refine xw_load rfl (.tmp 5) rfl rfl e4 rfl ?_) | (refine xw_load rfl (.tmp 12) rfl rfl f4 rfl ?_))
  refine (xwslow_any xa t b mss most _).mono ?_
  rintro e u4 ⟨he, hb5⟩
  rw [AB.out] at he
  dsimp only at he
  subst he
  have e5 := e4.kept hb5; have f5 := f4.kept hb5; have b5 := b4.trans (hb5.mono (Nat.le_of_lt e4.lt))
  clear e4 f4 b4 hb5
  go_upto_region 6 with (refine xw_store rfl (.tmp 12) (.tmp 60) rfl rfl [.int .i64 ya, .int .i64 t] rfl f5 rfl rfl rfl ?_)
  have e6 := e5.grown (xw_grown u4 Qf #[.int .i64 ya, .int .i64 t]) (fun h => by cases h; omega)
  have f6 := xw_put f5 [.int .i64 ya, .int .i64 t]
  have b6 := b5.grown (xw_grown u4 Qf #[.int .i64 ya, .int .i64 t]) (Nat.le_of_lt e5.lt) (fun k h => by cases h; omega)
  clear e5 f5 b5
  generalize u4.setRow Qf [.int .i64 ya, .int .i64 t].toArray = w6 at e6 f6 b6 ⊢
  go_wp2_with (first | (refine xw_load rfl (.tmp 5) rfl rfl e6 rfl ?_) | (refine xw_load rfl (.tmp 12) rfl rfl f6 rfl ?_))
  refine (xwslow_any c t (a + b) mss most _).mono ?_
  rintro e u6 ⟨he, hb7⟩
  rw [AY.out] at he
  dsimp only at he
  subst he
  have e7 := (e6.kept hb7).alloc (.cells #[.int .i64 ya, .int .i64 t] 23)
  have f7 := (f6.kept hb7).alloc (.cells #[.int .i64 ya, .int .i64 t] 23)
  have b7 := (b6.trans (hb7.mono (Nat.le_of_lt e6.lt))).alloc (Nat.le_of_lt (e6.kept hb7).lt) (.cells #[.int .i64 ya, .int .i64 t] 23)
  have g7 := Bx.new u6 23 [.int .i64 ya, .int .i64 t]
  clear e6 b6 f6 hb7
  go_upto_region 7 with fail
  obtain ⟨Qg, hQ⟩ : ∃ Q, u6.heap.size = Q := ⟨_, rfl⟩
  rw [hQ] at g7 ⊢
  generalize u6.alloc (.cells #[.int .i64 ya, .int .i64 t] 23) = w7 at e7 b7 f7 g7 ⊢
  clear hQ
  go_wp2_with (first | (refine xw_load rfl (.tmp 5) rfl rfl e7 rfl ?_) | (refine xw_load rfl (.tmp 12) rfl rfl f7 rfl ?_) | (refine xw_load rfl (.tmp 15) rfl rfl g7 rfl ?_))
  refine (xwround_any c t mss mss most _).mono ?_
  rintro e u7 ⟨he, hb8⟩
  rw [AR.out] at he
  dsimp only at he
  subst he
  have e8 := (e7.kept hb8).alloc (.cells #[.int .i64 ra, .int .i64 t] 23)
  have f8 := (f7.kept hb8).alloc (.cells #[.int .i64 ra, .int .i64 t] 23)
  have g8 := (g7.kept hb8).alloc (.cells #[.int .i64 ra, .int .i64 t] 23)
  have b8 := (b7.trans (hb8.mono (Nat.le_of_lt e7.lt))).alloc (Nat.le_of_lt (e7.kept hb8).lt) (.cells #[.int .i64 ra, .int .i64 t] 23)
  have h8 := Bx.new u7 23 [.int .i64 ra, .int .i64 t]
  clear e7 b7 f7 g7 hb8
  go_upto_region 8 with fail
  obtain ⟨Qh, hQ⟩ : ∃ Q, u7.heap.size = Q := ⟨_, rfl⟩
  rw [hQ] at h8 ⊢
  generalize u7.alloc (.cells #[.int .i64 ra, .int .i64 t] 23) = w8 at e8 b8 f8 g8 h8 ⊢
  clear hQ
  have xe0 := e8.cell 0 rfl; have xe1 := e8.cell 1 rfl
  have xf0 := f8.cell 0 rfl; have xf1 := f8.cell 1 rfl
  have xg0 := g8.cell 0 rfl; have xg1 := g8.cell 1 rfl
  have xh0 := h8.cell 0 rfl; have xh1 := h8.cell 1 rfl
  by_cases k : c < t
  case pos =>
    have dk : decide (c < t) = true := decide_eq_true k
    obtain rfl : ra = c := HRC.out k
    go_wp2_with fail
    go_ret
    exact ⟨rfl, b8⟩
  case neg =>
    have dk : decide (c < t) = false := decide_eq_false k
    obtain rfl : ya = c := HYC.out (by omega)
    go_wp2_with fail
    go_ret
    exact ⟨rfl, b8⟩
end Go.Proofs.Ytookmfgnhflpaaa.xmpSlow
