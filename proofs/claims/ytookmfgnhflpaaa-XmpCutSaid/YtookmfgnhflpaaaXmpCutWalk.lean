/- XmpCut: the walk. -/
import Derived.Test.YtookmfgnhflpaaaXmAwake
import Derived.Test.YtookmfgnhflpaaaXmMath
import Derived.Deep.QuietTactic
import Derived.BigQuiet
import Derived.IntWalk
import Derived.Deep.AppendLies
namespace Go.Proofs.Ytookmfgnhflpaaa.xmpCut
open Go.RowKit
set_option linter.unusedVariables false
set_option linter.unusedSimpArgs false

set_option maxRecDepth 100000 in
set_option maxHeartbeats 16000000 in
theorem walk (c t part more : Int) (mss most : Int) (w : World) :
    Calls Try.prog 7 #[.agg #[.int .i64 c, .int .i64 t], .int .i64 part, .int .i64 more, .int .i64 mss, .int .i64 most] w fun e w' => e = .returned (.bool true) ∧ Below w.heap.size w w' := by
  obtain ⟨B, hB⟩ : ∃ B, w.heap.size = B := ⟨_, rfl⟩
  rw [hB]
  have e0 := Bx.new w 23 [.int .i64 c, .int .i64 t]
  rw [hB] at e0
  have b0 : Below B w (w.alloc (.cells #[.int .i64 c, .int .i64 t] 23)) := by rw [← hB]; exact (Below.refl _ _).alloc (Nat.le_refl _) _
  go_enter Try.func7, Try.ntmps7
  go_wp2_with fail
  generalize w.alloc (.cells #[.int .i64 c, .int .i64 t] 23) = w1 at e0 b0 ⊢
  clear hB
  refine (xmawake_any _).mono ?_
  rintro e w2 ⟨rfl, hb2⟩
  have e2 := e0.kept hb2; have b2 := b0.trans (hb2.mono (Nat.le_of_lt e0.lt))
  clear e0 b0 hb2
  obtain ⟨q, hq⟩ : ∃ q, xmB c t mss most = q := ⟨_, rfl⟩
  have HXM := Lib.hid hq
  clear hq
  have xe0 := e2.cell 0 rfl; have xe1 := e2.cell 1 rfl
  go_wp2_with fail
  clear xe0 xe1
  refine (xwmay_any c t mss most _).mono ?_
  rintro e w3 ⟨rfl, hb3⟩
  rw [HXM.out]
  have e3 := (e2.kept hb3)
  have b3 := b2.trans (hb3.mono (Nat.le_of_lt e2.lt))
  clear e2 b2 hb3
  cases q with
  | false =>
    go_wp2_with fail
    go_ret
    exact ⟨rfl, b3⟩
  | true =>
  by_cases c0 : part < 0
  case pos =>
    have d0 : decide (part < 0) = true := decide_eq_true c0
    go_wp2_with fail
    go_ret
    exact ⟨rfl, b3⟩
  case neg =>
  have d0 : decide (part < 0) = false := decide_eq_false c0
  by_cases c1 : more < 0
  case pos =>
    have d1 : decide (more < 0) = true := decide_eq_true c1
    go_wp2_with fail
    go_ret
    exact ⟨rfl, b3⟩
  case neg =>
  have d1 : decide (more < 0) = false := decide_eq_false c1
  by_cases c2 : 1024 < part
  case pos =>
    have d2 : decide (1024 < part) = true := decide_eq_true c2
    go_wp2_with fail
    go_ret
    exact ⟨rfl, b3⟩
  case neg =>
  have d2 : decide (1024 < part) = false := decide_eq_false c2
  have iw0 : IntKind.i64.wrap (1024 - part) = 1024 - part := IntWalk.i64_in _ (by omega)
  by_cases c3 : 1024 - part < more
  case pos =>
    have d3 : decide (1024 - part < more) = true := decide_eq_true c3
    go_wp2_with fail
    go_ret
    exact ⟨rfl, b3⟩
  case neg =>
  have d3 : decide (1024 - part < more) = false := decide_eq_false c3
  obtain ⟨za, hA, va0, va1, va2, va3, va4⟩ := cut_facts (t := t) (b := part) HXM.out (by omega) (by omega)
  obtain ⟨zb, hB, vb0, vb1, vb2, vb3, vb4⟩ := cut_facts (t := t) (b := part + more) HXM.out (by omega) (by omega)
  obtain ⟨zc, hC, vc0, vc1, vc2, vc3, vc4⟩ := cut_facts (t := za) (b := part) va3 (by omega) (by omega)
  obtain ⟨la, lb, hL, vl0, vl1, vl2⟩ := loss_facts (all := true) HXM.out
  have hvv := (xmB_iff c t mss most).1 HXM.out
  have hvc := (xmB_iff zc zc mss most).1 vc3
  have hmo := cut_more (c := c) (a := part) (b := more) (mss := mss) (by omega) (by omega) (by omega)
  have dz0 : decide (zb ≤ za) = true := decide_eq_true (by rw [va4, vb4]; exact hmo)
  have dz1 : decide (zc ≤ za) = true := decide_eq_true vc0
  have hlm : la = mss := vl1 rfl
  have dz2 : decide (mss ≤ zc) = true := decide_eq_true (by omega)
  subst hlm
  have AA := Lib.hid hA; have AB := Lib.hid hB; have AC := Lib.hid hC; have AL := Lib.hid hL
  have iw : IntKind.i64.wrap (part + more) = part + more := IntWalk.i64_in _ (by omega)
  clear hA hB hC hL va0 va1 va2 va3 va4 vb0 vb1 vb2 vb3 vb4 vc0 vc1 vc2 vc3 vc4 vl0 vl1 vl2 hvv hvc hmo c0 c1 c2 c3
  go_upto_region 4 with fail
  go_wp2_with (first | (refine xw_load rfl (.tmp 5) rfl rfl e3 rfl ?_))
  refine (xwcut_any c t part la most _).mono ?_
  rintro e u3 ⟨he, hb4⟩
  rw [AA.out] at he
  dsimp only at he
  subst he
  have e4 := (e3.kept hb4).alloc (.cells #[.int .i64 za, .int .i64 za] 23)
  have b4 := (b3.trans (hb4.mono (Nat.le_of_lt e3.lt))).alloc (Nat.le_of_lt (e3.kept hb4).lt) (.cells #[.int .i64 za, .int .i64 za] 23)
  have f4 := Bx.new u3 23 [.int .i64 za, .int .i64 za]
  clear e3 b3 hb4
  go_upto_region 5 with fail
  obtain ⟨Qf, hQ⟩ : ∃ Q, u3.heap.size = Q := ⟨_, rfl⟩
  rw [hQ] at f4 ⊢
  generalize u3.alloc (.cells #[.int .i64 za, .int .i64 za] 23) = w4 at e4 b4 f4 ⊢
  clear hQ
  go_wp2_with (first | (refine xw_load rfl (.tmp 5) rfl rfl e4 rfl ?_) | (refine xw_load rfl (.tmp 12) rfl rfl f4 rfl ?_))
  refine (xwcut_any c t (part + more) la most _).mono ?_
  rintro e u4 ⟨he, hb5⟩
  rw [AB.out] at he
  dsimp only at he
  subst he
  have e5 := (e4.kept hb5).alloc (.cells #[.int .i64 zb, .int .i64 zb] 23)
  have f5 := (f4.kept hb5).alloc (.cells #[.int .i64 zb, .int .i64 zb] 23)
  have b5 := (b4.trans (hb5.mono (Nat.le_of_lt e4.lt))).alloc (Nat.le_of_lt (e4.kept hb5).lt) (.cells #[.int .i64 zb, .int .i64 zb] 23)
  have g5 := Bx.new u4 23 [.int .i64 zb, .int .i64 zb]
  clear e4 b4 f4 hb5
  go_upto_region 6 with fail
  obtain ⟨Qg, hQ⟩ : ∃ Q, u4.heap.size = Q := ⟨_, rfl⟩
  rw [hQ] at g5 ⊢
  generalize u4.alloc (.cells #[.int .i64 zb, .int .i64 zb] 23) = w5 at e5 b5 f5 g5 ⊢
  clear hQ
  go_wp2_with (first | (refine xw_load rfl (.tmp 5) rfl rfl e5 rfl ?_) | (refine xw_load rfl (.tmp 12) rfl rfl f5 rfl ?_) | (refine xw_load rfl (.tmp 14) rfl rfl g5 rfl ?_))
  refine (xwcut_any za za part la most _).mono ?_
  rintro e u5 ⟨he, hb6⟩
  rw [AC.out] at he
  dsimp only at he
  subst he
  have e6 := (e5.kept hb6).alloc (.cells #[.int .i64 zc, .int .i64 zc] 23)
  have f6 := (f5.kept hb6).alloc (.cells #[.int .i64 zc, .int .i64 zc] 23)
  have g6 := (g5.kept hb6).alloc (.cells #[.int .i64 zc, .int .i64 zc] 23)
  have b6 := (b5.trans (hb6.mono (Nat.le_of_lt e5.lt))).alloc (Nat.le_of_lt (e5.kept hb6).lt) (.cells #[.int .i64 zc, .int .i64 zc] 23)
  have h6 := Bx.new u5 23 [.int .i64 zc, .int .i64 zc]
  clear e5 b5 f5 g5 hb6
  go_upto_region 7 with fail
  obtain ⟨Qh, hQ⟩ : ∃ Q, u5.heap.size = Q := ⟨_, rfl⟩
  rw [hQ] at h6 ⊢
  generalize u5.alloc (.cells #[.int .i64 zc, .int .i64 zc] 23) = w6 at e6 b6 f6 g6 h6 ⊢
  clear hQ
  go_wp2_with (first | (refine xw_load rfl (.tmp 5) rfl rfl e6 rfl ?_) | (refine xw_load rfl (.tmp 12) rfl rfl f6 rfl ?_) | (refine xw_load rfl (.tmp 14) rfl rfl g6 rfl ?_) | (refine xw_load rfl (.tmp 16) rfl rfl h6 rfl ?_))
  refine (xwloss_any c t true la most _).mono ?_
  rintro e u6 ⟨he, hb7⟩
  rw [AL.out] at he
  dsimp only at he
  subst he
  have e7 := (e6.kept hb7).alloc (.cells #[.int .i64 la, .int .i64 lb] 23)
  have f7 := (f6.kept hb7).alloc (.cells #[.int .i64 la, .int .i64 lb] 23)
  have g7 := (g6.kept hb7).alloc (.cells #[.int .i64 la, .int .i64 lb] 23)
  have h7 := (h6.kept hb7).alloc (.cells #[.int .i64 la, .int .i64 lb] 23)
  have b7 := (b6.trans (hb7.mono (Nat.le_of_lt e6.lt))).alloc (Nat.le_of_lt (e6.kept hb7).lt) (.cells #[.int .i64 la, .int .i64 lb] 23)
  have k7 := Bx.new u6 23 [.int .i64 la, .int .i64 lb]
  clear e6 b6 f6 g6 h6 hb7
  go_upto_region 8 with fail
  obtain ⟨Qk, hQ⟩ : ∃ Q, u6.heap.size = Q := ⟨_, rfl⟩
  rw [hQ] at k7 ⊢
  generalize u6.alloc (.cells #[.int .i64 la, .int .i64 lb] 23) = w7 at e7 b7 f7 g7 h7 k7 ⊢
  clear hQ
  have xe0 := e7.cell 0 rfl; have xe1 := e7.cell 1 rfl
  have xf0 := f7.cell 0 rfl; have xf1 := f7.cell 1 rfl
  have xg0 := g7.cell 0 rfl; have xg1 := g7.cell 1 rfl
  have xh0 := h7.cell 0 rfl; have xh1 := h7.cell 1 rfl
  have xk0 := k7.cell 0 rfl; have xk1 := k7.cell 1 rfl
  go_wp2_with fail
  go_ret
  exact ⟨rfl, b7⟩
end Go.Proofs.Ytookmfgnhflpaaa.xmpCut
