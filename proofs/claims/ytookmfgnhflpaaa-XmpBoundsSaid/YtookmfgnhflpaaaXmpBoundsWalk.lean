/- XmpBounds: the walk. -/
import Derived.Test.YtookmfgnhflpaaaXmAwake
import Derived.Test.YtookmfgnhflpaaaXmMath
import Derived.Deep.QuietTactic
import Derived.BigQuiet
import Derived.IntWalk
import Derived.Deep.AppendLies
namespace Go.Proofs.Ytookmfgnhflpaaa.xmpBounds
open Go.RowKit
set_option linter.unusedVariables false
set_option linter.unusedSimpArgs false

set_option maxRecDepth 100000 in
set_option maxHeartbeats 16000000 in
theorem walk (c t n : Int) (all : Bool) (mss most : Int) (w : World) :
    Calls Try.prog 4 #[.agg #[.int .i64 c, .int .i64 t], .int .i64 n, .bool all, .int .i64 mss, .int .i64 most] w fun e w' => e = .returned (.bool true) ∧ Below w.heap.size w w' := by
  obtain ⟨B, hB⟩ : ∃ B, w.heap.size = B := ⟨_, rfl⟩
  rw [hB]
  have e0 := Bx.new w 23 [.int .i64 c, .int .i64 t]
  rw [hB] at e0
  have b0 : Below B w (w.alloc (.cells #[.int .i64 c, .int .i64 t] 23)) := by rw [← hB]; exact (Below.refl _ _).alloc (Nat.le_refl _) _
  go_enter Try.func4, Try.ntmps4
  go_wp2_with fail
  generalize w.alloc (.cells #[.int .i64 c, .int .i64 t] 23) = w1 at e0 b0 ⊢
  clear hB
  refine (xmawake_any _).mono ?_
  rintro e w2 ⟨rfl, hb2⟩
  have e2 := e0.kept hb2; have b2 := b0.trans (hb2.mono (Nat.le_of_lt e0.lt))
  clear e0 b0 hb2
  obtain ⟨q, hq⟩ : ∃ q, xmB c t mss most = q := ⟨_, rfl⟩
  have HXM := Lib.hid hq
  clear hq
  have xe0 := e2.cell 0 rfl; have xe1 := e2.cell 1 rfl
  go_wp2_with fail
  clear xe0 xe1
  refine (xwmay_any c t mss most _).mono ?_
  rintro e w3 ⟨rfl, hb3⟩
  rw [HXM.out]
  have e3 := (e2.kept hb3)
  have b3 := b2.trans (hb3.mono (Nat.le_of_lt e2.lt))
  clear e2 b2 hb3
  cases q with
  | false =>
    go_wp2_with fail
    go_ret
    exact ⟨rfl, b3⟩
  | true =>
  have hvv := (xmB_iff c t mss most).1 HXM.out
  have HVV := Lib.hid hvv; clear hvv
  have hm : mss ≤ 1460 := HVV.out.2.1
  by_cases z5 : n < 0
  case pos =>
    have AS : Hid (slowR c t n mss most = (0, 0, 1)) := Lib.hid (slow_no (fun h => by have h1 := h.2; omega))
    have AR : Hid (rndR c t n mss most = (0, 0, 1)) := Lib.hid (rnd_no (fun h => by have h1 := h.2; omega))
    have AC : Hid (cutR c t n mss most = (0, 0, 1)) := Lib.hid (cut_no (fun h => by have h1 := h.2; omega))
    obtain ⟨la, lb, hL, vl0, vl1, vl2⟩ := loss_facts (all := all) HXM.out
    have AL := Lib.hid hL; have HVL := Lib.hid vl2; clear hL vl2
    go_upto_region 4 with fail
    go_wp2_with (first | (refine xw_load rfl (.tmp 5) rfl rfl e3 rfl ?_))
    refine (xwslow_any c t n mss most _).mono ?_
    rintro e u3 ⟨he, hb4⟩
    rw [AS.out] at he
    dsimp only at he
    subst he
    have e4 := (e3.kept hb4).alloc (.cells #[.int .i64 0, .int .i64 0] 23)
    have b4 := (b3.trans (hb4.mono (Nat.le_of_lt e3.lt))).alloc (Nat.le_of_lt (e3.kept hb4).lt) (.cells #[.int .i64 0, .int .i64 0] 23)
    have f4 := Bx.new u3 23 [.int .i64 0, .int .i64 0]
    clear e3 b3 hb4
    go_upto_region 5 with fail
    obtain ⟨Qf, hQ⟩ : ∃ Q, u3.heap.size = Q := ⟨_, rfl⟩
    rw [hQ] at f4 ⊢
    generalize u3.alloc (.cells #[.int .i64 0, .int .i64 0] 23) = w4 at e4 b4 f4 ⊢
    clear hQ
    go_wp2_with (first | (refine xw_load rfl (.tmp 5) rfl rfl e4 rfl ?_) | (refine xw_load rfl (.tmp 12) rfl rfl f4 rfl ?_))
    refine (xwround_any c t n mss most _).mono ?_
    rintro e u4 ⟨he, hb5⟩
    rw [AR.out] at he
    dsimp only at he
    subst he
    have e5 := (e4.kept hb5).alloc (.cells #[.int .i64 0, .int .i64 0] 23)
    have f5 := (f4.kept hb5).alloc (.cells #[.int .i64 0, .int .i64 0] 23)
    have b5 := (b4.trans (hb5.mono (Nat.le_of_lt e4.lt))).alloc (Nat.le_of_lt (e4.kept hb5).lt) (.cells #[.int .i64 0, .int .i64 0] 23)
    have g5 := Bx.new u4 23 [.int .i64 0, .int .i64 0]
    clear e4 b4 f4 hb5
    go_upto_region 6 with fail
    obtain ⟨Qg, hQ⟩ : ∃ Q, u4.heap.size = Q := ⟨_, rfl⟩
    rw [hQ] at g5 ⊢
    generalize u4.alloc (.cells #[.int .i64 0, .int .i64 0] 23) = w5 at e5 b5 f5 g5 ⊢
    clear hQ
    go_wp2_with (first | (refine xw_load rfl (.tmp 5) rfl rfl e5 rfl ?_) | (refine xw_load rfl (.tmp 12) rfl rfl f5 rfl ?_) | (refine xw_load rfl (.tmp 14) rfl rfl g5 rfl ?_))
    refine (xwcut_any c t n mss most _).mono ?_
    rintro e u5 ⟨he, hb6⟩
    rw [AC.out] at he
    dsimp only at he
    subst he
    have e6 := (e5.kept hb6).alloc (.cells #[.int .i64 0, .int .i64 0] 23)
    have f6 := (f5.kept hb6).alloc (.cells #[.int .i64 0, .int .i64 0] 23)
    have g6 := (g5.kept hb6).alloc (.cells #[.int .i64 0, .int .i64 0] 23)
    have b6 := (b5.trans (hb6.mono (Nat.le_of_lt e5.lt))).alloc (Nat.le_of_lt (e5.kept hb6).lt) (.cells #[.int .i64 0, .int .i64 0] 23)
    have h6 := Bx.new u5 23 [.int .i64 0, .int .i64 0]
    clear e5 b5 f5 g5 hb6
    go_upto_region 7 with fail
    obtain ⟨Qh, hQ⟩ : ∃ Q, u5.heap.size = Q := ⟨_, rfl⟩
    rw [hQ] at h6 ⊢
    generalize u5.alloc (.cells #[.int .i64 0, .int .i64 0] 23) = w6 at e6 b6 f6 g6 h6 ⊢
    clear hQ
    go_wp2_with (first | (refine xw_load rfl (.tmp 5) rfl rfl e6 rfl ?_) | (refine xw_load rfl (.tmp 12) rfl rfl f6 rfl ?_) | (refine xw_load rfl (.tmp 14) rfl rfl g6 rfl ?_) | (refine xw_load rfl (.tmp 16) rfl rfl h6 rfl ?_))
    refine (xwloss_any c t all mss most _).mono ?_
    rintro e u6 ⟨he, hb7⟩
    rw [AL.out] at he
    dsimp only at he
    subst he
    have e7 := (e6.kept hb7).alloc (.cells #[.int .i64 la, .int .i64 lb] 23)
    have f7 := (f6.kept hb7).alloc (.cells #[.int .i64 la, .int .i64 lb] 23)
    have g7 := (g6.kept hb7).alloc (.cells #[.int .i64 la, .int .i64 lb] 23)
    have h7 := (h6.kept hb7).alloc (.cells #[.int .i64 la, .int .i64 lb] 23)
    have b7 := (b6.trans (hb7.mono (Nat.le_of_lt e6.lt))).alloc (Nat.le_of_lt (e6.kept hb7).lt) (.cells #[.int .i64 la, .int .i64 lb] 23)
    have k7 := Bx.new u6 23 [.int .i64 la, .int .i64 lb]
    clear e6 b6 f6 g6 h6 hb7
    go_upto_region 8 with fail
    obtain ⟨Qk, hQ⟩ : ∃ Q, u6.heap.size = Q := ⟨_, rfl⟩
    rw [hQ] at k7 ⊢
    generalize u6.alloc (.cells #[.int .i64 la, .int .i64 lb] 23) = w7 at e7 b7 f7 g7 h7 k7 ⊢
    clear hQ
    have dl0 : decide (la ≤ lb) = true := decide_eq_true vl0
    have dl1 : all = true → (la == mss) = true := fun h => by simpa using vl1 h
    have DL1 := Lib.hid dl1
    clear vl0 vl1 dl1
    have vx := (xmB_iff _ _ _ _).1 HXM.out
    obtain ⟨w0, w1, w3, w4, w5, w6, w7, w8⟩ := vx
    have xe0 := e7.cell 0 rfl; have xe1 := e7.cell 1 rfl
    have xf0 := f7.cell 0 rfl; have xf1 := f7.cell 1 rfl
    have xg0 := g7.cell 0 rfl; have xg1 := g7.cell 1 rfl
    have xh0 := h7.cell 0 rfl; have xh1 := h7.cell 1 rfl
    have xk0 := k7.cell 0 rfl; have xk1 := k7.cell 1 rfl
    go_wp2_with fail
    clear xe0 xe1 xf0 xf1 xg0 xg1 xh0 xh1 xk0 xk1
    refine (xwmay_any la lb mss most _).mono ?_
    rintro e w8 ⟨rfl, hb8⟩
    rw [HVL.out]
    have e8 := (e7.kept hb8)
    have f8 := (f7.kept hb8)
    have g8 := (g7.kept hb8)
    have h8 := (h7.kept hb8)
    have k8 := (k7.kept hb8)
    have b8 := b7.trans (hb8.mono (Nat.le_of_lt e7.lt))
    clear e7 b7 f7 g7 h7 k7 hb8
    have xe0 := e8.cell 0 rfl; have xe1 := e8.cell 1 rfl
    have xf0 := f8.cell 0 rfl; have xf1 := f8.cell 1 rfl
    have xg0 := g8.cell 0 rfl; have xg1 := g8.cell 1 rfl
    have xh0 := h8.cell 0 rfl; have xh1 := h8.cell 1 rfl
    have xk0 := k8.cell 0 rfl; have xk1 := k8.cell 1 rfl
    cases all with
    | false =>
      go_wp2_with fail
      go_ret
      exact ⟨rfl, b8⟩
    | true =>
      have dl2 := DL1.out rfl
      go_wp2_with fail
      go_ret
      exact ⟨rfl, b8⟩
  case neg =>
  by_cases z4 : 1099511627776 < n
  case pos =>
    have AS : Hid (slowR c t n mss most = (0, 0, 1)) := Lib.hid (slow_no (fun h => by have h1 := h.2; omega))
    have AR : Hid (rndR c t n mss most = (0, 0, 1)) := Lib.hid (rnd_no (fun h => by have h1 := h.2; omega))
    have AC : Hid (cutR c t n mss most = (0, 0, 1)) := Lib.hid (cut_no (fun h => by have h1 := h.2; omega))
    obtain ⟨la, lb, hL, vl0, vl1, vl2⟩ := loss_facts (all := all) HXM.out
    have AL := Lib.hid hL; have HVL := Lib.hid vl2; clear hL vl2
    go_upto_region 4 with fail
    go_wp2_with (first | (refine xw_load rfl (.tmp 5) rfl rfl e3 rfl ?_))
    refine (xwslow_any c t n mss most _).mono ?_
    rintro e u3 ⟨he, hb4⟩
    rw [AS.out] at he
    dsimp only at he
    subst he
    have e4 := (e3.kept hb4).alloc (.cells #[.int .i64 0, .int .i64 0] 23)
    have b4 := (b3.trans (hb4.mono (Nat.le_of_lt e3.lt))).alloc (Nat.le_of_lt (e3.kept hb4).lt) (.cells #[.int .i64 0, .int .i64 0] 23)
    have f4 := Bx.new u3 23 [.int .i64 0, .int .i64 0]
    clear e3 b3 hb4
    go_upto_region 5 with fail
    obtain ⟨Qf, hQ⟩ : ∃ Q, u3.heap.size = Q := ⟨_, rfl⟩
    rw [hQ] at f4 ⊢
    generalize u3.alloc (.cells #[.int .i64 0, .int .i64 0] 23) = w4 at e4 b4 f4 ⊢
    clear hQ
    go_wp2_with (first | (refine xw_load rfl (.tmp 5) rfl rfl e4 rfl ?_) | (refine xw_load rfl (.tmp 12) rfl rfl f4 rfl ?_))
    refine (xwround_any c t n mss most _).mono ?_
    rintro e u4 ⟨he, hb5⟩
    rw [AR.out] at he
    dsimp only at he
    subst he
    have e5 := (e4.kept hb5).alloc (.cells #[.int .i64 0, .int .i64 0] 23)
    have f5 := (f4.kept hb5).alloc (.cells #[.int .i64 0, .int .i64 0] 23)
    have b5 := (b4.trans (hb5.mono (Nat.le_of_lt e4.lt))).alloc (Nat.le_of_lt (e4.kept hb5).lt) (.cells #[.int .i64 0, .int .i64 0] 23)
    have g5 := Bx.new u4 23 [.int .i64 0, .int .i64 0]
    clear e4 b4 f4 hb5
    go_upto_region 6 with fail
    obtain ⟨Qg, hQ⟩ : ∃ Q, u4.heap.size = Q := ⟨_, rfl⟩
    rw [hQ] at g5 ⊢
    generalize u4.alloc (.cells #[.int .i64 0, .int .i64 0] 23) = w5 at e5 b5 f5 g5 ⊢
    clear hQ
    go_wp2_with (first | (refine xw_load rfl (.tmp 5) rfl rfl e5 rfl ?_) | (refine xw_load rfl (.tmp 12) rfl rfl f5 rfl ?_) | (refine xw_load rfl (.tmp 14) rfl rfl g5 rfl ?_))
    refine (xwcut_any c t n mss most _).mono ?_
    rintro e u5 ⟨he, hb6⟩
    rw [AC.out] at he
    dsimp only at he
    subst he
    have e6 := (e5.kept hb6).alloc (.cells #[.int .i64 0, .int .i64 0] 23)
    have f6 := (f5.kept hb6).alloc (.cells #[.int .i64 0, .int .i64 0] 23)
    have g6 := (g5.kept hb6).alloc (.cells #[.int .i64 0, .int .i64 0] 23)
    have b6 := (b5.trans (hb6.mono (Nat.le_of_lt e5.lt))).alloc (Nat.le_of_lt (e5.kept hb6).lt) (.cells #[.int .i64 0, .int .i64 0] 23)
    have h6 := Bx.new u5 23 [.int .i64 0, .int .i64 0]
    clear e5 b5 f5 g5 hb6
    go_upto_region 7 with fail
    obtain ⟨Qh, hQ⟩ : ∃ Q, u5.heap.size = Q := ⟨_, rfl⟩
    rw [hQ] at h6 ⊢
    generalize u5.alloc (.cells #[.int .i64 0, .int .i64 0] 23) = w6 at e6 b6 f6 g6 h6 ⊢
    clear hQ
    go_wp2_with (first | (refine xw_load rfl (.tmp 5) rfl rfl e6 rfl ?_) | (refine xw_load rfl (.tmp 12) rfl rfl f6 rfl ?_) | (refine xw_load rfl (.tmp 14) rfl rfl g6 rfl ?_) | (refine xw_load rfl (.tmp 16) rfl rfl h6 rfl ?_))
    refine (xwloss_any c t all mss most _).mono ?_
    rintro e u6 ⟨he, hb7⟩
    rw [AL.out] at he
    dsimp only at he
    subst he
    have e7 := (e6.kept hb7).alloc (.cells #[.int .i64 la, .int .i64 lb] 23)
    have f7 := (f6.kept hb7).alloc (.cells #[.int .i64 la, .int .i64 lb] 23)
    have g7 := (g6.kept hb7).alloc (.cells #[.int .i64 la, .int .i64 lb] 23)
    have h7 := (h6.kept hb7).alloc (.cells #[.int .i64 la, .int .i64 lb] 23)
    have b7 := (b6.trans (hb7.mono (Nat.le_of_lt e6.lt))).alloc (Nat.le_of_lt (e6.kept hb7).lt) (.cells #[.int .i64 la, .int .i64 lb] 23)
    have k7 := Bx.new u6 23 [.int .i64 la, .int .i64 lb]
    clear e6 b6 f6 g6 h6 hb7
    go_upto_region 8 with fail
    obtain ⟨Qk, hQ⟩ : ∃ Q, u6.heap.size = Q := ⟨_, rfl⟩
    rw [hQ] at k7 ⊢
    generalize u6.alloc (.cells #[.int .i64 la, .int .i64 lb] 23) = w7 at e7 b7 f7 g7 h7 k7 ⊢
    clear hQ
    have dl0 : decide (la ≤ lb) = true := decide_eq_true vl0
    have dl1 : all = true → (la == mss) = true := fun h => by simpa using vl1 h
    have DL1 := Lib.hid dl1
    clear vl0 vl1 dl1
    have vx := (xmB_iff _ _ _ _).1 HXM.out
    obtain ⟨w0, w1, w3, w4, w5, w6, w7, w8⟩ := vx
    have xe0 := e7.cell 0 rfl; have xe1 := e7.cell 1 rfl
    have xf0 := f7.cell 0 rfl; have xf1 := f7.cell 1 rfl
    have xg0 := g7.cell 0 rfl; have xg1 := g7.cell 1 rfl
    have xh0 := h7.cell 0 rfl; have xh1 := h7.cell 1 rfl
    have xk0 := k7.cell 0 rfl; have xk1 := k7.cell 1 rfl
    go_wp2_with fail
    clear xe0 xe1 xf0 xf1 xg0 xg1 xh0 xh1 xk0 xk1
    refine (xwmay_any la lb mss most _).mono ?_
    rintro e w8 ⟨rfl, hb8⟩
    rw [HVL.out]
    have e8 := (e7.kept hb8)
    have f8 := (f7.kept hb8)
    have g8 := (g7.kept hb8)
    have h8 := (h7.kept hb8)
    have k8 := (k7.kept hb8)
    have b8 := b7.trans (hb8.mono (Nat.le_of_lt e7.lt))
    clear e7 b7 f7 g7 h7 k7 hb8
    have xe0 := e8.cell 0 rfl; have xe1 := e8.cell 1 rfl
    have xf0 := f8.cell 0 rfl; have xf1 := f8.cell 1 rfl
    have xg0 := g8.cell 0 rfl; have xg1 := g8.cell 1 rfl
    have xh0 := h8.cell 0 rfl; have xh1 := h8.cell 1 rfl
    have xk0 := k8.cell 0 rfl; have xk1 := k8.cell 1 rfl
    cases all with
    | false =>
      go_wp2_with fail
      go_ret
      exact ⟨rfl, b8⟩
    | true =>
      have dl2 := DL1.out rfl
      go_wp2_with fail
      go_ret
      exact ⟨rfl, b8⟩
  case neg =>
  by_cases z3 : mss < n
  case pos =>
    by_cases z1 : 1024 < n
    case pos =>
      obtain ⟨sa, hS, vs0, vs1, vs2⟩ := slow_facts (t := t) (b := n) HXM.out (by omega) (by omega)
      have AS := Lib.hid hS; have HVS := Lib.hid vs2; clear hS vs2
      have AR : Hid (rndR c t n mss most = (0, 0, 1)) := Lib.hid (rnd_no (fun h => by have h1 := h.2; omega))
      have AC : Hid (cutR c t n mss most = (0, 0, 1)) := Lib.hid (cut_no (fun h => by have h1 := h.2; omega))
      obtain ⟨la, lb, hL, vl0, vl1, vl2⟩ := loss_facts (all := all) HXM.out
      have AL := Lib.hid hL; have HVL := Lib.hid vl2; clear hL vl2
      go_upto_region 4 with fail
      go_wp2_with (first | (refine xw_load rfl (.tmp 5) rfl rfl e3 rfl ?_))
      refine (xwslow_any c t n mss most _).mono ?_
      rintro e u3 ⟨he, hb4⟩
      rw [AS.out] at he
      dsimp only at he
      subst he
      have e4 := (e3.kept hb4).alloc (.cells #[.int .i64 sa, .int .i64 t] 23)
      have b4 := (b3.trans (hb4.mono (Nat.le_of_lt e3.lt))).alloc (Nat.le_of_lt (e3.kept hb4).lt) (.cells #[.int .i64 sa, .int .i64 t] 23)
      have f4 := Bx.new u3 23 [.int .i64 sa, .int .i64 t]
      clear e3 b3 hb4
      go_upto_region 5 with fail
      obtain ⟨Qf, hQ⟩ : ∃ Q, u3.heap.size = Q := ⟨_, rfl⟩
      rw [hQ] at f4 ⊢
      generalize u3.alloc (.cells #[.int .i64 sa, .int .i64 t] 23) = w4 at e4 b4 f4 ⊢
      clear hQ
      go_wp2_with (first | (refine xw_load rfl (.tmp 5) rfl rfl e4 rfl ?_) | (refine xw_load rfl (.tmp 12) rfl rfl f4 rfl ?_))
      refine (xwround_any c t n mss most _).mono ?_
      rintro e u4 ⟨he, hb5⟩
      rw [AR.out] at he
      dsimp only at he
      subst he
      have e5 := (e4.kept hb5).alloc (.cells #[.int .i64 0, .int .i64 0] 23)
      have f5 := (f4.kept hb5).alloc (.cells #[.int .i64 0, .int .i64 0] 23)
      have b5 := (b4.trans (hb5.mono (Nat.le_of_lt e4.lt))).alloc (Nat.le_of_lt (e4.kept hb5).lt) (.cells #[.int .i64 0, .int .i64 0] 23)
      have g5 := Bx.new u4 23 [.int .i64 0, .int .i64 0]
      clear e4 b4 f4 hb5
      go_upto_region 6 with fail
      obtain ⟨Qg, hQ⟩ : ∃ Q, u4.heap.size = Q := ⟨_, rfl⟩
      rw [hQ] at g5 ⊢
      generalize u4.alloc (.cells #[.int .i64 0, .int .i64 0] 23) = w5 at e5 b5 f5 g5 ⊢
      clear hQ
      go_wp2_with (first | (refine xw_load rfl (.tmp 5) rfl rfl e5 rfl ?_) | (refine xw_load rfl (.tmp 12) rfl rfl f5 rfl ?_) | (refine xw_load rfl (.tmp 14) rfl rfl g5 rfl ?_))
      refine (xwcut_any c t n mss most _).mono ?_
      rintro e u5 ⟨he, hb6⟩
      rw [AC.out] at he
      dsimp only at he
      subst he
      have e6 := (e5.kept hb6).alloc (.cells #[.int .i64 0, .int .i64 0] 23)
      have f6 := (f5.kept hb6).alloc (.cells #[.int .i64 0, .int .i64 0] 23)
      have g6 := (g5.kept hb6).alloc (.cells #[.int .i64 0, .int .i64 0] 23)
      have b6 := (b5.trans (hb6.mono (Nat.le_of_lt e5.lt))).alloc (Nat.le_of_lt (e5.kept hb6).lt) (.cells #[.int .i64 0, .int .i64 0] 23)
      have h6 := Bx.new u5 23 [.int .i64 0, .int .i64 0]
      clear e5 b5 f5 g5 hb6
      go_upto_region 7 with fail
      obtain ⟨Qh, hQ⟩ : ∃ Q, u5.heap.size = Q := ⟨_, rfl⟩
      rw [hQ] at h6 ⊢
      generalize u5.alloc (.cells #[.int .i64 0, .int .i64 0] 23) = w6 at e6 b6 f6 g6 h6 ⊢
      clear hQ
      go_wp2_with (first | (refine xw_load rfl (.tmp 5) rfl rfl e6 rfl ?_) | (refine xw_load rfl (.tmp 12) rfl rfl f6 rfl ?_) | (refine xw_load rfl (.tmp 14) rfl rfl g6 rfl ?_) | (refine xw_load rfl (.tmp 16) rfl rfl h6 rfl ?_))
      refine (xwloss_any c t all mss most _).mono ?_
      rintro e u6 ⟨he, hb7⟩
      rw [AL.out] at he
      dsimp only at he
      subst he
      have e7 := (e6.kept hb7).alloc (.cells #[.int .i64 la, .int .i64 lb] 23)
      have f7 := (f6.kept hb7).alloc (.cells #[.int .i64 la, .int .i64 lb] 23)
      have g7 := (g6.kept hb7).alloc (.cells #[.int .i64 la, .int .i64 lb] 23)
      have h7 := (h6.kept hb7).alloc (.cells #[.int .i64 la, .int .i64 lb] 23)
      have b7 := (b6.trans (hb7.mono (Nat.le_of_lt e6.lt))).alloc (Nat.le_of_lt (e6.kept hb7).lt) (.cells #[.int .i64 la, .int .i64 lb] 23)
      have k7 := Bx.new u6 23 [.int .i64 la, .int .i64 lb]
      clear e6 b6 f6 g6 h6 hb7
      go_upto_region 8 with fail
      obtain ⟨Qk, hQ⟩ : ∃ Q, u6.heap.size = Q := ⟨_, rfl⟩
      rw [hQ] at k7 ⊢
      generalize u6.alloc (.cells #[.int .i64 la, .int .i64 lb] 23) = w7 at e7 b7 f7 g7 h7 k7 ⊢
      clear hQ
      have ds0 : decide (sa < c) = false := decide_eq_false (by omega)
      have ds1 : (decide (c < sa) = false) ∨ (decide (c < sa) = true ∧ decide (t < sa) = false) := by
        by_cases k : c < sa
        · exact .inr ⟨decide_eq_true k, decide_eq_false (by omega)⟩
        · exact .inl (decide_eq_false k)
      have dl0 : decide (la ≤ lb) = true := decide_eq_true vl0
      have dl1 : all = true → (la == mss) = true := fun h => by simpa using vl1 h
      have DL1 := Lib.hid dl1
      clear vl0 vl1 dl1 vs0 vs1
      have vx := (xmB_iff _ _ _ _).1 HXM.out
      obtain ⟨w0, w1, w3, w4, w5, w6, w7, w8⟩ := vx
      have xe0 := e7.cell 0 rfl; have xe1 := e7.cell 1 rfl
      have xf0 := f7.cell 0 rfl; have xf1 := f7.cell 1 rfl
      have xg0 := g7.cell 0 rfl; have xg1 := g7.cell 1 rfl
      have xh0 := h7.cell 0 rfl; have xh1 := h7.cell 1 rfl
      have xk0 := k7.cell 0 rfl; have xk1 := k7.cell 1 rfl
      go_wp2_with fail
      clear xe0 xe1 xf0 xf1 xg0 xg1 xh0 xh1 xk0 xk1
      refine (xwmay_any sa t mss most _).mono ?_
      rintro e w8 ⟨rfl, hb8⟩
      rw [HVS.out]
      have e8 := (e7.kept hb8)
      have f8 := (f7.kept hb8)
      have g8 := (g7.kept hb8)
      have h8 := (h7.kept hb8)
      have k8 := (k7.kept hb8)
      have b8 := b7.trans (hb8.mono (Nat.le_of_lt e7.lt))
      clear e7 b7 f7 g7 h7 k7 hb8
      rcases ds1 with ds1 | ⟨ds1, ds2⟩
      · have xe0 := e8.cell 0 rfl; have xe1 := e8.cell 1 rfl
        have xf0 := f8.cell 0 rfl; have xf1 := f8.cell 1 rfl
        have xg0 := g8.cell 0 rfl; have xg1 := g8.cell 1 rfl
        have xh0 := h8.cell 0 rfl; have xh1 := h8.cell 1 rfl
        have xk0 := k8.cell 0 rfl; have xk1 := k8.cell 1 rfl
        go_wp2_with fail
        clear xe0 xe1 xf0 xf1 xg0 xg1 xh0 xh1 xk0 xk1
        refine (xwmay_any la lb mss most _).mono ?_
        rintro e w9 ⟨rfl, hb9⟩
        rw [HVL.out]
        have e9 := (e8.kept hb9)
        have f9 := (f8.kept hb9)
        have g9 := (g8.kept hb9)
        have h9 := (h8.kept hb9)
        have k9 := (k8.kept hb9)
        have b9 := b8.trans (hb9.mono (Nat.le_of_lt e8.lt))
        clear e8 b8 f8 g8 h8 k8 hb9
        have xe0 := e9.cell 0 rfl; have xe1 := e9.cell 1 rfl
        have xf0 := f9.cell 0 rfl; have xf1 := f9.cell 1 rfl
        have xg0 := g9.cell 0 rfl; have xg1 := g9.cell 1 rfl
        have xh0 := h9.cell 0 rfl; have xh1 := h9.cell 1 rfl
        have xk0 := k9.cell 0 rfl; have xk1 := k9.cell 1 rfl
        cases all with
        | false =>
          go_wp2_with fail
          go_ret
          exact ⟨rfl, b9⟩
        | true =>
          have dl2 := DL1.out rfl
          go_wp2_with fail
          go_ret
          exact ⟨rfl, b9⟩
      · have xe0 := e8.cell 0 rfl; have xe1 := e8.cell 1 rfl
        have xf0 := f8.cell 0 rfl; have xf1 := f8.cell 1 rfl
        have xg0 := g8.cell 0 rfl; have xg1 := g8.cell 1 rfl
        have xh0 := h8.cell 0 rfl; have xh1 := h8.cell 1 rfl
        have xk0 := k8.cell 0 rfl; have xk1 := k8.cell 1 rfl
        go_wp2_with fail
        clear xe0 xe1 xf0 xf1 xg0 xg1 xh0 xh1 xk0 xk1
        refine (xwmay_any la lb mss most _).mono ?_
        rintro e w9 ⟨rfl, hb9⟩
        rw [HVL.out]
        have e9 := (e8.kept hb9)
        have f9 := (f8.kept hb9)
        have g9 := (g8.kept hb9)
        have h9 := (h8.kept hb9)
        have k9 := (k8.kept hb9)
        have b9 := b8.trans (hb9.mono (Nat.le_of_lt e8.lt))
        clear e8 b8 f8 g8 h8 k8 hb9
        have xe0 := e9.cell 0 rfl; have xe1 := e9.cell 1 rfl
        have xf0 := f9.cell 0 rfl; have xf1 := f9.cell 1 rfl
        have xg0 := g9.cell 0 rfl; have xg1 := g9.cell 1 rfl
        have xh0 := h9.cell 0 rfl; have xh1 := h9.cell 1 rfl
        have xk0 := k9.cell 0 rfl; have xk1 := k9.cell 1 rfl
        cases all with
        | false =>
          go_wp2_with fail
          go_ret
          exact ⟨rfl, b9⟩
        | true =>
          have dl2 := DL1.out rfl
          go_wp2_with fail
          go_ret
          exact ⟨rfl, b9⟩
    case neg =>
    obtain ⟨sa, hS, vs0, vs1, vs2⟩ := slow_facts (t := t) (b := n) HXM.out (by omega) (by omega)
    have AS := Lib.hid hS; have HVS := Lib.hid vs2; clear hS vs2
    have AR : Hid (rndR c t n mss most = (0, 0, 1)) := Lib.hid (rnd_no (fun h => by have h1 := h.2; omega))
    obtain ⟨ka, hC, vk0, vk1, vk2, vk3, vk4⟩ := cut_facts (t := t) (b := n) HXM.out (by omega) (by omega)
    have AC := Lib.hid hC; have HVC := Lib.hid vk3; clear hC vk3 vk4
    obtain ⟨la, lb, hL, vl0, vl1, vl2⟩ := loss_facts (all := all) HXM.out
    have AL := Lib.hid hL; have HVL := Lib.hid vl2; clear hL vl2
    go_upto_region 4 with fail
    go_wp2_with (first | (refine xw_load rfl (.tmp 5) rfl rfl e3 rfl ?_))
    refine (xwslow_any c t n mss most _).mono ?_
    rintro e u3 ⟨he, hb4⟩
    rw [AS.out] at he
    dsimp only at he
    subst he
    have e4 := (e3.kept hb4).alloc (.cells #[.int .i64 sa, .int .i64 t] 23)
    have b4 := (b3.trans (hb4.mono (Nat.le_of_lt e3.lt))).alloc (Nat.le_of_lt (e3.kept hb4).lt) (.cells #[.int .i64 sa, .int .i64 t] 23)
    have f4 := Bx.new u3 23 [.int .i64 sa, .int .i64 t]
    clear e3 b3 hb4
    go_upto_region 5 with fail
    obtain ⟨Qf, hQ⟩ : ∃ Q, u3.heap.size = Q := ⟨_, rfl⟩
    rw [hQ] at f4 ⊢
    generalize u3.alloc (.cells #[.int .i64 sa, .int .i64 t] 23) = w4 at e4 b4 f4 ⊢
    clear hQ
    go_wp2_with (first | (refine xw_load rfl (.tmp 5) rfl rfl e4 rfl ?_) | (refine xw_load rfl (.tmp 12) rfl rfl f4 rfl ?_))
    refine (xwround_any c t n mss most _).mono ?_
    rintro e u4 ⟨he, hb5⟩
    rw [AR.out] at he
    dsimp only at he
    subst he
    have e5 := (e4.kept hb5).alloc (.cells #[.int .i64 0, .int .i64 0] 23)
    have f5 := (f4.kept hb5).alloc (.cells #[.int .i64 0, .int .i64 0] 23)
    have b5 := (b4.trans (hb5.mono (Nat.le_of_lt e4.lt))).alloc (Nat.le_of_lt (e4.kept hb5).lt) (.cells #[.int .i64 0, .int .i64 0] 23)
    have g5 := Bx.new u4 23 [.int .i64 0, .int .i64 0]
    clear e4 b4 f4 hb5
    go_upto_region 6 with fail
    obtain ⟨Qg, hQ⟩ : ∃ Q, u4.heap.size = Q := ⟨_, rfl⟩
    rw [hQ] at g5 ⊢
    generalize u4.alloc (.cells #[.int .i64 0, .int .i64 0] 23) = w5 at e5 b5 f5 g5 ⊢
    clear hQ
    go_wp2_with (first | (refine xw_load rfl (.tmp 5) rfl rfl e5 rfl ?_) | (refine xw_load rfl (.tmp 12) rfl rfl f5 rfl ?_) | (refine xw_load rfl (.tmp 14) rfl rfl g5 rfl ?_))
    refine (xwcut_any c t n mss most _).mono ?_
    rintro e u5 ⟨he, hb6⟩
    rw [AC.out] at he
    dsimp only at he
    subst he
    have e6 := (e5.kept hb6).alloc (.cells #[.int .i64 ka, .int .i64 ka] 23)
    have f6 := (f5.kept hb6).alloc (.cells #[.int .i64 ka, .int .i64 ka] 23)
    have g6 := (g5.kept hb6).alloc (.cells #[.int .i64 ka, .int .i64 ka] 23)
    have b6 := (b5.trans (hb6.mono (Nat.le_of_lt e5.lt))).alloc (Nat.le_of_lt (e5.kept hb6).lt) (.cells #[.int .i64 ka, .int .i64 ka] 23)
    have h6 := Bx.new u5 23 [.int .i64 ka, .int .i64 ka]
    clear e5 b5 f5 g5 hb6
    go_upto_region 7 with fail
    obtain ⟨Qh, hQ⟩ : ∃ Q, u5.heap.size = Q := ⟨_, rfl⟩
    rw [hQ] at h6 ⊢
    generalize u5.alloc (.cells #[.int .i64 ka, .int .i64 ka] 23) = w6 at e6 b6 f6 g6 h6 ⊢
    clear hQ
    go_wp2_with (first | (refine xw_load rfl (.tmp 5) rfl rfl e6 rfl ?_) | (refine xw_load rfl (.tmp 12) rfl rfl f6 rfl ?_) | (refine xw_load rfl (.tmp 14) rfl rfl g6 rfl ?_) | (refine xw_load rfl (.tmp 16) rfl rfl h6 rfl ?_))
    refine (xwloss_any c t all mss most _).mono ?_
    rintro e u6 ⟨he, hb7⟩
    rw [AL.out] at he
    dsimp only at he
    subst he
    have e7 := (e6.kept hb7).alloc (.cells #[.int .i64 la, .int .i64 lb] 23)
    have f7 := (f6.kept hb7).alloc (.cells #[.int .i64 la, .int .i64 lb] 23)
    have g7 := (g6.kept hb7).alloc (.cells #[.int .i64 la, .int .i64 lb] 23)
    have h7 := (h6.kept hb7).alloc (.cells #[.int .i64 la, .int .i64 lb] 23)
    have b7 := (b6.trans (hb7.mono (Nat.le_of_lt e6.lt))).alloc (Nat.le_of_lt (e6.kept hb7).lt) (.cells #[.int .i64 la, .int .i64 lb] 23)
    have k7 := Bx.new u6 23 [.int .i64 la, .int .i64 lb]
    clear e6 b6 f6 g6 h6 hb7
    go_upto_region 8 with fail
    obtain ⟨Qk, hQ⟩ : ∃ Q, u6.heap.size = Q := ⟨_, rfl⟩
    rw [hQ] at k7 ⊢
    generalize u6.alloc (.cells #[.int .i64 la, .int .i64 lb] 23) = w7 at e7 b7 f7 g7 h7 k7 ⊢
    clear hQ
    have ds0 : decide (sa < c) = false := decide_eq_false (by omega)
    have ds1 : (decide (c < sa) = false) ∨ (decide (c < sa) = true ∧ decide (t < sa) = false) := by
      by_cases k : c < sa
      · exact .inr ⟨decide_eq_true k, decide_eq_false (by omega)⟩
      · exact .inl (decide_eq_false k)
    have dk0 : decide (c < ka) = false := decide_eq_false (by omega)
    have dk1 : decide (2 * ka < c) = false := decide_eq_false (by omega)
    have ik : IntKind.i64.wrap (2 * ka) = 2 * ka := by have := (xmB_iff _ _ _ _).1 HVC.out; exact IntWalk.i64_in _ (by omega)
    have dk2 : ((n == 0) = false) ∨ ((n == 0) = true ∧ (ka != c) = false) := by
      by_cases k : n = 0
      · exact .inr ⟨by simpa using k, by simpa using vk2 k⟩
      · exact .inl (by simpa using k)
    have dl0 : decide (la ≤ lb) = true := decide_eq_true vl0
    have dl1 : all = true → (la == mss) = true := fun h => by simpa using vl1 h
    have DL1 := Lib.hid dl1
    clear vl0 vl1 dl1 vs0 vs1 vk0 vk1 vk2
    have vx := (xmB_iff _ _ _ _).1 HXM.out
    obtain ⟨w0, w1, w3, w4, w5, w6, w7, w8⟩ := vx
    have xe0 := e7.cell 0 rfl; have xe1 := e7.cell 1 rfl
    have xf0 := f7.cell 0 rfl; have xf1 := f7.cell 1 rfl
    have xg0 := g7.cell 0 rfl; have xg1 := g7.cell 1 rfl
    have xh0 := h7.cell 0 rfl; have xh1 := h7.cell 1 rfl
    have xk0 := k7.cell 0 rfl; have xk1 := k7.cell 1 rfl
    go_wp2_with fail
    clear xe0 xe1 xf0 xf1 xg0 xg1 xh0 xh1 xk0 xk1
    refine (xwmay_any sa t mss most _).mono ?_
    rintro e w8 ⟨rfl, hb8⟩
    rw [HVS.out]
    have e8 := (e7.kept hb8)
    have f8 := (f7.kept hb8)
    have g8 := (g7.kept hb8)
    have h8 := (h7.kept hb8)
    have k8 := (k7.kept hb8)
    have b8 := b7.trans (hb8.mono (Nat.le_of_lt e7.lt))
    clear e7 b7 f7 g7 h7 k7 hb8
    rcases ds1 with ds1 | ⟨ds1, ds2⟩
    · have xe0 := e8.cell 0 rfl; have xe1 := e8.cell 1 rfl
      have xf0 := f8.cell 0 rfl; have xf1 := f8.cell 1 rfl
      have xg0 := g8.cell 0 rfl; have xg1 := g8.cell 1 rfl
      have xh0 := h8.cell 0 rfl; have xh1 := h8.cell 1 rfl
      have xk0 := k8.cell 0 rfl; have xk1 := k8.cell 1 rfl
      go_wp2_with fail
      clear xe0 xe1 xf0 xf1 xg0 xg1 xh0 xh1 xk0 xk1
      refine (xwmay_any ka ka mss most _).mono ?_
      rintro e w9 ⟨rfl, hb9⟩
      rw [HVC.out]
      have e9 := (e8.kept hb9)
      have f9 := (f8.kept hb9)
      have g9 := (g8.kept hb9)
      have h9 := (h8.kept hb9)
      have k9 := (k8.kept hb9)
      have b9 := b8.trans (hb9.mono (Nat.le_of_lt e8.lt))
      clear e8 b8 f8 g8 h8 k8 hb9
      rcases dk2 with dk2 | ⟨dk2, dk3⟩
      · have xe0 := e9.cell 0 rfl; have xe1 := e9.cell 1 rfl
        have xf0 := f9.cell 0 rfl; have xf1 := f9.cell 1 rfl
        have xg0 := g9.cell 0 rfl; have xg1 := g9.cell 1 rfl
        have xh0 := h9.cell 0 rfl; have xh1 := h9.cell 1 rfl
        have xk0 := k9.cell 0 rfl; have xk1 := k9.cell 1 rfl
        go_wp2_with fail
        clear xe0 xe1 xf0 xf1 xg0 xg1 xh0 xh1 xk0 xk1
        refine (xwmay_any la lb mss most _).mono ?_
        rintro e w10 ⟨rfl, hb10⟩
        rw [HVL.out]
        have e10 := (e9.kept hb10)
        have f10 := (f9.kept hb10)
        have g10 := (g9.kept hb10)
        have h10 := (h9.kept hb10)
        have k10 := (k9.kept hb10)
        have b10 := b9.trans (hb10.mono (Nat.le_of_lt e9.lt))
        clear e9 b9 f9 g9 h9 k9 hb10
        have xe0 := e10.cell 0 rfl; have xe1 := e10.cell 1 rfl
        have xf0 := f10.cell 0 rfl; have xf1 := f10.cell 1 rfl
        have xg0 := g10.cell 0 rfl; have xg1 := g10.cell 1 rfl
        have xh0 := h10.cell 0 rfl; have xh1 := h10.cell 1 rfl
        have xk0 := k10.cell 0 rfl; have xk1 := k10.cell 1 rfl
        cases all with
        | false =>
          go_wp2_with fail
          go_ret
          exact ⟨rfl, b10⟩
        | true =>
          have dl2 := DL1.out rfl
          go_wp2_with fail
          go_ret
          exact ⟨rfl, b10⟩
      · have xe0 := e9.cell 0 rfl; have xe1 := e9.cell 1 rfl
        have xf0 := f9.cell 0 rfl; have xf1 := f9.cell 1 rfl
        have xg0 := g9.cell 0 rfl; have xg1 := g9.cell 1 rfl
        have xh0 := h9.cell 0 rfl; have xh1 := h9.cell 1 rfl
        have xk0 := k9.cell 0 rfl; have xk1 := k9.cell 1 rfl
        go_wp2_with fail
        clear xe0 xe1 xf0 xf1 xg0 xg1 xh0 xh1 xk0 xk1
        refine (xwmay_any la lb mss most _).mono ?_
        rintro e w10 ⟨rfl, hb10⟩
        rw [HVL.out]
        have e10 := (e9.kept hb10)
        have f10 := (f9.kept hb10)
        have g10 := (g9.kept hb10)
        have h10 := (h9.kept hb10)
        have k10 := (k9.kept hb10)
        have b10 := b9.trans (hb10.mono (Nat.le_of_lt e9.lt))
        clear e9 b9 f9 g9 h9 k9 hb10
        have xe0 := e10.cell 0 rfl; have xe1 := e10.cell 1 rfl
        have xf0 := f10.cell 0 rfl; have xf1 := f10.cell 1 rfl
        have xg0 := g10.cell 0 rfl; have xg1 := g10.cell 1 rfl
        have xh0 := h10.cell 0 rfl; have xh1 := h10.cell 1 rfl
        have xk0 := k10.cell 0 rfl; have xk1 := k10.cell 1 rfl
        cases all with
        | false =>
          go_wp2_with fail
          go_ret
          exact ⟨rfl, b10⟩
        | true =>
          have dl2 := DL1.out rfl
          go_wp2_with fail
          go_ret
          exact ⟨rfl, b10⟩
    · have xe0 := e8.cell 0 rfl; have xe1 := e8.cell 1 rfl
      have xf0 := f8.cell 0 rfl; have xf1 := f8.cell 1 rfl
      have xg0 := g8.cell 0 rfl; have xg1 := g8.cell 1 rfl
      have xh0 := h8.cell 0 rfl; have xh1 := h8.cell 1 rfl
      have xk0 := k8.cell 0 rfl; have xk1 := k8.cell 1 rfl
      go_wp2_with fail
      clear xe0 xe1 xf0 xf1 xg0 xg1 xh0 xh1 xk0 xk1
      refine (xwmay_any ka ka mss most _).mono ?_
      rintro e w9 ⟨rfl, hb9⟩
      rw [HVC.out]
      have e9 := (e8.kept hb9)
      have f9 := (f8.kept hb9)
      have g9 := (g8.kept hb9)
      have h9 := (h8.kept hb9)
      have k9 := (k8.kept hb9)
      have b9 := b8.trans (hb9.mono (Nat.le_of_lt e8.lt))
      clear e8 b8 f8 g8 h8 k8 hb9
      rcases dk2 with dk2 | ⟨dk2, dk3⟩
      · have xe0 := e9.cell 0 rfl; have xe1 := e9.cell 1 rfl
        have xf0 := f9.cell 0 rfl; have xf1 := f9.cell 1 rfl
        have xg0 := g9.cell 0 rfl; have xg1 := g9.cell 1 rfl
        have xh0 := h9.cell 0 rfl; have xh1 := h9.cell 1 rfl
        have xk0 := k9.cell 0 rfl; have xk1 := k9.cell 1 rfl
        go_wp2_with fail
        clear xe0 xe1 xf0 xf1 xg0 xg1 xh0 xh1 xk0 xk1
        refine (xwmay_any la lb mss most _).mono ?_
        rintro e w10 ⟨rfl, hb10⟩
        rw [HVL.out]
        have e10 := (e9.kept hb10)
        have f10 := (f9.kept hb10)
        have g10 := (g9.kept hb10)
        have h10 := (h9.kept hb10)
        have k10 := (k9.kept hb10)
        have b10 := b9.trans (hb10.mono (Nat.le_of_lt e9.lt))
        clear e9 b9 f9 g9 h9 k9 hb10
        have xe0 := e10.cell 0 rfl; have xe1 := e10.cell 1 rfl
        have xf0 := f10.cell 0 rfl; have xf1 := f10.cell 1 rfl
        have xg0 := g10.cell 0 rfl; have xg1 := g10.cell 1 rfl
        have xh0 := h10.cell 0 rfl; have xh1 := h10.cell 1 rfl
        have xk0 := k10.cell 0 rfl; have xk1 := k10.cell 1 rfl
        cases all with
        | false =>
          go_wp2_with fail
          go_ret
          exact ⟨rfl, b10⟩
        | true =>
          have dl2 := DL1.out rfl
          go_wp2_with fail
          go_ret
          exact ⟨rfl, b10⟩
      · have xe0 := e9.cell 0 rfl; have xe1 := e9.cell 1 rfl
        have xf0 := f9.cell 0 rfl; have xf1 := f9.cell 1 rfl
        have xg0 := g9.cell 0 rfl; have xg1 := g9.cell 1 rfl
        have xh0 := h9.cell 0 rfl; have xh1 := h9.cell 1 rfl
        have xk0 := k9.cell 0 rfl; have xk1 := k9.cell 1 rfl
        go_wp2_with fail
        clear xe0 xe1 xf0 xf1 xg0 xg1 xh0 xh1 xk0 xk1
        refine (xwmay_any la lb mss most _).mono ?_
        rintro e w10 ⟨rfl, hb10⟩
        rw [HVL.out]
        have e10 := (e9.kept hb10)
        have f10 := (f9.kept hb10)
        have g10 := (g9.kept hb10)
        have h10 := (h9.kept hb10)
        have k10 := (k9.kept hb10)
        have b10 := b9.trans (hb10.mono (Nat.le_of_lt e9.lt))
        clear e9 b9 f9 g9 h9 k9 hb10
        have xe0 := e10.cell 0 rfl; have xe1 := e10.cell 1 rfl
        have xf0 := f10.cell 0 rfl; have xf1 := f10.cell 1 rfl
        have xg0 := g10.cell 0 rfl; have xg1 := g10.cell 1 rfl
        have xh0 := h10.cell 0 rfl; have xh1 := h10.cell 1 rfl
        have xk0 := k10.cell 0 rfl; have xk1 := k10.cell 1 rfl
        cases all with
        | false =>
          go_wp2_with fail
          go_ret
          exact ⟨rfl, b10⟩
        | true =>
          have dl2 := DL1.out rfl
          go_wp2_with fail
          go_ret
          exact ⟨rfl, b10⟩
  case neg =>
  by_cases z2 : 1024 < n
  case pos =>
    obtain ⟨sa, hS, vs0, vs1, vs2⟩ := slow_facts (t := t) (b := n) HXM.out (by omega) (by omega)
    have AS := Lib.hid hS; have HVS := Lib.hid vs2; clear hS vs2
    obtain ⟨ra, hR, vr0, vr1, vr2⟩ := rnd_facts (t := t) (b := n) HXM.out (by omega) (by omega)
    have AR := Lib.hid hR; have HVR := Lib.hid vr2; clear hR vr2
    have AC : Hid (cutR c t n mss most = (0, 0, 1)) := Lib.hid (cut_no (fun h => by have h1 := h.2; omega))
    obtain ⟨la, lb, hL, vl0, vl1, vl2⟩ := loss_facts (all := all) HXM.out
    have AL := Lib.hid hL; have HVL := Lib.hid vl2; clear hL vl2
    go_upto_region 4 with fail
    go_wp2_with (first | (refine xw_load rfl (.tmp 5) rfl rfl e3 rfl ?_))
    refine (xwslow_any c t n mss most _).mono ?_
    rintro e u3 ⟨he, hb4⟩
    rw [AS.out] at he
    dsimp only at he
    subst he
    have e4 := (e3.kept hb4).alloc (.cells #[.int .i64 sa, .int .i64 t] 23)
    have b4 := (b3.trans (hb4.mono (Nat.le_of_lt e3.lt))).alloc (Nat.le_of_lt (e3.kept hb4).lt) (.cells #[.int .i64 sa, .int .i64 t] 23)
    have f4 := Bx.new u3 23 [.int .i64 sa, .int .i64 t]
    clear e3 b3 hb4
    go_upto_region 5 with fail
    obtain ⟨Qf, hQ⟩ : ∃ Q, u3.heap.size = Q := ⟨_, rfl⟩
    rw [hQ] at f4 ⊢
    generalize u3.alloc (.cells #[.int .i64 sa, .int .i64 t] 23) = w4 at e4 b4 f4 ⊢
    clear hQ
    go_wp2_with (first | (refine xw_load rfl (.tmp 5) rfl rfl e4 rfl ?_) | (refine xw_load rfl (.tmp 12) rfl rfl f4 rfl ?_))
    refine (xwround_any c t n mss most _).mono ?_
    rintro e u4 ⟨he, hb5⟩
    rw [AR.out] at he
    dsimp only at he
    subst he
    have e5 := (e4.kept hb5).alloc (.cells #[.int .i64 ra, .int .i64 t] 23)
    have f5 := (f4.kept hb5).alloc (.cells #[.int .i64 ra, .int .i64 t] 23)
    have b5 := (b4.trans (hb5.mono (Nat.le_of_lt e4.lt))).alloc (Nat.le_of_lt (e4.kept hb5).lt) (.cells #[.int .i64 ra, .int .i64 t] 23)
    have g5 := Bx.new u4 23 [.int .i64 ra, .int .i64 t]
    clear e4 b4 f4 hb5
    go_upto_region 6 with fail
    obtain ⟨Qg, hQ⟩ : ∃ Q, u4.heap.size = Q := ⟨_, rfl⟩
    rw [hQ] at g5 ⊢
    generalize u4.alloc (.cells #[.int .i64 ra, .int .i64 t] 23) = w5 at e5 b5 f5 g5 ⊢
    clear hQ
    go_wp2_with (first | (refine xw_load rfl (.tmp 5) rfl rfl e5 rfl ?_) | (refine xw_load rfl (.tmp 12) rfl rfl f5 rfl ?_) | (refine xw_load rfl (.tmp 14) rfl rfl g5 rfl ?_))
    refine (xwcut_any c t n mss most _).mono ?_
    rintro e u5 ⟨he, hb6⟩
    rw [AC.out] at he
    dsimp only at he
    subst he
    have e6 := (e5.kept hb6).alloc (.cells #[.int .i64 0, .int .i64 0] 23)
    have f6 := (f5.kept hb6).alloc (.cells #[.int .i64 0, .int .i64 0] 23)
    have g6 := (g5.kept hb6).alloc (.cells #[.int .i64 0, .int .i64 0] 23)
    have b6 := (b5.trans (hb6.mono (Nat.le_of_lt e5.lt))).alloc (Nat.le_of_lt (e5.kept hb6).lt) (.cells #[.int .i64 0, .int .i64 0] 23)
    have h6 := Bx.new u5 23 [.int .i64 0, .int .i64 0]
    clear e5 b5 f5 g5 hb6
    go_upto_region 7 with fail
    obtain ⟨Qh, hQ⟩ : ∃ Q, u5.heap.size = Q := ⟨_, rfl⟩
    rw [hQ] at h6 ⊢
    generalize u5.alloc (.cells #[.int .i64 0, .int .i64 0] 23) = w6 at e6 b6 f6 g6 h6 ⊢
    clear hQ
    go_wp2_with (first | (refine xw_load rfl (.tmp 5) rfl rfl e6 rfl ?_) | (refine xw_load rfl (.tmp 12) rfl rfl f6 rfl ?_) | (refine xw_load rfl (.tmp 14) rfl rfl g6 rfl ?_) | (refine xw_load rfl (.tmp 16) rfl rfl h6 rfl ?_))
    refine (xwloss_any c t all mss most _).mono ?_
    rintro e u6 ⟨he, hb7⟩
    rw [AL.out] at he
    dsimp only at he
    subst he
    have e7 := (e6.kept hb7).alloc (.cells #[.int .i64 la, .int .i64 lb] 23)
    have f7 := (f6.kept hb7).alloc (.cells #[.int .i64 la, .int .i64 lb] 23)
    have g7 := (g6.kept hb7).alloc (.cells #[.int .i64 la, .int .i64 lb] 23)
    have h7 := (h6.kept hb7).alloc (.cells #[.int .i64 la, .int .i64 lb] 23)
    have b7 := (b6.trans (hb7.mono (Nat.le_of_lt e6.lt))).alloc (Nat.le_of_lt (e6.kept hb7).lt) (.cells #[.int .i64 la, .int .i64 lb] 23)
    have k7 := Bx.new u6 23 [.int .i64 la, .int .i64 lb]
    clear e6 b6 f6 g6 h6 hb7
    go_upto_region 8 with fail
    obtain ⟨Qk, hQ⟩ : ∃ Q, u6.heap.size = Q := ⟨_, rfl⟩
    rw [hQ] at k7 ⊢
    generalize u6.alloc (.cells #[.int .i64 la, .int .i64 lb] 23) = w7 at e7 b7 f7 g7 h7 k7 ⊢
    clear hQ
    have ds0 : decide (sa < c) = false := decide_eq_false (by omega)
    have ds1 : (decide (c < sa) = false) ∨ (decide (c < sa) = true ∧ decide (t < sa) = false) := by
      by_cases k : c < sa
      · exact .inr ⟨decide_eq_true k, decide_eq_false (by omega)⟩
      · exact .inl (decide_eq_false k)
    have dr0 : decide (ra < c) = false := decide_eq_false (by omega)
    have dr1 : decide (mss < ra - c) = false := decide_eq_false (by omega)
    have ir : IntKind.i64.wrap (ra - c) = ra - c := by have := (xmB_iff _ _ _ _).1 HXM.out; have := (xmB_iff _ _ _ _).1 HVR.out; exact IntWalk.i64_in _ (by omega)
    have dl0 : decide (la ≤ lb) = true := decide_eq_true vl0
    have dl1 : all = true → (la == mss) = true := fun h => by simpa using vl1 h
    have DL1 := Lib.hid dl1
    clear vl0 vl1 dl1 vs0 vs1 vr0 vr1
    have vx := (xmB_iff _ _ _ _).1 HXM.out
    obtain ⟨w0, w1, w3, w4, w5, w6, w7, w8⟩ := vx
    have xe0 := e7.cell 0 rfl; have xe1 := e7.cell 1 rfl
    have xf0 := f7.cell 0 rfl; have xf1 := f7.cell 1 rfl
    have xg0 := g7.cell 0 rfl; have xg1 := g7.cell 1 rfl
    have xh0 := h7.cell 0 rfl; have xh1 := h7.cell 1 rfl
    have xk0 := k7.cell 0 rfl; have xk1 := k7.cell 1 rfl
    go_wp2_with fail
    clear xe0 xe1 xf0 xf1 xg0 xg1 xh0 xh1 xk0 xk1
    refine (xwmay_any sa t mss most _).mono ?_
    rintro e w8 ⟨rfl, hb8⟩
    rw [HVS.out]
    have e8 := (e7.kept hb8)
    have f8 := (f7.kept hb8)
    have g8 := (g7.kept hb8)
    have h8 := (h7.kept hb8)
    have k8 := (k7.kept hb8)
    have b8 := b7.trans (hb8.mono (Nat.le_of_lt e7.lt))
    clear e7 b7 f7 g7 h7 k7 hb8
    rcases ds1 with ds1 | ⟨ds1, ds2⟩
    · have xe0 := e8.cell 0 rfl; have xe1 := e8.cell 1 rfl
      have xf0 := f8.cell 0 rfl; have xf1 := f8.cell 1 rfl
      have xg0 := g8.cell 0 rfl; have xg1 := g8.cell 1 rfl
      have xh0 := h8.cell 0 rfl; have xh1 := h8.cell 1 rfl
      have xk0 := k8.cell 0 rfl; have xk1 := k8.cell 1 rfl
      go_wp2_with fail
      clear xe0 xe1 xf0 xf1 xg0 xg1 xh0 xh1 xk0 xk1
      refine (xwmay_any ra t mss most _).mono ?_
      rintro e w9 ⟨rfl, hb9⟩
      rw [HVR.out]
      have e9 := (e8.kept hb9)
      have f9 := (f8.kept hb9)
      have g9 := (g8.kept hb9)
      have h9 := (h8.kept hb9)
      have k9 := (k8.kept hb9)
      have b9 := b8.trans (hb9.mono (Nat.le_of_lt e8.lt))
      clear e8 b8 f8 g8 h8 k8 hb9
      have xe0 := e9.cell 0 rfl; have xe1 := e9.cell 1 rfl
      have xf0 := f9.cell 0 rfl; have xf1 := f9.cell 1 rfl
      have xg0 := g9.cell 0 rfl; have xg1 := g9.cell 1 rfl
      have xh0 := h9.cell 0 rfl; have xh1 := h9.cell 1 rfl
      have xk0 := k9.cell 0 rfl; have xk1 := k9.cell 1 rfl
      go_wp2_with fail
      clear xe0 xe1 xf0 xf1 xg0 xg1 xh0 xh1 xk0 xk1
      refine (xwmay_any la lb mss most _).mono ?_
      rintro e w10 ⟨rfl, hb10⟩
      rw [HVL.out]
      have e10 := (e9.kept hb10)
      have f10 := (f9.kept hb10)
      have g10 := (g9.kept hb10)
      have h10 := (h9.kept hb10)
      have k10 := (k9.kept hb10)
      have b10 := b9.trans (hb10.mono (Nat.le_of_lt e9.lt))
      clear e9 b9 f9 g9 h9 k9 hb10
      have xe0 := e10.cell 0 rfl; have xe1 := e10.cell 1 rfl
      have xf0 := f10.cell 0 rfl; have xf1 := f10.cell 1 rfl
      have xg0 := g10.cell 0 rfl; have xg1 := g10.cell 1 rfl
      have xh0 := h10.cell 0 rfl; have xh1 := h10.cell 1 rfl
      have xk0 := k10.cell 0 rfl; have xk1 := k10.cell 1 rfl
      cases all with
      | false =>
        go_wp2_with fail
        go_ret
        exact ⟨rfl, b10⟩
      | true =>
        have dl2 := DL1.out rfl
        go_wp2_with fail
        go_ret
        exact ⟨rfl, b10⟩
    · have xe0 := e8.cell 0 rfl; have xe1 := e8.cell 1 rfl
      have xf0 := f8.cell 0 rfl; have xf1 := f8.cell 1 rfl
      have xg0 := g8.cell 0 rfl; have xg1 := g8.cell 1 rfl
      have xh0 := h8.cell 0 rfl; have xh1 := h8.cell 1 rfl
      have xk0 := k8.cell 0 rfl; have xk1 := k8.cell 1 rfl
      go_wp2_with fail
      clear xe0 xe1 xf0 xf1 xg0 xg1 xh0 xh1 xk0 xk1
      refine (xwmay_any ra t mss most _).mono ?_
      rintro e w9 ⟨rfl, hb9⟩
      rw [HVR.out]
      have e9 := (e8.kept hb9)
      have f9 := (f8.kept hb9)
      have g9 := (g8.kept hb9)
      have h9 := (h8.kept hb9)
      have k9 := (k8.kept hb9)
      have b9 := b8.trans (hb9.mono (Nat.le_of_lt e8.lt))
      clear e8 b8 f8 g8 h8 k8 hb9
      have xe0 := e9.cell 0 rfl; have xe1 := e9.cell 1 rfl
      have xf0 := f9.cell 0 rfl; have xf1 := f9.cell 1 rfl
      have xg0 := g9.cell 0 rfl; have xg1 := g9.cell 1 rfl
      have xh0 := h9.cell 0 rfl; have xh1 := h9.cell 1 rfl
      have xk0 := k9.cell 0 rfl; have xk1 := k9.cell 1 rfl
      go_wp2_with fail
      clear xe0 xe1 xf0 xf1 xg0 xg1 xh0 xh1 xk0 xk1
      refine (xwmay_any la lb mss most _).mono ?_
      rintro e w10 ⟨rfl, hb10⟩
      rw [HVL.out]
      have e10 := (e9.kept hb10)
      have f10 := (f9.kept hb10)
      have g10 := (g9.kept hb10)
      have h10 := (h9.kept hb10)
      have k10 := (k9.kept hb10)
      have b10 := b9.trans (hb10.mono (Nat.le_of_lt e9.lt))
      clear e9 b9 f9 g9 h9 k9 hb10
      have xe0 := e10.cell 0 rfl; have xe1 := e10.cell 1 rfl
      have xf0 := f10.cell 0 rfl; have xf1 := f10.cell 1 rfl
      have xg0 := g10.cell 0 rfl; have xg1 := g10.cell 1 rfl
      have xh0 := h10.cell 0 rfl; have xh1 := h10.cell 1 rfl
      have xk0 := k10.cell 0 rfl; have xk1 := k10.cell 1 rfl
      cases all with
      | false =>
        go_wp2_with fail
        go_ret
        exact ⟨rfl, b10⟩
      | true =>
        have dl2 := DL1.out rfl
        go_wp2_with fail
        go_ret
        exact ⟨rfl, b10⟩
  case neg =>
  obtain ⟨sa, hS, vs0, vs1, vs2⟩ := slow_facts (t := t) (b := n) HXM.out (by omega) (by omega)
  have AS := Lib.hid hS; have HVS := Lib.hid vs2; clear hS vs2
  obtain ⟨ra, hR, vr0, vr1, vr2⟩ := rnd_facts (t := t) (b := n) HXM.out (by omega) (by omega)
  have AR := Lib.hid hR; have HVR := Lib.hid vr2; clear hR vr2
  obtain ⟨ka, hC, vk0, vk1, vk2, vk3, vk4⟩ := cut_facts (t := t) (b := n) HXM.out (by omega) (by omega)
  have AC := Lib.hid hC; have HVC := Lib.hid vk3; clear hC vk3 vk4
  obtain ⟨la, lb, hL, vl0, vl1, vl2⟩ := loss_facts (all := all) HXM.out
  have AL := Lib.hid hL; have HVL := Lib.hid vl2; clear hL vl2
  go_upto_region 4 with fail
  go_wp2_with (first | (refine xw_load rfl (.tmp 5) rfl rfl e3 rfl ?_))
  refine (xwslow_any c t n mss most _).mono ?_
  rintro e u3 ⟨he, hb4⟩
  rw [AS.out] at he
  dsimp only at he
  subst he
  have e4 := (e3.kept hb4).alloc (.cells #[.int .i64 sa, .int .i64 t] 23)
  have b4 := (b3.trans (hb4.mono (Nat.le_of_lt e3.lt))).alloc (Nat.le_of_lt (e3.kept hb4).lt) (.cells #[.int .i64 sa, .int .i64 t] 23)
  have f4 := Bx.new u3 23 [.int .i64 sa, .int .i64 t]
  clear e3 b3 hb4
  go_upto_region 5 with fail
  obtain ⟨Qf, hQ⟩ : ∃ Q, u3.heap.size = Q := ⟨_, rfl⟩
  rw [hQ] at f4 ⊢
  generalize u3.alloc (.cells #[.int .i64 sa, .int .i64 t] 23) = w4 at e4 b4 f4 ⊢
  clear hQ
  go_wp2_with (first | (refine xw_load rfl (.tmp 5) rfl rfl e4 rfl ?_) | (refine xw_load rfl (.tmp 12) rfl rfl f4 rfl ?_))
  refine (xwround_any c t n mss most _).mono ?_
  rintro e u4 ⟨he, hb5⟩
  rw [AR.out] at he
  dsimp only at he
  subst he
  have e5 := (e4.kept hb5).alloc (.cells #[.int .i64 ra, .int .i64 t] 23)
  have f5 := (f4.kept hb5).alloc (.cells #[.int .i64 ra, .int .i64 t] 23)
  have b5 := (b4.trans (hb5.mono (Nat.le_of_lt e4.lt))).alloc (Nat.le_of_lt (e4.kept hb5).lt) (.cells #[.int .i64 ra, .int .i64 t] 23)
  have g5 := Bx.new u4 23 [.int .i64 ra, .int .i64 t]
  clear e4 b4 f4 hb5
  go_upto_region 6 with fail
  obtain ⟨Qg, hQ⟩ : ∃ Q, u4.heap.size = Q := ⟨_, rfl⟩
  rw [hQ] at g5 ⊢
  generalize u4.alloc (.cells #[.int .i64 ra, .int .i64 t] 23) = w5 at e5 b5 f5 g5 ⊢
  clear hQ
  go_wp2_with (first | (refine xw_load rfl (.tmp 5) rfl rfl e5 rfl ?_) | (refine xw_load rfl (.tmp 12) rfl rfl f5 rfl ?_) | (refine xw_load rfl (.tmp 14) rfl rfl g5 rfl ?_))
  refine (xwcut_any c t n mss most _).mono ?_
  rintro e u5 ⟨he, hb6⟩
  rw [AC.out] at he
  dsimp only at he
  subst he
  have e6 := (e5.kept hb6).alloc (.cells #[.int .i64 ka, .int .i64 ka] 23)
  have f6 := (f5.kept hb6).alloc (.cells #[.int .i64 ka, .int .i64 ka] 23)
  have g6 := (g5.kept hb6).alloc (.cells #[.int .i64 ka, .int .i64 ka] 23)
  have b6 := (b5.trans (hb6.mono (Nat.le_of_lt e5.lt))).alloc (Nat.le_of_lt (e5.kept hb6).lt) (.cells #[.int .i64 ka, .int .i64 ka] 23)
  have h6 := Bx.new u5 23 [.int .i64 ka, .int .i64 ka]
  clear e5 b5 f5 g5 hb6
  go_upto_region 7 with fail
  obtain ⟨Qh, hQ⟩ : ∃ Q, u5.heap.size = Q := ⟨_, rfl⟩
  rw [hQ] at h6 ⊢
  generalize u5.alloc (.cells #[.int .i64 ka, .int .i64 ka] 23) = w6 at e6 b6 f6 g6 h6 ⊢
  clear hQ
  go_wp2_with (first | (refine xw_load rfl (.tmp 5) rfl rfl e6 rfl ?_) | (refine xw_load rfl (.tmp 12) rfl rfl f6 rfl ?_) | (refine xw_load rfl (.tmp 14) rfl rfl g6 rfl ?_) | (refine xw_load rfl (.tmp 16) rfl rfl h6 rfl ?_))
  refine (xwloss_any c t all mss most _).mono ?_
  rintro e u6 ⟨he, hb7⟩
  rw [AL.out] at he
  dsimp only at he
  subst he
  have e7 := (e6.kept hb7).alloc (.cells #[.int .i64 la, .int .i64 lb] 23)
  have f7 := (f6.kept hb7).alloc (.cells #[.int .i64 la, .int .i64 lb] 23)
  have g7 := (g6.kept hb7).alloc (.cells #[.int .i64 la, .int .i64 lb] 23)
  have h7 := (h6.kept hb7).alloc (.cells #[.int .i64 la, .int .i64 lb] 23)
  have b7 := (b6.trans (hb7.mono (Nat.le_of_lt e6.lt))).alloc (Nat.le_of_lt (e6.kept hb7).lt) (.cells #[.int .i64 la, .int .i64 lb] 23)
  have k7 := Bx.new u6 23 [.int .i64 la, .int .i64 lb]
  clear e6 b6 f6 g6 h6 hb7
  go_upto_region 8 with fail
  obtain ⟨Qk, hQ⟩ : ∃ Q, u6.heap.size = Q := ⟨_, rfl⟩
  rw [hQ] at k7 ⊢
  generalize u6.alloc (.cells #[.int .i64 la, .int .i64 lb] 23) = w7 at e7 b7 f7 g7 h7 k7 ⊢
  clear hQ
  have ds0 : decide (sa < c) = false := decide_eq_false (by omega)
  have ds1 : (decide (c < sa) = false) ∨ (decide (c < sa) = true ∧ decide (t < sa) = false) := by
    by_cases k : c < sa
    · exact .inr ⟨decide_eq_true k, decide_eq_false (by omega)⟩
    · exact .inl (decide_eq_false k)
  have dr0 : decide (ra < c) = false := decide_eq_false (by omega)
  have dr1 : decide (mss < ra - c) = false := decide_eq_false (by omega)
  have ir : IntKind.i64.wrap (ra - c) = ra - c := by have := (xmB_iff _ _ _ _).1 HXM.out; have := (xmB_iff _ _ _ _).1 HVR.out; exact IntWalk.i64_in _ (by omega)
  have dk0 : decide (c < ka) = false := decide_eq_false (by omega)
  have dk1 : decide (2 * ka < c) = false := decide_eq_false (by omega)
  have ik : IntKind.i64.wrap (2 * ka) = 2 * ka := by have := (xmB_iff _ _ _ _).1 HVC.out; exact IntWalk.i64_in _ (by omega)
  have dk2 : ((n == 0) = false) ∨ ((n == 0) = true ∧ (ka != c) = false) := by
    by_cases k : n = 0
    · exact .inr ⟨by simpa using k, by simpa using vk2 k⟩
    · exact .inl (by simpa using k)
  have dl0 : decide (la ≤ lb) = true := decide_eq_true vl0
  have dl1 : all = true → (la == mss) = true := fun h => by simpa using vl1 h
  have DL1 := Lib.hid dl1
  clear vl0 vl1 dl1 vs0 vs1 vr0 vr1 vk0 vk1 vk2
  have vx := (xmB_iff _ _ _ _).1 HXM.out
  obtain ⟨w0, w1, w3, w4, w5, w6, w7, w8⟩ := vx
  have xe0 := e7.cell 0 rfl; have xe1 := e7.cell 1 rfl
  have xf0 := f7.cell 0 rfl; have xf1 := f7.cell 1 rfl
  have xg0 := g7.cell 0 rfl; have xg1 := g7.cell 1 rfl
  have xh0 := h7.cell 0 rfl; have xh1 := h7.cell 1 rfl
  have xk0 := k7.cell 0 rfl; have xk1 := k7.cell 1 rfl
  go_wp2_with fail
  clear xe0 xe1 xf0 xf1 xg0 xg1 xh0 xh1 xk0 xk1
  refine (xwmay_any sa t mss most _).mono ?_
  rintro e w8 ⟨rfl, hb8⟩
  rw [HVS.out]
  have e8 := (e7.kept hb8)
  have f8 := (f7.kept hb8)
  have g8 := (g7.kept hb8)
  have h8 := (h7.kept hb8)
  have k8 := (k7.kept hb8)
  have b8 := b7.trans (hb8.mono (Nat.le_of_lt e7.lt))
  clear e7 b7 f7 g7 h7 k7 hb8
  rcases ds1 with ds1 | ⟨ds1, ds2⟩
  · have xe0 := e8.cell 0 rfl; have xe1 := e8.cell 1 rfl
    have xf0 := f8.cell 0 rfl; have xf1 := f8.cell 1 rfl
    have xg0 := g8.cell 0 rfl; have xg1 := g8.cell 1 rfl
    have xh0 := h8.cell 0 rfl; have xh1 := h8.cell 1 rfl
    have xk0 := k8.cell 0 rfl; have xk1 := k8.cell 1 rfl
    go_wp2_with fail
    clear xe0 xe1 xf0 xf1 xg0 xg1 xh0 xh1 xk0 xk1
    refine (xwmay_any ra t mss most _).mono ?_
    rintro e w9 ⟨rfl, hb9⟩
    rw [HVR.out]
    have e9 := (e8.kept hb9)
    have f9 := (f8.kept hb9)
    have g9 := (g8.kept hb9)
    have h9 := (h8.kept hb9)
    have k9 := (k8.kept hb9)
    have b9 := b8.trans (hb9.mono (Nat.le_of_lt e8.lt))
    clear e8 b8 f8 g8 h8 k8 hb9
    have xe0 := e9.cell 0 rfl; have xe1 := e9.cell 1 rfl
    have xf0 := f9.cell 0 rfl; have xf1 := f9.cell 1 rfl
    have xg0 := g9.cell 0 rfl; have xg1 := g9.cell 1 rfl
    have xh0 := h9.cell 0 rfl; have xh1 := h9.cell 1 rfl
    have xk0 := k9.cell 0 rfl; have xk1 := k9.cell 1 rfl
    go_wp2_with fail
    clear xe0 xe1 xf0 xf1 xg0 xg1 xh0 xh1 xk0 xk1
    refine (xwmay_any ka ka mss most _).mono ?_
    rintro e w10 ⟨rfl, hb10⟩
    rw [HVC.out]
    have e10 := (e9.kept hb10)
    have f10 := (f9.kept hb10)
    have g10 := (g9.kept hb10)
    have h10 := (h9.kept hb10)
    have k10 := (k9.kept hb10)
    have b10 := b9.trans (hb10.mono (Nat.le_of_lt e9.lt))
    clear e9 b9 f9 g9 h9 k9 hb10
    rcases dk2 with dk2 | ⟨dk2, dk3⟩
    · have xe0 := e10.cell 0 rfl; have xe1 := e10.cell 1 rfl
      have xf0 := f10.cell 0 rfl; have xf1 := f10.cell 1 rfl
      have xg0 := g10.cell 0 rfl; have xg1 := g10.cell 1 rfl
      have xh0 := h10.cell 0 rfl; have xh1 := h10.cell 1 rfl
      have xk0 := k10.cell 0 rfl; have xk1 := k10.cell 1 rfl
      go_wp2_with fail
      clear xe0 xe1 xf0 xf1 xg0 xg1 xh0 xh1 xk0 xk1
      refine (xwmay_any la lb mss most _).mono ?_
      rintro e w11 ⟨rfl, hb11⟩
      rw [HVL.out]
      have e11 := (e10.kept hb11)
      have f11 := (f10.kept hb11)
      have g11 := (g10.kept hb11)
      have h11 := (h10.kept hb11)
      have k11 := (k10.kept hb11)
      have b11 := b10.trans (hb11.mono (Nat.le_of_lt e10.lt))
      clear e10 b10 f10 g10 h10 k10 hb11
      have xe0 := e11.cell 0 rfl; have xe1 := e11.cell 1 rfl
      have xf0 := f11.cell 0 rfl; have xf1 := f11.cell 1 rfl
      have xg0 := g11.cell 0 rfl; have xg1 := g11.cell 1 rfl
      have xh0 := h11.cell 0 rfl; have xh1 := h11.cell 1 rfl
      have xk0 := k11.cell 0 rfl; have xk1 := k11.cell 1 rfl
      cases all with
      | false =>
        go_wp2_with fail
        go_ret
        exact ⟨rfl, b11⟩
      | true =>
        have dl2 := DL1.out rfl
        go_wp2_with fail
        go_ret
        exact ⟨rfl, b11⟩
    · have xe0 := e10.cell 0 rfl; have xe1 := e10.cell 1 rfl
      have xf0 := f10.cell 0 rfl; have xf1 := f10.cell 1 rfl
      have xg0 := g10.cell 0 rfl; have xg1 := g10.cell 1 rfl
      have xh0 := h10.cell 0 rfl; have xh1 := h10.cell 1 rfl
      have xk0 := k10.cell 0 rfl; have xk1 := k10.cell 1 rfl
      go_wp2_with fail
      clear xe0 xe1 xf0 xf1 xg0 xg1 xh0 xh1 xk0 xk1
      refine (xwmay_any la lb mss most _).mono ?_
      rintro e w11 ⟨rfl, hb11⟩
      rw [HVL.out]
      have e11 := (e10.kept hb11)
      have f11 := (f10.kept hb11)
      have g11 := (g10.kept hb11)
      have h11 := (h10.kept hb11)
      have k11 := (k10.kept hb11)
      have b11 := b10.trans (hb11.mono (Nat.le_of_lt e10.lt))
      clear e10 b10 f10 g10 h10 k10 hb11
      have xe0 := e11.cell 0 rfl; have xe1 := e11.cell 1 rfl
      have xf0 := f11.cell 0 rfl; have xf1 := f11.cell 1 rfl
      have xg0 := g11.cell 0 rfl; have xg1 := g11.cell 1 rfl
      have xh0 := h11.cell 0 rfl; have xh1 := h11.cell 1 rfl
      have xk0 := k11.cell 0 rfl; have xk1 := k11.cell 1 rfl
      cases all with
      | false =>
        go_wp2_with fail
        go_ret
        exact ⟨rfl, b11⟩
      | true =>
        have dl2 := DL1.out rfl
        go_wp2_with fail
        go_ret
        exact ⟨rfl, b11⟩
  · have xe0 := e8.cell 0 rfl; have xe1 := e8.cell 1 rfl
    have xf0 := f8.cell 0 rfl; have xf1 := f8.cell 1 rfl
    have xg0 := g8.cell 0 rfl; have xg1 := g8.cell 1 rfl
    have xh0 := h8.cell 0 rfl; have xh1 := h8.cell 1 rfl
    have xk0 := k8.cell 0 rfl; have xk1 := k8.cell 1 rfl
    go_wp2_with fail
    clear xe0 xe1 xf0 xf1 xg0 xg1 xh0 xh1 xk0 xk1
    refine (xwmay_any ra t mss most _).mono ?_
    rintro e w9 ⟨rfl, hb9⟩
    rw [HVR.out]
    have e9 := (e8.kept hb9)
    have f9 := (f8.kept hb9)
    have g9 := (g8.kept hb9)
    have h9 := (h8.kept hb9)
    have k9 := (k8.kept hb9)
    have b9 := b8.trans (hb9.mono (Nat.le_of_lt e8.lt))
    clear e8 b8 f8 g8 h8 k8 hb9
    have xe0 := e9.cell 0 rfl; have xe1 := e9.cell 1 rfl
    have xf0 := f9.cell 0 rfl; have xf1 := f9.cell 1 rfl
    have xg0 := g9.cell 0 rfl; have xg1 := g9.cell 1 rfl
    have xh0 := h9.cell 0 rfl; have xh1 := h9.cell 1 rfl
    have xk0 := k9.cell 0 rfl; have xk1 := k9.cell 1 rfl
    go_wp2_with fail
    clear xe0 xe1 xf0 xf1 xg0 xg1 xh0 xh1 xk0 xk1
    refine (xwmay_any ka ka mss most _).mono ?_
    rintro e w10 ⟨rfl, hb10⟩
    rw [HVC.out]
    have e10 := (e9.kept hb10)
    have f10 := (f9.kept hb10)
    have g10 := (g9.kept hb10)
    have h10 := (h9.kept hb10)
    have k10 := (k9.kept hb10)
    have b10 := b9.trans (hb10.mono (Nat.le_of_lt e9.lt))
    clear e9 b9 f9 g9 h9 k9 hb10
    rcases dk2 with dk2 | ⟨dk2, dk3⟩
    · have xe0 := e10.cell 0 rfl; have xe1 := e10.cell 1 rfl
      have xf0 := f10.cell 0 rfl; have xf1 := f10.cell 1 rfl
      have xg0 := g10.cell 0 rfl; have xg1 := g10.cell 1 rfl
      have xh0 := h10.cell 0 rfl; have xh1 := h10.cell 1 rfl
      have xk0 := k10.cell 0 rfl; have xk1 := k10.cell 1 rfl
      go_wp2_with fail
      clear xe0 xe1 xf0 xf1 xg0 xg1 xh0 xh1 xk0 xk1
      refine (xwmay_any la lb mss most _).mono ?_
      rintro e w11 ⟨rfl, hb11⟩
      rw [HVL.out]
      have e11 := (e10.kept hb11)
      have f11 := (f10.kept hb11)
      have g11 := (g10.kept hb11)
      have h11 := (h10.kept hb11)
      have k11 := (k10.kept hb11)
      have b11 := b10.trans (hb11.mono (Nat.le_of_lt e10.lt))
      clear e10 b10 f10 g10 h10 k10 hb11
      have xe0 := e11.cell 0 rfl; have xe1 := e11.cell 1 rfl
      have xf0 := f11.cell 0 rfl; have xf1 := f11.cell 1 rfl
      have xg0 := g11.cell 0 rfl; have xg1 := g11.cell 1 rfl
      have xh0 := h11.cell 0 rfl; have xh1 := h11.cell 1 rfl
      have xk0 := k11.cell 0 rfl; have xk1 := k11.cell 1 rfl
      cases all with
      | false =>
        go_wp2_with fail
        go_ret
        exact ⟨rfl, b11⟩
      | true =>
        have dl2 := DL1.out rfl
        go_wp2_with fail
        go_ret
        exact ⟨rfl, b11⟩
    · have xe0 := e10.cell 0 rfl; have xe1 := e10.cell 1 rfl
      have xf0 := f10.cell 0 rfl; have xf1 := f10.cell 1 rfl
      have xg0 := g10.cell 0 rfl; have xg1 := g10.cell 1 rfl
      have xh0 := h10.cell 0 rfl; have xh1 := h10.cell 1 rfl
      have xk0 := k10.cell 0 rfl; have xk1 := k10.cell 1 rfl
      go_wp2_with fail
      clear xe0 xe1 xf0 xf1 xg0 xg1 xh0 xh1 xk0 xk1
      refine (xwmay_any la lb mss most _).mono ?_
      rintro e w11 ⟨rfl, hb11⟩
      rw [HVL.out]
      have e11 := (e10.kept hb11)
      have f11 := (f10.kept hb11)
      have g11 := (g10.kept hb11)
      have h11 := (h10.kept hb11)
      have k11 := (k10.kept hb11)
      have b11 := b10.trans (hb11.mono (Nat.le_of_lt e10.lt))
      clear e10 b10 f10 g10 h10 k10 hb11
      have xe0 := e11.cell 0 rfl; have xe1 := e11.cell 1 rfl
      have xf0 := f11.cell 0 rfl; have xf1 := f11.cell 1 rfl
      have xg0 := g11.cell 0 rfl; have xg1 := g11.cell 1 rfl
      have xh0 := h11.cell 0 rfl; have xh1 := h11.cell 1 rfl
      have xk0 := k11.cell 0 rfl; have xk1 := k11.cell 1 rfl
      cases all with
      | false =>
        go_wp2_with fail
        go_ret
        exact ⟨rfl, b11⟩
      | true =>
        have dl2 := DL1.out rfl
        go_wp2_with fail
        go_ret
        exact ⟨rfl, b11⟩
end Go.Proofs.Ytookmfgnhflpaaa.xmpBounds
