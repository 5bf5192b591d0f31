/- The texts ReceiverFarWalk. -/
import Derived.Below
import Derived.BigQuiet
import Derived.Deep.AppendLies
import Derived.Deep.DeepCutAuto
import Derived.Deep.QuietTactic
import Derived.IntWalk
import Derived.Laws.Rows
import Derived.Laws.Tables
import Derived.Lib.Hide
import Derived.OrdersHeld
import Derived.Outline
import Derived.Test.YtggnhccpncgfiaaProg
import Derived.WalkKit
import Derived.WalkSmall
import Derived.WalkSpells
import Derived.Test.YtggnhccpncgfiaaM14
import Derived.Test.YtggnhccpncgfiaaM22
set_option linter.all false
namespace Go.Proofs.Ytggnhccpncgfiaa.receiverFar
open Go.RowKit
set_option maxRecDepth 100000 in
set_option maxHeartbeats 16000000 in
theorem walk (s : Rcs) (r : Rc) (n sub : Int) (w : World) (h : RcM w (fun _ => True) s r) (h1 : n64 n) (h2 : n64 sub) :
    Calls Try.prog 7 #[.agg (rcs s r).toArray, .int .i64 n, .int .i64 sub] w fun e w' => e = .returned (.bool true) ∧ Below w.heap.size w w' := by
  obtain ⟨B, hB⟩ : ∃ B, w.heap.size = B := ⟨_, rfl⟩
  have e1 := Bx.new w 32 (rcs s r)
  rw [hB] at e1 ⊢
  have b1 : Below B w (w.alloc (.cells (rcs s r).toArray 32)) := by rw [← hB]; exact (Below.refl _ _).alloc (Nat.le_refl _) _
  have f1 := h.alloc (.cells (rcs s r).toArray 32)
  have HW := Lib.hid (show n64 n ∧ n64 sub from ⟨h1, h2⟩)
  clear h h1 h2
  go_enter Try.func7, Try.ntmps7
  go_upto_region 1 with fail
  generalize w.alloc (.cells (rcs s r).toArray 32) = w1 at e1 b1 f1 ⊢
  clear hB
  have z1 : B ≤ w1.heap.size := Nat.le_of_lt e1.lt
  go_wp2_with fail
  refine (rcawake_any _).mono ?_
  rintro e w2 ⟨rfl, hb⟩
  have e2 := e1.kept hb
  have f2 := f1.keep hb
  have b2 := b1.trans (hb.mono z1); have z2 := Nat.le_trans z1 hb.size
  clear e1 f1 b1 z1 hb
  go_wp2_with (refine rv_load rfl (.tmp 3) rfl rfl e2 rfl ?_)
  refine (rcfew_any s r _).mono ?_
  rintro e w3 ⟨rfl, hb⟩
  have e3 := e2.kept hb
  have f3 := f2.keep hb
  have b3 := b2.trans (hb.mono z2); have z3 := Nat.le_trans z2 hb.size
  clear e2 f2 b2 z2 hb
  cases hfew : fewRc s with
  | false =>
    go_wp2_with fail
    go_ret
    exact ⟨rfl, b3⟩
  | true =>
  have HNB := Lib.hid (show s.wn ≤ 140737488355328 by have := (few_parts hfew).1; omega)
  clear hfew
  go_wp2_with (refine rv_loadg (by kernel_rfl) (.tmp 3) rfl rfl e3 rfl ?_)
  refine (rcmay_any (fun _ => True) s r _ f3 HNB.out).mono ?_
  rintro e w4 ⟨rfl, hb⟩
  have e4 := e3.kept hb
  have f4 := f3.keep hb
  have b4 := b3.trans (hb.mono z3); have z4 := Nat.le_trans z3 hb.size
  clear e3 f3 b3 z3 hb
  have x0 : w4.cell? ⟨B, 0, none⟩ = some (.int .i64 r.w.base) := e4.cell 0 rfl
  have x4 : w4.cell? ⟨B, 4, none⟩ = some (.int .i64 r.w.en) := e4.cell 4 rfl
  cases hmay : rcmay r with
  | false =>
    go_wp2_with fail
    go_ret
    exact ⟨rfl, b4⟩
  | true =>
  have hok := (rcmay_iff r).1 hmay
  have HM := Lib.hid hmay; clear hmay
  by_cases h0 : sub < 0
  · have d0 : decide (sub < 0) = true := decide_eq_true h0
    go_wp2_with fail
    go_ret
    exact ⟨rfl, b4⟩
  have d0 : decide (sub < 0) = false := decide_eq_false h0
  by_cases h3 : 3 < sub
  · have d1 : decide (3 < sub) = true := decide_eq_true h3
    go_wp2_with fail
    go_ret
    exact ⟨rfl, b4⟩
  have d1 : decide (3 < sub) = false := decide_eq_false h3
  by_cases hbs : 1000000000 < r.w.base
  · have d2 : decide (1000000000 < r.w.base) = true := decide_eq_true hbs
    go_wp2_with fail
    go_ret
    exact ⟨rfl, b4⟩
  have d2 : decide (1000000000 < r.w.base) = false := decide_eq_false hbs
  by_cases hen : 1000000000 < r.w.en
  · have d3 : decide (1000000000 < r.w.en) = true := decide_eq_true hen
    go_wp2_with fail
    go_ret
    exact ⟨rfl, b4⟩
  have d3 : decide (1000000000 < r.w.en) = false := decide_eq_false hen
  have ha : ackR r sub 9 = (ackS r sub.toNat 9, 0) := if_pos ⟨HM.out, by omega, by omega⟩
  have HA := Lib.hid ha; clear ha
  have HR := Lib.hid (show 0 ≤ sub ∧ sub ≤ 3 ∧ r.w.base ≤ 1000000000 ∧ RcOk r from ⟨by omega, by omega, by omega, hok⟩)
  clear hok
  go_upto_region 5 with fail
  clear d0 d1 d2 d3 h0 h3 hbs hen x0 x4
  go_wp2_with (refine rv_load rfl (.tmp 3) rfl rfl e4 rfl ?_)
  refine (rctold_any (fun _ => True) s r sub 9 _ f4 HNB.out HW.out.2 (by unfold U32; omega)).mono ?_
  rintro e w5 ⟨G5, m5, d5, A5, n5, c5, he, hg5, hb⟩
  rw [HA.out] at he hg5
  dsimp only at he hg5
  subst he
  clear hg5
  have e5 := e4.kept hb
  have f5 := f4.keep hb
  have b5 := b4.trans (hb.mono z4); have z5 := Nat.le_trans z4 hb.size
  clear e4 f4 b4 z4 hb
  obtain ⟨X, hX⟩ : ∃ X, ackS r sub.toNat 9 = X := ⟨_, rfl⟩
  rw [hX]
  have q6 := gw1_box w5 (sgs G5 m5 d5 A5 n5 c5 X)
  have hb := gw1_below w5 (sgs G5 m5 d5 A5 n5 c5 X)
  go_upto_region 6 with (refine sg_store rfl (.tmp 9) (.tmp 60) rfl rfl (sgs G5 m5 d5 A5 n5 c5 X) rfl (gz1 w5) rfl rfl rfl ?_)
  change Code.wp _ _ _ _ (gw1 w5 (sgs G5 m5 d5 A5 n5 c5 X))
  generalize gw1 w5 (sgs G5 m5 d5 A5 n5 c5 X) = w6 at q6 hb ⊢
  obtain ⟨P, hP⟩ : ∃ P, w5.heap.size = P := ⟨_, rfl⟩
  rw [hP] at q6
  have e6 := e5.kept hb
  have f6 := f5.keep hb
  have b6 := b5.trans (hb.mono z5); have z6 := Nat.le_trans z5 hb.size
  clear e5 f5 b5 z5 hb
  have HX := Lib.hid hX; clear hX
  rw [hP]
  clear hP
  obtain ⟨⟨r2, l2, er⟩, hr⟩ : ∃ q, rreadR r n = q := ⟨_, rfl⟩
  have HRD := Lib.hid hr; clear hr
  go_wp2_with (refine rv_load rfl (.tmp 3) rfl rfl e6 rfl ?_)
  refine (rcread_any (fun _ => True) s r n _ (fun _ _ => trivial) f6 HNB.out HW.out.1).mono ?_
  rintro e w7 ⟨s7, A7, n7, c7, he, g7, hs7, _, hb⟩
  rw [HRD.out] at he g7 hs7
  dsimp only at he g7 hs7
  subst he
  have e7 := e6.kept hb
  have q7 := q6.kept hb
  have f7 := f6.keep hb
  have b7 := b6.trans (hb.mono z6); have z7 := Nat.le_trans z6 hb.size
  clear e6 q6 f6 b6 z6 hb
  have v8 := rw1_box w7 (rcs s7 r2)
  have hb := rw1_below w7 (rcs s7 r2)
  go_upto_region 7 with (refine rv_store rfl (.tmp 11) (.tmp 66) rfl rfl (rcs s7 r2) rfl (rz1 w7) rfl rfl rfl ?_)
  change Code.wp _ _ _ _ (rw1 w7 (rcs s7 r2))
  generalize rw1 w7 (rcs s7 r2) = w8 at v8 hb ⊢
  obtain ⟨V, hV⟩ : ∃ V, w7.heap.size = V := ⟨_, rfl⟩
  rw [hV] at v8
  have g8 := g7.keep hb
  have HS7 := Lib.hid hs7.rd.len; clear hs7 g7
  have e8 := e7.kept hb
  have q8 := q7.kept hb
  have f8 := f7.keep hb
  have b8 := b7.trans (hb.mono z7); have z8 := Nat.le_trans z7 hb.size
  clear e7 q7 f7 b7 z7 hb
  rw [hV]
  clear hV
  by_cases her : er = 0
  case neg =>
    have hn : n < 0 := by
      have hq := HRD.out
      unfold rreadR at hq
      rw [if_pos HM.out] at hq
      rcases read_cases r.w n with c | c
      · exact Int.not_le.1 (fun hl => c.2 ⟨HR.out.2.2.2.w, hl⟩)
      · rw [c.1, if_pos rfl] at hq
        have := (Prod.mk.inj (Prod.mk.inj hq).2).2
        exact absurd this.symm her
    have d0 : (er == 0) = false := by simpa using her
    have d0' : (er != 0) = true := by simpa using her
    have d1 : decide (n < 0) = true := decide_eq_true hn
    go_wp2_with fail
    go_ret
    exact ⟨rfl, b8⟩
  case pos =>
  subst her
  obtain ⟨k, hkl, hk⟩ : ∃ k, k ≤ rdyW r.w ∧ r2 = r.weave (cutW r.w k) ∧ l2.length = k := by
    have hq := HRD.out
    unfold rreadR at hq
    rw [if_pos HM.out] at hq
    rcases read_cases r.w n with c | c
    · rw [c.1] at hq
      have := (Prod.mk.inj (Prod.mk.inj hq).2).2
      exact absurd this (by decide)
    · rw [c.1, if_pos rfl] at hq
      have h1 := (Prod.mk.inj hq).1
      have h2 := (Prod.mk.inj (Prod.mk.inj hq).2).1
      have hl := rdy_le r.w
      refine ⟨min (rdyW r.w) n.toNat, by omega, h1.symm, ?_⟩
      rw [← h2]
      show (r.w.b.take (min (rdyW r.w) n.toNat)).length = _
      rw [List.length_take]; omega
  have hv := HR.out.2.2.2.w
  have hok2 : RcOk r2 := by rw [hk.1]; exact rcok_weave HR.out.2.2.2 (cut_va hv hkl)
  have ha2 : ackR r2 sub 9 = (ackS r2 sub.toNat 9, 0) := if_pos ⟨(rcmay_iff r2).2 hok2, HR.out.1, HR.out.2.1⟩
  have hY : (ackS r2 sub.toNat 9).got = X.got ∧ (ackS r2 sub.toNat 9).dgot = X.dgot ∧ ((ackS r2 sub.toNat 9).win = X.win + (n7 : Int) ∨ (ackS r2 sub.toNat 9).win = 65535 ∨ X.win = 0) ∧ X.win ≤ (ackS r2 sub.toNat 9).win ∧ X.echo = 9 ∧ 0 ≤ X.win ∧ X.win ≤ 65535 ∧ n7 ≤ 65536 := by
    rw [← HX.out, hk.1]
    have hf := far_win hv HR.out.2.2.1 hkl
    have hc := cut_far hv hkl
    have hw := win_bd r.w
    have hn7 : n7 = k := by rw [← HS7.out]; exact hk.2
    have hlb := b_small hv
    have hrl := rdy_le r.w
    refine ⟨?_, ?_, ?_, ?_, rfl, hw.1, hw.2, by omega⟩
    · show l32 (gapIn ((r.weave (cutW r.w k)).s sub.toNat).got 0) = l32 (gapIn (r.s sub.toNat).got 0); rw [Rc.weave_s]
    · show l32 (farR (cutW r.w k)) = l32 (farR r.w); rw [hc]
    · show winR (cutW r.w k) = winR r.w + (n7 : Int) ∨ winR (cutW r.w k) = 65535 ∨ winR r.w = 0; rw [hn7]; exact hf.1
    · show winR r.w ≤ winR (cutW r.w k); exact hf.2
  have HNB7 := Lib.hid (g8.bnd hok2)
  have HA2 := Lib.hid ha2; have HY := Lib.hid hY
  clear ha2 hY hok2 hk hkl k hv HS7 HRD
  go_upto_region 9 with fail
  go_wp2_with (refine rv_load rfl (.tmp 11) rfl rfl v8 rfl ?_)
  refine (rctold_any (fun _ => True) s7 r2 sub 9 _ g8 HNB7.out HW.out.2 (by unfold U32; omega)).mono ?_
  rintro e w9 ⟨G9, m9, d9, A9, n9, c9, he, _, hb⟩
  rw [HA2.out] at he
  dsimp only at he
  subst he
  have e9 := e8.kept hb
  have q9 := q8.kept hb
  have v9 := v8.kept hb
  have f9 := f8.keep hb
  have g9 := g8.keep hb
  have b9 := b8.trans (hb.mono z8); have z9 := Nat.le_trans z8 hb.size
  clear e8 q8 v8 f8 g8 b8 z8 hb
  obtain ⟨Y, hYY⟩ : ∃ Y, ackS r2 sub.toNat 9 = Y := ⟨_, rfl⟩
  have HY2 : Hid (Y.got = X.got ∧ Y.dgot = X.dgot ∧ (Y.win = X.win + (n7 : Int) ∨ Y.win = 65535 ∨ X.win = 0) ∧ X.win ≤ Y.win ∧ X.echo = 9 ∧ 0 ≤ X.win ∧ X.win ≤ 65535 ∧ n7 ≤ 65536) := Lib.hid (by rw [← hYY]; exact HY.out)
  rw [hYY]
  clear HY HA2 hYY
  have y10 := gw1_box w9 (sgs G9 m9 d9 A9 n9 c9 Y)
  have hb := gw1_below w9 (sgs G9 m9 d9 A9 n9 c9 Y)
  go_upto_region 10 with (refine sg_store rfl (.tmp 14) (.tmp 81) rfl rfl (sgs G9 m9 d9 A9 n9 c9 Y) rfl (gz1 w9) rfl rfl rfl ?_)
  change Code.wp _ _ _ _ (gw1 w9 (sgs G9 m9 d9 A9 n9 c9 Y))
  generalize gw1 w9 (sgs G9 m9 d9 A9 n9 c9 Y) = w10 at y10 hb ⊢
  obtain ⟨Y0, hV⟩ : ∃ V, w9.heap.size = V := ⟨_, rfl⟩
  rw [hV] at y10
  have e10 := e9.kept hb
  have q10 := q9.kept hb
  have v10 := v9.kept hb
  have f10 := f9.keep hb
  have g10 := g9.keep hb
  have b10 := b9.trans (hb.mono z9); have z10 := Nat.le_trans z9 hb.size
  clear e9 q9 v9 f9 g9 b9 z9 hb
  rw [hV]
  clear hV v10 g10
  have x0 : w10.cell? ⟨B, 0, none⟩ = some (.int .i64 r.w.base) := e10.cell 0 rfl
  have x3 : w10.cell? ⟨B, 3, none⟩ = some (.int .i64 r.w.cap) := e10.cell 3 rfl
  have i1 : IntKind.i64.wrap (r.w.base + r.w.cap) = r.w.base + r.w.cap := by have := HR.out.2.2.1; have := HR.out.2.2.2.w.cap1; have := HR.out.2.2.2.w.cap0; have := HR.out.2.2.2.w.base0; exact IntWalk.i64_in _ (by omega)
  go_upto_region 11 with fail
  clear x0 x3 i1
  have hte : takeR r (edgeS r sub) false = (zrc, zs, 4) := by
    have h4 := far_full HR.out.2.2.2 HR.out.1 HR.out.2.1 HR.out.2.2.1
    rw [take_err (by rw [h4]; decide), h4]
  have HTE := Lib.hid hte; clear hte
  have hed : SgW (edgeS r sub) := by
    have u0 : U32 0 := by unfold U32; omega
    refine ⟨u0, ?_, u0, u0, u0, u0, u0, fun p hp => absurd hp (List.not_mem_nil), fun x hx => ?_⟩
    · show U32 (l32 _); unfold U32 l32; omega
    · rw [List.mem_singleton.1 hx]; omega
  have HED := Lib.hid hed; clear hed
  go_wp2_with (refine rv_load rfl (.tmp 3) rfl rfl e10 rfl ?_)
  have hb : Below w10.heap.size w10 (w10.alloc (.cells #[.int .u8 1] 5)) := (Below.refl _ _).alloc (Nat.le_refl _) _
  have hsl : Sl (w10.alloc (.cells #[.int .u8 1] 5)) (some ⟨w10.heap.size, 0, none⟩) 1 1 [1] := ⟨Nat.le_refl _, by unfold maxLen; omega, (fun e => by cases e), Rd.block w10 (l := [1]) (fun x hx => by rw [List.mem_singleton.1 hx]; omega) 5⟩
  generalize hQ : some (⟨w10.heap.size, 0, none⟩ : Addr) = Q at hsl ⊢
  generalize w10.alloc (.cells #[.int .u8 1] 5) = w11 at hb hsl ⊢
  clear hQ
  have e11 := e10.kept hb
  have q11 := q10.kept hb
  have y11 := y10.kept hb
  have f11 := f10.keep hb
  have b11 := b10.trans (hb.mono z10); have z11 := Nat.le_trans z10 hb.size
  clear e10 q10 y10 f10 b10 z10 hb
  refine (rctake_any (fun _ => True) s r none 0 0 Q 1 1 (edgeS r sub) false w11 (fun _ _ => trivial) f11 HNB.out HED.out (Sr.none _) hsl).mono ?_
  rintro e w12 ⟨s12, G12, m12, d12, A12, n12, c12, he, _, _, hb⟩
  rw [HTE.out] at he
  dsimp only at he
  subst he
  clear hsl
  have e12 := e11.kept hb
  have q12 := q11.kept hb
  have y12 := y11.kept hb
  have f12 := f11.keep hb
  have b12 := b11.trans (hb.mono z11); have z12 := Nat.le_trans z11 hb.size
  clear e11 q11 y11 f11 b11 z11 hb
  have hb := rg2_below w12 (rcs s12 zrc) (sgs G12 m12 d12 A12 n12 c12 zs)
  clear HTE HED HR HW HM
  go_upto_region 12 with (first | (refine rv_store rfl (.tmp 17) (.tmp 98) rfl rfl (rcs s12 zrc) rfl (rz2 w12) rfl rfl rfl ?_) | (refine sg_store rfl (.tmp 18) (.tmp 99) rfl rfl (sgs G12 m12 d12 A12 n12 c12 zs) rfl (gz2 w12 (rcs s12 zrc)) rfl rfl rfl ?_))
  change Code.wp _ _ _ _ (rg2 w12 (rcs s12 zrc) (sgs G12 m12 d12 A12 n12 c12 zs))
  generalize rg2 w12 (rcs s12 zrc) (sgs G12 m12 d12 A12 n12 c12 zs) = w13 at hb ⊢
  have e13 := e12.kept hb
  have q13 := q12.kept hb
  have y13 := y12.kept hb
  have f13 := f12.keep hb
  have b13 := b12.trans (hb.mono z12); have z13 := Nat.le_trans z12 hb.size
  clear e12 q12 y12 f12 b12 z12 hb
  have k6 : w13.cell? ⟨P, 6, none⟩ = some (.int .u32 X.got) := q13.cell 6 rfl
  have k7 : w13.cell? ⟨P, 7, none⟩ = some (.int .u32 X.dgot) := q13.cell 7 rfl
  have k8 : w13.cell? ⟨P, 8, none⟩ = some (.int .i64 X.win) := q13.cell 8 rfl
  have k12 : w13.cell? ⟨P, 12, none⟩ = some (.int .u32 X.echo) := q13.cell 12 rfl
  have l6 : w13.cell? ⟨Y0, 6, none⟩ = some (.int .u32 Y.got) := y13.cell 6 rfl
  have l7 : w13.cell? ⟨Y0, 7, none⟩ = some (.int .u32 Y.dgot) := y13.cell 7 rfl
  have l8 : w13.cell? ⟨Y0, 8, none⟩ = some (.int .i64 Y.win) := y13.cell 8 rfl
  have i1 : IntKind.i64.wrap (X.win + (n7 : Int)) = X.win + (n7 : Int) := by have := HY2.out; exact IntWalk.i64_in _ (by omega)
  go_cut [20] (fun a wx => Hid (a = .bool true ∧ wx = w13))
  case first =>
    by_cases c1 : Y.win = X.win + (n7 : Int)
    · have d1 : (Y.win == X.win + (n7 : Int)) = true := by simpa using c1
      have d1' : decide (Y.win = X.win + (n7 : Int)) = true := decide_eq_true c1
      clear c1
      go_wp2_with fail
      go_meet
      case rel => exact Lib.hid ⟨rfl, rfl⟩
    · have d1 : (Y.win == X.win + (n7 : Int)) = false := by simpa using c1
      have d1' : decide (Y.win = X.win + (n7 : Int)) = false := decide_eq_false c1
      by_cases c2 : Y.win = 65535
      · have d2 : (Y.win == 65535) = true := by simpa using c2
        have d2' : decide (Y.win = 65535) = true := decide_eq_true c2
        clear c1 c2
        go_wp2_with fail
        go_meet
        case rel => exact Lib.hid ⟨rfl, rfl⟩
      · have d2 : (Y.win == 65535) = false := by simpa using c2
        have d2' : decide (Y.win = 65535) = false := decide_eq_false c2
        have c3 : X.win = 0 := by have := HY2.out.2.2.1; omega
        have d3 : (X.win == 0) = true := by simpa using c3
        have d3' : decide (X.win = 0) = true := decide_eq_true c3
        clear c1 c2 c3
        go_wp2_with fail
        go_meet
        case rel => exact Lib.hid ⟨rfl, rfl⟩
  case rest =>
  obtain ⟨rfl, rfl⟩ := hcut.out
  clear hcut
  have d1 : (Y.got == X.got) = true := by have := HY2.out.1; simpa using this
  have d2 : (Y.dgot == X.dgot) = true := by have := HY2.out.2.1; simpa using this
  have d3 : decide (X.win ≤ Y.win) = true := decide_eq_true HY2.out.2.2.2.1
  have d4 : (X.echo == 9) = true := by have := HY2.out.2.2.2.2.1; simpa using this
  go_wp2_with fail
  go_ret
  exact ⟨rfl, b13⟩
end Go.Proofs.Ytggnhccpncgfiaa.receiverFar
