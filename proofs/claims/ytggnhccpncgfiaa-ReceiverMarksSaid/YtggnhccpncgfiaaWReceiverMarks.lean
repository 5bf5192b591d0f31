/- The texts ReceiverMarksWalk. -/
import Derived.Below
import Derived.BigQuiet
import Derived.Deep.AppendLies
import Derived.Deep.DeepCutAuto
import Derived.Deep.QuietTactic
import Derived.IntWalk
import Derived.Laws.Rows
import Derived.Laws.Tables
import Derived.Lib.Hide
import Derived.OrdersHeld
import Derived.Outline
import Derived.Test.YtggnhccpncgfiaaProg
import Derived.WalkKit
import Derived.WalkSmall
import Derived.WalkSpells
import Derived.Test.YtggnhccpncgfiaaM02
import Derived.Test.YtggnhccpncgfiaaM03
import Derived.Test.YtggnhccpncgfiaaM14
import Derived.Test.YtggnhccpncgfiaaM22
import Derived.Test.YtggnhccpncgfiaaM24
set_option linter.all false
namespace Go.Proofs.Ytggnhccpncgfiaa.receiverMarks
open Go.RowKit
theorem rcm_m0 {w : World} {p : Nat → Prop} {s : Rcs} {r : Rc} (h : RcM w p s r) (m : Ms) (hm : MsW m) : RcM w p s (r.put ⟨(r.s 0).got, m⟩ 0) := ⟨h.b, h.g, h.g0, h.g1, h.g2, h.g3, ⟨h.wide.base, h.wide.cap, h.wide.en, hm, h.wide.m1, h.wide.m2, h.wide.m3⟩, h.pb, h.pg, h.p0, h.p1, h.p2, h.p3⟩
theorem rcm_m1 {w : World} {p : Nat → Prop} {s : Rcs} {r : Rc} (h : RcM w p s r) (m : Ms) (hm : MsW m) : RcM w p s (r.put ⟨(r.s 1).got, m⟩ 1) := ⟨h.b, h.g, h.g0, h.g1, h.g2, h.g3, ⟨h.wide.base, h.wide.cap, h.wide.en, h.wide.m0, hm, h.wide.m2, h.wide.m3⟩, h.pb, h.pg, h.p0, h.p1, h.p2, h.p3⟩
theorem rcm_m2 {w : World} {p : Nat → Prop} {s : Rcs} {r : Rc} (h : RcM w p s r) (m : Ms) (hm : MsW m) : RcM w p s (r.put ⟨(r.s 2).got, m⟩ 2) := ⟨h.b, h.g, h.g0, h.g1, h.g2, h.g3, ⟨h.wide.base, h.wide.cap, h.wide.en, h.wide.m0, h.wide.m1, hm, h.wide.m3⟩, h.pb, h.pg, h.p0, h.p1, h.p2, h.p3⟩
theorem rcm_m3 {w : World} {p : Nat → Prop} {s : Rcs} {r : Rc} (h : RcM w p s r) (m : Ms) (hm : MsW m) : RcM w p s (r.put ⟨(r.s 3).got, m⟩ 3) := ⟨h.b, h.g, h.g0, h.g1, h.g2, h.g3, ⟨h.wide.base, h.wide.cap, h.wide.en, h.wide.m0, h.wide.m1, h.wide.m2, hm⟩, h.pb, h.pg, h.p0, h.p1, h.p2, h.p3⟩
set_option maxRecDepth 100000 in
set_option maxHeartbeats 32000000 in
theorem walk (s : Rcs) (r : Rc) (G : Option Addr) (m d : Nat) (A : Option Addr) (n c : Nat) (x : Sg) (w : World) (h : RcM w (fun _ => True) s r) (hx : SgW x) (hsr : Sr w G m d x.sacks) (hsl : Sl w A n c x.b) (hk : n64 x.kind ∧ n64 x.sub ∧ n64 x.win ∧ n64 x.ace) :
    Calls Try.prog 6 #[.agg (rcs s r).toArray, .agg (sgs G m d A n c x).toArray] w fun e w' => e = .returned (.bool true) ∧ Below w.heap.size w w' := by
  obtain ⟨B, hB⟩ : ∃ B, w.heap.size = B := ⟨_, rfl⟩
  have e1 := (Bx.new w 32 (rcs s r)).alloc (.cells (sgs G m d A n c x).toArray 36)
  have y1 := Bx.new (w.alloc (.cells (rcs s r).toArray 32)) 36 (sgs G m d A n c x)
  rw [World.size_alloc] at y1
  rw [hB] at e1 y1 ⊢
  have b1 : Below B w ((w.alloc (.cells (rcs s r).toArray 32)).alloc (.cells (sgs G m d A n c x).toArray 36)) := by rw [← hB]; exact ((Below.refl _ _).alloc (Nat.le_refl _) _).alloc (by simp) _
  have f1 := (h.alloc (.cells (rcs s r).toArray 32)).alloc (.cells (sgs G m d A n c x).toArray 36)
  have u1 := (hsr.keep ((Below.refl _ _).alloc (Nat.le_refl _) (.cells (rcs s r).toArray 32))).keep ((Below.refl _ _).alloc (Nat.le_refl _) (.cells (sgs G m d A n c x).toArray 36))
  have v1 := (hsl.alloc (.cells (rcs s r).toArray 32)).alloc (.cells (sgs G m d A n c x).toArray 36)
  have HK := Lib.hid hk; have HX := Lib.hid hx
  clear h hx hsr hsl hk
  go_enter Try.func6, Try.ntmps6
  go_upto_region 1 with fail
  generalize (w.alloc (.cells (rcs s r).toArray 32)).alloc (.cells (sgs G m d A n c x).toArray 36) = w1 at e1 y1 b1 f1 u1 v1 ⊢
  clear hB
  have z1 : B ≤ w1.heap.size := Nat.le_of_lt e1.lt
  go_wp2_with fail
  refine (rcawake_any _).mono ?_
  rintro e w2 ⟨rfl, hb⟩
  have e2 := e1.kept hb
  have y2 := y1.kept hb
  have f2 := f1.keep hb
  have u2 := u1.keep hb
  have v2 := v1.keep hb
  have b2 := b1.trans (hb.mono z1); have z2 := Nat.le_trans z1 hb.size
  clear e1 y1 f1 u1 v1 b1 z1 hb
  go_wp2_with (refine rv_load rfl (.tmp 2) rfl rfl e2 rfl ?_)
  refine (rcfew_any s r _).mono ?_
  rintro e w3 ⟨rfl, hb⟩
  have e3 := e2.kept hb
  have y3 := y2.kept hb
  have f3 := f2.keep hb
  have u3 := u2.keep hb
  have v3 := v2.keep hb
  have b3 := b2.trans (hb.mono z2); have z3 := Nat.le_trans z2 hb.size
  clear e2 y2 f2 u2 v2 b2 z2 hb
  cases hfew : fewRc s with
  | false =>
    go_wp2_with fail
    go_ret
    exact ⟨rfl, b3⟩
  | true =>
  have HNB := Lib.hid (show s.wn ≤ 140737488355328 by have := (few_parts hfew).1; omega)
  clear hfew
  have x13 : w3.cell? ⟨B + 1, 13, none⟩ = some (.slice G m d) := y3.cell 13 rfl
  have x14 : w3.cell? ⟨B + 1, 14, none⟩ = some (.slice A n c) := y3.cell 14 rfl
  have x1 : w3.cell? ⟨B + 1, 1, none⟩ = some (.int .i64 x.sub) := y3.cell 1 rfl
  by_cases h4 : 400 < n
  · have d0 : decide (400 < (n : Int)) = true := decide_eq_true (by omega)
    go_wp2_with fail
    go_ret
    exact ⟨rfl, b3⟩
  have dh4 : decide (400 < (n : Int)) = false := decide_eq_false (by omega)
  by_cases h5 : 20 < m
  · have d0 : decide (20 < (m : Int)) = true := decide_eq_true (by omega)
    go_wp2_with fail
    go_ret
    exact ⟨rfl, b3⟩
  have dh5 : decide (20 < (m : Int)) = false := decide_eq_false (by omega)
  by_cases h6 : x.sub < 0
  · have d0 : decide (x.sub < 0) = true := decide_eq_true (by omega)
    go_wp2_with fail
    go_ret
    exact ⟨rfl, b3⟩
  have dh6 : decide (x.sub < 0) = false := decide_eq_false (by omega)
  by_cases h7 : 3 < x.sub
  · have d0 : decide (3 < x.sub) = true := decide_eq_true (by omega)
    go_wp2_with fail
    go_ret
    exact ⟨rfl, b3⟩
  have dh7 : decide (3 < x.sub) = false := decide_eq_false (by omega)
  have HB := Lib.hid (show 0 ≤ x.sub ∧ x.sub ≤ 3 from ⟨by omega, by omega⟩)
  go_upto_region 5 with fail
  clear dh4 dh5 dh6 dh7 h4 h5 h6 h7 x13 x14 x1
  go_wp2_with (first | (refine rv_load rfl (.tmp 2) rfl rfl e3 rfl ?_) | (refine sg_load rfl (.tmp 3) rfl rfl y3 rfl ?_))
  refine (rctake_any (fun _ => True) s r G m d A n c x false _ (fun _ _ => trivial) f3 HNB.out HX.out u3 v3).mono ?_
  rintro e w4 ⟨sf, Gf, mf, df, Af, nf, cf, he, gf, hf, hb⟩
  obtain ⟨⟨rf, xf, ef⟩, hr⟩ : ∃ q, takeR r x false = q := ⟨_, rfl⟩
  rw [hr] at he gf hf
  dsimp only at he gf hf
  subst he
  have Hf := Lib.hid hr; clear hr hf
  have e4 := e3.kept hb
  have y4 := y3.kept hb
  have f4 := f3.keep hb
  have u4 := u3.keep hb
  have v4 := v3.keep hb
  have b4 := b3.trans (hb.mono z3); have z4 := Nat.le_trans z3 hb.size
  clear e3 y3 f3 u3 v3 b3 z3 hb
  have pf5 := rg2_rv w4 (rcs sf rf) (sgs Gf mf df Af nf cf xf)
  have of5 := rg2_sg w4 (rcs sf rf) (sgs Gf mf df Af nf cf xf)
  have hb := rg2_below w4 (rcs sf rf) (sgs Gf mf df Af nf cf xf)
  have jf5 := gf.lt.keep hb
  clear gf
  go_upto_region 6 with (first | (refine rv_store rfl (.tmp 7) (.tmp 52) rfl rfl (rcs sf rf) rfl (rz2 w4) rfl rfl rfl ?_) | (refine sg_store rfl (.tmp 8) (.tmp 53) rfl rfl (sgs Gf mf df Af nf cf xf) rfl (gz2 w4 (rcs sf rf)) rfl rfl rfl ?_))
  change Code.wp _ _ _ _ (rg2 w4 (rcs sf rf) (sgs Gf mf df Af nf cf xf))
  generalize rg2 w4 (rcs sf rf) (sgs Gf mf df Af nf cf xf) = w5 at pf5 of5 jf5 hb ⊢
  obtain ⟨Vf, hV⟩ : ∃ V, w4.heap.size = V := ⟨_, rfl⟩
  rw [hV] at pf5 of5 jf5 ⊢
  have HVf := Lib.hid (show B + 1 < Vf by rw [← hV]; exact y4.lt)
  have e5 := e4.kept hb
  have y5 := y4.kept hb
  have f5 := f4.keep hb
  have u5 := u4.keep hb
  have v5 := v4.keep hb
  have b5 := b4.trans (hb.mono z4); have z5 := Nat.le_trans z4 hb.size
  clear e4 y4 f4 u4 v4 b4 z4 hb
  clear hV
  go_wp2_with (first | (refine rv_load rfl (.tmp 2) rfl rfl e5 rfl ?_) | (refine sg_load rfl (.tmp 3) rfl rfl y5 rfl ?_))
  refine (rctake_any (fun _ => True) s r G m d A n c x true _ (fun _ _ => trivial) f5 HNB.out HX.out u5 v5).mono ?_
  rintro e w6 ⟨st, Gt, mt, dt, At, nt, ct, he, gt, ht, hb⟩
  obtain ⟨⟨rt, xt, et⟩, hr⟩ : ∃ q, takeR r x true = q := ⟨_, rfl⟩
  rw [hr] at he gt ht
  dsimp only at he gt ht
  subst he
  have Ht := Lib.hid hr; clear hr ht
  have e6 := e5.kept hb
  have y6 := y5.kept hb
  have pf6 := pf5.kept hb
  have f6 := f5.keep hb
  have u6 := u5.keep hb
  have v6 := v5.keep hb
  have jf6 := jf5.keep hb
  have b6 := b5.trans (hb.mono z5); have z6 := Nat.le_trans z5 hb.size
  clear e5 y5 pf5 f5 u5 v5 jf5 b5 z5 hb
  have pt7 := rg2_rv w6 (rcs st rt) (sgs Gt mt dt At nt ct xt)
  have ot7 := rg2_sg w6 (rcs st rt) (sgs Gt mt dt At nt ct xt)
  have hb := rg2_below w6 (rcs st rt) (sgs Gt mt dt At nt ct xt)
  have jt7 := gt.lt.keep hb
  clear gt
  go_upto_region 7 with (first | (refine rv_store rfl (.tmp 10) (.tmp 59) rfl rfl (rcs st rt) rfl (rz2 w6) rfl rfl rfl ?_) | (refine sg_store rfl (.tmp 11) (.tmp 60) rfl rfl (sgs Gt mt dt At nt ct xt) rfl (gz2 w6 (rcs st rt)) rfl rfl rfl ?_))
  change Code.wp _ _ _ _ (rg2 w6 (rcs st rt) (sgs Gt mt dt At nt ct xt))
  generalize rg2 w6 (rcs st rt) (sgs Gt mt dt At nt ct xt) = w7 at pt7 ot7 jt7 hb ⊢
  obtain ⟨Vt, hV⟩ : ∃ V, w6.heap.size = V := ⟨_, rfl⟩
  rw [hV] at pt7 ot7 jt7 ⊢
  have HVt := Lib.hid (show Vf < Vt by rw [← hV]; exact pf6.lt)
  have e7 := e6.kept hb
  have y7 := y6.kept hb
  have pf7 := pf6.kept hb
  have f7 := f6.keep hb
  have u7 := u6.keep hb
  have v7 := v6.keep hb
  have jf7 := jf6.keep hb
  have b7 := b6.trans (hb.mono z6); have z7 := Nat.le_trans z6 hb.size
  clear e6 y6 pf6 f6 u6 v6 jf6 b6 z6 hb
  clear hV
  by_cases hE : takeE r x true = 0
  case neg =>
    have h3 : et ≠ 0 ∧ (ef = et ∨ ef = 0 ∧ et = 5) := by
      have h1 := Ht.out
      rw [take_err hE] at h1
      have h2 := (Prod.mk.inj (Prod.mk.inj h1).2).2
      have h4 : ef = takeE r x false := by
        have h5 := Hf.out
        by_cases hF : takeE r x false = 0
        · rw [take_zero hF] at h5
          have := (Prod.mk.inj (Prod.mk.inj h5).2).2
          rw [hF]; exact this.symm
        · rw [take_err hF] at h5
          exact ((Prod.mk.inj (Prod.mk.inj h5).2).2).symm
      rw [← h2, h4]
      exact ⟨hE, takeE_marks hE⟩
    have d0 : (et == 0) = false := by simpa using h3.1
    have d0' : (et != 0) = true := by simpa using h3.1
    clear hE
    by_cases h6 : ef = et
    · have d1 : (ef == et) = true := by simpa using h6
      clear h6 h3
      go_wp2_with fail
      go_ret
      exact ⟨rfl, b7⟩
    · have d1 : (ef == et) = false := by simpa using h6
      have h7 : ef = 0 ∧ et = 5 := by
        rcases h3.2 with k | k
        · exact absurd k h6
        · exact k
      have d2 : (ef == 0) = true := by simpa using h7.1
      have d3 : (et == 5) = true := by simpa using h7.2
      clear h6 h7 h3
      go_wp2_with fail
      go_ret
      exact ⟨rfl, b7⟩
  case pos =>
  have hT := (take_iff _ _ _).1 hE
  have hF : takeE r x false = 0 := (take_iff _ _ _).2 (taken_false hT)
  have h3 : rt = takenR r x true ∧ xt = ackS (takenR r x true) x.sub.toNat x.sent ∧ et = 0 := by
    have := Ht.out
    rw [take_zero hE] at this
    have h1 := (Prod.mk.inj this).1; have h2 := Prod.mk.inj (Prod.mk.inj this).2
    exact ⟨h1.symm, h2.1.symm, h2.2.symm⟩
  have h4 : rf = takenR r x false ∧ ef = 0 := by
    have := Hf.out
    rw [take_zero hF] at this
    have h1 := (Prod.mk.inj this).1; have h2 := Prod.mk.inj (Prod.mk.inj this).2
    exact ⟨h1.symm, h2.2.symm⟩
  obtain ⟨h3a, h3b, rfl⟩ := h3
  obtain ⟨h4a, rfl⟩ := h4
  have hfm := hT.f
  have hbk := marks_back (r := r) hfm
  have hmk1 := marks_mk (r := r) hfm true
  have hmk2 := marks_mk (r := r) hfm false
  rw [← h3a] at hbk hmk1
  rw [← h4a] at hbk hmk2
  have hac : xt.ace = ((r.s x.sub.toNat).m.pk + 1) % 8 := by
    rw [h3b, ← h3a]
    show (rt.s x.sub.toNat).m.pk % 8 = _
    rw [hmk1]; rfl
  have hsz := size_bd hfm
  have hmok := hT.rok.m x.sub.toNat
  have HF := Lib.hid (show rt.put ⟨(rt.s x.sub.toNat).got, (r.s x.sub.toNat).m⟩ x.sub.toNat = rf ∧ (rt.s x.sub.toNat).m = mkR r x true ∧ (rf.s x.sub.toNat).m = (r.s x.sub.toNat).m ∧ xt.ace = ((r.s x.sub.toNat).m.pk + 1) % 8 ∧ 1 ≤ sizeS x ∧ sizeS x ≤ 1460 ∧ MsOk (r.s x.sub.toNat).m from ⟨hbk, hmk1, hmk2, hac, hsz.1, hsz.2, hmok⟩)
  clear hbk hmk1 hmk2 hac hsz hmok h3a h3b h4a hT hF hE
  have x14 : w7.cell? ⟨B + 1, 14, none⟩ = some (.slice A n c) := y7.cell 14 rfl
  have x2 : w7.cell? ⟨B + 1, 2, none⟩ = some (.bool x.fin) := y7.cell 2 rfl
  have hn := v7.rd.len
  have HN := Lib.hid hn
  clear hn
  go_upto_if 79 with fail
  clear x14 x2
  go_cut [13] (fun a wx => Hid (a = .int .i64 (sizeS x) ∧ Bx wx B 32 (rcs s r) ∧ Bx wx (B + 1) 36 (sgs G m d A n c x) ∧ Bx wx Vf 32 (rcs sf rf) ∧ Bx wx Vt 32 (rcs st rt) ∧ Bx wx (Vt + 1) 36 (sgs Gt mt dt At nt ct xt) ∧ RcM wx (fun b => b < Vf) sf rf ∧ RcM wx (fun b => b < Vt) st rt ∧ Below B w wx ∧ B ≤ wx.heap.size ∧ B + 1 < Vf ∧ Vf < Vt ∧ Vt + 1 < wx.heap.size))
  case first =>
    have hvv : B + 1 < Vf ∧ Vf < Vt ∧ Vt + 1 < w7.heap.size := ⟨HVf.out, HVt.out, ot7.lt⟩
    have HVV := Lib.hid hvv; clear hvv
    cases hf : x.fin with
    | true =>
      have hs : sizeS x = 1 := if_pos hf
      have HSZ := Lib.hid hs
      clear hs hf
      go_wp2_with fail
      go_meet
      case rel => exact Lib.hid ⟨by rw [HSZ.out], e7, y7, pf7, pt7, ot7, jf7, jt7, b7, z7, HVV.out⟩
    | false =>
      have hs : sizeS x = (n : Int) := by unfold sizeS; rw [if_neg (by rw [hf]; simp), HN.out]
      have HSZ := Lib.hid hs
      clear hs hf
      go_wp2_with fail
      go_meet
      case rel => exact Lib.hid ⟨by rw [HSZ.out], e7, y7, pf7, pt7, ot7, jf7, jt7, b7, z7, HVV.out⟩
  case rest =>
  obtain ⟨rfl, e8, y8, pf8, pt8, ot8, jf8, jt8, b8, z8, hv1, hv2, hv3⟩ := hcut.out
  clear hcut e7 y7 pf7 pt7 ot7 jf7 jt7 b7 z7 f7 u7 v7 HVf HVt
  have HVV := Lib.hid (show B + 1 < Vf ∧ Vf < Vt from ⟨hv1, hv2⟩); clear hv1 hv2
  have hsub : x.sub = 0 ∨ x.sub = 1 ∨ x.sub = 2 ∨ x.sub = 3 := by have := HB.out; omega
  have HS := Lib.hid hsub
  clear hsub
  rcases HS.out with hs0 | hs0 | hs0 | hs0
  · clear HS
    have hFk := HF.out
    have hs1 : x.sub.toNat = 0 := by rw [hs0]; rfl
    rw [hs1] at hFk
    have x1 : wc.cell? ⟨B + 1, 1, none⟩ = some (.int .i64 0) := (y8.cell 1 rfl).trans (by show some (Value.int .i64 x.sub) = _; rw [hs0])
    have hmk : rt.s0.m = ⟨r.s0.m.pk + 1, r.s0.m.bt + sizeS x, r.s0.m.ca, r.s0.m.md, r.s0.m.pt⟩ := by
      have h0 := hFk.2.1
      unfold mkR at h0
      rw [if_pos rfl, hs1] at h0
      exact h0
    have HFK := Lib.hid hFk; have HMK := Lib.hid hmk; have HS1 := Lib.hid hs1; have HS0 := Lib.hid hs0
    clear hFk hmk hs1 hs0
    go_wp2_with (first | (refine rsub_load (cs := rcs s r) (vs := mcs r.s0.m) ir_marks rfl (.tmp 84) rfl rfl e8 rfl rfl ?_) | (refine rmk_store rfl (.tmp 14) (.tmp 85) rfl rfl (mcs r.s0.m) rfl (Bx.new _ _ (mcs zmk)) rfl rfl rfl ?_))
    obtain ⟨Z, hZ⟩ : ∃ Z, wc.heap.size = Z := ⟨_, rfl⟩
    have k9 := rmk_put (Bx.new wc 27 (mcs zmk)) (mcs r.s0.m)
    have hb : Below wc.heap.size wc ((wc.alloc (.cells (mcs zmk).toArray 27)).setRow wc.heap.size (mcs r.s0.m).toArray) := ((Below.refl _ _).alloc (Nat.le_refl _) _).grown (rmk_grown _ _ _) (by simp) (fun k hk => by cases hk; exact Nat.le_refl _)
    change Code.wp _ _ _ _ ((wc.alloc (.cells (mcs zmk).toArray 27)).setRow wc.heap.size (mcs r.s0.m).toArray)
    generalize (wc.alloc (.cells (mcs zmk).toArray 27)).setRow wc.heap.size (mcs r.s0.m).toArray = w9 at k9 hb ⊢
    have hvz : Vt + 1 < Z := by rw [← hZ]; exact ot8.lt
    have HVZ := Lib.hid hvz; clear hvz
    rw [hZ] at k9 ⊢
    have e9 := e8.kept hb
    have y9 := y8.kept hb
    have pf9 := pf8.kept hb
    have pt9 := pt8.kept hb
    have ot9 := ot8.kept hb
    have jf9 := jf8.keep hb
    have jt9 := jt8.keep hb
    have b9 := b8.trans (hb.mono z8); have z9 := Nat.le_trans z8 hb.size
    clear e8 y8 pf8 pt8 ot8 jf8 jt8 b8 z8 hb
    clear hZ x1
    have i1 : IntKind.i64.wrap (r.s0.m.pk + 1) = r.s0.m.pk + 1 := by have := HFK.out.2.2.2.2.2.2; have h1 := this.p0; have h2 := this.p1; exact IntWalk.i64_in _ (by change 0 ≤ r.s0.m.pk at h1; change r.s0.m.pk ≤ _ at h2; omega)
    have i2 : IntKind.i64.wrap (r.s0.m.bt + sizeS x) = r.s0.m.bt + sizeS x := by have := HFK.out; have h1 := this.2.2.2.2.2.2.b0; have h2 := this.2.2.2.2.2.2.b1; exact IntWalk.i64_in _ (by change 0 ≤ r.s0.m.bt at h1; change r.s0.m.bt ≤ _ at h2; omega)
    have h13 : rf.s0.m = r.s0.m := HFK.out.2.2.1
    have hpk : rt.s0.m.pk = r.s0.m.pk + 1 := by rw [HMK.out]
    have hbt : rt.s0.m.bt = r.s0.m.bt + sizeS x := by rw [HMK.out]
    have H13 := Lib.hid h13; have HPK := Lib.hid hpk; have HBT := Lib.hid hbt
    clear h13 hpk hbt
    have d1 : (rt.s0.m.pk == r.s0.m.pk + 1) = true := by rw [HPK.out]; simp
    have d2 : (rt.s0.m.bt == r.s0.m.bt + sizeS x) = true := by rw [HBT.out]; simp
    have c1 : (rf.s0.m.pk == r.s0.m.pk) = true := by rw [H13.out]; simp
    have c2 : (rf.s0.m.bt == r.s0.m.bt) = true := by rw [H13.out]; simp
    have c3 : (rf.s0.m.ca == r.s0.m.ca) = true := by rw [H13.out]; simp
    have c4 : (rf.s0.m.md == r.s0.m.md) = true := by rw [H13.out]; simp
    have c5 : (rf.s0.m.pt == r.s0.m.pt) = true := by rw [H13.out]; simp
    refine wp_region_tail 35 36 (fun (W : World) => Bx W B 32 (rcs s r) ∧ Bx W (B + 1) 36 (sgs G m d A n c x) ∧ Bx W Vf 32 (rcs sf rf) ∧ Bx W Vt 32 (rcs st rt) ∧ Bx W (Vt + 1) 36 (sgs Gt mt dt At nt ct xt) ∧ Bx W Z 27 (mcs r.s0.m) ∧ RcM W (fun b => b < Vf) sf rf ∧ RcM W (fun b => b < Vt) st rt ∧ Below B w W ∧ B ≤ W.heap.size) (by kernel_rfl) (by rfl) (by decide) ?_
    have HS : ((fun (W : World) => Bx W B 32 (rcs s r) ∧ Bx W (B + 1) 36 (sgs G m d A n c x) ∧ Bx W Vf 32 (rcs sf rf) ∧ Bx W Vt 32 (rcs st rt) ∧ Bx W (Vt + 1) 36 (sgs Gt mt dt At nt ct xt) ∧ Bx W Z 27 (mcs r.s0.m) ∧ RcM W (fun b => b < Vf) sf rf ∧ RcM W (fun b => b < Vt) st rt ∧ Below B w W ∧ B ≤ W.heap.size)) _ := ⟨e9.drew, y9.drew, pf9.drew, pt9.drew, ot9.drew, k9.drew, jf9.drew, jt9.drew, b9.drew, z9⟩
    refine wpAnyT_take (i := 0) (v := .pointer (some ⟨B + 1, 1, none⟩)) rfl (by kernel_rfl) (fun _ _ _ h => h) (Or.inl ⟨by rfl, fun w hSw => ?_⟩) HS ?_
    · clear hSw HS
      go_simp
    try simp only [Act.put, List.setIfInBounds_toArray, List.set_cons_zero, List.set_cons_succ]
    refine wpAnyT_take (i := 1) (v := .int .i64 0) rfl (by kernel_rfl) (fun _ _ _ h => h) (Or.inl ⟨by rfl, fun w hSw => ?_⟩) HS ?_
    · have cc := (Bx.cell hSw.2.1 1 rfl).trans (show some (Value.int .i64 x.sub) = some (Value.int .i64 0) by rw [HS0.out])
      clear hSw HS
      go_simp
    try simp only [Act.put, List.setIfInBounds_toArray, List.set_cons_zero, List.set_cons_succ]
    refine wpAnyT_take (i := 2) (v := .pointer (some ⟨Vt, 5, none⟩)) rfl (by kernel_rfl) (fun _ _ _ h => h) (Or.inl ⟨by rfl, fun w hSw => ?_⟩) HS ?_
    · clear hSw HS
      go_simp
    try simp only [Act.put, List.setIfInBounds_toArray, List.set_cons_zero, List.set_cons_succ]
    refine wpAnyT_take (i := 3) (v := .pointer (some ⟨Vt, 5, none⟩)) rfl (by kernel_rfl) (fun _ _ _ h => h) (Or.inl ⟨by rfl, fun w hSw => ?_⟩) HS ?_
    · clear hSw HS
      go_simp
    try simp only [Act.put, List.setIfInBounds_toArray, List.set_cons_zero, List.set_cons_succ]
    refine wpAnyT_take (i := 4) (v := .pointer (some ⟨Vt, 6, none⟩)) rfl (by kernel_rfl) (fun _ _ _ h => h) (Or.inl ⟨by rfl, fun w hSw => ?_⟩) HS ?_
    · clear hSw HS
      go_simp
    try simp only [Act.put, List.setIfInBounds_toArray, List.set_cons_zero, List.set_cons_succ]
    refine wpAnyT_take (i := 5) (v := .pointer (some ⟨Vt, 6, none⟩)) rfl (by kernel_rfl) (fun _ _ _ h => h) (Or.inl ⟨by rfl, fun w hSw => ?_⟩) HS ?_
    · clear hSw HS
      go_simp
    try simp only [Act.put, List.setIfInBounds_toArray, List.set_cons_zero, List.set_cons_succ]
    refine wpAnyT_take (i := 6) (v := .int .i64 rt.s0.m.pk) rfl (by kernel_rfl) (fun _ _ _ h => h) (Or.inl ⟨by rfl, fun w hSw => ?_⟩) HS ?_
    · have cc := Bx.cell (hSw.2.2.2.1) 6 (v := .int .i64 rt.s0.m.pk) rfl
      clear hSw HS
      go_simp
    try simp only [Act.put, List.setIfInBounds_toArray, List.set_cons_zero, List.set_cons_succ]
    refine wpAnyT_take (i := 7) (v := .pointer (some ⟨Z, 0, none⟩)) rfl (by kernel_rfl) (fun _ _ _ h => h) (Or.inl ⟨by rfl, fun w hSw => ?_⟩) HS ?_
    · clear hSw HS
      go_simp
    try simp only [Act.put, List.setIfInBounds_toArray, List.set_cons_zero, List.set_cons_succ]
    refine wpAnyT_take (i := 8) (v := .int .i64 r.s0.m.pk) rfl (by kernel_rfl) (fun _ _ _ h => h) (Or.inl ⟨by rfl, fun w hSw => ?_⟩) HS ?_
    · have cc := Bx.cell (hSw.2.2.2.2.2.1) 0 (v := .int .i64 r.s0.m.pk) rfl
      clear hSw HS
      go_simp
    try simp only [Act.put, List.setIfInBounds_toArray, List.set_cons_zero, List.set_cons_succ]
    refine wpAnyT_take (i := 9) (v := .int .i64 (r.s0.m.pk + 1)) rfl (by kernel_rfl) (fun _ _ _ h => h) (Or.inl ⟨by rfl, fun w hSw => ?_⟩) HS ?_
    · clear hSw HS
      go_simp
    try simp only [Act.put, List.setIfInBounds_toArray, List.set_cons_zero, List.set_cons_succ]
    refine wpAnyT_take (i := 10) (v := .bool true) rfl (by kernel_rfl) (fun _ _ _ h => h) (Or.inl ⟨by rfl, fun w hSw => ?_⟩) HS ?_
    · clear hSw HS
      go_simp
    try simp only [Act.put, List.setIfInBounds_toArray, List.set_cons_zero, List.set_cons_succ]
    refine wpAnyT_take (i := 11) (v := .bool true) rfl (by kernel_rfl) (fun _ _ _ h => h) (Or.inl ⟨by rfl, fun w hSw => ?_⟩) HS ?_
    · clear hSw HS
      go_simp
    try simp only [Act.put, List.setIfInBounds_toArray, List.set_cons_zero, List.set_cons_succ]
    refine wpAnyT_take (i := 12) (v := .pointer (some ⟨B + 1, 1, none⟩)) rfl (by kernel_rfl) (fun _ _ _ h => h) (Or.inl ⟨by rfl, fun w hSw => ?_⟩) HS ?_
    · clear hSw HS
      go_simp
    try simp only [Act.put, List.setIfInBounds_toArray, List.set_cons_zero, List.set_cons_succ]
    refine wpAnyT_take (i := 13) (v := .int .i64 0) rfl (by kernel_rfl) (fun _ _ _ h => h) (Or.inl ⟨by rfl, fun w hSw => ?_⟩) HS ?_
    · have cc := (Bx.cell hSw.2.1 1 rfl).trans (show some (Value.int .i64 x.sub) = some (Value.int .i64 0) by rw [HS0.out])
      clear hSw HS
      go_simp
    try simp only [Act.put, List.setIfInBounds_toArray, List.set_cons_zero, List.set_cons_succ]
    refine wpAnyT_take (i := 14) (v := .pointer (some ⟨Vt, 5, none⟩)) rfl (by kernel_rfl) (fun _ _ _ h => h) (Or.inl ⟨by rfl, fun w hSw => ?_⟩) HS ?_
    · clear hSw HS
      go_simp
    try simp only [Act.put, List.setIfInBounds_toArray, List.set_cons_zero, List.set_cons_succ]
    refine wpAnyT_take (i := 15) (v := .pointer (some ⟨Vt, 5, none⟩)) rfl (by kernel_rfl) (fun _ _ _ h => h) (Or.inl ⟨by rfl, fun w hSw => ?_⟩) HS ?_
    · clear hSw HS
      go_simp
    try simp only [Act.put, List.setIfInBounds_toArray, List.set_cons_zero, List.set_cons_succ]
    refine wpAnyT_take (i := 16) (v := .pointer (some ⟨Vt, 6, none⟩)) rfl (by kernel_rfl) (fun _ _ _ h => h) (Or.inl ⟨by rfl, fun w hSw => ?_⟩) HS ?_
    · clear hSw HS
      go_simp
    try simp only [Act.put, List.setIfInBounds_toArray, List.set_cons_zero, List.set_cons_succ]
    refine wpAnyT_take (i := 17) (v := .pointer (some ⟨Vt, 7, none⟩)) rfl (by kernel_rfl) (fun _ _ _ h => h) (Or.inl ⟨by rfl, fun w hSw => ?_⟩) HS ?_
    · clear hSw HS
      go_simp
    try simp only [Act.put, List.setIfInBounds_toArray, List.set_cons_zero, List.set_cons_succ]
    refine wpAnyT_take (i := 18) (v := .int .i64 rt.s0.m.bt) rfl (by kernel_rfl) (fun _ _ _ h => h) (Or.inl ⟨by rfl, fun w hSw => ?_⟩) HS ?_
    · have cc := Bx.cell (hSw.2.2.2.1) 7 (v := .int .i64 rt.s0.m.bt) rfl
      clear hSw HS
      go_simp
    try simp only [Act.put, List.setIfInBounds_toArray, List.set_cons_zero, List.set_cons_succ]
    refine wpAnyT_take (i := 19) (v := .pointer (some ⟨Z, 1, none⟩)) rfl (by kernel_rfl) (fun _ _ _ h => h) (Or.inl ⟨by rfl, fun w hSw => ?_⟩) HS ?_
    · clear hSw HS
      go_simp
    try simp only [Act.put, List.setIfInBounds_toArray, List.set_cons_zero, List.set_cons_succ]
    refine wpAnyT_take (i := 20) (v := .int .i64 r.s0.m.bt) rfl (by kernel_rfl) (fun _ _ _ h => h) (Or.inl ⟨by rfl, fun w hSw => ?_⟩) HS ?_
    · have cc := Bx.cell (hSw.2.2.2.2.2.1) 1 (v := .int .i64 r.s0.m.bt) rfl
      clear hSw HS
      go_simp
    try simp only [Act.put, List.setIfInBounds_toArray, List.set_cons_zero, List.set_cons_succ]
    refine wpAnyT_take (i := 21) (v := .int .i64 (sizeS x)) rfl (by kernel_rfl) (fun _ _ _ h => h) (Or.inl ⟨by rfl, fun w hSw => ?_⟩) HS ?_
    · clear hSw HS
      go_simp
    try simp only [Act.put, List.setIfInBounds_toArray, List.set_cons_zero, List.set_cons_succ]
    refine wpAnyT_take (i := 22) (v := .int .i64 (r.s0.m.bt + sizeS x)) rfl (by kernel_rfl) (fun _ _ _ h => h) (Or.inl ⟨by rfl, fun w hSw => ?_⟩) HS ?_
    · clear hSw HS
      go_simp
    try simp only [Act.put, List.setIfInBounds_toArray, List.set_cons_zero, List.set_cons_succ]
    refine wpAnyT_take (i := 23) (v := .bool true) rfl (by kernel_rfl) (fun _ _ _ h => h) (Or.inl ⟨by rfl, fun w hSw => ?_⟩) HS ?_
    · clear hSw HS
      go_simp
    try simp only [Act.put, List.setIfInBounds_toArray, List.set_cons_zero, List.set_cons_succ]
    refine wpAnyT_take (i := 24) (v := .bool true) rfl (by kernel_rfl) (fun _ _ _ h => h) (Or.inl ⟨by rfl, fun w hSw => ?_⟩) HS ?_
    · clear hSw HS
      go_simp
    try simp only [Act.put, List.setIfInBounds_toArray, List.set_cons_zero, List.set_cons_succ]
    refine wpAnyT_take (i := 25) (v := .bool true) rfl (by kernel_rfl) (fun _ _ _ h => h) (Or.inl ⟨by rfl, fun w hSw => ?_⟩) HS ?_
    · clear hSw HS
      go_simp
    try simp only [Act.put, List.setIfInBounds_toArray, List.set_cons_zero, List.set_cons_succ]
    refine wpAnyT_take (i := 26) (v := .pointer (some ⟨B + 1, 1, none⟩)) rfl (by kernel_rfl) (fun _ _ _ h => h) (Or.inl ⟨by rfl, fun w hSw => ?_⟩) HS ?_
    · clear hSw HS
      go_simp
    try simp only [Act.put, List.setIfInBounds_toArray, List.set_cons_zero, List.set_cons_succ]
    refine wpAnyT_take (i := 27) (v := .int .i64 0) rfl (by kernel_rfl) (fun _ _ _ h => h) (Or.inl ⟨by rfl, fun w hSw => ?_⟩) HS ?_
    · have cc := (Bx.cell hSw.2.1 1 rfl).trans (show some (Value.int .i64 x.sub) = some (Value.int .i64 0) by rw [HS0.out])
      clear hSw HS
      go_simp
    try simp only [Act.put, List.setIfInBounds_toArray, List.set_cons_zero, List.set_cons_succ]
    refine wpAnyT_take (i := 28) (v := .pointer (some ⟨Vf, 5, none⟩)) rfl (by kernel_rfl) (fun _ _ _ h => h) (Or.inl ⟨by rfl, fun w hSw => ?_⟩) HS ?_
    · clear hSw HS
      go_simp
    try simp only [Act.put, List.setIfInBounds_toArray, List.set_cons_zero, List.set_cons_succ]
    refine wpAnyT_take (i := 29) (v := .pointer (some ⟨Vf, 5, none⟩)) rfl (by kernel_rfl) (fun _ _ _ h => h) (Or.inl ⟨by rfl, fun w hSw => ?_⟩) HS ?_
    · clear hSw HS
      go_simp
    try simp only [Act.put, List.setIfInBounds_toArray, List.set_cons_zero, List.set_cons_succ]
    refine wpAnyT_take (i := 30) (v := .pointer (some ⟨Vf, 6, none⟩)) rfl (by kernel_rfl) (fun _ _ _ h => h) (Or.inl ⟨by rfl, fun w hSw => ?_⟩) HS ?_
    · clear hSw HS
      go_simp
    try simp only [Act.put, List.setIfInBounds_toArray, List.set_cons_zero, List.set_cons_succ]
    refine wpAnyT_take (i := 31) (v := .agg #[.int .i64 rf.s0.m.pk, .int .i64 rf.s0.m.bt, .int .i64 rf.s0.m.ca, .int .i64 rf.s0.m.md, .int .i64 rf.s0.m.pt]) rfl (by kernel_rfl) (fun _ _ _ h => h) (rsub_y (cs := rcs sf rf) (vs := [.int .i64 rf.s0.m.pk, .int .i64 rf.s0.m.bt, .int .i64 rf.s0.m.ca, .int .i64 rf.s0.m.md, .int .i64 rf.s0.m.pt]) ir_marks (by rfl) (.tmp 116) rfl rfl (fun w hSw => hSw.2.2.1) rfl rfl) HS ?_
    try simp only [Act.put, List.setIfInBounds_toArray, List.set_cons_zero, List.set_cons_succ]
    refine wpAnyT_take (i := 32) (v := .agg #[.int .i64 r.s0.m.pk, .int .i64 r.s0.m.bt, .int .i64 r.s0.m.ca, .int .i64 r.s0.m.md, .int .i64 r.s0.m.pt]) rfl (by kernel_rfl) (fun _ _ _ h => h) (rsub_y (cs := mcs r.s0.m) (vs := [.int .i64 r.s0.m.pk, .int .i64 r.s0.m.bt, .int .i64 r.s0.m.ca, .int .i64 r.s0.m.md, .int .i64 r.s0.m.pt]) ir_marks (by rfl) (.tmp 14) rfl rfl (fun w hSw => hSw.2.2.2.2.2.1) rfl rfl) HS ?_
    try simp only [Act.put, List.setIfInBounds_toArray, List.set_cons_zero, List.set_cons_succ]
    refine wpAnyT_take (i := 33) (v := .bool true) rfl (by kernel_rfl) (fun _ _ _ h => h) (Or.inl ⟨by rfl, fun w hSw => ?_⟩) HS ?_
    · clear hSw HS
      go_simp
    try simp only [Act.put, List.setIfInBounds_toArray, List.set_cons_zero, List.set_cons_succ]
    refine wpAnyT_take (i := 34) (v := .bool true) rfl (by kernel_rfl) (fun _ _ _ h => h) (Or.inl ⟨by rfl, fun w hSw => ?_⟩) HS ?_
    · clear hSw HS
      go_simp
    try simp only [Act.put, List.setIfInBounds_toArray, List.set_cons_zero, List.set_cons_succ]
    refine ⟨by kernel_rfl, ?_⟩
    simp only [List.drop_succ_cons, List.drop_zero]
    obtain ⟨e10, y10, pf10, pt10, ot10, k10, jf10, jt10, b10, z10⟩ := HS
    clear d1 d2 i2 c1 c2 c3 c4 c5
    generalize w9.drew = w10 at *
    have x1 : w10.cell? ⟨B + 1, 1, none⟩ = some (.int .i64 0) := (y10.cell 1 rfl).trans (by show some (Value.int .i64 x.sub) = _; rw [HS0.out])
    go_upto_region 15 with (first | (refine rmk_load rfl (.tmp 14) rfl rfl k10 rfl ?_) | (refine rsub_store (cs := rcs st rt) ir_marks rfl (.tmp 126) (.tmp 123) rfl rfl (mcs r.s0.m) rfl pt10 (by rw [rcs_len]; omega) rfl rfl ?_))
    have q11 : Bx (w10.setCells Vt 6 (mcs r.s0.m)) Vt 32 (rcs st (rt.put ⟨(rt.s 0).got, r.s0.m⟩ 0)) := pt10.cellsR (mcs r.s0.m) (o := 6)
    have hg := grown_cellsR (B := Vt) (mcs r.s0.m) 6 w10
    have hv := HVV.out; have hz := HVZ.out
    have b11 := b10.grown hg z10 (fun k hk => by cases hk; omega)
    have pf11 := pf10.grown hg (fun e => by have := Option.some.inj e; omega)
    have ot11 := ot10.grown hg (fun e => by have := Option.some.inj e; omega)
    have k11 := k10.grown hg (fun e => by have := Option.some.inj e; omega)
    have jf11 := jf10.grown hg (fun b hb e => by have := Option.some.inj e; omega)
    have hmw : MsW r.s0.m := by rw [← H13.out]; exact jf10.wide.m0
    have jt11 := rcm_m0 (jt10.grown hg (fun b hb e => by have := Option.some.inj e; omega)) r.s0.m hmw
    have z11 : Z < (w10.setCells Vt 6 (mcs r.s0.m)).heap.size := k11.lt
    generalize w10.setCells Vt 6 (mcs r.s0.m) = w11 at q11 b11 pf11 ot11 k11 jf11 jt11 z11 ⊢
    clear hg hv hz hmw e10 y10 pf10 pt10 ot10 k10 jf10 jt10 b10 z10 x1
    have l9 : w11.cell? ⟨Vt + 1, 9, none⟩ = some (.int .i64 xt.ace) := ot11.cell 9 rfl
    go_wp2_with (first | (refine rv_loadg (by kernel_rfl) (.tmp 7) rfl rfl pf11 rfl ?_) | (refine rv_loadg (by kernel_rfl) (.tmp 10) rfl rfl q11 rfl ?_))
    have hpe : rt.put ⟨(rt.s 0).got, r.s0.m⟩ 0 = rf := HFK.out.1
    rw [hpe] at jt11 ⊢
    clear hpe
    refine (rrsame_yes _ _ sf st rf _ jf11 jt11).mono ?_
    rintro e w12 ⟨rfl, hb⟩
    have ot12 := ot11.kept hb; have k12 := k11.kept hb
    have b12 := b11.trans (hb.mono (by have := HVV.out; have := HVZ.out; omega))
    clear hb b11 ot11 k11 pf11 q11 jf11 jt11 z11 l9
    have l9 : w12.cell? ⟨Vt + 1, 9, none⟩ = some (.int .i64 xt.ace) := ot12.cell 9 rfl
    have l0 : w12.cell? ⟨Z, 0, none⟩ = some (.int .i64 r.s0.m.pk) := k12.cell 0 rfl
    have i3 : (r.s0.m.pk + 1).tmod 8 = (r.s0.m.pk + 1) % 8 := Int.tmod_eq_emod_of_nonneg (by have := HFK.out.2.2.2.2.2.2.p0; change 0 ≤ r.s0.m.pk at this; omega)
    have i4 : IntKind.i64.wrap ((r.s0.m.pk + 1) % 8) = (r.s0.m.pk + 1) % 8 := IntWalk.i64_in _ (by omega)
    have d1 : (xt.ace == (r.s0.m.pk + 1) % 8) = true := by have := HFK.out.2.2.2.1; change xt.ace = (r.s0.m.pk + 1) % 8 at this; rw [this]; simp
    clear ot12 k12
    go_wp2_with fail
    go_ret
    exact ⟨rfl, b12⟩
  · clear HS
    have hFk := HF.out
    have hs1 : x.sub.toNat = 1 := by rw [hs0]; rfl
    rw [hs1] at hFk
    have x1 : wc.cell? ⟨B + 1, 1, none⟩ = some (.int .i64 1) := (y8.cell 1 rfl).trans (by show some (Value.int .i64 x.sub) = _; rw [hs0])
    have hmk : rt.s1.m = ⟨r.s1.m.pk + 1, r.s1.m.bt + sizeS x, r.s1.m.ca, r.s1.m.md, r.s1.m.pt⟩ := by
      have h0 := hFk.2.1
      unfold mkR at h0
      rw [if_pos rfl, hs1] at h0
      exact h0
    have HFK := Lib.hid hFk; have HMK := Lib.hid hmk; have HS1 := Lib.hid hs1; have HS0 := Lib.hid hs0
    clear hFk hmk hs1 hs0
    go_wp2_with (first | (refine rsub_load (cs := rcs s r) (vs := mcs r.s1.m) ir_marks rfl (.tmp 84) rfl rfl e8 rfl rfl ?_) | (refine rmk_store rfl (.tmp 14) (.tmp 85) rfl rfl (mcs r.s1.m) rfl (Bx.new _ _ (mcs zmk)) rfl rfl rfl ?_))
    obtain ⟨Z, hZ⟩ : ∃ Z, wc.heap.size = Z := ⟨_, rfl⟩
    have k9 := rmk_put (Bx.new wc 27 (mcs zmk)) (mcs r.s1.m)
    have hb : Below wc.heap.size wc ((wc.alloc (.cells (mcs zmk).toArray 27)).setRow wc.heap.size (mcs r.s1.m).toArray) := ((Below.refl _ _).alloc (Nat.le_refl _) _).grown (rmk_grown _ _ _) (by simp) (fun k hk => by cases hk; exact Nat.le_refl _)
    change Code.wp _ _ _ _ ((wc.alloc (.cells (mcs zmk).toArray 27)).setRow wc.heap.size (mcs r.s1.m).toArray)
    generalize (wc.alloc (.cells (mcs zmk).toArray 27)).setRow wc.heap.size (mcs r.s1.m).toArray = w9 at k9 hb ⊢
    have hvz : Vt + 1 < Z := by rw [← hZ]; exact ot8.lt
    have HVZ := Lib.hid hvz; clear hvz
    rw [hZ] at k9 ⊢
    have e9 := e8.kept hb
    have y9 := y8.kept hb
    have pf9 := pf8.kept hb
    have pt9 := pt8.kept hb
    have ot9 := ot8.kept hb
    have jf9 := jf8.keep hb
    have jt9 := jt8.keep hb
    have b9 := b8.trans (hb.mono z8); have z9 := Nat.le_trans z8 hb.size
    clear e8 y8 pf8 pt8 ot8 jf8 jt8 b8 z8 hb
    clear hZ x1
    have i1 : IntKind.i64.wrap (r.s1.m.pk + 1) = r.s1.m.pk + 1 := by have := HFK.out.2.2.2.2.2.2; have h1 := this.p0; have h2 := this.p1; exact IntWalk.i64_in _ (by change 0 ≤ r.s1.m.pk at h1; change r.s1.m.pk ≤ _ at h2; omega)
    have i2 : IntKind.i64.wrap (r.s1.m.bt + sizeS x) = r.s1.m.bt + sizeS x := by have := HFK.out; have h1 := this.2.2.2.2.2.2.b0; have h2 := this.2.2.2.2.2.2.b1; exact IntWalk.i64_in _ (by change 0 ≤ r.s1.m.bt at h1; change r.s1.m.bt ≤ _ at h2; omega)
    have h13 : rf.s1.m = r.s1.m := HFK.out.2.2.1
    have hpk : rt.s1.m.pk = r.s1.m.pk + 1 := by rw [HMK.out]
    have hbt : rt.s1.m.bt = r.s1.m.bt + sizeS x := by rw [HMK.out]
    have H13 := Lib.hid h13; have HPK := Lib.hid hpk; have HBT := Lib.hid hbt
    clear h13 hpk hbt
    have d1 : (rt.s1.m.pk == r.s1.m.pk + 1) = true := by rw [HPK.out]; simp
    have d2 : (rt.s1.m.bt == r.s1.m.bt + sizeS x) = true := by rw [HBT.out]; simp
    have c1 : (rf.s1.m.pk == r.s1.m.pk) = true := by rw [H13.out]; simp
    have c2 : (rf.s1.m.bt == r.s1.m.bt) = true := by rw [H13.out]; simp
    have c3 : (rf.s1.m.ca == r.s1.m.ca) = true := by rw [H13.out]; simp
    have c4 : (rf.s1.m.md == r.s1.m.md) = true := by rw [H13.out]; simp
    have c5 : (rf.s1.m.pt == r.s1.m.pt) = true := by rw [H13.out]; simp
    refine wp_region_tail 35 36 (fun (W : World) => Bx W B 32 (rcs s r) ∧ Bx W (B + 1) 36 (sgs G m d A n c x) ∧ Bx W Vf 32 (rcs sf rf) ∧ Bx W Vt 32 (rcs st rt) ∧ Bx W (Vt + 1) 36 (sgs Gt mt dt At nt ct xt) ∧ Bx W Z 27 (mcs r.s1.m) ∧ RcM W (fun b => b < Vf) sf rf ∧ RcM W (fun b => b < Vt) st rt ∧ Below B w W ∧ B ≤ W.heap.size) (by kernel_rfl) (by rfl) (by decide) ?_
    have HS : ((fun (W : World) => Bx W B 32 (rcs s r) ∧ Bx W (B + 1) 36 (sgs G m d A n c x) ∧ Bx W Vf 32 (rcs sf rf) ∧ Bx W Vt 32 (rcs st rt) ∧ Bx W (Vt + 1) 36 (sgs Gt mt dt At nt ct xt) ∧ Bx W Z 27 (mcs r.s1.m) ∧ RcM W (fun b => b < Vf) sf rf ∧ RcM W (fun b => b < Vt) st rt ∧ Below B w W ∧ B ≤ W.heap.size)) _ := ⟨e9.drew, y9.drew, pf9.drew, pt9.drew, ot9.drew, k9.drew, jf9.drew, jt9.drew, b9.drew, z9⟩
    refine wpAnyT_take (i := 0) (v := .pointer (some ⟨B + 1, 1, none⟩)) rfl (by kernel_rfl) (fun _ _ _ h => h) (Or.inl ⟨by rfl, fun w hSw => ?_⟩) HS ?_
    · clear hSw HS
      go_simp
    try simp only [Act.put, List.setIfInBounds_toArray, List.set_cons_zero, List.set_cons_succ]
    refine wpAnyT_take (i := 1) (v := .int .i64 1) rfl (by kernel_rfl) (fun _ _ _ h => h) (Or.inl ⟨by rfl, fun w hSw => ?_⟩) HS ?_
    · have cc := (Bx.cell hSw.2.1 1 rfl).trans (show some (Value.int .i64 x.sub) = some (Value.int .i64 1) by rw [HS0.out])
      clear hSw HS
      go_simp
    try simp only [Act.put, List.setIfInBounds_toArray, List.set_cons_zero, List.set_cons_succ]
    refine wpAnyT_take (i := 2) (v := .pointer (some ⟨Vt, 5, none⟩)) rfl (by kernel_rfl) (fun _ _ _ h => h) (Or.inl ⟨by rfl, fun w hSw => ?_⟩) HS ?_
    · clear hSw HS
      go_simp
    try simp only [Act.put, List.setIfInBounds_toArray, List.set_cons_zero, List.set_cons_succ]
    refine wpAnyT_take (i := 3) (v := .pointer (some ⟨Vt, 11, none⟩)) rfl (by kernel_rfl) (fun _ _ _ h => h) (Or.inl ⟨by rfl, fun w hSw => ?_⟩) HS ?_
    · clear hSw HS
      go_simp
    try simp only [Act.put, List.setIfInBounds_toArray, List.set_cons_zero, List.set_cons_succ]
    refine wpAnyT_take (i := 4) (v := .pointer (some ⟨Vt, 12, none⟩)) rfl (by kernel_rfl) (fun _ _ _ h => h) (Or.inl ⟨by rfl, fun w hSw => ?_⟩) HS ?_
    · clear hSw HS
      go_simp
    try simp only [Act.put, List.setIfInBounds_toArray, List.set_cons_zero, List.set_cons_succ]
    refine wpAnyT_take (i := 5) (v := .pointer (some ⟨Vt, 12, none⟩)) rfl (by kernel_rfl) (fun _ _ _ h => h) (Or.inl ⟨by rfl, fun w hSw => ?_⟩) HS ?_
    · clear hSw HS
      go_simp
    try simp only [Act.put, List.setIfInBounds_toArray, List.set_cons_zero, List.set_cons_succ]
    refine wpAnyT_take (i := 6) (v := .int .i64 rt.s1.m.pk) rfl (by kernel_rfl) (fun _ _ _ h => h) (Or.inl ⟨by rfl, fun w hSw => ?_⟩) HS ?_
    · have cc := Bx.cell (hSw.2.2.2.1) 12 (v := .int .i64 rt.s1.m.pk) rfl
      clear hSw HS
      go_simp
    try simp only [Act.put, List.setIfInBounds_toArray, List.set_cons_zero, List.set_cons_succ]
    refine wpAnyT_take (i := 7) (v := .pointer (some ⟨Z, 0, none⟩)) rfl (by kernel_rfl) (fun _ _ _ h => h) (Or.inl ⟨by rfl, fun w hSw => ?_⟩) HS ?_
    · clear hSw HS
      go_simp
    try simp only [Act.put, List.setIfInBounds_toArray, List.set_cons_zero, List.set_cons_succ]
    refine wpAnyT_take (i := 8) (v := .int .i64 r.s1.m.pk) rfl (by kernel_rfl) (fun _ _ _ h => h) (Or.inl ⟨by rfl, fun w hSw => ?_⟩) HS ?_
    · have cc := Bx.cell (hSw.2.2.2.2.2.1) 0 (v := .int .i64 r.s1.m.pk) rfl
      clear hSw HS
      go_simp
    try simp only [Act.put, List.setIfInBounds_toArray, List.set_cons_zero, List.set_cons_succ]
    refine wpAnyT_take (i := 9) (v := .int .i64 (r.s1.m.pk + 1)) rfl (by kernel_rfl) (fun _ _ _ h => h) (Or.inl ⟨by rfl, fun w hSw => ?_⟩) HS ?_
    · clear hSw HS
      go_simp
    try simp only [Act.put, List.setIfInBounds_toArray, List.set_cons_zero, List.set_cons_succ]
    refine wpAnyT_take (i := 10) (v := .bool true) rfl (by kernel_rfl) (fun _ _ _ h => h) (Or.inl ⟨by rfl, fun w hSw => ?_⟩) HS ?_
    · clear hSw HS
      go_simp
    try simp only [Act.put, List.setIfInBounds_toArray, List.set_cons_zero, List.set_cons_succ]
    refine wpAnyT_take (i := 11) (v := .bool true) rfl (by kernel_rfl) (fun _ _ _ h => h) (Or.inl ⟨by rfl, fun w hSw => ?_⟩) HS ?_
    · clear hSw HS
      go_simp
    try simp only [Act.put, List.setIfInBounds_toArray, List.set_cons_zero, List.set_cons_succ]
    refine wpAnyT_take (i := 12) (v := .pointer (some ⟨B + 1, 1, none⟩)) rfl (by kernel_rfl) (fun _ _ _ h => h) (Or.inl ⟨by rfl, fun w hSw => ?_⟩) HS ?_
    · clear hSw HS
      go_simp
    try simp only [Act.put, List.setIfInBounds_toArray, List.set_cons_zero, List.set_cons_succ]
    refine wpAnyT_take (i := 13) (v := .int .i64 1) rfl (by kernel_rfl) (fun _ _ _ h => h) (Or.inl ⟨by rfl, fun w hSw => ?_⟩) HS ?_
    · have cc := (Bx.cell hSw.2.1 1 rfl).trans (show some (Value.int .i64 x.sub) = some (Value.int .i64 1) by rw [HS0.out])
      clear hSw HS
      go_simp
    try simp only [Act.put, List.setIfInBounds_toArray, List.set_cons_zero, List.set_cons_succ]
    refine wpAnyT_take (i := 14) (v := .pointer (some ⟨Vt, 5, none⟩)) rfl (by kernel_rfl) (fun _ _ _ h => h) (Or.inl ⟨by rfl, fun w hSw => ?_⟩) HS ?_
    · clear hSw HS
      go_simp
    try simp only [Act.put, List.setIfInBounds_toArray, List.set_cons_zero, List.set_cons_succ]
    refine wpAnyT_take (i := 15) (v := .pointer (some ⟨Vt, 11, none⟩)) rfl (by kernel_rfl) (fun _ _ _ h => h) (Or.inl ⟨by rfl, fun w hSw => ?_⟩) HS ?_
    · clear hSw HS
      go_simp
    try simp only [Act.put, List.setIfInBounds_toArray, List.set_cons_zero, List.set_cons_succ]
    refine wpAnyT_take (i := 16) (v := .pointer (some ⟨Vt, 12, none⟩)) rfl (by kernel_rfl) (fun _ _ _ h => h) (Or.inl ⟨by rfl, fun w hSw => ?_⟩) HS ?_
    · clear hSw HS
      go_simp
    try simp only [Act.put, List.setIfInBounds_toArray, List.set_cons_zero, List.set_cons_succ]
    refine wpAnyT_take (i := 17) (v := .pointer (some ⟨Vt, 13, none⟩)) rfl (by kernel_rfl) (fun _ _ _ h => h) (Or.inl ⟨by rfl, fun w hSw => ?_⟩) HS ?_
    · clear hSw HS
      go_simp
    try simp only [Act.put, List.setIfInBounds_toArray, List.set_cons_zero, List.set_cons_succ]
    refine wpAnyT_take (i := 18) (v := .int .i64 rt.s1.m.bt) rfl (by kernel_rfl) (fun _ _ _ h => h) (Or.inl ⟨by rfl, fun w hSw => ?_⟩) HS ?_
    · have cc := Bx.cell (hSw.2.2.2.1) 13 (v := .int .i64 rt.s1.m.bt) rfl
      clear hSw HS
      go_simp
    try simp only [Act.put, List.setIfInBounds_toArray, List.set_cons_zero, List.set_cons_succ]
    refine wpAnyT_take (i := 19) (v := .pointer (some ⟨Z, 1, none⟩)) rfl (by kernel_rfl) (fun _ _ _ h => h) (Or.inl ⟨by rfl, fun w hSw => ?_⟩) HS ?_
    · clear hSw HS
      go_simp
    try simp only [Act.put, List.setIfInBounds_toArray, List.set_cons_zero, List.set_cons_succ]
    refine wpAnyT_take (i := 20) (v := .int .i64 r.s1.m.bt) rfl (by kernel_rfl) (fun _ _ _ h => h) (Or.inl ⟨by rfl, fun w hSw => ?_⟩) HS ?_
    · have cc := Bx.cell (hSw.2.2.2.2.2.1) 1 (v := .int .i64 r.s1.m.bt) rfl
      clear hSw HS
      go_simp
    try simp only [Act.put, List.setIfInBounds_toArray, List.set_cons_zero, List.set_cons_succ]
    refine wpAnyT_take (i := 21) (v := .int .i64 (sizeS x)) rfl (by kernel_rfl) (fun _ _ _ h => h) (Or.inl ⟨by rfl, fun w hSw => ?_⟩) HS ?_
    · clear hSw HS
      go_simp
    try simp only [Act.put, List.setIfInBounds_toArray, List.set_cons_zero, List.set_cons_succ]
    refine wpAnyT_take (i := 22) (v := .int .i64 (r.s1.m.bt + sizeS x)) rfl (by kernel_rfl) (fun _ _ _ h => h) (Or.inl ⟨by rfl, fun w hSw => ?_⟩) HS ?_
    · clear hSw HS
      go_simp
    try simp only [Act.put, List.setIfInBounds_toArray, List.set_cons_zero, List.set_cons_succ]
    refine wpAnyT_take (i := 23) (v := .bool true) rfl (by kernel_rfl) (fun _ _ _ h => h) (Or.inl ⟨by rfl, fun w hSw => ?_⟩) HS ?_
    · clear hSw HS
      go_simp
    try simp only [Act.put, List.setIfInBounds_toArray, List.set_cons_zero, List.set_cons_succ]
    refine wpAnyT_take (i := 24) (v := .bool true) rfl (by kernel_rfl) (fun _ _ _ h => h) (Or.inl ⟨by rfl, fun w hSw => ?_⟩) HS ?_
    · clear hSw HS
      go_simp
    try simp only [Act.put, List.setIfInBounds_toArray, List.set_cons_zero, List.set_cons_succ]
    refine wpAnyT_take (i := 25) (v := .bool true) rfl (by kernel_rfl) (fun _ _ _ h => h) (Or.inl ⟨by rfl, fun w hSw => ?_⟩) HS ?_
    · clear hSw HS
      go_simp
    try simp only [Act.put, List.setIfInBounds_toArray, List.set_cons_zero, List.set_cons_succ]
    refine wpAnyT_take (i := 26) (v := .pointer (some ⟨B + 1, 1, none⟩)) rfl (by kernel_rfl) (fun _ _ _ h => h) (Or.inl ⟨by rfl, fun w hSw => ?_⟩) HS ?_
    · clear hSw HS
      go_simp
    try simp only [Act.put, List.setIfInBounds_toArray, List.set_cons_zero, List.set_cons_succ]
    refine wpAnyT_take (i := 27) (v := .int .i64 1) rfl (by kernel_rfl) (fun _ _ _ h => h) (Or.inl ⟨by rfl, fun w hSw => ?_⟩) HS ?_
    · have cc := (Bx.cell hSw.2.1 1 rfl).trans (show some (Value.int .i64 x.sub) = some (Value.int .i64 1) by rw [HS0.out])
      clear hSw HS
      go_simp
    try simp only [Act.put, List.setIfInBounds_toArray, List.set_cons_zero, List.set_cons_succ]
    refine wpAnyT_take (i := 28) (v := .pointer (some ⟨Vf, 5, none⟩)) rfl (by kernel_rfl) (fun _ _ _ h => h) (Or.inl ⟨by rfl, fun w hSw => ?_⟩) HS ?_
    · clear hSw HS
      go_simp
    try simp only [Act.put, List.setIfInBounds_toArray, List.set_cons_zero, List.set_cons_succ]
    refine wpAnyT_take (i := 29) (v := .pointer (some ⟨Vf, 11, none⟩)) rfl (by kernel_rfl) (fun _ _ _ h => h) (Or.inl ⟨by rfl, fun w hSw => ?_⟩) HS ?_
    · clear hSw HS
      go_simp
    try simp only [Act.put, List.setIfInBounds_toArray, List.set_cons_zero, List.set_cons_succ]
    refine wpAnyT_take (i := 30) (v := .pointer (some ⟨Vf, 12, none⟩)) rfl (by kernel_rfl) (fun _ _ _ h => h) (Or.inl ⟨by rfl, fun w hSw => ?_⟩) HS ?_
    · clear hSw HS
      go_simp
    try simp only [Act.put, List.setIfInBounds_toArray, List.set_cons_zero, List.set_cons_succ]
    refine wpAnyT_take (i := 31) (v := .agg #[.int .i64 rf.s1.m.pk, .int .i64 rf.s1.m.bt, .int .i64 rf.s1.m.ca, .int .i64 rf.s1.m.md, .int .i64 rf.s1.m.pt]) rfl (by kernel_rfl) (fun _ _ _ h => h) (rsub_y (cs := rcs sf rf) (vs := [.int .i64 rf.s1.m.pk, .int .i64 rf.s1.m.bt, .int .i64 rf.s1.m.ca, .int .i64 rf.s1.m.md, .int .i64 rf.s1.m.pt]) ir_marks (by rfl) (.tmp 116) rfl rfl (fun w hSw => hSw.2.2.1) rfl rfl) HS ?_
    try simp only [Act.put, List.setIfInBounds_toArray, List.set_cons_zero, List.set_cons_succ]
    refine wpAnyT_take (i := 32) (v := .agg #[.int .i64 r.s1.m.pk, .int .i64 r.s1.m.bt, .int .i64 r.s1.m.ca, .int .i64 r.s1.m.md, .int .i64 r.s1.m.pt]) rfl (by kernel_rfl) (fun _ _ _ h => h) (rsub_y (cs := mcs r.s1.m) (vs := [.int .i64 r.s1.m.pk, .int .i64 r.s1.m.bt, .int .i64 r.s1.m.ca, .int .i64 r.s1.m.md, .int .i64 r.s1.m.pt]) ir_marks (by rfl) (.tmp 14) rfl rfl (fun w hSw => hSw.2.2.2.2.2.1) rfl rfl) HS ?_
    try simp only [Act.put, List.setIfInBounds_toArray, List.set_cons_zero, List.set_cons_succ]
    refine wpAnyT_take (i := 33) (v := .bool true) rfl (by kernel_rfl) (fun _ _ _ h => h) (Or.inl ⟨by rfl, fun w hSw => ?_⟩) HS ?_
    · clear hSw HS
      go_simp
    try simp only [Act.put, List.setIfInBounds_toArray, List.set_cons_zero, List.set_cons_succ]
    refine wpAnyT_take (i := 34) (v := .bool true) rfl (by kernel_rfl) (fun _ _ _ h => h) (Or.inl ⟨by rfl, fun w hSw => ?_⟩) HS ?_
    · clear hSw HS
      go_simp
    try simp only [Act.put, List.setIfInBounds_toArray, List.set_cons_zero, List.set_cons_succ]
    refine ⟨by kernel_rfl, ?_⟩
    simp only [List.drop_succ_cons, List.drop_zero]
    obtain ⟨e10, y10, pf10, pt10, ot10, k10, jf10, jt10, b10, z10⟩ := HS
    clear d1 d2 i2 c1 c2 c3 c4 c5
    generalize w9.drew = w10 at *
    have x1 : w10.cell? ⟨B + 1, 1, none⟩ = some (.int .i64 1) := (y10.cell 1 rfl).trans (by show some (Value.int .i64 x.sub) = _; rw [HS0.out])
    go_upto_region 15 with (first | (refine rmk_load rfl (.tmp 14) rfl rfl k10 rfl ?_) | (refine rsub_store (cs := rcs st rt) ir_marks rfl (.tmp 126) (.tmp 123) rfl rfl (mcs r.s1.m) rfl pt10 (by rw [rcs_len]; omega) rfl rfl ?_))
    have q11 : Bx (w10.setCells Vt 12 (mcs r.s1.m)) Vt 32 (rcs st (rt.put ⟨(rt.s 1).got, r.s1.m⟩ 1)) := pt10.cellsR (mcs r.s1.m) (o := 12)
    have hg := grown_cellsR (B := Vt) (mcs r.s1.m) 12 w10
    have hv := HVV.out; have hz := HVZ.out
    have b11 := b10.grown hg z10 (fun k hk => by cases hk; omega)
    have pf11 := pf10.grown hg (fun e => by have := Option.some.inj e; omega)
    have ot11 := ot10.grown hg (fun e => by have := Option.some.inj e; omega)
    have k11 := k10.grown hg (fun e => by have := Option.some.inj e; omega)
    have jf11 := jf10.grown hg (fun b hb e => by have := Option.some.inj e; omega)
    have hmw : MsW r.s1.m := by rw [← H13.out]; exact jf10.wide.m1
    have jt11 := rcm_m1 (jt10.grown hg (fun b hb e => by have := Option.some.inj e; omega)) r.s1.m hmw
    have z11 : Z < (w10.setCells Vt 12 (mcs r.s1.m)).heap.size := k11.lt
    generalize w10.setCells Vt 12 (mcs r.s1.m) = w11 at q11 b11 pf11 ot11 k11 jf11 jt11 z11 ⊢
    clear hg hv hz hmw e10 y10 pf10 pt10 ot10 k10 jf10 jt10 b10 z10 x1
    have l9 : w11.cell? ⟨Vt + 1, 9, none⟩ = some (.int .i64 xt.ace) := ot11.cell 9 rfl
    go_wp2_with (first | (refine rv_loadg (by kernel_rfl) (.tmp 7) rfl rfl pf11 rfl ?_) | (refine rv_loadg (by kernel_rfl) (.tmp 10) rfl rfl q11 rfl ?_))
    have hpe : rt.put ⟨(rt.s 1).got, r.s1.m⟩ 1 = rf := HFK.out.1
    rw [hpe] at jt11 ⊢
    clear hpe
    refine (rrsame_yes _ _ sf st rf _ jf11 jt11).mono ?_
    rintro e w12 ⟨rfl, hb⟩
    have ot12 := ot11.kept hb; have k12 := k11.kept hb
    have b12 := b11.trans (hb.mono (by have := HVV.out; have := HVZ.out; omega))
    clear hb b11 ot11 k11 pf11 q11 jf11 jt11 z11 l9
    have l9 : w12.cell? ⟨Vt + 1, 9, none⟩ = some (.int .i64 xt.ace) := ot12.cell 9 rfl
    have l0 : w12.cell? ⟨Z, 0, none⟩ = some (.int .i64 r.s1.m.pk) := k12.cell 0 rfl
    have i3 : (r.s1.m.pk + 1).tmod 8 = (r.s1.m.pk + 1) % 8 := Int.tmod_eq_emod_of_nonneg (by have := HFK.out.2.2.2.2.2.2.p0; change 0 ≤ r.s1.m.pk at this; omega)
    have i4 : IntKind.i64.wrap ((r.s1.m.pk + 1) % 8) = (r.s1.m.pk + 1) % 8 := IntWalk.i64_in _ (by omega)
    have d1 : (xt.ace == (r.s1.m.pk + 1) % 8) = true := by have := HFK.out.2.2.2.1; change xt.ace = (r.s1.m.pk + 1) % 8 at this; rw [this]; simp
    clear ot12 k12
    go_wp2_with fail
    go_ret
    exact ⟨rfl, b12⟩
  · clear HS
    have hFk := HF.out
    have hs1 : x.sub.toNat = 2 := by rw [hs0]; rfl
    rw [hs1] at hFk
    have x1 : wc.cell? ⟨B + 1, 1, none⟩ = some (.int .i64 2) := (y8.cell 1 rfl).trans (by show some (Value.int .i64 x.sub) = _; rw [hs0])
    have hmk : rt.s2.m = ⟨r.s2.m.pk + 1, r.s2.m.bt + sizeS x, r.s2.m.ca, r.s2.m.md, r.s2.m.pt⟩ := by
      have h0 := hFk.2.1
      unfold mkR at h0
      rw [if_pos rfl, hs1] at h0
      exact h0
    have HFK := Lib.hid hFk; have HMK := Lib.hid hmk; have HS1 := Lib.hid hs1; have HS0 := Lib.hid hs0
    clear hFk hmk hs1 hs0
    go_wp2_with (first | (refine rsub_load (cs := rcs s r) (vs := mcs r.s2.m) ir_marks rfl (.tmp 84) rfl rfl e8 rfl rfl ?_) | (refine rmk_store rfl (.tmp 14) (.tmp 85) rfl rfl (mcs r.s2.m) rfl (Bx.new _ _ (mcs zmk)) rfl rfl rfl ?_))
    obtain ⟨Z, hZ⟩ : ∃ Z, wc.heap.size = Z := ⟨_, rfl⟩
    have k9 := rmk_put (Bx.new wc 27 (mcs zmk)) (mcs r.s2.m)
    have hb : Below wc.heap.size wc ((wc.alloc (.cells (mcs zmk).toArray 27)).setRow wc.heap.size (mcs r.s2.m).toArray) := ((Below.refl _ _).alloc (Nat.le_refl _) _).grown (rmk_grown _ _ _) (by simp) (fun k hk => by cases hk; exact Nat.le_refl _)
    change Code.wp _ _ _ _ ((wc.alloc (.cells (mcs zmk).toArray 27)).setRow wc.heap.size (mcs r.s2.m).toArray)
    generalize (wc.alloc (.cells (mcs zmk).toArray 27)).setRow wc.heap.size (mcs r.s2.m).toArray = w9 at k9 hb ⊢
    have hvz : Vt + 1 < Z := by rw [← hZ]; exact ot8.lt
    have HVZ := Lib.hid hvz; clear hvz
    rw [hZ] at k9 ⊢
    have e9 := e8.kept hb
    have y9 := y8.kept hb
    have pf9 := pf8.kept hb
    have pt9 := pt8.kept hb
    have ot9 := ot8.kept hb
    have jf9 := jf8.keep hb
    have jt9 := jt8.keep hb
    have b9 := b8.trans (hb.mono z8); have z9 := Nat.le_trans z8 hb.size
    clear e8 y8 pf8 pt8 ot8 jf8 jt8 b8 z8 hb
    clear hZ x1
    have i1 : IntKind.i64.wrap (r.s2.m.pk + 1) = r.s2.m.pk + 1 := by have := HFK.out.2.2.2.2.2.2; have h1 := this.p0; have h2 := this.p1; exact IntWalk.i64_in _ (by change 0 ≤ r.s2.m.pk at h1; change r.s2.m.pk ≤ _ at h2; omega)
    have i2 : IntKind.i64.wrap (r.s2.m.bt + sizeS x) = r.s2.m.bt + sizeS x := by have := HFK.out; have h1 := this.2.2.2.2.2.2.b0; have h2 := this.2.2.2.2.2.2.b1; exact IntWalk.i64_in _ (by change 0 ≤ r.s2.m.bt at h1; change r.s2.m.bt ≤ _ at h2; omega)
    have h13 : rf.s2.m = r.s2.m := HFK.out.2.2.1
    have hpk : rt.s2.m.pk = r.s2.m.pk + 1 := by rw [HMK.out]
    have hbt : rt.s2.m.bt = r.s2.m.bt + sizeS x := by rw [HMK.out]
    have H13 := Lib.hid h13; have HPK := Lib.hid hpk; have HBT := Lib.hid hbt
    clear h13 hpk hbt
    have d1 : (rt.s2.m.pk == r.s2.m.pk + 1) = true := by rw [HPK.out]; simp
    have d2 : (rt.s2.m.bt == r.s2.m.bt + sizeS x) = true := by rw [HBT.out]; simp
    have c1 : (rf.s2.m.pk == r.s2.m.pk) = true := by rw [H13.out]; simp
    have c2 : (rf.s2.m.bt == r.s2.m.bt) = true := by rw [H13.out]; simp
    have c3 : (rf.s2.m.ca == r.s2.m.ca) = true := by rw [H13.out]; simp
    have c4 : (rf.s2.m.md == r.s2.m.md) = true := by rw [H13.out]; simp
    have c5 : (rf.s2.m.pt == r.s2.m.pt) = true := by rw [H13.out]; simp
    refine wp_region_tail 35 36 (fun (W : World) => Bx W B 32 (rcs s r) ∧ Bx W (B + 1) 36 (sgs G m d A n c x) ∧ Bx W Vf 32 (rcs sf rf) ∧ Bx W Vt 32 (rcs st rt) ∧ Bx W (Vt + 1) 36 (sgs Gt mt dt At nt ct xt) ∧ Bx W Z 27 (mcs r.s2.m) ∧ RcM W (fun b => b < Vf) sf rf ∧ RcM W (fun b => b < Vt) st rt ∧ Below B w W ∧ B ≤ W.heap.size) (by kernel_rfl) (by rfl) (by decide) ?_
    have HS : ((fun (W : World) => Bx W B 32 (rcs s r) ∧ Bx W (B + 1) 36 (sgs G m d A n c x) ∧ Bx W Vf 32 (rcs sf rf) ∧ Bx W Vt 32 (rcs st rt) ∧ Bx W (Vt + 1) 36 (sgs Gt mt dt At nt ct xt) ∧ Bx W Z 27 (mcs r.s2.m) ∧ RcM W (fun b => b < Vf) sf rf ∧ RcM W (fun b => b < Vt) st rt ∧ Below B w W ∧ B ≤ W.heap.size)) _ := ⟨e9.drew, y9.drew, pf9.drew, pt9.drew, ot9.drew, k9.drew, jf9.drew, jt9.drew, b9.drew, z9⟩
    refine wpAnyT_take (i := 0) (v := .pointer (some ⟨B + 1, 1, none⟩)) rfl (by kernel_rfl) (fun _ _ _ h => h) (Or.inl ⟨by rfl, fun w hSw => ?_⟩) HS ?_
    · clear hSw HS
      go_simp
    try simp only [Act.put, List.setIfInBounds_toArray, List.set_cons_zero, List.set_cons_succ]
    refine wpAnyT_take (i := 1) (v := .int .i64 2) rfl (by kernel_rfl) (fun _ _ _ h => h) (Or.inl ⟨by rfl, fun w hSw => ?_⟩) HS ?_
    · have cc := (Bx.cell hSw.2.1 1 rfl).trans (show some (Value.int .i64 x.sub) = some (Value.int .i64 2) by rw [HS0.out])
      clear hSw HS
      go_simp
    try simp only [Act.put, List.setIfInBounds_toArray, List.set_cons_zero, List.set_cons_succ]
    refine wpAnyT_take (i := 2) (v := .pointer (some ⟨Vt, 5, none⟩)) rfl (by kernel_rfl) (fun _ _ _ h => h) (Or.inl ⟨by rfl, fun w hSw => ?_⟩) HS ?_
    · clear hSw HS
      go_simp
    try simp only [Act.put, List.setIfInBounds_toArray, List.set_cons_zero, List.set_cons_succ]
    refine wpAnyT_take (i := 3) (v := .pointer (some ⟨Vt, 17, none⟩)) rfl (by kernel_rfl) (fun _ _ _ h => h) (Or.inl ⟨by rfl, fun w hSw => ?_⟩) HS ?_
    · clear hSw HS
      go_simp
    try simp only [Act.put, List.setIfInBounds_toArray, List.set_cons_zero, List.set_cons_succ]
    refine wpAnyT_take (i := 4) (v := .pointer (some ⟨Vt, 18, none⟩)) rfl (by kernel_rfl) (fun _ _ _ h => h) (Or.inl ⟨by rfl, fun w hSw => ?_⟩) HS ?_
    · clear hSw HS
      go_simp
    try simp only [Act.put, List.setIfInBounds_toArray, List.set_cons_zero, List.set_cons_succ]
    refine wpAnyT_take (i := 5) (v := .pointer (some ⟨Vt, 18, none⟩)) rfl (by kernel_rfl) (fun _ _ _ h => h) (Or.inl ⟨by rfl, fun w hSw => ?_⟩) HS ?_
    · clear hSw HS
      go_simp
    try simp only [Act.put, List.setIfInBounds_toArray, List.set_cons_zero, List.set_cons_succ]
    refine wpAnyT_take (i := 6) (v := .int .i64 rt.s2.m.pk) rfl (by kernel_rfl) (fun _ _ _ h => h) (Or.inl ⟨by rfl, fun w hSw => ?_⟩) HS ?_
    · have cc := Bx.cell (hSw.2.2.2.1) 18 (v := .int .i64 rt.s2.m.pk) rfl
      clear hSw HS
      go_simp
    try simp only [Act.put, List.setIfInBounds_toArray, List.set_cons_zero, List.set_cons_succ]
    refine wpAnyT_take (i := 7) (v := .pointer (some ⟨Z, 0, none⟩)) rfl (by kernel_rfl) (fun _ _ _ h => h) (Or.inl ⟨by rfl, fun w hSw => ?_⟩) HS ?_
    · clear hSw HS
      go_simp
    try simp only [Act.put, List.setIfInBounds_toArray, List.set_cons_zero, List.set_cons_succ]
    refine wpAnyT_take (i := 8) (v := .int .i64 r.s2.m.pk) rfl (by kernel_rfl) (fun _ _ _ h => h) (Or.inl ⟨by rfl, fun w hSw => ?_⟩) HS ?_
    · have cc := Bx.cell (hSw.2.2.2.2.2.1) 0 (v := .int .i64 r.s2.m.pk) rfl
      clear hSw HS
      go_simp
    try simp only [Act.put, List.setIfInBounds_toArray, List.set_cons_zero, List.set_cons_succ]
    refine wpAnyT_take (i := 9) (v := .int .i64 (r.s2.m.pk + 1)) rfl (by kernel_rfl) (fun _ _ _ h => h) (Or.inl ⟨by rfl, fun w hSw => ?_⟩) HS ?_
    · clear hSw HS
      go_simp
    try simp only [Act.put, List.setIfInBounds_toArray, List.set_cons_zero, List.set_cons_succ]
    refine wpAnyT_take (i := 10) (v := .bool true) rfl (by kernel_rfl) (fun _ _ _ h => h) (Or.inl ⟨by rfl, fun w hSw => ?_⟩) HS ?_
    · clear hSw HS
      go_simp
    try simp only [Act.put, List.setIfInBounds_toArray, List.set_cons_zero, List.set_cons_succ]
    refine wpAnyT_take (i := 11) (v := .bool true) rfl (by kernel_rfl) (fun _ _ _ h => h) (Or.inl ⟨by rfl, fun w hSw => ?_⟩) HS ?_
    · clear hSw HS
      go_simp
    try simp only [Act.put, List.setIfInBounds_toArray, List.set_cons_zero, List.set_cons_succ]
    refine wpAnyT_take (i := 12) (v := .pointer (some ⟨B + 1, 1, none⟩)) rfl (by kernel_rfl) (fun _ _ _ h => h) (Or.inl ⟨by rfl, fun w hSw => ?_⟩) HS ?_
    · clear hSw HS
      go_simp
    try simp only [Act.put, List.setIfInBounds_toArray, List.set_cons_zero, List.set_cons_succ]
    refine wpAnyT_take (i := 13) (v := .int .i64 2) rfl (by kernel_rfl) (fun _ _ _ h => h) (Or.inl ⟨by rfl, fun w hSw => ?_⟩) HS ?_
    · have cc := (Bx.cell hSw.2.1 1 rfl).trans (show some (Value.int .i64 x.sub) = some (Value.int .i64 2) by rw [HS0.out])
      clear hSw HS
      go_simp
    try simp only [Act.put, List.setIfInBounds_toArray, List.set_cons_zero, List.set_cons_succ]
    refine wpAnyT_take (i := 14) (v := .pointer (some ⟨Vt, 5, none⟩)) rfl (by kernel_rfl) (fun _ _ _ h => h) (Or.inl ⟨by rfl, fun w hSw => ?_⟩) HS ?_
    · clear hSw HS
      go_simp
    try simp only [Act.put, List.setIfInBounds_toArray, List.set_cons_zero, List.set_cons_succ]
    refine wpAnyT_take (i := 15) (v := .pointer (some ⟨Vt, 17, none⟩)) rfl (by kernel_rfl) (fun _ _ _ h => h) (Or.inl ⟨by rfl, fun w hSw => ?_⟩) HS ?_
    · clear hSw HS
      go_simp
    try simp only [Act.put, List.setIfInBounds_toArray, List.set_cons_zero, List.set_cons_succ]
    refine wpAnyT_take (i := 16) (v := .pointer (some ⟨Vt, 18, none⟩)) rfl (by kernel_rfl) (fun _ _ _ h => h) (Or.inl ⟨by rfl, fun w hSw => ?_⟩) HS ?_
    · clear hSw HS
      go_simp
    try simp only [Act.put, List.setIfInBounds_toArray, List.set_cons_zero, List.set_cons_succ]
    refine wpAnyT_take (i := 17) (v := .pointer (some ⟨Vt, 19, none⟩)) rfl (by kernel_rfl) (fun _ _ _ h => h) (Or.inl ⟨by rfl, fun w hSw => ?_⟩) HS ?_
    · clear hSw HS
      go_simp
    try simp only [Act.put, List.setIfInBounds_toArray, List.set_cons_zero, List.set_cons_succ]
    refine wpAnyT_take (i := 18) (v := .int .i64 rt.s2.m.bt) rfl (by kernel_rfl) (fun _ _ _ h => h) (Or.inl ⟨by rfl, fun w hSw => ?_⟩) HS ?_
    · have cc := Bx.cell (hSw.2.2.2.1) 19 (v := .int .i64 rt.s2.m.bt) rfl
      clear hSw HS
      go_simp
    try simp only [Act.put, List.setIfInBounds_toArray, List.set_cons_zero, List.set_cons_succ]
    refine wpAnyT_take (i := 19) (v := .pointer (some ⟨Z, 1, none⟩)) rfl (by kernel_rfl) (fun _ _ _ h => h) (Or.inl ⟨by rfl, fun w hSw => ?_⟩) HS ?_
    · clear hSw HS
      go_simp
    try simp only [Act.put, List.setIfInBounds_toArray, List.set_cons_zero, List.set_cons_succ]
    refine wpAnyT_take (i := 20) (v := .int .i64 r.s2.m.bt) rfl (by kernel_rfl) (fun _ _ _ h => h) (Or.inl ⟨by rfl, fun w hSw => ?_⟩) HS ?_
    · have cc := Bx.cell (hSw.2.2.2.2.2.1) 1 (v := .int .i64 r.s2.m.bt) rfl
      clear hSw HS
      go_simp
    try simp only [Act.put, List.setIfInBounds_toArray, List.set_cons_zero, List.set_cons_succ]
    refine wpAnyT_take (i := 21) (v := .int .i64 (sizeS x)) rfl (by kernel_rfl) (fun _ _ _ h => h) (Or.inl ⟨by rfl, fun w hSw => ?_⟩) HS ?_
    · clear hSw HS
      go_simp
    try simp only [Act.put, List.setIfInBounds_toArray, List.set_cons_zero, List.set_cons_succ]
    refine wpAnyT_take (i := 22) (v := .int .i64 (r.s2.m.bt + sizeS x)) rfl (by kernel_rfl) (fun _ _ _ h => h) (Or.inl ⟨by rfl, fun w hSw => ?_⟩) HS ?_
    · clear hSw HS
      go_simp
    try simp only [Act.put, List.setIfInBounds_toArray, List.set_cons_zero, List.set_cons_succ]
    refine wpAnyT_take (i := 23) (v := .bool true) rfl (by kernel_rfl) (fun _ _ _ h => h) (Or.inl ⟨by rfl, fun w hSw => ?_⟩) HS ?_
    · clear hSw HS
      go_simp
    try simp only [Act.put, List.setIfInBounds_toArray, List.set_cons_zero, List.set_cons_succ]
    refine wpAnyT_take (i := 24) (v := .bool true) rfl (by kernel_rfl) (fun _ _ _ h => h) (Or.inl ⟨by rfl, fun w hSw => ?_⟩) HS ?_
    · clear hSw HS
      go_simp
    try simp only [Act.put, List.setIfInBounds_toArray, List.set_cons_zero, List.set_cons_succ]
    refine wpAnyT_take (i := 25) (v := .bool true) rfl (by kernel_rfl) (fun _ _ _ h => h) (Or.inl ⟨by rfl, fun w hSw => ?_⟩) HS ?_
    · clear hSw HS
      go_simp
    try simp only [Act.put, List.setIfInBounds_toArray, List.set_cons_zero, List.set_cons_succ]
    refine wpAnyT_take (i := 26) (v := .pointer (some ⟨B + 1, 1, none⟩)) rfl (by kernel_rfl) (fun _ _ _ h => h) (Or.inl ⟨by rfl, fun w hSw => ?_⟩) HS ?_
    · clear hSw HS
      go_simp
    try simp only [Act.put, List.setIfInBounds_toArray, List.set_cons_zero, List.set_cons_succ]
    refine wpAnyT_take (i := 27) (v := .int .i64 2) rfl (by kernel_rfl) (fun _ _ _ h => h) (Or.inl ⟨by rfl, fun w hSw => ?_⟩) HS ?_
    · have cc := (Bx.cell hSw.2.1 1 rfl).trans (show some (Value.int .i64 x.sub) = some (Value.int .i64 2) by rw [HS0.out])
      clear hSw HS
      go_simp
    try simp only [Act.put, List.setIfInBounds_toArray, List.set_cons_zero, List.set_cons_succ]
    refine wpAnyT_take (i := 28) (v := .pointer (some ⟨Vf, 5, none⟩)) rfl (by kernel_rfl) (fun _ _ _ h => h) (Or.inl ⟨by rfl, fun w hSw => ?_⟩) HS ?_
    · clear hSw HS
      go_simp
    try simp only [Act.put, List.setIfInBounds_toArray, List.set_cons_zero, List.set_cons_succ]
    refine wpAnyT_take (i := 29) (v := .pointer (some ⟨Vf, 17, none⟩)) rfl (by kernel_rfl) (fun _ _ _ h => h) (Or.inl ⟨by rfl, fun w hSw => ?_⟩) HS ?_
    · clear hSw HS
      go_simp
    try simp only [Act.put, List.setIfInBounds_toArray, List.set_cons_zero, List.set_cons_succ]
    refine wpAnyT_take (i := 30) (v := .pointer (some ⟨Vf, 18, none⟩)) rfl (by kernel_rfl) (fun _ _ _ h => h) (Or.inl ⟨by rfl, fun w hSw => ?_⟩) HS ?_
    · clear hSw HS
      go_simp
    try simp only [Act.put, List.setIfInBounds_toArray, List.set_cons_zero, List.set_cons_succ]
    refine wpAnyT_take (i := 31) (v := .agg #[.int .i64 rf.s2.m.pk, .int .i64 rf.s2.m.bt, .int .i64 rf.s2.m.ca, .int .i64 rf.s2.m.md, .int .i64 rf.s2.m.pt]) rfl (by kernel_rfl) (fun _ _ _ h => h) (rsub_y (cs := rcs sf rf) (vs := [.int .i64 rf.s2.m.pk, .int .i64 rf.s2.m.bt, .int .i64 rf.s2.m.ca, .int .i64 rf.s2.m.md, .int .i64 rf.s2.m.pt]) ir_marks (by rfl) (.tmp 116) rfl rfl (fun w hSw => hSw.2.2.1) rfl rfl) HS ?_
    try simp only [Act.put, List.setIfInBounds_toArray, List.set_cons_zero, List.set_cons_succ]
    refine wpAnyT_take (i := 32) (v := .agg #[.int .i64 r.s2.m.pk, .int .i64 r.s2.m.bt, .int .i64 r.s2.m.ca, .int .i64 r.s2.m.md, .int .i64 r.s2.m.pt]) rfl (by kernel_rfl) (fun _ _ _ h => h) (rsub_y (cs := mcs r.s2.m) (vs := [.int .i64 r.s2.m.pk, .int .i64 r.s2.m.bt, .int .i64 r.s2.m.ca, .int .i64 r.s2.m.md, .int .i64 r.s2.m.pt]) ir_marks (by rfl) (.tmp 14) rfl rfl (fun w hSw => hSw.2.2.2.2.2.1) rfl rfl) HS ?_
    try simp only [Act.put, List.setIfInBounds_toArray, List.set_cons_zero, List.set_cons_succ]
    refine wpAnyT_take (i := 33) (v := .bool true) rfl (by kernel_rfl) (fun _ _ _ h => h) (Or.inl ⟨by rfl, fun w hSw => ?_⟩) HS ?_
    · clear hSw HS
      go_simp
    try simp only [Act.put, List.setIfInBounds_toArray, List.set_cons_zero, List.set_cons_succ]
    refine wpAnyT_take (i := 34) (v := .bool true) rfl (by kernel_rfl) (fun _ _ _ h => h) (Or.inl ⟨by rfl, fun w hSw => ?_⟩) HS ?_
    · clear hSw HS
      go_simp
    try simp only [Act.put, List.setIfInBounds_toArray, List.set_cons_zero, List.set_cons_succ]
    refine ⟨by kernel_rfl, ?_⟩
    simp only [List.drop_succ_cons, List.drop_zero]
    obtain ⟨e10, y10, pf10, pt10, ot10, k10, jf10, jt10, b10, z10⟩ := HS
    clear d1 d2 i2 c1 c2 c3 c4 c5
    generalize w9.drew = w10 at *
    have x1 : w10.cell? ⟨B + 1, 1, none⟩ = some (.int .i64 2) := (y10.cell 1 rfl).trans (by show some (Value.int .i64 x.sub) = _; rw [HS0.out])
    go_upto_region 15 with (first | (refine rmk_load rfl (.tmp 14) rfl rfl k10 rfl ?_) | (refine rsub_store (cs := rcs st rt) ir_marks rfl (.tmp 126) (.tmp 123) rfl rfl (mcs r.s2.m) rfl pt10 (by rw [rcs_len]; omega) rfl rfl ?_))
    have q11 : Bx (w10.setCells Vt 18 (mcs r.s2.m)) Vt 32 (rcs st (rt.put ⟨(rt.s 2).got, r.s2.m⟩ 2)) := pt10.cellsR (mcs r.s2.m) (o := 18)
    have hg := grown_cellsR (B := Vt) (mcs r.s2.m) 18 w10
    have hv := HVV.out; have hz := HVZ.out
    have b11 := b10.grown hg z10 (fun k hk => by cases hk; omega)
    have pf11 := pf10.grown hg (fun e => by have := Option.some.inj e; omega)
    have ot11 := ot10.grown hg (fun e => by have := Option.some.inj e; omega)
    have k11 := k10.grown hg (fun e => by have := Option.some.inj e; omega)
    have jf11 := jf10.grown hg (fun b hb e => by have := Option.some.inj e; omega)
    have hmw : MsW r.s2.m := by rw [← H13.out]; exact jf10.wide.m2
    have jt11 := rcm_m2 (jt10.grown hg (fun b hb e => by have := Option.some.inj e; omega)) r.s2.m hmw
    have z11 : Z < (w10.setCells Vt 18 (mcs r.s2.m)).heap.size := k11.lt
    generalize w10.setCells Vt 18 (mcs r.s2.m) = w11 at q11 b11 pf11 ot11 k11 jf11 jt11 z11 ⊢
    clear hg hv hz hmw e10 y10 pf10 pt10 ot10 k10 jf10 jt10 b10 z10 x1
    have l9 : w11.cell? ⟨Vt + 1, 9, none⟩ = some (.int .i64 xt.ace) := ot11.cell 9 rfl
    go_wp2_with (first | (refine rv_loadg (by kernel_rfl) (.tmp 7) rfl rfl pf11 rfl ?_) | (refine rv_loadg (by kernel_rfl) (.tmp 10) rfl rfl q11 rfl ?_))
    have hpe : rt.put ⟨(rt.s 2).got, r.s2.m⟩ 2 = rf := HFK.out.1
    rw [hpe] at jt11 ⊢
    clear hpe
    refine (rrsame_yes _ _ sf st rf _ jf11 jt11).mono ?_
    rintro e w12 ⟨rfl, hb⟩
    have ot12 := ot11.kept hb; have k12 := k11.kept hb
    have b12 := b11.trans (hb.mono (by have := HVV.out; have := HVZ.out; omega))
    clear hb b11 ot11 k11 pf11 q11 jf11 jt11 z11 l9
    have l9 : w12.cell? ⟨Vt + 1, 9, none⟩ = some (.int .i64 xt.ace) := ot12.cell 9 rfl
    have l0 : w12.cell? ⟨Z, 0, none⟩ = some (.int .i64 r.s2.m.pk) := k12.cell 0 rfl
    have i3 : (r.s2.m.pk + 1).tmod 8 = (r.s2.m.pk + 1) % 8 := Int.tmod_eq_emod_of_nonneg (by have := HFK.out.2.2.2.2.2.2.p0; change 0 ≤ r.s2.m.pk at this; omega)
    have i4 : IntKind.i64.wrap ((r.s2.m.pk + 1) % 8) = (r.s2.m.pk + 1) % 8 := IntWalk.i64_in _ (by omega)
    have d1 : (xt.ace == (r.s2.m.pk + 1) % 8) = true := by have := HFK.out.2.2.2.1; change xt.ace = (r.s2.m.pk + 1) % 8 at this; rw [this]; simp
    clear ot12 k12
    go_wp2_with fail
    go_ret
    exact ⟨rfl, b12⟩
  · clear HS
    have hFk := HF.out
    have hs1 : x.sub.toNat = 3 := by rw [hs0]; rfl
    rw [hs1] at hFk
    have x1 : wc.cell? ⟨B + 1, 1, none⟩ = some (.int .i64 3) := (y8.cell 1 rfl).trans (by show some (Value.int .i64 x.sub) = _; rw [hs0])
    have hmk : rt.s3.m = ⟨r.s3.m.pk + 1, r.s3.m.bt + sizeS x, r.s3.m.ca, r.s3.m.md, r.s3.m.pt⟩ := by
      have h0 := hFk.2.1
      unfold mkR at h0
      rw [if_pos rfl, hs1] at h0
      exact h0
    have HFK := Lib.hid hFk; have HMK := Lib.hid hmk; have HS1 := Lib.hid hs1; have HS0 := Lib.hid hs0
    clear hFk hmk hs1 hs0
    go_wp2_with (first | (refine rsub_load (cs := rcs s r) (vs := mcs r.s3.m) ir_marks rfl (.tmp 84) rfl rfl e8 rfl rfl ?_) | (refine rmk_store rfl (.tmp 14) (.tmp 85) rfl rfl (mcs r.s3.m) rfl (Bx.new _ _ (mcs zmk)) rfl rfl rfl ?_))
    obtain ⟨Z, hZ⟩ : ∃ Z, wc.heap.size = Z := ⟨_, rfl⟩
    have k9 := rmk_put (Bx.new wc 27 (mcs zmk)) (mcs r.s3.m)
    have hb : Below wc.heap.size wc ((wc.alloc (.cells (mcs zmk).toArray 27)).setRow wc.heap.size (mcs r.s3.m).toArray) := ((Below.refl _ _).alloc (Nat.le_refl _) _).grown (rmk_grown _ _ _) (by simp) (fun k hk => by cases hk; exact Nat.le_refl _)
    change Code.wp _ _ _ _ ((wc.alloc (.cells (mcs zmk).toArray 27)).setRow wc.heap.size (mcs r.s3.m).toArray)
    generalize (wc.alloc (.cells (mcs zmk).toArray 27)).setRow wc.heap.size (mcs r.s3.m).toArray = w9 at k9 hb ⊢
    have hvz : Vt + 1 < Z := by rw [← hZ]; exact ot8.lt
    have HVZ := Lib.hid hvz; clear hvz
    rw [hZ] at k9 ⊢
    have e9 := e8.kept hb
    have y9 := y8.kept hb
    have pf9 := pf8.kept hb
    have pt9 := pt8.kept hb
    have ot9 := ot8.kept hb
    have jf9 := jf8.keep hb
    have jt9 := jt8.keep hb
    have b9 := b8.trans (hb.mono z8); have z9 := Nat.le_trans z8 hb.size
    clear e8 y8 pf8 pt8 ot8 jf8 jt8 b8 z8 hb
    clear hZ x1
    have i1 : IntKind.i64.wrap (r.s3.m.pk + 1) = r.s3.m.pk + 1 := by have := HFK.out.2.2.2.2.2.2; have h1 := this.p0; have h2 := this.p1; exact IntWalk.i64_in _ (by change 0 ≤ r.s3.m.pk at h1; change r.s3.m.pk ≤ _ at h2; omega)
    have i2 : IntKind.i64.wrap (r.s3.m.bt + sizeS x) = r.s3.m.bt + sizeS x := by have := HFK.out; have h1 := this.2.2.2.2.2.2.b0; have h2 := this.2.2.2.2.2.2.b1; exact IntWalk.i64_in _ (by change 0 ≤ r.s3.m.bt at h1; change r.s3.m.bt ≤ _ at h2; omega)
    have h13 : rf.s3.m = r.s3.m := HFK.out.2.2.1
    have hpk : rt.s3.m.pk = r.s3.m.pk + 1 := by rw [HMK.out]
    have hbt : rt.s3.m.bt = r.s3.m.bt + sizeS x := by rw [HMK.out]
    have H13 := Lib.hid h13; have HPK := Lib.hid hpk; have HBT := Lib.hid hbt
    clear h13 hpk hbt
    have d1 : (rt.s3.m.pk == r.s3.m.pk + 1) = true := by rw [HPK.out]; simp
    have d2 : (rt.s3.m.bt == r.s3.m.bt + sizeS x) = true := by rw [HBT.out]; simp
    have c1 : (rf.s3.m.pk == r.s3.m.pk) = true := by rw [H13.out]; simp
    have c2 : (rf.s3.m.bt == r.s3.m.bt) = true := by rw [H13.out]; simp
    have c3 : (rf.s3.m.ca == r.s3.m.ca) = true := by rw [H13.out]; simp
    have c4 : (rf.s3.m.md == r.s3.m.md) = true := by rw [H13.out]; simp
    have c5 : (rf.s3.m.pt == r.s3.m.pt) = true := by rw [H13.out]; simp
    refine wp_region_tail 35 36 (fun (W : World) => Bx W B 32 (rcs s r) ∧ Bx W (B + 1) 36 (sgs G m d A n c x) ∧ Bx W Vf 32 (rcs sf rf) ∧ Bx W Vt 32 (rcs st rt) ∧ Bx W (Vt + 1) 36 (sgs Gt mt dt At nt ct xt) ∧ Bx W Z 27 (mcs r.s3.m) ∧ RcM W (fun b => b < Vf) sf rf ∧ RcM W (fun b => b < Vt) st rt ∧ Below B w W ∧ B ≤ W.heap.size) (by kernel_rfl) (by rfl) (by decide) ?_
    have HS : ((fun (W : World) => Bx W B 32 (rcs s r) ∧ Bx W (B + 1) 36 (sgs G m d A n c x) ∧ Bx W Vf 32 (rcs sf rf) ∧ Bx W Vt 32 (rcs st rt) ∧ Bx W (Vt + 1) 36 (sgs Gt mt dt At nt ct xt) ∧ Bx W Z 27 (mcs r.s3.m) ∧ RcM W (fun b => b < Vf) sf rf ∧ RcM W (fun b => b < Vt) st rt ∧ Below B w W ∧ B ≤ W.heap.size)) _ := ⟨e9.drew, y9.drew, pf9.drew, pt9.drew, ot9.drew, k9.drew, jf9.drew, jt9.drew, b9.drew, z9⟩
    refine wpAnyT_take (i := 0) (v := .pointer (some ⟨B + 1, 1, none⟩)) rfl (by kernel_rfl) (fun _ _ _ h => h) (Or.inl ⟨by rfl, fun w hSw => ?_⟩) HS ?_
    · clear hSw HS
      go_simp
    try simp only [Act.put, List.setIfInBounds_toArray, List.set_cons_zero, List.set_cons_succ]
    refine wpAnyT_take (i := 1) (v := .int .i64 3) rfl (by kernel_rfl) (fun _ _ _ h => h) (Or.inl ⟨by rfl, fun w hSw => ?_⟩) HS ?_
    · have cc := (Bx.cell hSw.2.1 1 rfl).trans (show some (Value.int .i64 x.sub) = some (Value.int .i64 3) by rw [HS0.out])
      clear hSw HS
      go_simp
    try simp only [Act.put, List.setIfInBounds_toArray, List.set_cons_zero, List.set_cons_succ]
    refine wpAnyT_take (i := 2) (v := .pointer (some ⟨Vt, 5, none⟩)) rfl (by kernel_rfl) (fun _ _ _ h => h) (Or.inl ⟨by rfl, fun w hSw => ?_⟩) HS ?_
    · clear hSw HS
      go_simp
    try simp only [Act.put, List.setIfInBounds_toArray, List.set_cons_zero, List.set_cons_succ]
    refine wpAnyT_take (i := 3) (v := .pointer (some ⟨Vt, 23, none⟩)) rfl (by kernel_rfl) (fun _ _ _ h => h) (Or.inl ⟨by rfl, fun w hSw => ?_⟩) HS ?_
    · clear hSw HS
      go_simp
    try simp only [Act.put, List.setIfInBounds_toArray, List.set_cons_zero, List.set_cons_succ]
    refine wpAnyT_take (i := 4) (v := .pointer (some ⟨Vt, 24, none⟩)) rfl (by kernel_rfl) (fun _ _ _ h => h) (Or.inl ⟨by rfl, fun w hSw => ?_⟩) HS ?_
    · clear hSw HS
      go_simp
    try simp only [Act.put, List.setIfInBounds_toArray, List.set_cons_zero, List.set_cons_succ]
    refine wpAnyT_take (i := 5) (v := .pointer (some ⟨Vt, 24, none⟩)) rfl (by kernel_rfl) (fun _ _ _ h => h) (Or.inl ⟨by rfl, fun w hSw => ?_⟩) HS ?_
    · clear hSw HS
      go_simp
    try simp only [Act.put, List.setIfInBounds_toArray, List.set_cons_zero, List.set_cons_succ]
    refine wpAnyT_take (i := 6) (v := .int .i64 rt.s3.m.pk) rfl (by kernel_rfl) (fun _ _ _ h => h) (Or.inl ⟨by rfl, fun w hSw => ?_⟩) HS ?_
    · have cc := Bx.cell (hSw.2.2.2.1) 24 (v := .int .i64 rt.s3.m.pk) rfl
      clear hSw HS
      go_simp
    try simp only [Act.put, List.setIfInBounds_toArray, List.set_cons_zero, List.set_cons_succ]
    refine wpAnyT_take (i := 7) (v := .pointer (some ⟨Z, 0, none⟩)) rfl (by kernel_rfl) (fun _ _ _ h => h) (Or.inl ⟨by rfl, fun w hSw => ?_⟩) HS ?_
    · clear hSw HS
      go_simp
    try simp only [Act.put, List.setIfInBounds_toArray, List.set_cons_zero, List.set_cons_succ]
    refine wpAnyT_take (i := 8) (v := .int .i64 r.s3.m.pk) rfl (by kernel_rfl) (fun _ _ _ h => h) (Or.inl ⟨by rfl, fun w hSw => ?_⟩) HS ?_
    · have cc := Bx.cell (hSw.2.2.2.2.2.1) 0 (v := .int .i64 r.s3.m.pk) rfl
      clear hSw HS
      go_simp
    try simp only [Act.put, List.setIfInBounds_toArray, List.set_cons_zero, List.set_cons_succ]
    refine wpAnyT_take (i := 9) (v := .int .i64 (r.s3.m.pk + 1)) rfl (by kernel_rfl) (fun _ _ _ h => h) (Or.inl ⟨by rfl, fun w hSw => ?_⟩) HS ?_
    · clear hSw HS
      go_simp
    try simp only [Act.put, List.setIfInBounds_toArray, List.set_cons_zero, List.set_cons_succ]
    refine wpAnyT_take (i := 10) (v := .bool true) rfl (by kernel_rfl) (fun _ _ _ h => h) (Or.inl ⟨by rfl, fun w hSw => ?_⟩) HS ?_
    · clear hSw HS
      go_simp
    try simp only [Act.put, List.setIfInBounds_toArray, List.set_cons_zero, List.set_cons_succ]
    refine wpAnyT_take (i := 11) (v := .bool true) rfl (by kernel_rfl) (fun _ _ _ h => h) (Or.inl ⟨by rfl, fun w hSw => ?_⟩) HS ?_
    · clear hSw HS
      go_simp
    try simp only [Act.put, List.setIfInBounds_toArray, List.set_cons_zero, List.set_cons_succ]
    refine wpAnyT_take (i := 12) (v := .pointer (some ⟨B + 1, 1, none⟩)) rfl (by kernel_rfl) (fun _ _ _ h => h) (Or.inl ⟨by rfl, fun w hSw => ?_⟩) HS ?_
    · clear hSw HS
      go_simp
    try simp only [Act.put, List.setIfInBounds_toArray, List.set_cons_zero, List.set_cons_succ]
    refine wpAnyT_take (i := 13) (v := .int .i64 3) rfl (by kernel_rfl) (fun _ _ _ h => h) (Or.inl ⟨by rfl, fun w hSw => ?_⟩) HS ?_
    · have cc := (Bx.cell hSw.2.1 1 rfl).trans (show some (Value.int .i64 x.sub) = some (Value.int .i64 3) by rw [HS0.out])
      clear hSw HS
      go_simp
    try simp only [Act.put, List.setIfInBounds_toArray, List.set_cons_zero, List.set_cons_succ]
    refine wpAnyT_take (i := 14) (v := .pointer (some ⟨Vt, 5, none⟩)) rfl (by kernel_rfl) (fun _ _ _ h => h) (Or.inl ⟨by rfl, fun w hSw => ?_⟩) HS ?_
    · clear hSw HS
      go_simp
    try simp only [Act.put, List.setIfInBounds_toArray, List.set_cons_zero, List.set_cons_succ]
    refine wpAnyT_take (i := 15) (v := .pointer (some ⟨Vt, 23, none⟩)) rfl (by kernel_rfl) (fun _ _ _ h => h) (Or.inl ⟨by rfl, fun w hSw => ?_⟩) HS ?_
    · clear hSw HS
      go_simp
    try simp only [Act.put, List.setIfInBounds_toArray, List.set_cons_zero, List.set_cons_succ]
    refine wpAnyT_take (i := 16) (v := .pointer (some ⟨Vt, 24, none⟩)) rfl (by kernel_rfl) (fun _ _ _ h => h) (Or.inl ⟨by rfl, fun w hSw => ?_⟩) HS ?_
    · clear hSw HS
      go_simp
    try simp only [Act.put, List.setIfInBounds_toArray, List.set_cons_zero, List.set_cons_succ]
    refine wpAnyT_take (i := 17) (v := .pointer (some ⟨Vt, 25, none⟩)) rfl (by kernel_rfl) (fun _ _ _ h => h) (Or.inl ⟨by rfl, fun w hSw => ?_⟩) HS ?_
    · clear hSw HS
      go_simp
    try simp only [Act.put, List.setIfInBounds_toArray, List.set_cons_zero, List.set_cons_succ]
    refine wpAnyT_take (i := 18) (v := .int .i64 rt.s3.m.bt) rfl (by kernel_rfl) (fun _ _ _ h => h) (Or.inl ⟨by rfl, fun w hSw => ?_⟩) HS ?_
    · have cc := Bx.cell (hSw.2.2.2.1) 25 (v := .int .i64 rt.s3.m.bt) rfl
      clear hSw HS
      go_simp
    try simp only [Act.put, List.setIfInBounds_toArray, List.set_cons_zero, List.set_cons_succ]
    refine wpAnyT_take (i := 19) (v := .pointer (some ⟨Z, 1, none⟩)) rfl (by kernel_rfl) (fun _ _ _ h => h) (Or.inl ⟨by rfl, fun w hSw => ?_⟩) HS ?_
    · clear hSw HS
      go_simp
    try simp only [Act.put, List.setIfInBounds_toArray, List.set_cons_zero, List.set_cons_succ]
    refine wpAnyT_take (i := 20) (v := .int .i64 r.s3.m.bt) rfl (by kernel_rfl) (fun _ _ _ h => h) (Or.inl ⟨by rfl, fun w hSw => ?_⟩) HS ?_
    · have cc := Bx.cell (hSw.2.2.2.2.2.1) 1 (v := .int .i64 r.s3.m.bt) rfl
      clear hSw HS
      go_simp
    try simp only [Act.put, List.setIfInBounds_toArray, List.set_cons_zero, List.set_cons_succ]
    refine wpAnyT_take (i := 21) (v := .int .i64 (sizeS x)) rfl (by kernel_rfl) (fun _ _ _ h => h) (Or.inl ⟨by rfl, fun w hSw => ?_⟩) HS ?_
    · clear hSw HS
      go_simp
    try simp only [Act.put, List.setIfInBounds_toArray, List.set_cons_zero, List.set_cons_succ]
    refine wpAnyT_take (i := 22) (v := .int .i64 (r.s3.m.bt + sizeS x)) rfl (by kernel_rfl) (fun _ _ _ h => h) (Or.inl ⟨by rfl, fun w hSw => ?_⟩) HS ?_
    · clear hSw HS
      go_simp
    try simp only [Act.put, List.setIfInBounds_toArray, List.set_cons_zero, List.set_cons_succ]
    refine wpAnyT_take (i := 23) (v := .bool true) rfl (by kernel_rfl) (fun _ _ _ h => h) (Or.inl ⟨by rfl, fun w hSw => ?_⟩) HS ?_
    · clear hSw HS
      go_simp
    try simp only [Act.put, List.setIfInBounds_toArray, List.set_cons_zero, List.set_cons_succ]
    refine wpAnyT_take (i := 24) (v := .bool true) rfl (by kernel_rfl) (fun _ _ _ h => h) (Or.inl ⟨by rfl, fun w hSw => ?_⟩) HS ?_
    · clear hSw HS
      go_simp
    try simp only [Act.put, List.setIfInBounds_toArray, List.set_cons_zero, List.set_cons_succ]
    refine wpAnyT_take (i := 25) (v := .bool true) rfl (by kernel_rfl) (fun _ _ _ h => h) (Or.inl ⟨by rfl, fun w hSw => ?_⟩) HS ?_
    · clear hSw HS
      go_simp
    try simp only [Act.put, List.setIfInBounds_toArray, List.set_cons_zero, List.set_cons_succ]
    refine wpAnyT_take (i := 26) (v := .pointer (some ⟨B + 1, 1, none⟩)) rfl (by kernel_rfl) (fun _ _ _ h => h) (Or.inl ⟨by rfl, fun w hSw => ?_⟩) HS ?_
    · clear hSw HS
      go_simp
    try simp only [Act.put, List.setIfInBounds_toArray, List.set_cons_zero, List.set_cons_succ]
    refine wpAnyT_take (i := 27) (v := .int .i64 3) rfl (by kernel_rfl) (fun _ _ _ h => h) (Or.inl ⟨by rfl, fun w hSw => ?_⟩) HS ?_
    · have cc := (Bx.cell hSw.2.1 1 rfl).trans (show some (Value.int .i64 x.sub) = some (Value.int .i64 3) by rw [HS0.out])
      clear hSw HS
      go_simp
    try simp only [Act.put, List.setIfInBounds_toArray, List.set_cons_zero, List.set_cons_succ]
    refine wpAnyT_take (i := 28) (v := .pointer (some ⟨Vf, 5, none⟩)) rfl (by kernel_rfl) (fun _ _ _ h => h) (Or.inl ⟨by rfl, fun w hSw => ?_⟩) HS ?_
    · clear hSw HS
      go_simp
    try simp only [Act.put, List.setIfInBounds_toArray, List.set_cons_zero, List.set_cons_succ]
    refine wpAnyT_take (i := 29) (v := .pointer (some ⟨Vf, 23, none⟩)) rfl (by kernel_rfl) (fun _ _ _ h => h) (Or.inl ⟨by rfl, fun w hSw => ?_⟩) HS ?_
    · clear hSw HS
      go_simp
    try simp only [Act.put, List.setIfInBounds_toArray, List.set_cons_zero, List.set_cons_succ]
    refine wpAnyT_take (i := 30) (v := .pointer (some ⟨Vf, 24, none⟩)) rfl (by kernel_rfl) (fun _ _ _ h => h) (Or.inl ⟨by rfl, fun w hSw => ?_⟩) HS ?_
    · clear hSw HS
      go_simp
    try simp only [Act.put, List.setIfInBounds_toArray, List.set_cons_zero, List.set_cons_succ]
    refine wpAnyT_take (i := 31) (v := .agg #[.int .i64 rf.s3.m.pk, .int .i64 rf.s3.m.bt, .int .i64 rf.s3.m.ca, .int .i64 rf.s3.m.md, .int .i64 rf.s3.m.pt]) rfl (by kernel_rfl) (fun _ _ _ h => h) (rsub_y (cs := rcs sf rf) (vs := [.int .i64 rf.s3.m.pk, .int .i64 rf.s3.m.bt, .int .i64 rf.s3.m.ca, .int .i64 rf.s3.m.md, .int .i64 rf.s3.m.pt]) ir_marks (by rfl) (.tmp 116) rfl rfl (fun w hSw => hSw.2.2.1) rfl rfl) HS ?_
    try simp only [Act.put, List.setIfInBounds_toArray, List.set_cons_zero, List.set_cons_succ]
    refine wpAnyT_take (i := 32) (v := .agg #[.int .i64 r.s3.m.pk, .int .i64 r.s3.m.bt, .int .i64 r.s3.m.ca, .int .i64 r.s3.m.md, .int .i64 r.s3.m.pt]) rfl (by kernel_rfl) (fun _ _ _ h => h) (rsub_y (cs := mcs r.s3.m) (vs := [.int .i64 r.s3.m.pk, .int .i64 r.s3.m.bt, .int .i64 r.s3.m.ca, .int .i64 r.s3.m.md, .int .i64 r.s3.m.pt]) ir_marks (by rfl) (.tmp 14) rfl rfl (fun w hSw => hSw.2.2.2.2.2.1) rfl rfl) HS ?_
    try simp only [Act.put, List.setIfInBounds_toArray, List.set_cons_zero, List.set_cons_succ]
    refine wpAnyT_take (i := 33) (v := .bool true) rfl (by kernel_rfl) (fun _ _ _ h => h) (Or.inl ⟨by rfl, fun w hSw => ?_⟩) HS ?_
    · clear hSw HS
      go_simp
    try simp only [Act.put, List.setIfInBounds_toArray, List.set_cons_zero, List.set_cons_succ]
    refine wpAnyT_take (i := 34) (v := .bool true) rfl (by kernel_rfl) (fun _ _ _ h => h) (Or.inl ⟨by rfl, fun w hSw => ?_⟩) HS ?_
    · clear hSw HS
      go_simp
    try simp only [Act.put, List.setIfInBounds_toArray, List.set_cons_zero, List.set_cons_succ]
    refine ⟨by kernel_rfl, ?_⟩
    simp only [List.drop_succ_cons, List.drop_zero]
    obtain ⟨e10, y10, pf10, pt10, ot10, k10, jf10, jt10, b10, z10⟩ := HS
    clear d1 d2 i2 c1 c2 c3 c4 c5
    generalize w9.drew = w10 at *
    have x1 : w10.cell? ⟨B + 1, 1, none⟩ = some (.int .i64 3) := (y10.cell 1 rfl).trans (by show some (Value.int .i64 x.sub) = _; rw [HS0.out])
    go_upto_region 15 with (first | (refine rmk_load rfl (.tmp 14) rfl rfl k10 rfl ?_) | (refine rsub_store (cs := rcs st rt) ir_marks rfl (.tmp 126) (.tmp 123) rfl rfl (mcs r.s3.m) rfl pt10 (by rw [rcs_len]; omega) rfl rfl ?_))
    have q11 : Bx (w10.setCells Vt 24 (mcs r.s3.m)) Vt 32 (rcs st (rt.put ⟨(rt.s 3).got, r.s3.m⟩ 3)) := pt10.cellsR (mcs r.s3.m) (o := 24)
    have hg := grown_cellsR (B := Vt) (mcs r.s3.m) 24 w10
    have hv := HVV.out; have hz := HVZ.out
    have b11 := b10.grown hg z10 (fun k hk => by cases hk; omega)
    have pf11 := pf10.grown hg (fun e => by have := Option.some.inj e; omega)
    have ot11 := ot10.grown hg (fun e => by have := Option.some.inj e; omega)
    have k11 := k10.grown hg (fun e => by have := Option.some.inj e; omega)
    have jf11 := jf10.grown hg (fun b hb e => by have := Option.some.inj e; omega)
    have hmw : MsW r.s3.m := by rw [← H13.out]; exact jf10.wide.m3
    have jt11 := rcm_m3 (jt10.grown hg (fun b hb e => by have := Option.some.inj e; omega)) r.s3.m hmw
    have z11 : Z < (w10.setCells Vt 24 (mcs r.s3.m)).heap.size := k11.lt
    generalize w10.setCells Vt 24 (mcs r.s3.m) = w11 at q11 b11 pf11 ot11 k11 jf11 jt11 z11 ⊢
    clear hg hv hz hmw e10 y10 pf10 pt10 ot10 k10 jf10 jt10 b10 z10 x1
    have l9 : w11.cell? ⟨Vt + 1, 9, none⟩ = some (.int .i64 xt.ace) := ot11.cell 9 rfl
    go_wp2_with (first | (refine rv_loadg (by kernel_rfl) (.tmp 7) rfl rfl pf11 rfl ?_) | (refine rv_loadg (by kernel_rfl) (.tmp 10) rfl rfl q11 rfl ?_))
    have hpe : rt.put ⟨(rt.s 3).got, r.s3.m⟩ 3 = rf := HFK.out.1
    rw [hpe] at jt11 ⊢
    clear hpe
    refine (rrsame_yes _ _ sf st rf _ jf11 jt11).mono ?_
    rintro e w12 ⟨rfl, hb⟩
    have ot12 := ot11.kept hb; have k12 := k11.kept hb
    have b12 := b11.trans (hb.mono (by have := HVV.out; have := HVZ.out; omega))
    clear hb b11 ot11 k11 pf11 q11 jf11 jt11 z11 l9
    have l9 : w12.cell? ⟨Vt + 1, 9, none⟩ = some (.int .i64 xt.ace) := ot12.cell 9 rfl
    have l0 : w12.cell? ⟨Z, 0, none⟩ = some (.int .i64 r.s3.m.pk) := k12.cell 0 rfl
    have i3 : (r.s3.m.pk + 1).tmod 8 = (r.s3.m.pk + 1) % 8 := Int.tmod_eq_emod_of_nonneg (by have := HFK.out.2.2.2.2.2.2.p0; change 0 ≤ r.s3.m.pk at this; omega)
    have i4 : IntKind.i64.wrap ((r.s3.m.pk + 1) % 8) = (r.s3.m.pk + 1) % 8 := IntWalk.i64_in _ (by omega)
    have d1 : (xt.ace == (r.s3.m.pk + 1) % 8) = true := by have := HFK.out.2.2.2.1; change xt.ace = (r.s3.m.pk + 1) % 8 at this; rw [this]; simp
    clear ot12 k12
    go_wp2_with fail
    go_ret
    exact ⟨rfl, b12⟩
end Go.Proofs.Ytggnhccpncgfiaa.receiverMarks
