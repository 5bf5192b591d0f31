/- RkL4. -/
import Derived.Test.YtbijhkhkigdddaaGreatP09
set_option linter.all false
set_option maxRecDepth 100000
set_option maxHeartbeats 32000000
namespace Go.Proofs.YtbijhkhkigdddaaGreat
open Go.RowKit
theorem smay_one (x : Prt) : smayB [x] = oneB x := by
 rw [Bool.eq_iff_iff, smay_iff]
 refine ⟨fun h => ?_, fun h => ⟨by simp, fun i hi => ?_⟩⟩
 ·have := (h.2 0 (by simp)).1
  exact (oneB_iff x).2 this
 ·have hi0 : i = 0 := by simp at hi; omega
  subst hi0
  exact ⟨(oneB_iff x).1 h, fun h0 => absurd h0 (by omega)⟩
theorem stmay_one (x : Prt) (W : World) (hx : PrtW x) : Calls Tryz.prog 97 #[.slice (some ⟨W.heap.size, 0, none⟩) 1 1] (W.alloc (.cells #[x.seq, x.len, x.dsn, x.at_, x.tries, x.came, x.lost, x.total, x.last] 57)) fun e w' => e = .returned (.bool (oneB x)) ∧ Below W.heap.size W w' := by
 have hs : Se (W.alloc (.cells #[x.seq, x.len, x.dsn, x.at_, x.tries, x.came, x.lost, x.total, x.last] 57)) (some ⟨W.heap.size, 0, none⟩) 1 1 [x] := bx_se (t := 57) (Bx.new W 57 [x.seq, x.len, x.dsn, x.at_, x.tries, x.came, x.lost, x.total, x.last]) rfl (by unfold maxLen; omega) (by intro t ht; simp at ht; subst ht; exact hx)
 refine (stmay_any _ 1 1 [x] _ hs).mono ?_
 rintro e w ⟨rfl, hb⟩
 rw [smay_one]
 exact ⟨rfl, ((Zb).alloc Zr _).trans (hb.mono (by simp))⟩
theorem rakcame_any (v : Rkv) (x : Prt) (now least : Int) (w : World) (hx : PrtW x) :
  Calls Tryz.prog 124 #[.agg #[v.at_, v.end_, v.took, v.far, v.mixed, v.quarters], .agg #[x.seq, x.len, x.dsn, x.at_, x.tries, x.came, x.lost, x.total, x.last], now, least] w fun e w' => TellK w w' e (rkcameR v x now least) := by
 unfold TellK
 obtain ⟨B, hB⟩ : ∃ B, w.heap.size = B := ⟨_, rfl⟩
 rw [hB]
 have e0 := ((Bx.new w 34 [v.at_, v.end_, v.took, v.far, v.mixed, v.quarters]).alloc (.cells #[x.seq, x.len, x.dsn, x.at_, x.tries, x.came, x.lost, x.total, x.last] 57)).alloc (.cells #[.int .i64 0, .int .i64 0, .int .i64 0, .int .i64 0, .bool false, .int .i64 0] 34)
 have p0 := (Bx.new (w.alloc (.cells #[v.at_, v.end_, v.took, v.far, v.mixed, v.quarters] 34)) 57 [x.seq, x.len, x.dsn, x.at_, x.tries, x.came, x.lost, x.total, x.last]).alloc (.cells #[.int .i64 0, .int .i64 0, .int .i64 0, .int .i64 0, .bool false, .int .i64 0] 34)
 have y0 := Bx.new ((w.alloc (.cells #[v.at_, v.end_, v.took, v.far, v.mixed, v.quarters] 34)).alloc (.cells #[x.seq, x.len, x.dsn, x.at_, x.tries, x.came, x.lost, x.total, x.last] 57)) 34 [.int .i64 0, .int .i64 0, .int .i64 0, .int .i64 0, .bool false, .int .i64 0]
 rw [World.size_alloc] at p0
 rw [World.size_alloc, World.size_alloc] at y0
 rw [hB] at e0 p0 y0
 have b0 : Below B w (((w.alloc (.cells #[v.at_, v.end_, v.took, v.far, v.mixed, v.quarters] 34)).alloc (.cells #[x.seq, x.len, x.dsn, x.at_, x.tries, x.came, x.lost, x.total, x.last] 57)).alloc (.cells #[.int .i64 0, .int .i64 0, .int .i64 0, .int .i64 0, .bool false, .int .i64 0] 34)) := by rw [← hB]; exact (((Zb).alloc Zr _).alloc (by simp) _).alloc (by simp; omega) _
 obtain ⟨z, hz⟩ : ∃ z, rkcameR v x now least = z := ⟨_, rfl⟩
 rw [hz]
 have HZ := Zh hz; clear hz
 have HX := Zh hx; clear hx
 go_enter Tryz.func124, Tryz.ntmps124
 go_wp2_with (refine rk_load rfl (.tmp 4) rfl rfl e0 rfl ?_)
 generalize (((w.alloc (.cells #[v.at_, v.end_, v.took, v.far, v.mixed, v.quarters] 34)).alloc (.cells #[x.seq, x.len, x.dsn, x.at_, x.tries, x.came, x.lost, x.total, x.last] 57)).alloc (.cells #[.int .i64 0, .int .i64 0, .int .i64 0, .int .i64 0, .bool false, .int .i64 0] 34)) = w1 at e0 p0 y0 b0 ⊢
 refine (rakmay_any v _).mono ?_
 rintro e w2 ⟨rfl, hb2⟩
 have e2 := e0.kept hb2; have p2 := p0.kept hb2; have y2 := y0.kept hb2; have b2 := b0.trans (hb2.mono (Zl e0.lt))
 have hBs : B ≤ w2.heap.size := Zl e2.lt
 clear e0 p0 y0 b0 hb2
 cases hk : rkmay v with
 | false =>
  have hz := HZ.out
  rw [rkcame_no (fun h => by have := h.1; rw [hk] at this; cases this)] at hz
  subst hz
  clear HZ hk
  go_wp2_with (refine rk_store rfl (.tmp 8) (.tmp 36) rfl rfl [.int .i64 0, .int .i64 0, .int .i64 0, .int .i64 0, .bool false, .int .i64 0] rfl y2 rfl rfl rfl ?_)
  refine rk_end2 (by rfl) (by rfl) (by rfl) (rk_put y2 [.int .i64 0, .int .i64 0, .int .i64 0, .int .i64 0, .bool false, .int .i64 0]) rfl rfl ?_
  exact ⟨rfl, b2.grown (rk_grown _ (B + 1 + 1) #[.int .i64 0, .int .i64 0, .int .i64 0, .int .i64 0, .bool false, .int .i64 0]) hBs (fun k hk => by cases hk; omega)⟩
 | true =>
 have hv := (rkmay_iff v).1 hk
 have c0 := p2.cell 0 rfl; have c1 := p2.cell 1 rfl; have c2 := p2.cell 2 rfl; have c3 := p2.cell 3 rfl; have c4 := p2.cell 4 rfl; have c5 := p2.cell 5 rfl; have c6 := p2.cell 6 rfl; have c7 := p2.cell 7 rfl; have c8 := p2.cell 8 rfl
 have hst := fun W => stmay_one x W HX.out
 cases ho : oneB x with
 | false =>
  rw [ho] at hst
  have hz := HZ.out
  rw [rkcame_no (fun h => by have := h.2.1; rw [ho] at this; cases this)] at hz
  subst hz
  clear HZ hk hv
  go_wp2_with (first
   | (go_at_call 97; refine (hst _).mono ?_; rintro e w3 ⟨rfl, hb3⟩; have e3 := e2.kept hb3; have p3 := p2.kept hb3; have y3 := y2.kept hb3; have b3 := b2.trans (hb3.mono hBs); have d3 := p3.cell 3 rfl; have hBs3 : B ≤ w3.heap.size := Zn hBs hb3.size)
   | (go_at_call 105; refine (rkwin_any _ _ _ _).mono ?_; rintro e wx ⟨rfl, rfl⟩)
   | (refine rk_store rfl (.tmp 8) (.tmp 36) rfl rfl [.int .i64 0, .int .i64 0, .int .i64 0, .int .i64 0, .bool false, .int .i64 0] rfl y3 rfl rfl rfl ?_))
  refine rk_end2 (by rfl) (by rfl) (by rfl) (rk_put y3 [.int .i64 0, .int .i64 0, .int .i64 0, .int .i64 0, .bool false, .int .i64 0]) rfl rfl ?_
  exact ⟨rfl, b3.grown (rk_grown _ (B + 1 + 1) #[.int .i64 0, .int .i64 0, .int .i64 0, .int .i64 0, .bool false, .int .i64 0]) hBs3 (fun k hk => by cases hk; omega)⟩
 | true =>
 rw [ho] at hst
 have hp := (oneB_iff x).1 ho
 cases hwn : winB now x.at_ 1152921504606846976 with
 | false =>
  have hz := HZ.out
  rw [rkcame_no (fun h => by have h1 := h.2.2.1; have h2 := (t60_iff now).1 h.2.2.2.1; have := (win_iff now x.at_ 1152921504606846976).2 ⟨h1, h2.2⟩; rw [hwn] at this; cases this)] at hz
  subst hz
  clear HZ hk hv ho hp
  go_wp2_with (first
   | (go_at_call 97; refine (hst _).mono ?_; rintro e w3 ⟨rfl, hb3⟩; have e3 := e2.kept hb3; have p3 := p2.kept hb3; have y3 := y2.kept hb3; have b3 := b2.trans (hb3.mono hBs); have d3 := p3.cell 3 rfl; have hBs3 : B ≤ w3.heap.size := Zn hBs hb3.size)
   | (go_at_call 105; refine (rkwin_any _ _ _ _).mono ?_; rintro e wx ⟨rfl, rfl⟩)
   | (refine rk_store rfl (.tmp 8) (.tmp 36) rfl rfl [.int .i64 0, .int .i64 0, .int .i64 0, .int .i64 0, .bool false, .int .i64 0] rfl y3 rfl rfl rfl ?_))
  refine rk_end2 (by rfl) (by rfl) (by rfl) (rk_put y3 [.int .i64 0, .int .i64 0, .int .i64 0, .int .i64 0, .bool false, .int .i64 0]) rfl rfl ?_
  exact ⟨rfl, b3.grown (rk_grown _ (B + 1 + 1) #[.int .i64 0, .int .i64 0, .int .i64 0, .int .i64 0, .bool false, .int .i64 0]) hBs3 (fun k hk => by cases hk; omega)⟩
 | true =>
 cases hb : winB least 0 1099511627776 with
 | false =>
  have hz := HZ.out
  rw [rkcame_no (fun h => by have := h.2.2.2.2; rw [← win40, hb] at this; cases this)] at hz
  subst hz
  clear HZ hk hv ho hp
  go_wp2_with (first
   | (go_at_call 97; refine (hst _).mono ?_; rintro e w3 ⟨rfl, hb3⟩; have e3 := e2.kept hb3; have p3 := p2.kept hb3; have y3 := y2.kept hb3; have b3 := b2.trans (hb3.mono hBs); have d3 := p3.cell 3 rfl; have hBs3 : B ≤ w3.heap.size := Zn hBs hb3.size)
   | (go_at_call 105; refine (rkwin_any _ _ _ _).mono ?_; rintro e wx ⟨rfl, rfl⟩)
   | (refine rk_store rfl (.tmp 8) (.tmp 36) rfl rfl [.int .i64 0, .int .i64 0, .int .i64 0, .int .i64 0, .bool false, .int .i64 0] rfl y3 rfl rfl rfl ?_))
  refine rk_end2 (by rfl) (by rfl) (by rfl) (rk_put y3 [.int .i64 0, .int .i64 0, .int .i64 0, .int .i64 0, .bool false, .int .i64 0]) rfl rfl ?_
  exact ⟨rfl, b3.grown (rk_grown _ (B + 1 + 1) #[.int .i64 0, .int .i64 0, .int .i64 0, .int .i64 0, .bool false, .int .i64 0]) hBs3 (fun k hk => by cases hk; omega)⟩
 | true =>
 have hwi := (win_iff now x.at_ 1152921504606846976).1 hwn
 have hpa := (t60_iff x.at_).1 hp.at_
 have hok : RkCameOk v x now least := ⟨hk, ho, hwi.1, (t60_iff now).2 ⟨by omega, hwi.2⟩, by rw [← win40]; exact hb⟩
 have hz := HZ.out
 rw [rkcame_ok hok] at hz
 obtain ⟨wi1, wi2⟩ := hwi
 obtain ⟨xa0, xa1⟩ := hpa
 have hxs := (t60_iff x.seq).1 hp.seq
 have hl1 := hp.l1; have hl2 := hp.l2; have ht1 := hp.t1; have hf1 := hv.f1; have hf0 := hv.f0; have hq0 := hv.q0; have ha0 := hv.a0; have ha1 := hv.a1
 have hee := endOk hp
 obtain ⟨E, hE⟩ : ∃ E, endP x = E := ⟨_, rfl⟩
 have hEb : E = x.seq + x.len := by rw [← hE]; rfl
 obtain ⟨D, hD⟩ : ∃ D, now - x.at_ = D := ⟨_, rfl⟩
 have wD : IntKind.i64.wrap (now - x.at_) = D := by rw [← hD]; exact IntWalk.i64_in _ (by omega)
 have hof := fun W => rkof_any x W hee
 rw [hE] at hof
 have hE0 : 0 ≤ E := by omega
 have HZ2 := Zh hz; have HE := Zh hE; have HD := Zh hD; have HEB := Zh hEb
 clear HZ hok hz hv hp hk ho hE hD hEb hee
 go_upto_region 3 with (first
  | (go_at_call 97; refine (hst _).mono ?_; rintro e w3 ⟨rfl, hb3⟩; have e3 := e2.kept hb3; have p3 := p2.kept hb3; have y3 := y2.kept hb3; have b3 := b2.trans (hb3.mono hBs); have d3 := p3.cell 3 rfl; have hBs3 : B ≤ w3.heap.size := Zn hBs hb3.size)
  | (go_at_call 105; refine (rkwin_any _ _ _ _).mono ?_; rintro e wx ⟨rfl, rfl⟩))
 clear c0 c1 c2 c3 c4 c5 c6 c7 c8 e2 p2 y2 b2 hb3 hst hwn hb d3 hBs
 have c0 := p3.cell 0 rfl; have c1 := p3.cell 1 rfl; have c2 := p3.cell 2 rfl; have c3 := p3.cell 3 rfl; have c4 := p3.cell 4 rfl; have c5 := p3.cell 5 rfl; have c6 := p3.cell 6 rfl; have c7 := p3.cell 7 rfl; have c8 := p3.cell 8 rfl
 go_upto_region 4 with (
  (go_at_call 175; refine (hof _).mono ?_; rintro e w4 ⟨rfl, hb4⟩; have e4 := e3.kept hb4; have p4 := p3.kept hb4; have y4 := y3.kept hb4; have b4 := b3.trans (hb4.mono hBs3); have hBs4 : B ≤ w4.heap.size := Zn hBs3 hb4.size))
 clear c0 c1 c2 c3 c4 c5 c6 c7 c8 e3 p3 y3 b3 hb4 hof hBs3
 have nd := Bx.new w4 179 [x.at_, E]
 have ed := e4.alloc (.cells #[x.at_, E] 179); have pd := p4.alloc (.cells #[x.at_, E] 179); have yd := y4.alloc (.cells #[x.at_, E] 179); have bd := b4.alloc hBs4 (.cells #[x.at_, E] 179)
 obtain ⟨Q, hQ⟩ : ∃ Q, w4.heap.size = Q := ⟨_, rfl⟩
 have hQ3 : B + 1 + 1 < Q := by have := y4.lt; omega
 rw [hQ] at nd ⊢
 generalize w4.alloc (.cells #[x.at_, E] 179) = wd at nd ed pd yd bd ⊢
 clear e4 p4 y4 b4 hQ hBs4
 have t0 := nd.cell 0 rfl; have t1 := nd.cell 1 rfl
 refine tB 5 6 (fun (W : World) => Bx W B 34 [v.at_, v.end_, v.took, v.far, v.mixed, v.quarters] ∧ Bx W (B + 1) 57 [x.seq, x.len, x.dsn, x.at_, x.tries, x.came, x.lost, x.total, x.last] ∧ Bx W (B + 1 + 1) 34 [.int .i64 0, .int .i64 0, .int .i64 0, .int .i64 0, .bool false, .int .i64 0] ∧ Bx W Q 179 [x.at_, E] ∧ W.cell? ⟨Q, 0, none⟩ = some (.int .i64 x.at_) ∧ W.cell? ⟨Q, 1, none⟩ = some (.int .i64 E) ∧ Below B w W) ⟨ed.drew, pd.drew, yd.drew, nd.drew, t0, t1, bd.drew⟩ (fun HS => ?_)
 refine tU 0 HS ?_
 refine tU 1 HS ?_
 refine tU 2 HS ?_
 refine tU 3 HS ?_
 refine tO 4 (fun K hK => ?_)
 go_simp
 skip
 refine kK hK HS (fun HS => ?_)
 clear hK K
 refine ⟨by kernel_rfl, ?_⟩
 simp only [List.drop_succ_cons, List.drop_zero]
 go_upto_region 5 with fail
 have e5 := HS.1; have p5 := HS.2.1; have y5 := HS.2.2.1; have n5 := HS.2.2.2.1; have b5 := HS.2.2.2.2.2.2
 clear HS t0 t1 nd ed pd yd bd
 generalize wd.drew = w5 at e5 p5 y5 n5 b5 ⊢
 have t4 := p5.cell 4 rfl
 go_upto_region 6 with fail
 clear t4
 by_cases m1 : E < v.far
 ·have m2 : decide (E < v.far) = true := Zt m1
  have M2 := Zh m1; clear m1
  cases s1 : decide (1 < x.tries) with
  | true =>
   have S1 := Zh s1
   have k0 := e5.cell 0 rfl; have k1 := e5.cell 1 rfl; have k3 := e5.cell 3 rfl; have t0 := n5.cell 0 rfl; have t1 := n5.cell 1 rfl
   go_upto_region 8 with fail
   clear k0 k1 k3 t0 t1
   clear m2 s1
   have f2 : ¬ v.far < E := by have := M2.out; omega
   have f1 : decide (v.far < E) = false := Zf f2
   have k0 := e5.cell 0 rfl; have k1 := e5.cell 1 rfl; have k3 := e5.cell 3 rfl; have t0 := n5.cell 0 rfl; have t1 := n5.cell 1 rfl
   have z3f := e5.free 3
   go_upto_region 9 with fail
   clear z3f
   clear f1 f2
   clear k0 k1 k3 t0 t1
   have e6 := e5.set 3 (.int .i64 v.far)
   have p6 := p5.far (p := ⟨B, 3, none⟩) (by show B + 1 ≠ B; omega) (.int .i64 v.far); have y6 := y5.far (p := ⟨B, 3, none⟩) (by show B + 1 + 1 ≠ B; omega) (.int .i64 v.far); have n6 := n5.far (p := ⟨B, 3, none⟩) (by show Q ≠ B; omega) (.int .i64 v.far)
   have b6 := b5.setCell (p := ⟨B, 3, none⟩) (by show B ≤ B; omega) (.int .i64 v.far)
   generalize w5.setCell ⟨B, 3, none⟩ (.int .i64 v.far) = w6 at n6 e6 p6 y6 b6 ⊢
   clear n5 e5 p5 y5 b5
   by_cases hd : D < least
   ·have d1 : decide (D < least) = true := Zt hd
    have HDL := Zh hd; clear hd
    have k0 := e6.cell 0 rfl; have k1 := e6.cell 1 rfl; have k3 := e6.cell 3 rfl; have t0 := n6.cell 0 rfl; have t1 := n6.cell 1 rfl
    go_upto_region 12 with fail
    clear k0 k1 k3 t0 t1
    have hz := HZ2.out
    rw [new_soon (Zt ⟨of_decide_eq_true S1.out, by rw [HD.out]; exact HDL.out⟩), far_no (by rw [HE.out]; have := M2.out; omega), mix_no (fun h => by have := of_decide_eq_true S1.out; omega)] at hz
    try rw [HE.out] at hz
    try rw [HD.out] at hz
    subst hz
    clear HZ2
    have hBs : B ≤ w6.heap.size := by have := y6.lt; omega
    go_wp2_with (first | (refine rk_load rfl (.tmp 4) rfl rfl e6 rfl ?_) | (refine rk_store rfl (.tmp 8) (.tmp 87) rfl rfl [v.at_, v.end_, v.took, v.far, v.mixed, v.quarters] rfl y6 rfl rfl rfl ?_))
    refine rk_end2 (by rfl) (by rfl) (by rfl) (rk_put y6 [v.at_, v.end_, v.took, v.far, v.mixed, v.quarters]) rfl rfl ?_
    exact ⟨rfl, b6.grown (rk_grown _ (B + 1 + 1) #[v.at_, v.end_, v.took, v.far, v.mixed, v.quarters]) hBs (fun k hk => by cases hk; omega)⟩
   ·have d1 : decide (D < least) = false := Zf hd
    have HDL := Zh hd; clear hd
    have k0 := e6.cell 0 rfl; have k1 := e6.cell 1 rfl; have k3 := e6.cell 3 rfl; have t0 := n6.cell 0 rfl; have t1 := n6.cell 1 rfl
    go_upto_region 10 with fail
    clear k0 k1 k3 t0 t1
    cases hah : aheadB v.at_ v.end_ x.at_ E with
    | true =>
     have HAH := Zh hah; clear hah
     have k0 := e6.cell 0 rfl; have k1 := e6.cell 1 rfl; have k3 := e6.cell 3 rfl; have t0 := n6.cell 0 rfl; have t1 := n6.cell 1 rfl
     go_upto_region 11 with (go_at_call 176; refine (before_any _ _ _ _ _).mono ?_; rintro e wx ⟨rfl, hbx⟩; have nx := n6.kept hbx; have ex := e6.kept hbx; have px := p6.kept hbx; have yx := y6.kept hbx; have bx := b6.trans (hbx.mono (Zl e6.lt)); rw [HAH.out])
     clear k0 k1 k3 t0 t1
     clear n6 e6 p6 y6 b6 hbx
     have n6 := nx
     have e6 := ex
     have p6 := px
     have y6 := yx
     have b6 := bx
     clear nx ex px yx bx
     have z0 := e6.cell 0 rfl; have zf0 := e6.free 0
     have e7 := e6.set 0 (.int .i64 x.at_)
     have p7 := p6.far (p := ⟨B, 0, none⟩) (by show B + 1 ≠ B; omega) (.int .i64 x.at_); have y7 := y6.far (p := ⟨B, 0, none⟩) (by show B + 1 + 1 ≠ B; omega) (.int .i64 x.at_); have n7 := n6.far (p := ⟨B, 0, none⟩) (by show Q ≠ B; omega) (.int .i64 x.at_)
     have b7 := b6.setCell (p := ⟨B, 0, none⟩) (by show B ≤ B; omega) (.int .i64 x.at_)
     have z1 := e7.cell 1 rfl; have zf1 := e7.free 1
     have e8 := e7.set 1 (.int .i64 E)
     have p8 := p7.far (p := ⟨B, 1, none⟩) (by show B + 1 ≠ B; omega) (.int .i64 E); have y8 := y7.far (p := ⟨B, 1, none⟩) (by show B + 1 + 1 ≠ B; omega) (.int .i64 E); have n8 := n7.far (p := ⟨B, 1, none⟩) (by show Q ≠ B; omega) (.int .i64 E)
     have b8 := b7.setCell (p := ⟨B, 1, none⟩) (by show B ≤ B; omega) (.int .i64 E)
     have z2 := e8.cell 2 rfl; have zf2 := e8.free 2
     have e9 := e8.set 2 (.int .i64 D)
     have p9 := p8.far (p := ⟨B, 2, none⟩) (by show B + 1 ≠ B; omega) (.int .i64 D); have y9 := y8.far (p := ⟨B, 2, none⟩) (by show B + 1 + 1 ≠ B; omega) (.int .i64 D); have n9 := n8.far (p := ⟨B, 2, none⟩) (by show Q ≠ B; omega) (.int .i64 D)
     have b9 := b8.setCell (p := ⟨B, 2, none⟩) (by show B ≤ B; omega) (.int .i64 D)
     go_upto_region 12 with fail
     clear z0 z1 z2 zf0 zf1 zf2
     generalize ((wx.setCell ⟨B, 0, none⟩ (.int .i64 x.at_)).setCell ⟨B, 1, none⟩ (.int .i64 E)).setCell ⟨B, 2, none⟩ (.int .i64 D) = w9 at n9 e9 p9 y9 b9 ⊢
     have hz := HZ2.out
     rw [new_new (Zf (fun h => by have h1 := HDL.out; have h2 := h.2; rw [HD.out] at h2; omega)) (by rw [HE.out]; exact HAH.out), far_no (by rw [HE.out]; have := M2.out; omega), mix_no (fun h => by have := of_decide_eq_true S1.out; omega)] at hz
     try rw [HE.out] at hz
     try rw [HD.out] at hz
     subst hz
     clear HZ2
     have hBs : B ≤ w9.heap.size := by have := y9.lt; omega
     go_wp2_with (first | (refine rk_load rfl (.tmp 4) rfl rfl e9 rfl ?_) | (refine rk_store rfl (.tmp 8) (.tmp 87) rfl rfl [x.at_, E, D, v.far, v.mixed, v.quarters] rfl y9 rfl rfl rfl ?_))
     refine rk_end2 (by rfl) (by rfl) (by rfl) (rk_put y9 [x.at_, E, D, v.far, v.mixed, v.quarters]) rfl rfl ?_
     exact ⟨rfl, b9.grown (rk_grown _ (B + 1 + 1) #[x.at_, E, D, v.far, v.mixed, v.quarters]) hBs (fun k hk => by cases hk; omega)⟩
    | false =>
     have HAH := Zh hah; clear hah
     have k0 := e6.cell 0 rfl; have k1 := e6.cell 1 rfl; have k3 := e6.cell 3 rfl; have t0 := n6.cell 0 rfl; have t1 := n6.cell 1 rfl
     go_upto_region 12 with (go_at_call 176; refine (before_any _ _ _ _ _).mono ?_; rintro e wx ⟨rfl, hbx⟩; have nx := n6.kept hbx; have ex := e6.kept hbx; have px := p6.kept hbx; have yx := y6.kept hbx; have bx := b6.trans (hbx.mono (Zl e6.lt)); rw [HAH.out])
     clear k0 k1 k3 t0 t1
     clear n6 e6 p6 y6 b6 hbx
     have n6 := nx
     have e6 := ex
     have p6 := px
     have y6 := yx
     have b6 := bx
     clear nx ex px yx bx
     have hz := HZ2.out
     rw [new_old (Zf (fun h => by have h1 := HDL.out; have h2 := h.2; rw [HD.out] at h2; omega)) (by rw [HE.out]; exact HAH.out), far_no (by rw [HE.out]; have := M2.out; omega), mix_no (fun h => by have := of_decide_eq_true S1.out; omega)] at hz
     try rw [HE.out] at hz
     try rw [HD.out] at hz
     subst hz
     clear HZ2
     have hBs : B ≤ wx.heap.size := by have := y6.lt; omega
     go_wp2_with (first | (refine rk_load rfl (.tmp 4) rfl rfl e6 rfl ?_) | (refine rk_store rfl (.tmp 8) (.tmp 87) rfl rfl [v.at_, v.end_, v.took, v.far, v.mixed, v.quarters] rfl y6 rfl rfl rfl ?_))
     refine rk_end2 (by rfl) (by rfl) (by rfl) (rk_put y6 [v.at_, v.end_, v.took, v.far, v.mixed, v.quarters]) rfl rfl ?_
     exact ⟨rfl, b6.grown (rk_grown _ (B + 1 + 1) #[v.at_, v.end_, v.took, v.far, v.mixed, v.quarters]) hBs (fun k hk => by cases hk; omega)⟩
  | false =>
   have S1 := Zh s1
   have k0 := e5.cell 0 rfl; have k1 := e5.cell 1 rfl; have k3 := e5.cell 3 rfl; have t0 := n5.cell 0 rfl; have t1 := n5.cell 1 rfl
   go_upto_region 7 with fail
   clear k0 k1 k3 t0 t1
   clear m2 s1
   have z4 := e5.cell 4 rfl; have zf := e5.free 4
   go_upto_region 8 with fail
   clear z4 zf
   have e6 := e5.set 4 (.bool true)
   have p6 := p5.far (p := ⟨B, 4, none⟩) (by show B + 1 ≠ B; omega) (.bool true); have y6 := y5.far (p := ⟨B, 4, none⟩) (by show B + 1 + 1 ≠ B; omega) (.bool true); have n6 := n5.far (p := ⟨B, 4, none⟩) (by show Q ≠ B; omega) (.bool true)
   have b6 := b5.setCell (p := ⟨B, 4, none⟩) (by show B ≤ B; omega) (.bool true)
   generalize w5.setCell ⟨B, 4, none⟩ (.bool true) = w6 at n6 e6 p6 y6 b6 ⊢
   clear n5 e5 p5 y5 b5
   have f2 : ¬ v.far < E := by have := M2.out; omega
   have f1 : decide (v.far < E) = false := Zf f2
   have k0 := e6.cell 0 rfl; have k1 := e6.cell 1 rfl; have k3 := e6.cell 3 rfl; have t0 := n6.cell 0 rfl; have t1 := n6.cell 1 rfl
   have z3f := e6.free 3
   go_upto_region 9 with fail
   clear z3f
   clear f1 f2
   clear k0 k1 k3 t0 t1
   have e7 := e6.set 3 (.int .i64 v.far)
   have p7 := p6.far (p := ⟨B, 3, none⟩) (by show B + 1 ≠ B; omega) (.int .i64 v.far); have y7 := y6.far (p := ⟨B, 3, none⟩) (by show B + 1 + 1 ≠ B; omega) (.int .i64 v.far); have n7 := n6.far (p := ⟨B, 3, none⟩) (by show Q ≠ B; omega) (.int .i64 v.far)
   have b7 := b6.setCell (p := ⟨B, 3, none⟩) (by show B ≤ B; omega) (.int .i64 v.far)
   generalize w6.setCell ⟨B, 3, none⟩ (.int .i64 v.far) = w7 at n7 e7 p7 y7 b7 ⊢
   clear n6 e6 p6 y6 b6
   have s3 : decide (1 < x.tries) = false := S1.out
   have k0 := e7.cell 0 rfl; have k1 := e7.cell 1 rfl; have k3 := e7.cell 3 rfl; have t0 := n7.cell 0 rfl; have t1 := n7.cell 1 rfl
   go_upto_region 10 with fail
   clear k0 k1 k3 t0 t1
   cases hah : aheadB v.at_ v.end_ x.at_ E with
   | true =>
    have HAH := Zh hah; clear hah
    have k0 := e7.cell 0 rfl; have k1 := e7.cell 1 rfl; have k3 := e7.cell 3 rfl; have t0 := n7.cell 0 rfl; have t1 := n7.cell 1 rfl
    go_upto_region 11 with (go_at_call 176; refine (before_any _ _ _ _ _).mono ?_; rintro e wx ⟨rfl, hbx⟩; have nx := n7.kept hbx; have ex := e7.kept hbx; have px := p7.kept hbx; have yx := y7.kept hbx; have bx := b7.trans (hbx.mono (Zl e7.lt)); rw [HAH.out])
    clear k0 k1 k3 t0 t1
    clear n7 e7 p7 y7 b7 hbx
    have n7 := nx
    have e7 := ex
    have p7 := px
    have y7 := yx
    have b7 := bx
    clear nx ex px yx bx
    have z0 := e7.cell 0 rfl; have zf0 := e7.free 0
    have e8 := e7.set 0 (.int .i64 x.at_)
    have p8 := p7.far (p := ⟨B, 0, none⟩) (by show B + 1 ≠ B; omega) (.int .i64 x.at_); have y8 := y7.far (p := ⟨B, 0, none⟩) (by show B + 1 + 1 ≠ B; omega) (.int .i64 x.at_); have n8 := n7.far (p := ⟨B, 0, none⟩) (by show Q ≠ B; omega) (.int .i64 x.at_)
    have b8 := b7.setCell (p := ⟨B, 0, none⟩) (by show B ≤ B; omega) (.int .i64 x.at_)
    have z1 := e8.cell 1 rfl; have zf1 := e8.free 1
    have e9 := e8.set 1 (.int .i64 E)
    have p9 := p8.far (p := ⟨B, 1, none⟩) (by show B + 1 ≠ B; omega) (.int .i64 E); have y9 := y8.far (p := ⟨B, 1, none⟩) (by show B + 1 + 1 ≠ B; omega) (.int .i64 E); have n9 := n8.far (p := ⟨B, 1, none⟩) (by show Q ≠ B; omega) (.int .i64 E)
    have b9 := b8.setCell (p := ⟨B, 1, none⟩) (by show B ≤ B; omega) (.int .i64 E)
    have z2 := e9.cell 2 rfl; have zf2 := e9.free 2
    have e10 := e9.set 2 (.int .i64 D)
    have p10 := p9.far (p := ⟨B, 2, none⟩) (by show B + 1 ≠ B; omega) (.int .i64 D); have y10 := y9.far (p := ⟨B, 2, none⟩) (by show B + 1 + 1 ≠ B; omega) (.int .i64 D); have n10 := n9.far (p := ⟨B, 2, none⟩) (by show Q ≠ B; omega) (.int .i64 D)
    have b10 := b9.setCell (p := ⟨B, 2, none⟩) (by show B ≤ B; omega) (.int .i64 D)
    go_upto_region 12 with fail
    clear z0 z1 z2 zf0 zf1 zf2
    generalize ((wx.setCell ⟨B, 0, none⟩ (.int .i64 x.at_)).setCell ⟨B, 1, none⟩ (.int .i64 E)).setCell ⟨B, 2, none⟩ (.int .i64 D) = w10 at n10 e10 p10 y10 b10 ⊢
    have hz := HZ2.out
    rw [new_new (Zf (fun h => by have := of_decide_eq_false S1.out; omega)) (by rw [HE.out]; exact HAH.out), far_no (by rw [HE.out]; have := M2.out; omega), mix_yes ⟨by have := of_decide_eq_false S1.out; omega, by rw [HE.out]; exact M2.out⟩] at hz
    try rw [HE.out] at hz
    try rw [HD.out] at hz
    subst hz
    clear HZ2
    have hBs : B ≤ w10.heap.size := by have := y10.lt; omega
    go_wp2_with (first | (refine rk_load rfl (.tmp 4) rfl rfl e10 rfl ?_) | (refine rk_store rfl (.tmp 8) (.tmp 87) rfl rfl [x.at_, E, D, v.far, .bool true, v.quarters] rfl y10 rfl rfl rfl ?_))
    refine rk_end2 (by rfl) (by rfl) (by rfl) (rk_put y10 [x.at_, E, D, v.far, .bool true, v.quarters]) rfl rfl ?_
    exact ⟨rfl, b10.grown (rk_grown _ (B + 1 + 1) #[x.at_, E, D, v.far, .bool true, v.quarters]) hBs (fun k hk => by cases hk; omega)⟩
   | false =>
    have HAH := Zh hah; clear hah
    have k0 := e7.cell 0 rfl; have k1 := e7.cell 1 rfl; have k3 := e7.cell 3 rfl; have t0 := n7.cell 0 rfl; have t1 := n7.cell 1 rfl
    go_upto_region 12 with (go_at_call 176; refine (before_any _ _ _ _ _).mono ?_; rintro e wx ⟨rfl, hbx⟩; have nx := n7.kept hbx; have ex := e7.kept hbx; have px := p7.kept hbx; have yx := y7.kept hbx; have bx := b7.trans (hbx.mono (Zl e7.lt)); rw [HAH.out])
    clear k0 k1 k3 t0 t1
    clear n7 e7 p7 y7 b7 hbx
    have n7 := nx
    have e7 := ex
    have p7 := px
    have y7 := yx
    have b7 := bx
    clear nx ex px yx bx
    have hz := HZ2.out
    rw [new_old (Zf (fun h => by have := of_decide_eq_false S1.out; omega)) (by rw [HE.out]; exact HAH.out), far_no (by rw [HE.out]; have := M2.out; omega), mix_yes ⟨by have := of_decide_eq_false S1.out; omega, by rw [HE.out]; exact M2.out⟩] at hz
    try rw [HE.out] at hz
    try rw [HD.out] at hz
    subst hz
    clear HZ2
    have hBs : B ≤ wx.heap.size := by have := y7.lt; omega
    go_wp2_with (first | (refine rk_load rfl (.tmp 4) rfl rfl e7 rfl ?_) | (refine rk_store rfl (.tmp 8) (.tmp 87) rfl rfl [v.at_, v.end_, v.took, v.far, .bool true, v.quarters] rfl y7 rfl rfl rfl ?_))
    refine rk_end2 (by rfl) (by rfl) (by rfl) (rk_put y7 [v.at_, v.end_, v.took, v.far, .bool true, v.quarters]) rfl rfl ?_
    exact ⟨rfl, b7.grown (rk_grown _ (B + 1 + 1) #[v.at_, v.end_, v.took, v.far, .bool true, v.quarters]) hBs (fun k hk => by cases hk; omega)⟩
 ·have m2 : decide (E < v.far) = false := Zf m1
  have HNM := Zh m1
  have k0 := e5.cell 0 rfl; have k1 := e5.cell 1 rfl; have k3 := e5.cell 3 rfl; have t0 := n5.cell 0 rfl; have t1 := n5.cell 1 rfl
  go_upto_region 8 with fail
  clear k0 k1 k3 t0 t1
  clear m2
  by_cases g1 : v.far < E
  ·have M2 := Zh g1; clear g1 m1
   cases s1 : decide (1 < x.tries) with
   | true =>
    have S1 := Zh s1; clear s1
    have f2 : v.far < E := M2.out
    have f1 : decide (v.far < E) = true := Zt f2
    have k0 := e5.cell 0 rfl; have k1 := e5.cell 1 rfl; have k3 := e5.cell 3 rfl; have t0 := n5.cell 0 rfl; have t1 := n5.cell 1 rfl
    have z3f := e5.free 3
    go_upto_region 9 with fail
    clear z3f
    clear f1 f2
    clear k0 k1 k3 t0 t1
    have e6 := e5.set 3 (.int .i64 E)
    have p6 := p5.far (p := ⟨B, 3, none⟩) (by show B + 1 ≠ B; omega) (.int .i64 E); have y6 := y5.far (p := ⟨B, 3, none⟩) (by show B + 1 + 1 ≠ B; omega) (.int .i64 E); have n6 := n5.far (p := ⟨B, 3, none⟩) (by show Q ≠ B; omega) (.int .i64 E)
    have b6 := b5.setCell (p := ⟨B, 3, none⟩) (by show B ≤ B; omega) (.int .i64 E)
    generalize w5.setCell ⟨B, 3, none⟩ (.int .i64 E) = w6 at n6 e6 p6 y6 b6 ⊢
    clear n5 e5 p5 y5 b5
    by_cases hd : D < least
    ·have d1 : decide (D < least) = true := Zt hd
     have HDL := Zh hd; clear hd
     have k0 := e6.cell 0 rfl; have k1 := e6.cell 1 rfl; have k3 := e6.cell 3 rfl; have t0 := n6.cell 0 rfl; have t1 := n6.cell 1 rfl
     go_upto_region 12 with fail
     clear k0 k1 k3 t0 t1
     have hz := HZ2.out
     rw [new_soon (Zt ⟨of_decide_eq_true S1.out, by rw [HD.out]; exact HDL.out⟩), far_yes (by rw [HE.out]; exact M2.out), mix_no (fun h => by have := HNM.out; rw [HE.out] at h; omega)] at hz
     try rw [HE.out] at hz
     try rw [HD.out] at hz
     subst hz
     clear HZ2
     have hBs : B ≤ w6.heap.size := by have := y6.lt; omega
     go_wp2_with (first | (refine rk_load rfl (.tmp 4) rfl rfl e6 rfl ?_) | (refine rk_store rfl (.tmp 8) (.tmp 87) rfl rfl [v.at_, v.end_, v.took, E, v.mixed, v.quarters] rfl y6 rfl rfl rfl ?_))
     refine rk_end2 (by rfl) (by rfl) (by rfl) (rk_put y6 [v.at_, v.end_, v.took, E, v.mixed, v.quarters]) rfl rfl ?_
     exact ⟨rfl, b6.grown (rk_grown _ (B + 1 + 1) #[v.at_, v.end_, v.took, E, v.mixed, v.quarters]) hBs (fun k hk => by cases hk; omega)⟩
    ·have d1 : decide (D < least) = false := Zf hd
     have HDL := Zh hd; clear hd
     have k0 := e6.cell 0 rfl; have k1 := e6.cell 1 rfl; have k3 := e6.cell 3 rfl; have t0 := n6.cell 0 rfl; have t1 := n6.cell 1 rfl
     go_upto_region 10 with fail
     clear k0 k1 k3 t0 t1
     cases hah : aheadB v.at_ v.end_ x.at_ E with
     | true =>
      have HAH := Zh hah; clear hah
      have k0 := e6.cell 0 rfl; have k1 := e6.cell 1 rfl; have k3 := e6.cell 3 rfl; have t0 := n6.cell 0 rfl; have t1 := n6.cell 1 rfl
      go_upto_region 11 with (go_at_call 176; refine (before_any _ _ _ _ _).mono ?_; rintro e wx ⟨rfl, hbx⟩; have nx := n6.kept hbx; have ex := e6.kept hbx; have px := p6.kept hbx; have yx := y6.kept hbx; have bx := b6.trans (hbx.mono (Zl e6.lt)); rw [HAH.out])
      clear k0 k1 k3 t0 t1
      clear n6 e6 p6 y6 b6 hbx
      have n6 := nx
      have e6 := ex
      have p6 := px
      have y6 := yx
      have b6 := bx
      clear nx ex px yx bx
      have z0 := e6.cell 0 rfl; have zf0 := e6.free 0
      have e7 := e6.set 0 (.int .i64 x.at_)
      have p7 := p6.far (p := ⟨B, 0, none⟩) (by show B + 1 ≠ B; omega) (.int .i64 x.at_); have y7 := y6.far (p := ⟨B, 0, none⟩) (by show B + 1 + 1 ≠ B; omega) (.int .i64 x.at_); have n7 := n6.far (p := ⟨B, 0, none⟩) (by show Q ≠ B; omega) (.int .i64 x.at_)
      have b7 := b6.setCell (p := ⟨B, 0, none⟩) (by show B ≤ B; omega) (.int .i64 x.at_)
      have z1 := e7.cell 1 rfl; have zf1 := e7.free 1
      have e8 := e7.set 1 (.int .i64 E)
      have p8 := p7.far (p := ⟨B, 1, none⟩) (by show B + 1 ≠ B; omega) (.int .i64 E); have y8 := y7.far (p := ⟨B, 1, none⟩) (by show B + 1 + 1 ≠ B; omega) (.int .i64 E); have n8 := n7.far (p := ⟨B, 1, none⟩) (by show Q ≠ B; omega) (.int .i64 E)
      have b8 := b7.setCell (p := ⟨B, 1, none⟩) (by show B ≤ B; omega) (.int .i64 E)
      have z2 := e8.cell 2 rfl; have zf2 := e8.free 2
      have e9 := e8.set 2 (.int .i64 D)
      have p9 := p8.far (p := ⟨B, 2, none⟩) (by show B + 1 ≠ B; omega) (.int .i64 D); have y9 := y8.far (p := ⟨B, 2, none⟩) (by show B + 1 + 1 ≠ B; omega) (.int .i64 D); have n9 := n8.far (p := ⟨B, 2, none⟩) (by show Q ≠ B; omega) (.int .i64 D)
      have b9 := b8.setCell (p := ⟨B, 2, none⟩) (by show B ≤ B; omega) (.int .i64 D)
      go_upto_region 12 with fail
      clear z0 z1 z2 zf0 zf1 zf2
      generalize ((wx.setCell ⟨B, 0, none⟩ (.int .i64 x.at_)).setCell ⟨B, 1, none⟩ (.int .i64 E)).setCell ⟨B, 2, none⟩ (.int .i64 D) = w9 at n9 e9 p9 y9 b9 ⊢
      have hz := HZ2.out
      rw [new_new (Zf (fun h => by have h1 := HDL.out; have h2 := h.2; rw [HD.out] at h2; omega)) (by rw [HE.out]; exact HAH.out), far_yes (by rw [HE.out]; exact M2.out), mix_no (fun h => by have := HNM.out; rw [HE.out] at h; omega)] at hz
      try rw [HE.out] at hz
      try rw [HD.out] at hz
      subst hz
      clear HZ2
      have hBs : B ≤ w9.heap.size := by have := y9.lt; omega
      go_wp2_with (first | (refine rk_load rfl (.tmp 4) rfl rfl e9 rfl ?_) | (refine rk_store rfl (.tmp 8) (.tmp 87) rfl rfl [x.at_, E, D, E, v.mixed, v.quarters] rfl y9 rfl rfl rfl ?_))
      refine rk_end2 (by rfl) (by rfl) (by rfl) (rk_put y9 [x.at_, E, D, E, v.mixed, v.quarters]) rfl rfl ?_
      exact ⟨rfl, b9.grown (rk_grown _ (B + 1 + 1) #[x.at_, E, D, E, v.mixed, v.quarters]) hBs (fun k hk => by cases hk; omega)⟩
     | false =>
      have HAH := Zh hah; clear hah
      have k0 := e6.cell 0 rfl; have k1 := e6.cell 1 rfl; have k3 := e6.cell 3 rfl; have t0 := n6.cell 0 rfl; have t1 := n6.cell 1 rfl
      go_upto_region 12 with (go_at_call 176; refine (before_any _ _ _ _ _).mono ?_; rintro e wx ⟨rfl, hbx⟩; have nx := n6.kept hbx; have ex := e6.kept hbx; have px := p6.kept hbx; have yx := y6.kept hbx; have bx := b6.trans (hbx.mono (Zl e6.lt)); rw [HAH.out])
      clear k0 k1 k3 t0 t1
      clear n6 e6 p6 y6 b6 hbx
      have n6 := nx
      have e6 := ex
      have p6 := px
      have y6 := yx
      have b6 := bx
      clear nx ex px yx bx
      have hz := HZ2.out
      rw [new_old (Zf (fun h => by have h1 := HDL.out; have h2 := h.2; rw [HD.out] at h2; omega)) (by rw [HE.out]; exact HAH.out), far_yes (by rw [HE.out]; exact M2.out), mix_no (fun h => by have := HNM.out; rw [HE.out] at h; omega)] at hz
      try rw [HE.out] at hz
      try rw [HD.out] at hz
      subst hz
      clear HZ2
      have hBs : B ≤ wx.heap.size := by have := y6.lt; omega
      go_wp2_with (first | (refine rk_load rfl (.tmp 4) rfl rfl e6 rfl ?_) | (refine rk_store rfl (.tmp 8) (.tmp 87) rfl rfl [v.at_, v.end_, v.took, E, v.mixed, v.quarters] rfl y6 rfl rfl rfl ?_))
      refine rk_end2 (by rfl) (by rfl) (by rfl) (rk_put y6 [v.at_, v.end_, v.took, E, v.mixed, v.quarters]) rfl rfl ?_
      exact ⟨rfl, b6.grown (rk_grown _ (B + 1 + 1) #[v.at_, v.end_, v.took, E, v.mixed, v.quarters]) hBs (fun k hk => by cases hk; omega)⟩
   | false =>
    have S1 := Zh s1; clear s1
    have f2 : v.far < E := M2.out
    have f1 : decide (v.far < E) = true := Zt f2
    have k0 := e5.cell 0 rfl; have k1 := e5.cell 1 rfl; have k3 := e5.cell 3 rfl; have t0 := n5.cell 0 rfl; have t1 := n5.cell 1 rfl
    have z3f := e5.free 3
    go_upto_region 9 with fail
    clear z3f
    clear f1 f2
    clear k0 k1 k3 t0 t1
    have e6 := e5.set 3 (.int .i64 E)
    have p6 := p5.far (p := ⟨B, 3, none⟩) (by show B + 1 ≠ B; omega) (.int .i64 E); have y6 := y5.far (p := ⟨B, 3, none⟩) (by show B + 1 + 1 ≠ B; omega) (.int .i64 E); have n6 := n5.far (p := ⟨B, 3, none⟩) (by show Q ≠ B; omega) (.int .i64 E)
    have b6 := b5.setCell (p := ⟨B, 3, none⟩) (by show B ≤ B; omega) (.int .i64 E)
    generalize w5.setCell ⟨B, 3, none⟩ (.int .i64 E) = w6 at n6 e6 p6 y6 b6 ⊢
    clear n5 e5 p5 y5 b5
    have s3 : decide (1 < x.tries) = false := S1.out
    have k0 := e6.cell 0 rfl; have k1 := e6.cell 1 rfl; have k3 := e6.cell 3 rfl; have t0 := n6.cell 0 rfl; have t1 := n6.cell 1 rfl
    go_upto_region 10 with fail
    clear k0 k1 k3 t0 t1
    cases hah : aheadB v.at_ v.end_ x.at_ E with
    | true =>
     have HAH := Zh hah; clear hah
     have k0 := e6.cell 0 rfl; have k1 := e6.cell 1 rfl; have k3 := e6.cell 3 rfl; have t0 := n6.cell 0 rfl; have t1 := n6.cell 1 rfl
     go_upto_region 11 with (go_at_call 176; refine (before_any _ _ _ _ _).mono ?_; rintro e wx ⟨rfl, hbx⟩; have nx := n6.kept hbx; have ex := e6.kept hbx; have px := p6.kept hbx; have yx := y6.kept hbx; have bx := b6.trans (hbx.mono (Zl e6.lt)); rw [HAH.out])
     clear k0 k1 k3 t0 t1
     clear n6 e6 p6 y6 b6 hbx
     have n6 := nx
     have e6 := ex
     have p6 := px
     have y6 := yx
     have b6 := bx
     clear nx ex px yx bx
     have z0 := e6.cell 0 rfl; have zf0 := e6.free 0
     have e7 := e6.set 0 (.int .i64 x.at_)
     have p7 := p6.far (p := ⟨B, 0, none⟩) (by show B + 1 ≠ B; omega) (.int .i64 x.at_); have y7 := y6.far (p := ⟨B, 0, none⟩) (by show B + 1 + 1 ≠ B; omega) (.int .i64 x.at_); have n7 := n6.far (p := ⟨B, 0, none⟩) (by show Q ≠ B; omega) (.int .i64 x.at_)
     have b7 := b6.setCell (p := ⟨B, 0, none⟩) (by show B ≤ B; omega) (.int .i64 x.at_)
     have z1 := e7.cell 1 rfl; have zf1 := e7.free 1
     have e8 := e7.set 1 (.int .i64 E)
     have p8 := p7.far (p := ⟨B, 1, none⟩) (by show B + 1 ≠ B; omega) (.int .i64 E); have y8 := y7.far (p := ⟨B, 1, none⟩) (by show B + 1 + 1 ≠ B; omega) (.int .i64 E); have n8 := n7.far (p := ⟨B, 1, none⟩) (by show Q ≠ B; omega) (.int .i64 E)
     have b8 := b7.setCell (p := ⟨B, 1, none⟩) (by show B ≤ B; omega) (.int .i64 E)
     have z2 := e8.cell 2 rfl; have zf2 := e8.free 2
     have e9 := e8.set 2 (.int .i64 D)
     have p9 := p8.far (p := ⟨B, 2, none⟩) (by show B + 1 ≠ B; omega) (.int .i64 D); have y9 := y8.far (p := ⟨B, 2, none⟩) (by show B + 1 + 1 ≠ B; omega) (.int .i64 D); have n9 := n8.far (p := ⟨B, 2, none⟩) (by show Q ≠ B; omega) (.int .i64 D)
     have b9 := b8.setCell (p := ⟨B, 2, none⟩) (by show B ≤ B; omega) (.int .i64 D)
     go_upto_region 12 with fail
     clear z0 z1 z2 zf0 zf1 zf2
     generalize ((wx.setCell ⟨B, 0, none⟩ (.int .i64 x.at_)).setCell ⟨B, 1, none⟩ (.int .i64 E)).setCell ⟨B, 2, none⟩ (.int .i64 D) = w9 at n9 e9 p9 y9 b9 ⊢
     have hz := HZ2.out
     rw [new_new (Zf (fun h => by have := of_decide_eq_false S1.out; omega)) (by rw [HE.out]; exact HAH.out), far_yes (by rw [HE.out]; exact M2.out), mix_no (fun h => by have := HNM.out; rw [HE.out] at h; omega)] at hz
     try rw [HE.out] at hz
     try rw [HD.out] at hz
     subst hz
     clear HZ2
     have hBs : B ≤ w9.heap.size := by have := y9.lt; omega
     go_wp2_with (first | (refine rk_load rfl (.tmp 4) rfl rfl e9 rfl ?_) | (refine rk_store rfl (.tmp 8) (.tmp 87) rfl rfl [x.at_, E, D, E, v.mixed, v.quarters] rfl y9 rfl rfl rfl ?_))
     refine rk_end2 (by rfl) (by rfl) (by rfl) (rk_put y9 [x.at_, E, D, E, v.mixed, v.quarters]) rfl rfl ?_
     exact ⟨rfl, b9.grown (rk_grown _ (B + 1 + 1) #[x.at_, E, D, E, v.mixed, v.quarters]) hBs (fun k hk => by cases hk; omega)⟩
    | false =>
     have HAH := Zh hah; clear hah
     have k0 := e6.cell 0 rfl; have k1 := e6.cell 1 rfl; have k3 := e6.cell 3 rfl; have t0 := n6.cell 0 rfl; have t1 := n6.cell 1 rfl
     go_upto_region 12 with (go_at_call 176; refine (before_any _ _ _ _ _).mono ?_; rintro e wx ⟨rfl, hbx⟩; have nx := n6.kept hbx; have ex := e6.kept hbx; have px := p6.kept hbx; have yx := y6.kept hbx; have bx := b6.trans (hbx.mono (Zl e6.lt)); rw [HAH.out])
     clear k0 k1 k3 t0 t1
     clear n6 e6 p6 y6 b6 hbx
     have n6 := nx
     have e6 := ex
     have p6 := px
     have y6 := yx
     have b6 := bx
     clear nx ex px yx bx
     have hz := HZ2.out
     rw [new_old (Zf (fun h => by have := of_decide_eq_false S1.out; omega)) (by rw [HE.out]; exact HAH.out), far_yes (by rw [HE.out]; exact M2.out), mix_no (fun h => by have := HNM.out; rw [HE.out] at h; omega)] at hz
     try rw [HE.out] at hz
     try rw [HD.out] at hz
     subst hz
     clear HZ2
     have hBs : B ≤ wx.heap.size := by have := y6.lt; omega
     go_wp2_with (first | (refine rk_load rfl (.tmp 4) rfl rfl e6 rfl ?_) | (refine rk_store rfl (.tmp 8) (.tmp 87) rfl rfl [v.at_, v.end_, v.took, E, v.mixed, v.quarters] rfl y6 rfl rfl rfl ?_))
     refine rk_end2 (by rfl) (by rfl) (by rfl) (rk_put y6 [v.at_, v.end_, v.took, E, v.mixed, v.quarters]) rfl rfl ?_
     exact ⟨rfl, b6.grown (rk_grown _ (B + 1 + 1) #[v.at_, v.end_, v.took, E, v.mixed, v.quarters]) hBs (fun k hk => by cases hk; omega)⟩
  ·have M2 := Zh (show v.far = E by omega)
   clear g1 m1
   cases s1 : decide (1 < x.tries) with
   | true =>
    have S1 := Zh s1; clear s1
    have f2 : ¬ v.far < E := by have := M2.out; omega
    have f1 : decide (v.far < E) = false := Zf f2
    have k0 := e5.cell 0 rfl; have k1 := e5.cell 1 rfl; have k3 := e5.cell 3 rfl; have t0 := n5.cell 0 rfl; have t1 := n5.cell 1 rfl
    have z3f := e5.free 3
    go_upto_region 9 with fail
    clear z3f
    clear f1 f2
    clear k0 k1 k3 t0 t1
    have e6 := e5.set 3 (.int .i64 v.far)
    have p6 := p5.far (p := ⟨B, 3, none⟩) (by show B + 1 ≠ B; omega) (.int .i64 v.far); have y6 := y5.far (p := ⟨B, 3, none⟩) (by show B + 1 + 1 ≠ B; omega) (.int .i64 v.far); have n6 := n5.far (p := ⟨B, 3, none⟩) (by show Q ≠ B; omega) (.int .i64 v.far)
    have b6 := b5.setCell (p := ⟨B, 3, none⟩) (by show B ≤ B; omega) (.int .i64 v.far)
    generalize w5.setCell ⟨B, 3, none⟩ (.int .i64 v.far) = w6 at n6 e6 p6 y6 b6 ⊢
    clear n5 e5 p5 y5 b5
    by_cases hd : D < least
    ·have d1 : decide (D < least) = true := Zt hd
     have HDL := Zh hd; clear hd
     have k0 := e6.cell 0 rfl; have k1 := e6.cell 1 rfl; have k3 := e6.cell 3 rfl; have t0 := n6.cell 0 rfl; have t1 := n6.cell 1 rfl
     go_upto_region 12 with fail
     clear k0 k1 k3 t0 t1
     have hz := HZ2.out
     rw [new_soon (Zt ⟨of_decide_eq_true S1.out, by rw [HD.out]; exact HDL.out⟩), far_no (by rw [HE.out]; have := M2.out; omega), mix_no (fun h => by have := HNM.out; rw [HE.out] at h; omega)] at hz
     try rw [HE.out] at hz
     try rw [HD.out] at hz
     subst hz
     clear HZ2
     have hBs : B ≤ w6.heap.size := by have := y6.lt; omega
     go_wp2_with (first | (refine rk_load rfl (.tmp 4) rfl rfl e6 rfl ?_) | (refine rk_store rfl (.tmp 8) (.tmp 87) rfl rfl [v.at_, v.end_, v.took, v.far, v.mixed, v.quarters] rfl y6 rfl rfl rfl ?_))
     refine rk_end2 (by rfl) (by rfl) (by rfl) (rk_put y6 [v.at_, v.end_, v.took, v.far, v.mixed, v.quarters]) rfl rfl ?_
     exact ⟨rfl, b6.grown (rk_grown _ (B + 1 + 1) #[v.at_, v.end_, v.took, v.far, v.mixed, v.quarters]) hBs (fun k hk => by cases hk; omega)⟩
    ·have d1 : decide (D < least) = false := Zf hd
     have HDL := Zh hd; clear hd
     have k0 := e6.cell 0 rfl; have k1 := e6.cell 1 rfl; have k3 := e6.cell 3 rfl; have t0 := n6.cell 0 rfl; have t1 := n6.cell 1 rfl
     go_upto_region 10 with fail
     clear k0 k1 k3 t0 t1
     cases hah : aheadB v.at_ v.end_ x.at_ E with
     | true =>
      have HAH := Zh hah; clear hah
      have k0 := e6.cell 0 rfl; have k1 := e6.cell 1 rfl; have k3 := e6.cell 3 rfl; have t0 := n6.cell 0 rfl; have t1 := n6.cell 1 rfl
      go_upto_region 11 with (go_at_call 176; refine (before_any _ _ _ _ _).mono ?_; rintro e wx ⟨rfl, hbx⟩; have nx := n6.kept hbx; have ex := e6.kept hbx; have px := p6.kept hbx; have yx := y6.kept hbx; have bx := b6.trans (hbx.mono (Zl e6.lt)); rw [HAH.out])
      clear k0 k1 k3 t0 t1
      clear n6 e6 p6 y6 b6 hbx
      have n6 := nx
      have e6 := ex
      have p6 := px
      have y6 := yx
      have b6 := bx
      clear nx ex px yx bx
      have z0 := e6.cell 0 rfl; have zf0 := e6.free 0
      have e7 := e6.set 0 (.int .i64 x.at_)
      have p7 := p6.far (p := ⟨B, 0, none⟩) (by show B + 1 ≠ B; omega) (.int .i64 x.at_); have y7 := y6.far (p := ⟨B, 0, none⟩) (by show B + 1 + 1 ≠ B; omega) (.int .i64 x.at_); have n7 := n6.far (p := ⟨B, 0, none⟩) (by show Q ≠ B; omega) (.int .i64 x.at_)
      have b7 := b6.setCell (p := ⟨B, 0, none⟩) (by show B ≤ B; omega) (.int .i64 x.at_)
      have z1 := e7.cell 1 rfl; have zf1 := e7.free 1
      have e8 := e7.set 1 (.int .i64 E)
      have p8 := p7.far (p := ⟨B, 1, none⟩) (by show B + 1 ≠ B; omega) (.int .i64 E); have y8 := y7.far (p := ⟨B, 1, none⟩) (by show B + 1 + 1 ≠ B; omega) (.int .i64 E); have n8 := n7.far (p := ⟨B, 1, none⟩) (by show Q ≠ B; omega) (.int .i64 E)
      have b8 := b7.setCell (p := ⟨B, 1, none⟩) (by show B ≤ B; omega) (.int .i64 E)
      have z2 := e8.cell 2 rfl; have zf2 := e8.free 2
      have e9 := e8.set 2 (.int .i64 D)
      have p9 := p8.far (p := ⟨B, 2, none⟩) (by show B + 1 ≠ B; omega) (.int .i64 D); have y9 := y8.far (p := ⟨B, 2, none⟩) (by show B + 1 + 1 ≠ B; omega) (.int .i64 D); have n9 := n8.far (p := ⟨B, 2, none⟩) (by show Q ≠ B; omega) (.int .i64 D)
      have b9 := b8.setCell (p := ⟨B, 2, none⟩) (by show B ≤ B; omega) (.int .i64 D)
      go_upto_region 12 with fail
      clear z0 z1 z2 zf0 zf1 zf2
      generalize ((wx.setCell ⟨B, 0, none⟩ (.int .i64 x.at_)).setCell ⟨B, 1, none⟩ (.int .i64 E)).setCell ⟨B, 2, none⟩ (.int .i64 D) = w9 at n9 e9 p9 y9 b9 ⊢
      have hz := HZ2.out
      rw [new_new (Zf (fun h => by have h1 := HDL.out; have h2 := h.2; rw [HD.out] at h2; omega)) (by rw [HE.out]; exact HAH.out), far_no (by rw [HE.out]; have := M2.out; omega), mix_no (fun h => by have := HNM.out; rw [HE.out] at h; omega)] at hz
      try rw [HE.out] at hz
      try rw [HD.out] at hz
      subst hz
      clear HZ2
      have hBs : B ≤ w9.heap.size := by have := y9.lt; omega
      go_wp2_with (first | (refine rk_load rfl (.tmp 4) rfl rfl e9 rfl ?_) | (refine rk_store rfl (.tmp 8) (.tmp 87) rfl rfl [x.at_, E, D, v.far, v.mixed, v.quarters] rfl y9 rfl rfl rfl ?_))
      refine rk_end2 (by rfl) (by rfl) (by rfl) (rk_put y9 [x.at_, E, D, v.far, v.mixed, v.quarters]) rfl rfl ?_
      exact ⟨rfl, b9.grown (rk_grown _ (B + 1 + 1) #[x.at_, E, D, v.far, v.mixed, v.quarters]) hBs (fun k hk => by cases hk; omega)⟩
     | false =>
      have HAH := Zh hah; clear hah
      have k0 := e6.cell 0 rfl; have k1 := e6.cell 1 rfl; have k3 := e6.cell 3 rfl; have t0 := n6.cell 0 rfl; have t1 := n6.cell 1 rfl
      go_upto_region 12 with (go_at_call 176; refine (before_any _ _ _ _ _).mono ?_; rintro e wx ⟨rfl, hbx⟩; have nx := n6.kept hbx; have ex := e6.kept hbx; have px := p6.kept hbx; have yx := y6.kept hbx; have bx := b6.trans (hbx.mono (Zl e6.lt)); rw [HAH.out])
      clear k0 k1 k3 t0 t1
      clear n6 e6 p6 y6 b6 hbx
      have n6 := nx
      have e6 := ex
      have p6 := px
      have y6 := yx
      have b6 := bx
      clear nx ex px yx bx
      have hz := HZ2.out
      rw [new_old (Zf (fun h => by have h1 := HDL.out; have h2 := h.2; rw [HD.out] at h2; omega)) (by rw [HE.out]; exact HAH.out), far_no (by rw [HE.out]; have := M2.out; omega), mix_no (fun h => by have := HNM.out; rw [HE.out] at h; omega)] at hz
      try rw [HE.out] at hz
      try rw [HD.out] at hz
      subst hz
      clear HZ2
      have hBs : B ≤ wx.heap.size := by have := y6.lt; omega
      go_wp2_with (first | (refine rk_load rfl (.tmp 4) rfl rfl e6 rfl ?_) | (refine rk_store rfl (.tmp 8) (.tmp 87) rfl rfl [v.at_, v.end_, v.took, v.far, v.mixed, v.quarters] rfl y6 rfl rfl rfl ?_))
      refine rk_end2 (by rfl) (by rfl) (by rfl) (rk_put y6 [v.at_, v.end_, v.took, v.far, v.mixed, v.quarters]) rfl rfl ?_
      exact ⟨rfl, b6.grown (rk_grown _ (B + 1 + 1) #[v.at_, v.end_, v.took, v.far, v.mixed, v.quarters]) hBs (fun k hk => by cases hk; omega)⟩
   | false =>
    have S1 := Zh s1; clear s1
    have f2 : ¬ v.far < E := by have := M2.out; omega
    have f1 : decide (v.far < E) = false := Zf f2
    have k0 := e5.cell 0 rfl; have k1 := e5.cell 1 rfl; have k3 := e5.cell 3 rfl; have t0 := n5.cell 0 rfl; have t1 := n5.cell 1 rfl
    have z3f := e5.free 3
    go_upto_region 9 with fail
    clear z3f
    clear f1 f2
    clear k0 k1 k3 t0 t1
    have e6 := e5.set 3 (.int .i64 v.far)
    have p6 := p5.far (p := ⟨B, 3, none⟩) (by show B + 1 ≠ B; omega) (.int .i64 v.far); have y6 := y5.far (p := ⟨B, 3, none⟩) (by show B + 1 + 1 ≠ B; omega) (.int .i64 v.far); have n6 := n5.far (p := ⟨B, 3, none⟩) (by show Q ≠ B; omega) (.int .i64 v.far)
    have b6 := b5.setCell (p := ⟨B, 3, none⟩) (by show B ≤ B; omega) (.int .i64 v.far)
    generalize w5.setCell ⟨B, 3, none⟩ (.int .i64 v.far) = w6 at n6 e6 p6 y6 b6 ⊢
    clear n5 e5 p5 y5 b5
    have s3 : decide (1 < x.tries) = false := S1.out
    have k0 := e6.cell 0 rfl; have k1 := e6.cell 1 rfl; have k3 := e6.cell 3 rfl; have t0 := n6.cell 0 rfl; have t1 := n6.cell 1 rfl
    go_upto_region 10 with fail
    clear k0 k1 k3 t0 t1
    cases hah : aheadB v.at_ v.end_ x.at_ E with
    | true =>
     have HAH := Zh hah; clear hah
     have k0 := e6.cell 0 rfl; have k1 := e6.cell 1 rfl; have k3 := e6.cell 3 rfl; have t0 := n6.cell 0 rfl; have t1 := n6.cell 1 rfl
     go_upto_region 11 with (go_at_call 176; refine (before_any _ _ _ _ _).mono ?_; rintro e wx ⟨rfl, hbx⟩; have nx := n6.kept hbx; have ex := e6.kept hbx; have px := p6.kept hbx; have yx := y6.kept hbx; have bx := b6.trans (hbx.mono (Zl e6.lt)); rw [HAH.out])
     clear k0 k1 k3 t0 t1
     clear n6 e6 p6 y6 b6 hbx
     have n6 := nx
     have e6 := ex
     have p6 := px
     have y6 := yx
     have b6 := bx
     clear nx ex px yx bx
     have z0 := e6.cell 0 rfl; have zf0 := e6.free 0
     have e7 := e6.set 0 (.int .i64 x.at_)
     have p7 := p6.far (p := ⟨B, 0, none⟩) (by show B + 1 ≠ B; omega) (.int .i64 x.at_); have y7 := y6.far (p := ⟨B, 0, none⟩) (by show B + 1 + 1 ≠ B; omega) (.int .i64 x.at_); have n7 := n6.far (p := ⟨B, 0, none⟩) (by show Q ≠ B; omega) (.int .i64 x.at_)
     have b7 := b6.setCell (p := ⟨B, 0, none⟩) (by show B ≤ B; omega) (.int .i64 x.at_)
     have z1 := e7.cell 1 rfl; have zf1 := e7.free 1
     have e8 := e7.set 1 (.int .i64 E)
     have p8 := p7.far (p := ⟨B, 1, none⟩) (by show B + 1 ≠ B; omega) (.int .i64 E); have y8 := y7.far (p := ⟨B, 1, none⟩) (by show B + 1 + 1 ≠ B; omega) (.int .i64 E); have n8 := n7.far (p := ⟨B, 1, none⟩) (by show Q ≠ B; omega) (.int .i64 E)
     have b8 := b7.setCell (p := ⟨B, 1, none⟩) (by show B ≤ B; omega) (.int .i64 E)
     have z2 := e8.cell 2 rfl; have zf2 := e8.free 2
     have e9 := e8.set 2 (.int .i64 D)
     have p9 := p8.far (p := ⟨B, 2, none⟩) (by show B + 1 ≠ B; omega) (.int .i64 D); have y9 := y8.far (p := ⟨B, 2, none⟩) (by show B + 1 + 1 ≠ B; omega) (.int .i64 D); have n9 := n8.far (p := ⟨B, 2, none⟩) (by show Q ≠ B; omega) (.int .i64 D)
     have b9 := b8.setCell (p := ⟨B, 2, none⟩) (by show B ≤ B; omega) (.int .i64 D)
     go_upto_region 12 with fail
     clear z0 z1 z2 zf0 zf1 zf2
     generalize ((wx.setCell ⟨B, 0, none⟩ (.int .i64 x.at_)).setCell ⟨B, 1, none⟩ (.int .i64 E)).setCell ⟨B, 2, none⟩ (.int .i64 D) = w9 at n9 e9 p9 y9 b9 ⊢
     have hz := HZ2.out
     rw [new_new (Zf (fun h => by have := of_decide_eq_false S1.out; omega)) (by rw [HE.out]; exact HAH.out), far_no (by rw [HE.out]; have := M2.out; omega), mix_no (fun h => by have := HNM.out; rw [HE.out] at h; omega)] at hz
     try rw [HE.out] at hz
     try rw [HD.out] at hz
     subst hz
     clear HZ2
     have hBs : B ≤ w9.heap.size := by have := y9.lt; omega
     go_wp2_with (first | (refine rk_load rfl (.tmp 4) rfl rfl e9 rfl ?_) | (refine rk_store rfl (.tmp 8) (.tmp 87) rfl rfl [x.at_, E, D, v.far, v.mixed, v.quarters] rfl y9 rfl rfl rfl ?_))
     refine rk_end2 (by rfl) (by rfl) (by rfl) (rk_put y9 [x.at_, E, D, v.far, v.mixed, v.quarters]) rfl rfl ?_
     exact ⟨rfl, b9.grown (rk_grown _ (B + 1 + 1) #[x.at_, E, D, v.far, v.mixed, v.quarters]) hBs (fun k hk => by cases hk; omega)⟩
    | false =>
     have HAH := Zh hah; clear hah
     have k0 := e6.cell 0 rfl; have k1 := e6.cell 1 rfl; have k3 := e6.cell 3 rfl; have t0 := n6.cell 0 rfl; have t1 := n6.cell 1 rfl
     go_upto_region 12 with (go_at_call 176; refine (before_any _ _ _ _ _).mono ?_; rintro e wx ⟨rfl, hbx⟩; have nx := n6.kept hbx; have ex := e6.kept hbx; have px := p6.kept hbx; have yx := y6.kept hbx; have bx := b6.trans (hbx.mono (Zl e6.lt)); rw [HAH.out])
     clear k0 k1 k3 t0 t1
     clear n6 e6 p6 y6 b6 hbx
     have n6 := nx
     have e6 := ex
     have p6 := px
     have y6 := yx
     have b6 := bx
     clear nx ex px yx bx
     have hz := HZ2.out
     rw [new_old (Zf (fun h => by have := of_decide_eq_false S1.out; omega)) (by rw [HE.out]; exact HAH.out), far_no (by rw [HE.out]; have := M2.out; omega), mix_no (fun h => by have := HNM.out; rw [HE.out] at h; omega)] at hz
     try rw [HE.out] at hz
     try rw [HD.out] at hz
     subst hz
     clear HZ2
     have hBs : B ≤ wx.heap.size := by have := y6.lt; omega
     go_wp2_with (first | (refine rk_load rfl (.tmp 4) rfl rfl e6 rfl ?_) | (refine rk_store rfl (.tmp 8) (.tmp 87) rfl rfl [v.at_, v.end_, v.took, v.far, v.mixed, v.quarters] rfl y6 rfl rfl rfl ?_))
     refine rk_end2 (by rfl) (by rfl) (by rfl) (rk_put y6 [v.at_, v.end_, v.took, v.far, v.mixed, v.quarters]) rfl rfl ?_
     exact ⟨rfl, b6.grown (rk_grown _ (B + 1 + 1) #[v.at_, v.end_, v.took, v.far, v.mixed, v.quarters]) hBs (fun k hk => by cases hk; omega)⟩
end Go.Proofs.YtbijhkhkigdddaaGreat
