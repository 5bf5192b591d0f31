/- FlowNewWalk. -/
import Derived.Test.YtbijhkhkigdddaaGreatM38
import Derived.Test.YtbijhkhkigdddaaGreatN4
import Derived.Test.YtbijhkhkigdddaaGreatN8
set_option linter.all false
set_option maxRecDepth 100000
set_option maxHeartbeats 32000000
namespace Go.Proofs.YtbijhkhkigdddaaGreat.flowNew
open Go.RowKit
theorem walk (c : Cf) (w : World) (hc : CfW c) :
  Calls Tryz.prog 7 #[.agg (ccs c).toArray] w fun e w' => e = .returned (.bool true) ∧ Below w.heap.size w w' := by
 obtain ⟨B, hB⟩ : ∃ B, w.heap.size = B := ⟨_, rfl⟩
 have e1 := Bx.new w 42 (ccs c)
 rw [hB] at e1 ⊢
 have b1 : Below B w (w.alloc (.cells (ccs c).toArray 42)) := by rw [← hB]; exact (Zb).alloc Zr _
 have HC := Zh hc; clear hc
 go_enter Tryz.func7, Tryz.ntmps7
 go_wp2_with fail
 generalize w.alloc (.cells (ccs c).toArray 42) = w1 at e1 b1 ⊢
 clear hB
 have z1 : B ≤ w1.heap.size := Zl e1.lt
 refine (flawake_any _).mono ?_
 rintro e w2 ⟨rfl, hb⟩
 have e2 := e1.kept hb
 have b2 := b1.trans (hb.mono z1); have z2 := Zn z1 hb.size
 clear e1 b1 z1 hb
 go_wp2_with (refine cf_load rfl (.tmp 1) rfl rfl e2 rfl ?_)
 refine (flnew_any (fun _ => True) c _ (fun _ _ => trivial) HC.out).mono ?_
 rintro e w3 ⟨s, he, f3, hb⟩
 have hnew : newF c = if fineB c = true then (newFv c, 0) else (zfv, 1) := rfl
 cases hk : fineB c with
 | false =>
  rw [new_err hk] at he f3
  dsimp only at he f3
  subst he
  have e3 := e2.kept hb
  have b3 := b2.trans (hb.mono z2); have z3 := Zn z2 hb.size
  clear e2 b2 z2 hb
  clear hnew
  have y4 := fw1_box w3 (fcs s zfv)
  have hb4 := fw1_below w3 (fcs s zfv)
  go_upto_region 3 with (refine fl_store rfl (.tmp 4) (.tmp 21) rfl rfl (fcs s zfv) rfl (fz1 w3) rfl rfl rfl ?_)
  change Code.wp _ _ _ _ (fw1 w3 (fcs s zfv))
  generalize fw1 w3 (fcs s zfv) = w4 at y4 hb4 ⊢
  obtain ⟨P, hP⟩ : ∃ P, w3.heap.size = P := ⟨_, rfl⟩
  have e4 := e3.kept hb4; have b4 := b3.trans (hb4.mono z3); have z4 := Zn z3 hb4.size
  rw [hP] at y4 ⊢
  clear hb4 hP e3 b3 z3 f3
  go_upto_region 4 with fail
  go_wp2_with (refine cf_loadg (by rfl) (.tmp 1) rfl rfl e4 rfl ?_)
  refine (flfine_any c _ HC.out).mono ?_
  rw [hk]
  rintro e w5 ⟨rfl, hb⟩
  have y5 := y4.kept hb; have b5 := b4.trans (hb.mono z4)
  have k5 : w5.cell? ⟨P, 25, none⟩ = some (.int .i64 0) := y5.cell 25 rfl
  go_wp2_with fail
  go_ret
  exact ⟨rfl, b5⟩
 | true =>
 have hok := (fineB_iff c).1 hk
 rw [new_yes hk] at he f3
 dsimp only at he f3
 subst he
 have e3 := e2.kept hb
 have b3 := b2.trans (hb.mono z2); have z3 := Zn z2 hb.size
 clear e2 b2 z2 hb
 clear hnew
 have HN := Zh (new_send hok); have HA := Zh (new_again hok); have HT := Zh (new_tick hok); have HOK := Zh hok
 have hcm : i64 c.mss := HC.out.mss
 have y4 := fw1_box w3 (fcs s (newFv c))
 have hb4 := fw1_below w3 (fcs s (newFv c))
 go_upto_region 3 with (refine fl_store rfl (.tmp 4) (.tmp 21) rfl rfl (fcs s (newFv c)) rfl (fz1 w3) rfl rfl rfl ?_)
 change Code.wp _ _ _ _ (fw1 w3 (fcs s (newFv c)))
 generalize fw1 w3 (fcs s (newFv c)) = w4 at y4 hb4 ⊢
 obtain ⟨P, hP⟩ : ∃ P, w3.heap.size = P := ⟨_, rfl⟩
 have e4 := e3.kept hb4; have f4 := f3.keep hb4; have b4 := b3.trans (hb4.mono z3); have z4 := Zn z3 hb4.size
 rw [hP] at y4 ⊢
 clear hb4 hP e3 b3 z3 f3
 go_upto_region 5 with fail
 have m4 := e4.cell 0 rfl
 go_wp2_with (first | (refine fl_load rfl (.tmp 4) rfl rfl y4 rfl ?_) | (refine cf_load rfl (.tmp 1) rfl rfl e4 rfl ?_))
 refine (flsend_any (fun _ => True) s (newFv c) c 7 c.mss 5 _ (fun _ _ => trivial) f4 HC.out (by unfold i64; omega) hcm (by unfold i64; omega)).mono ?_
 rintro e w5 ⟨s5, he, g5, hb⟩
 rw [HN.out] at he g5
 dsimp only at he g5
 subst he
 clear m4
 have e5 := e4.kept hb
 have y5 := y4.kept hb
 have f5 := f4.keep hb
 have b5 := b4.trans (hb.mono z4); have z5 := Zn z4 hb.size
 clear e4 y4 f4 b4 z4 hb
 have q6 := fw2_part w5 (fcs s5 (sentF (newFv c) c 7 c.mss 5)) (El.cells (partF (newFv c) 7 c.mss 5))
 have hb := fw2_below w5 (fcs s5 (sentF (newFv c) c 7 c.mss 5)) (El.cells (partF (newFv c) 7 c.mss 5))
 go_upto_region 6 with (first | (refine fl_store rfl (.tmp 6) (.tmp 47) rfl rfl (fcs s5 (sentF (newFv c) c 7 c.mss 5)) rfl (fz2 w5) rfl rfl rfl ?_) | (refine fp_store rfl (.tmp 7) (.tmp 48) rfl rfl (El.cells (partF (newFv c) 7 c.mss 5)) rfl (fz3 w5 (fcs s5 (sentF (newFv c) c 7 c.mss 5))) rfl rfl rfl ?_))
 change Code.wp _ _ _ _ (fw2 w5 (fcs s5 (sentF (newFv c) c 7 c.mss 5)) (El.cells (partF (newFv c) 7 c.mss 5)))
 generalize fw2 w5 (fcs s5 (sentF (newFv c) c 7 c.mss 5)) (El.cells (partF (newFv c) 7 c.mss 5)) = w6 at q6 hb ⊢
 obtain ⟨Q, hQ⟩ : ∃ P, w5.heap.size + 1 = P := ⟨_, rfl⟩
 rw [hQ] at q6 ⊢
 have e6 := e5.kept hb
 have y6 := y5.kept hb
 have f6 := f5.keep hb
 have b6 := b5.trans (hb.mono z5); have z6 := Zn z5 hb.size
 clear e5 y5 f5 b5 z5 hb
 clear g5 hQ
 go_wp2_with (first | (refine fl_load rfl (.tmp 4) rfl rfl y6 rfl ?_) | (refine cf_load rfl (.tmp 1) rfl rfl e6 rfl ?_))
 refine (flagain_any (fun _ => True) s (newFv c) c 5 _ (fun _ _ => trivial) f6 HC.out (by unfold i64; omega)).mono ?_
 rintro e w7 ⟨s7, he, g7, hb⟩
 rw [HA.out] at he g7
 dsimp only at he g7
 subst he
 have e7 := e6.kept hb
 have y7 := y6.kept hb
 have q7 := q6.kept hb
 have f7 := f6.keep hb
 have b7 := b6.trans (hb.mono z6); have z7 := Zn z6 hb.size
 clear e6 y6 q6 f6 b6 z6 hb
 have hb := fw2_below w7 (fcs s7 zfv) (El.cells zprt)
 go_upto_region 7 with (first | (refine fl_store rfl (.tmp 9) (.tmp 54) rfl rfl (fcs s7 zfv) rfl (fz2 w7) rfl rfl rfl ?_) | (refine fp_store rfl (.tmp 10) (.tmp 55) rfl rfl (El.cells zprt) rfl (fz3 w7 (fcs s7 zfv)) rfl rfl rfl ?_))
 change Code.wp _ _ _ _ (fw2 w7 (fcs s7 zfv) (El.cells zprt))
 generalize fw2 w7 (fcs s7 zfv) (El.cells zprt) = w8 at hb ⊢
 have e8 := e7.kept hb
 have y8 := y7.kept hb
 have q8 := q7.kept hb
 have f8 := f7.keep hb
 have b8 := b7.trans (hb.mono z7); have z8 := Zn z7 hb.size
 clear e7 y7 q7 f7 b7 z7 hb
 clear g7
 go_wp2_with (first | (refine fl_load rfl (.tmp 4) rfl rfl y8 rfl ?_) | (refine cf_load rfl (.tmp 1) rfl rfl e8 rfl ?_))
 refine (fltick_any (fun _ => True) s (newFv c) c 1000000000 _ (fun _ _ => trivial) f8 HC.out (by unfold i64; omega)).mono ?_
 rintro e w9 ⟨s9, he, g9, hb⟩
 rw [HT.out] at he g9
 dsimp only at he g9
 subst he
 have e9 := e8.kept hb
 have y9 := y8.kept hb
 have q9 := q8.kept hb
 have f9 := f8.keep hb
 have b9 := b8.trans (hb.mono z8); have z9 := Zn z8 hb.size
 clear e8 y8 q8 f8 b8 z8 hb
 have x10 := fw1_box w9 (fcs s9 (newFv c))
 have hb := fw1_below w9 (fcs s9 (newFv c))
 go_upto_region 8 with (refine fl_store rfl (.tmp 12) (.tmp 61) rfl rfl (fcs s9 (newFv c)) rfl (fz1 w9) rfl rfl rfl ?_)
 change Code.wp _ _ _ _ (fw1 w9 (fcs s9 (newFv c)))
 generalize fw1 w9 (fcs s9 (newFv c)) = w10 at x10 hb ⊢
 obtain ⟨X, hX⟩ : ∃ P, w9.heap.size = P := ⟨_, rfl⟩
 rw [hX] at x10 ⊢
 have g10 := g9.keep hb
 have e10 := e9.kept hb
 have y10 := y9.kept hb
 have q10 := q9.kept hb
 have f10 := f9.keep hb
 have b10 := b9.trans (hb.mono z9); have z10 := Zn z9 hb.size
 clear e9 y9 q9 f9 b9 z9 hb
 clear g9 hX
 have k1 : w10.cell? ⟨P, 25, none⟩ = some (.int .i64 (min (10 * c.mss) c.most)) := y10.cell 25 rfl
 have k2 : w10.cell? ⟨B, 0, none⟩ = some (.int .i64 c.mss) := e10.cell 0 rfl
 have k3 : w10.cell? ⟨B, 1, none⟩ = some (.int .i64 c.most) := e10.cell 1 rfl
 have hm0 := HOK.out.m0; have hm1 := HOK.out.m1; have hw0 := HOK.out.w0
 have i1 : IntKind.i64.wrap (10 * c.mss) = 10 * c.mss := IntWalk.i64_in _ (by omega)
 obtain ⟨cwv, hcw⟩ : ∃ v, min (10 * c.mss) c.most = v := ⟨_, rfl⟩
 rw [hcw] at k1
 obtain ⟨tn, htn⟩ : ∃ v, 10 * c.mss = v := ⟨_, rfl⟩
 rw [htn] at hcw
 obtain ⟨ten, hten⟩ : ∃ b : Bool, b = true := ⟨_, rfl⟩
 by_cases ht : cwv = tn
 case pos =>
  have d1 : (cwv == tn) = true := by simpa using ht
  go_upto_region 9 with fail
  clear k1 k2 k3 i1 hcw htn hten
  go_wp2_with (first | (refine fl_loadg (by rfl) (.tmp 12) rfl rfl x10 rfl ?_) | (refine fl_loadg (by rfl) (.tmp 4) rfl rfl y10 rfl ?_))
  refine (flsame_yes (fun _ => True) (fun _ => True) s9 s (newFv c) _ g10 f10).mono ?_
  rintro e w11 ⟨rfl, hb⟩
  have e11 := e10.kept hb
  have y11 := y10.kept hb
  have q11 := q10.kept hb
  have f11 := f10.keep hb
  have b11 := b10.trans (hb.mono z10); have z11 := Zn z10 hb.size
  clear e10 y10 q10 f10 b10 z10 hb
  clear x10 g10
  go_upto_region 10 with fail
  have c0 : w11.cell? ⟨P, 0, none⟩ = some (.bool true) := y11.cell 0 rfl
  go_wp2_with (first | (refine fl_loadg (by rfl) (.tmp 4) rfl rfl y11 rfl ?_) | (refine cf_loadg (by rfl) (.tmp 1) rfl rfl e11 rfl ?_))
  refine (flmay_any (fun _ => True) s (newFv c) c _ f11 HC.out).mono ?_
  rw [show fmayB (newFv c) c = true from (fmay_iff _ _).2 (new_ok HOK.out)]
  rintro e w12 ⟨rfl, hb⟩
  clear c0
  have e12 := e11.kept hb
  have y12 := y11.kept hb
  have q12 := q11.kept hb
  have f12 := f11.keep hb
  have b12 := b11.trans (hb.mono z11); have z12 := Zn z11 hb.size
  clear e11 y11 q11 f11 b11 z11 hb
  go_wp2_with (refine cf_loadg (by rfl) (.tmp 1) rfl rfl e12 rfl ?_)
  refine (flfine_any c _ HC.out).mono ?_
  rw [(fineB_iff c).2 HOK.out]
  rintro e w13 ⟨rfl, hb⟩
  have e13 := e12.kept hb
  have y13 := y12.kept hb
  have q13 := q12.kept hb
  have f13 := f12.keep hb
  have b13 := b12.trans (hb.mono z12); have z13 := Zn z12 hb.size
  clear e12 y12 q12 f12 b12 z12 hb
  have c0 : w13.cell? ⟨Q, 0, none⟩ = some (.int .i64 0) := q13.cell 0 rfl
  have c2 : w13.cell? ⟨Q, 2, none⟩ = some (.int .i64 7) := q13.cell 2 rfl
  go_wp2_with fail
  go_ret
  exact ⟨rfl, b13⟩
 case neg =>
  have d1 : (cwv == tn) = false := by simpa using ht
  have hq : cwv = c.most ∧ c.most < tn := by omega
  have d2 : (cwv == c.most) = true := by simpa using hq.1
  have d3 : decide (c.most < tn) = true := Zt hq.2
  go_upto_region 9 with fail
  clear k1 k2 k3 i1 hcw htn hten
  go_wp2_with (first | (refine fl_loadg (by rfl) (.tmp 12) rfl rfl x10 rfl ?_) | (refine fl_loadg (by rfl) (.tmp 4) rfl rfl y10 rfl ?_))
  refine (flsame_yes (fun _ => True) (fun _ => True) s9 s (newFv c) _ g10 f10).mono ?_
  rintro e w11 ⟨rfl, hb⟩
  have e11 := e10.kept hb
  have y11 := y10.kept hb
  have q11 := q10.kept hb
  have f11 := f10.keep hb
  have b11 := b10.trans (hb.mono z10); have z11 := Zn z10 hb.size
  clear e10 y10 q10 f10 b10 z10 hb
  clear x10 g10
  go_upto_region 10 with fail
  have c0 : w11.cell? ⟨P, 0, none⟩ = some (.bool true) := y11.cell 0 rfl
  go_wp2_with (first | (refine fl_loadg (by rfl) (.tmp 4) rfl rfl y11 rfl ?_) | (refine cf_loadg (by rfl) (.tmp 1) rfl rfl e11 rfl ?_))
  refine (flmay_any (fun _ => True) s (newFv c) c _ f11 HC.out).mono ?_
  rw [show fmayB (newFv c) c = true from (fmay_iff _ _).2 (new_ok HOK.out)]
  rintro e w12 ⟨rfl, hb⟩
  clear c0
  have e12 := e11.kept hb
  have y12 := y11.kept hb
  have q12 := q11.kept hb
  have f12 := f11.keep hb
  have b12 := b11.trans (hb.mono z11); have z12 := Zn z11 hb.size
  clear e11 y11 q11 f11 b11 z11 hb
  go_wp2_with (refine cf_loadg (by rfl) (.tmp 1) rfl rfl e12 rfl ?_)
  refine (flfine_any c _ HC.out).mono ?_
  rw [(fineB_iff c).2 HOK.out]
  rintro e w13 ⟨rfl, hb⟩
  have e13 := e12.kept hb
  have y13 := y12.kept hb
  have q13 := q12.kept hb
  have f13 := f12.keep hb
  have b13 := b12.trans (hb.mono z12); have z13 := Zn z12 hb.size
  clear e12 y12 q12 f12 b12 z12 hb
  have c0 : w13.cell? ⟨Q, 0, none⟩ = some (.int .i64 0) := q13.cell 0 rfl
  have c2 : w13.cell? ⟨Q, 2, none⟩ = some (.int .i64 7) := q13.cell 2 rfl
  go_wp2_with fail
  go_ret
  exact ⟨rfl, b13⟩
end Go.Proofs.YtbijhkhkigdddaaGreat.flowNew
