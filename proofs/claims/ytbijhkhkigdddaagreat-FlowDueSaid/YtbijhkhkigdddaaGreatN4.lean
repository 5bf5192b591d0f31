/- FlL18. -/
import Derived.Test.YtbijhkhkigdddaaGreatN3
set_option linter.all false
set_option maxRecDepth 100000
set_option maxHeartbeats 32000000
namespace Go.Proofs.YtbijhkhkigdddaaGreat
open Go.RowKit
theorem tk_no {f : Fv} {c : Cf} {now : Int} (h : ¬ (fmayB f c = true ∧ t60 now = true)) : tickF f c now = (zfv, 0, 1) := if_neg h
theorem tk_0 {f : Fv} {c : Cf} {now : Int} (h : fmayB f c = true ∧ t60 now = true) (hd : tdueR f.tm now = 0) : tickF f c now = (f, 0, 0) := by unfold tickF; rw [if_pos h, if_pos hd]
theorem tk_1 {f : Fv} {c : Cf} {now : Int} (h : fmayB f c = true ∧ t60 now = true) (hd : tdueR f.tm now = 1) : tickF f c now = (setF { f with l := probeL f.l, pb := true } c now, 1, 0) := by unfold tickF; rw [if_pos h, if_neg (by omega), if_pos hd]
theorem tk_2 {f : Fv} {c : Cf} {now : Int} (h : fmayB f c = true ∧ t60 now = true) (hd : tdueR f.tm now = 2) : tickF f c now = (setF { f with l := f.l.map allLost, r := (dbl f.r).1, cw := (lossR f.cw f.th true c.mss c.most).1, th := (lossR f.cw f.th true c.mss c.most).2.1, cut := true, pb := false } c now, 2, 0) := by unfold tickF; rw [if_pos h, if_neg (by omega), if_neg (by omega)]
theorem probeF_ok {f : Fv} {c : Cf} (h : FvOk f c) : FvOk { f with l := probeL f.l, pb := true } c := by
 obtain ⟨p1, p2, p3, p4⟩ := probe_may h.l
 refine ⟨h.fine, p1, h.r, h.b, h.m, h.d, h.k, h.w, h.t, h.g, h.next, h.rd, fun h0 => ?_⟩
 show (spanR (probeL f.l)).2 = f.next
 rw [p2 h0]; exact h.link (by rw [← p4]; exact h0)
theorem resendF_ok {f : Fv} {c : Cf} (h : FvOk f c) : FvOk { f with l := f.l.map allLost, r := (dbl f.r).1, cw := (lossR f.cw f.th true c.mss c.most).1, th := (lossR f.cw f.th true c.mss c.most).2.1, cut := true, pb := false } c := by
 obtain ⟨m1, m2⟩ := map_may allLost allLost_seq allLost_end (fun x hx => allLost_ok hx) h.l
 obtain ⟨z, m, hz, h1, h3, h4⟩ := loss_facts (all := true) h.w
 rw [hz]
 refine ⟨h.fine, m1, dbl_ok h.r, h.b, h.m, h.d, h.k, h4, h.t, h.g, h.next, h.rd, fun h0 => ?_⟩
 have h0' : 0 < f.l.length := by rw [← List.length_map (f := allLost)]; exact h0
 show (spanR (f.l.map allLost)).2 = f.next
 rw [m2 h0']; exact h.link h0'
theorem ent_probe : ∀ args w, (callFunc 92 args).run Tryz.prog w = .ok (.enter 92 args) w := enters_of Tryz.func92 (by kernel_rfl) rfl
theorem ent_resend : ∀ args w, (callFunc 93 args).run Tryz.prog w = .ok (.enter 93 args) w := enters_of Tryz.func93 (by kernel_rfl) rfl
theorem fltick_any (p : Nat → Prop) (s : Fs) (f : Fv) (c : Cf) (now : Int) (w : World) (hp : NewP w p) (h : FlM w p s f) (hc : CfW c) (h3 : i64 now) : Calls Tryz.prog 27 #[.agg (fcs s f).toArray, .agg (ccs c).toArray, now] w fun e w' => TellFI p w w' e (tickF f c now) := by
 unfold TellFI
 obtain ⟨B, hB⟩ : ∃ B, w.heap.size = B := ⟨_, rfl⟩
 have y0 := ((Bx.new w 40 (fcs s f)).alloc (.cells (ccs c).toArray 42)).alloc (.cells (fcs zfs zfv).toArray 40)
 have k0 := (Bx.new (w.alloc (.cells (fcs s f).toArray 40)) 42 (ccs c)).alloc (.cells (fcs zfs zfv).toArray 40)
 have r0 := Bx.new ((w.alloc (.cells (fcs s f).toArray 40)).alloc (.cells (ccs c).toArray 42)) 40 (fcs zfs zfv)
 have b0 : Below w.heap.size w (((w.alloc (.cells (fcs s f).toArray 40)).alloc (.cells (ccs c).toArray 42)).alloc (.cells (fcs zfs zfv).toArray 40)) := (((Zb).alloc Zr _).alloc (by simp) _).alloc (by simp; omega) _
 simp only [World.size_alloc] at y0 k0 r0
 have f0 := ((h.alloc (.cells (fcs s f).toArray 40)).alloc (.cells (ccs c).toArray 42)).alloc (.cells (fcs zfs zfv).toArray 40)
 rw [hB] at y0 k0 r0 b0 ⊢
 have HC := Zh hc; have HP := Zh hp; have HBB := Zh hB
 obtain ⟨X, hX⟩ : ∃ X, tickF f c now = X := ⟨_, rfl⟩
 rw [hX]
 have HX := Zh hX
 clear h hc hp h3 hX
 go_enter Tryz.func27, Tryz.ntmps27
 go_upto_region 1 with fail
 change Code.wp _ _ _ _ (((w.alloc (.cells (fcs s f).toArray 40)).alloc (.cells (ccs c).toArray 42)).alloc (.cells (fcs zfs zfv).toArray 40))
 generalize (((w.alloc (.cells (fcs s f).toArray 40)).alloc (.cells (ccs c).toArray 42)).alloc (.cells (fcs zfs zfv).toArray 40)) = w1 at y0 k0 r0 b0 f0 ⊢
 clear hB
 have z1 : B ≤ w1.heap.size := Zl y0.lt
 go_wp2_with (first | (refine fl_load rfl (.tmp 3) rfl rfl y0 rfl ?_) | (refine cf_load rfl (.tmp 4) rfl rfl k0 rfl ?_))
 refine (flbegin_any p s f c now w1 f0 HC.out).mono ?_
 rintro e w2 ⟨hb, hcase⟩
 have r2 := r0.kept hb; have b2 := b0.trans (hb.mono z1); have z2 : B ≤ w2.heap.size := Zn z1 hb.size
 have hn0 : B + 3 ≤ w1.heap.size := r0.lt
 clear y0 k0 r0 b0 f0 hb
 obtain ⟨m0, hm0⟩ : ∃ m, w1.heap.size = m := ⟨_, rfl⟩
 rw [hm0] at hcase hn0
 clear hm0
 rcases hcase with ⟨hm, S, s', rfl, hst, hap, hth⟩ | ⟨hm, rfl⟩
 case inr =>
  have hF : X = (zfv, 0, 1) := by rw [← HX.out]; refine tk_no (fun h => ?_); rw [h.1, h.2] at hm; cases hm
  clear hm
  subst hF
  clear HX hn0
  go_wp2_with (refine fl_store rfl (.tmp 6) (.tmp 21) rfl rfl (fcs zfs zfv) rfl r2 rfl rfl rfl ?_)
  refine fl_end3 (by rfl) (by rfl) (by rfl) (by rfl) (fl_put r2 (fcs zfs zfv)) rfl rfl ?_
  exact ⟨zfs, rfl, FlM.zero _ _, b2.grown (fl_grown _ (B + 1 + 1) _) z2 (fun k hk => by cases hk; omega)⟩
 case inl =>
 have hok := (fmay_iff f c).1 (by simp only [Bool.and_eq_true] at hm; exact hm.1)
 have ht : t60 now = true := by simp only [Bool.and_eq_true] at hm; exact hm.2
 have hms : fmayB f c = true ∧ t60 now = true := ⟨(fmay_iff f c).2 hok, ht⟩
 clear hm
 have hdb := tdue_bd hok.t now
 obtain ⟨du, hdu⟩ : ∃ du, tdueR f.tm now = du := ⟨_, rfl⟩
 rw [hdu] at hdb
 have HD := Zh hdu; have HOK := Zh hok; have HT := Zh ht; have HMS := Zh hms
 have T2 := Zh (And.intro hst (And.intro hap hth))
 clear hok ht hms hdu hst hap hth
 go_upto_region 4 with fail
 go_wp2_with (refine sub_load (vs := [f.tm.kd, f.tm.at_]) is_timer rfl (.tmp 25) rfl rfl T2.out.1.bx rfl rfl ?_)
 refine (tidue_any f.tm now _).mono ?_
 rintro e w3 ⟨he, hb⟩
 rw [HD.out] at he
 subst he
 have T3 := Zh (And.intro (T2.out.1.call hb) (And.intro T2.out.2.1 (T2.out.2.2.keep T2.out.1 hb)))
 have r3 := r2.kept hb; have b3 := b2.trans (hb.mono z2); have z3 : B ≤ w3.heap.size := Zn z2 hb.size
 clear T2 r2 b2 z2 hb
 have TS := Zh T3.out.1
 obtain rfl | rfl | rfl : du = 0 ∨ du = 1 ∨ du = 2 := by omega
 ·have HF := Zh (show X = (f, 0, 0) by rw [← HX.out]; exact tk_0 HMS.out HD.out)
  clear hdb
  go_upto_region 10 with fail
  go_wp2_with (first | (refine sub_load (vs := fcs s' f) is_flow rfl (.tmp 50) rfl rfl TS.out.bx rfl rfl ?_) | (refine fl_store rfl (.tmp 6) (.tmp 51) rfl rfl (fcs s' f) rfl r3 rfl rfl (fcs_one _ _) ?_))
  refine fl_end3 (by rfl) (by rfl) (by rfl) (by rfl) (fl_put r3 (fcs s' f)) rfl rfl ?_
  have hX := HF.out
  subst hX
  exact ⟨s', rfl, (((TS.out.fm.imp (fun b hb => hb.1)).grown (fl_grown _ (B + 1 + 1) _) (fun b hb e => by have := Zo e; omega)).imp (fun b hb => HP.out b (by rw [HBB.out]; omega))), b3.grown (fl_grown _ (B + 1 + 1) _) z3 (fun k hk => by cases hk; omega)⟩
 ·have HF := Zh (show X = (setF { f with l := probeL f.l, pb := true } c now, 1, 0) by rw [← HX.out]; exact tk_1 HMS.out HD.out)
  clear hdb
  go_upto_region 7 with fail
  go_wp2_with fail
  obtain ⟨R, hR⟩ : ∃ R, w3.heap.size = R := ⟨_, rfl⟩
  have alR : Below w3.heap.size w3 (w3.alloc (.cells #[.func (.func 92) #[.pointer (some ⟨S, 0, none⟩)] #[], .func (.func 65) #[.pointer (some ⟨S, 0, none⟩)] #[]] 1)) := (Zb).alloc Zr _
  have bR := Bx.new w3 1 [.func (.func 92) #[.pointer (some ⟨S, 0, none⟩)] #[], .func (.func 65) #[.pointer (some ⟨S, 0, none⟩)] #[]]
  have T7 := T3.out.1.more Zr alR (by simp)
  have H7 := T3.out.2.2.keep T3.out.1 alR
  have HAP := T3.out.2.1
  have r7 := r3.kept alR; have b7 := b3.trans (alR.mono z3)
  rw [hR] at bR T7 ⊢
  clear T3 TS r3 b3 alR hR z3
  generalize w3.alloc (.cells #[.func (.func 92) #[.pointer (some ⟨S, 0, none⟩)] #[], .func (.func 65) #[.pointer (some ⟨S, 0, none⟩)] #[]] 1) = w7 at bR T7 H7 r7 b7 ⊢
  have hok2 := probeF_ok HOK.out
  have hrun := flrun_two m0 [R] S R 92 #[.pointer (some ⟨S, 0, none⟩)] #[] s' f _ c now w7 ent_probe T7 (List.mem_cons_self ..) bR hok2 HT.out (flprobe_any m0 [R] S s' f c now 0 w7 T7 HAP H7 HOK.out)
  refine hrun.mono ?_
  rintro e w8 ⟨rfl, ⟨s8, t8⟩, hf⟩
  have r8 := r7.below hf.below (by omega); have b8 := b7.trans (hf.below.mono (by omega))
  have z8 : B ≤ w8.heap.size := Zn (Zl (Nat.lt_of_le_of_lt (by omega) r8.lt)) Zr
  have T8 := Zh t8
  clear hrun bR T7 H7 HAP r7 b7 hf t8 hok2
  obtain ⟨g, hg⟩ : ∃ g, setF { f with l := probeL f.l, pb := true } c now = g := ⟨_, rfl⟩
  rw [hg] at T8 HF
  clear hg
  go_upto_region 10 with fail
  go_wp2_with (first | (refine sub_load (vs := fcs s8 g) is_flow rfl (.tmp 50) rfl rfl T8.out.bx rfl rfl ?_) | (refine fl_store rfl (.tmp 6) (.tmp 51) rfl rfl (fcs s8 g) rfl r8 rfl rfl (fcs_one _ _) ?_))
  refine fl_end3 (by rfl) (by rfl) (by rfl) (by rfl) (fl_put r8 (fcs s8 g)) rfl rfl ?_
  have hX := HF.out
  subst hX
  exact ⟨s8, rfl, (((T8.out.fm.imp (fun b hb => hb.1)).grown (fl_grown _ (B + 1 + 1) _) (fun b hb e => by have := Zo e; omega)).imp (fun b hb => HP.out b (by rw [HBB.out]; omega))), b8.grown (fl_grown _ (B + 1 + 1) _) z8 (fun k hk => by cases hk; omega)⟩
 ·have HF := Zh (show X = (setF { f with l := f.l.map allLost, r := (dbl f.r).1, cw := (lossR f.cw f.th true c.mss c.most).1, th := (lossR f.cw f.th true c.mss c.most).2.1, cut := true, pb := false } c now, 2, 0) by rw [← HX.out]; exact tk_2 HMS.out HD.out)
  clear hdb
  go_upto_region 9 with fail
  go_wp2_with fail
  obtain ⟨R, hR⟩ : ∃ R, w3.heap.size = R := ⟨_, rfl⟩
  have alR : Below w3.heap.size w3 (w3.alloc (.cells #[.func (.func 93) #[.pointer (some ⟨S, 0, none⟩)] #[], .func (.func 65) #[.pointer (some ⟨S, 0, none⟩)] #[]] 1)) := (Zb).alloc Zr _
  have bR := Bx.new w3 1 [.func (.func 93) #[.pointer (some ⟨S, 0, none⟩)] #[], .func (.func 65) #[.pointer (some ⟨S, 0, none⟩)] #[]]
  have T7 := T3.out.1.more Zr alR (by simp)
  have H7 := T3.out.2.2.keep T3.out.1 alR
  have HAP := T3.out.2.1
  have r7 := r3.kept alR; have b7 := b3.trans (alR.mono z3)
  rw [hR] at bR T7 ⊢
  clear T3 TS r3 b3 alR hR z3
  generalize w3.alloc (.cells #[.func (.func 93) #[.pointer (some ⟨S, 0, none⟩)] #[], .func (.func 65) #[.pointer (some ⟨S, 0, none⟩)] #[]] 1) = w7 at bR T7 H7 r7 b7 ⊢
  have hok2 := resendF_ok HOK.out
  have hrun := flrun_two m0 [R] S R 93 #[.pointer (some ⟨S, 0, none⟩)] #[] s' f _ c now w7 ent_resend T7 (List.mem_cons_self ..) bR hok2 HT.out (flresend_any m0 [R] S s' f c now 0 w7 T7 HAP H7 HOK.out (w_valid hok2))
  refine hrun.mono ?_
  rintro e w8 ⟨rfl, ⟨s8, t8⟩, hf⟩
  have r8 := r7.below hf.below (by omega); have b8 := b7.trans (hf.below.mono (by omega))
  have z8 : B ≤ w8.heap.size := Zn (Zl (Nat.lt_of_le_of_lt (by omega) r8.lt)) Zr
  have T8 := Zh t8
  clear hrun bR T7 H7 HAP r7 b7 hf t8 hok2
  obtain ⟨g, hg⟩ : ∃ g, setF { f with l := f.l.map allLost, r := (dbl f.r).1, cw := (lossR f.cw f.th true c.mss c.most).1, th := (lossR f.cw f.th true c.mss c.most).2.1, cut := true, pb := false } c now = g := ⟨_, rfl⟩
  rw [hg] at T8 HF
  clear hg
  go_upto_region 10 with fail
  go_wp2_with (first | (refine sub_load (vs := fcs s8 g) is_flow rfl (.tmp 50) rfl rfl T8.out.bx rfl rfl ?_) | (refine fl_store rfl (.tmp 6) (.tmp 51) rfl rfl (fcs s8 g) rfl r8 rfl rfl (fcs_one _ _) ?_))
  refine fl_end3 (by rfl) (by rfl) (by rfl) (by rfl) (fl_put r8 (fcs s8 g)) rfl rfl ?_
  have hX := HF.out
  subst hX
  exact ⟨s8, rfl, (((T8.out.fm.imp (fun b hb => hb.1)).grown (fl_grown _ (B + 1 + 1) _) (fun b hb e => by have := Zo e; omega)).imp (fun b hb => HP.out b (by rw [HBB.out]; omega))), b8.grown (fl_grown _ (B + 1 + 1) _) z8 (fun k hk => by cases hk; omega)⟩
end Go.Proofs.YtbijhkhkigdddaaGreat
