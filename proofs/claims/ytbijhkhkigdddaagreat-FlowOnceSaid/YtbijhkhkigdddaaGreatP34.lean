/- FlL13 RtLo4. -/
import Derived.Test.YtbijhkhkigdddaaGreatP14
import Derived.Test.YtbijhkhkigdddaaGreatP31
import Derived.Test.YtbijhkhkigdddaaGreatP33
set_option linter.all false
set_option maxRecDepth 100000
set_option maxHeartbeats 32000000
namespace Go.Proofs.YtbijhkhkigdddaaGreat
open Go.RowKit
theorem ms_w {x : Ms} (h : mmay x = true) {f : Fv} (hf : FvW f) : FvW { f with m := x } := by
 have hm := (mmay_iff _).1 h
 have := hm.p0; have := hm.p1; have := hm.b0; have := hm.b1; have := hm.c0; have := hm.c1; have := hm.m0; have := hm.m1; have := hm.t0; have := hm.t1
 exact ⟨hf.next, hf.r1, hf.r2, hf.r3, hf.r4, hf.b1, hf.b2, by unfold i64; dsimp only; omega, by unfold i64; dsimp only; omega, by unfold i64; dsimp only; omega, by unfold i64; dsimp only; omega, by unfold i64; dsimp only; omega, hf.d1, hf.d2, hf.k1, hf.k2, hf.k3, hf.k4, hf.k5, hf.cw, hf.th, hf.t1, hf.t2, hf.rd⟩
theorem ra_w {x : Rv} (h : ramay x = true) {f : Fv} (hf : FvW f) : FvW { f with d := x } := by
 have hd := (ramay_iff _).1 h
 have := hd.t0; have := hd.t1; have := hd.a0; have := hd.a1
 exact ⟨hf.next, hf.r1, hf.r2, hf.r3, hf.r4, hf.b1, hf.b2, hf.m1, hf.m2, hf.m3, hf.m4, hf.m5, by unfold i64; dsimp only; omega, by unfold i64; dsimp only; omega, hf.k1, hf.k2, hf.k3, hf.k4, hf.k5, hf.cw, hf.th, hf.t1, hf.t2, hf.rd⟩
theorem zms_may : mmay zmk = true := by decide
theorem zra_may : ramay zrv = true := by decide
theorem markH_may (f : Fv) (t : Tv) (told : List Prt) : mmay (markH f t told).1 = true := by
 unfold markH
 by_cases k : mmay f.m = true ∧ HeardOk t.ace t.ce (told.length : Int) (lenSum told)
 ·by_cases k2 : Fits f.m t.ace t.ce (told.length : Int) (lenSum told)
  ·exact (mmay_iff _).2 (mheard_valid k k2)
  ·rw [mheard_over k k2]; exact zms_may
 ·rw [mheard_no k]; exact zms_may
theorem rateH_may (f : Fv) (t : Tv) (told : List Prt) : ramay (rateH f t told).1 = true := by
 unfold rateH
 by_cases k : CameOk f.d (max t.now f.d.last) (lenSum told)
 ·by_cases k2 : f.d.total + lenSum told ≤ 1152921504606846976
  ·rw [came_ok k k2]; exact (ramay_iff _).2 (came_valid k k2)
  ·rw [came_over k k2]; exact zra_may
 ·rw [came_no k]; exact zra_may
theorem sampR_may (v : Rv) (a b : Int) : ramay (sampR v a b).1 = true := by
 by_cases k : SampOk v a b
 ·exact (ramay_iff _).2 (samp_valid k)
 ·rw [samp_no k]; exact zra_may
theorem flcount_any (n₀ : Nat) (l : List Nat) (S H : Nat) (s : Fs) (f : Fv) (c : Cf) (e : Int) (A : Option Addr) (n k : Nat) (t : Tv) (G : Option Addr) (m d : Nat) (told : List Prt) (bs mk : Int) (w : World) (h : Hg n₀ l w S H s f c e A n k t G m d told bs mk) (hok : FvOk f c) (hbs : lenSum told = bs) (hc0 : 0 ≤ t.ce) (hc1 : t.ce < 4294967296) (hm5 : m ≤ 500) : Calls Tryz.prog 76 #[.pointer (some ⟨H, 0, none⟩)] w fun e' w' => e' = .returned (.tuple #[]) ∧
  (((markH f t told).2.2 ≠ 0 ∧ Bad n₀ l w w' S H (markH f t told).2.2) ∨ ((markH f t told).2.2 = 0 ∧ (rateH f t told).2 ≠ 0 ∧ Bad n₀ l w w' S H (rateH f t told).2) ∨
   ((markH f t told).2.2 = 0 ∧ (rateH f t told).2 = 0 ∧ (∃ s', Hg n₀ l w' S H s' (countG f t told) c 0 A n k t G m d told bs (markH f t told).2.1) ∧ Fr n₀ l w w')) := by
 have hlen := h.fr.rd.len
 have hxm := markH_may f t told; have hym := rateH_may f t told
 have hcg : countG f t told = { f with m := (markH f t told).1, d := smpD (rateH f t told).1 told } := rfl
 obtain ⟨X, hX⟩ : ∃ X, markH f t told = X := ⟨_, rfl⟩
 obtain ⟨Y, hY⟩ : ∃ Y, rateH f t told = Y := ⟨_, rfl⟩
 rw [hX, hY] at hcg
 rw [hcg, hX, hY]
 rw [hX] at hxm
 rw [hY] at hym
 have HX := Zh (show mheardR ⟨f.m.pk, f.m.bt, f.m.ca, f.m.md, f.m.pt⟩ t.ace t.ce (m : Int) bs = X by rw [← hX, ← hlen, ← hbs]; rfl)
 have HY := Zh (show cameR ⟨f.d.total, f.d.last, f.d.l⟩ (max t.now f.d.last) bs = Y by rw [← hY, ← hbs]; rfl)
 have HW1 := Zh (ms_w hxm (w_valid hok))
 have HW2 := Zh (show FvW { f with m := X.1, d := Y.1 } from ra_w hym HW1.out)
 have HCE := Zh (And.intro hc0 hc1); have HLEN := Zh hlen; have HM := Zh hm5
 clear hX hY hxm hym hcg hok hbs hc0 hc1 hlen hm5
 go_enter Tryz.func76, Tryz.ntmps76
 go_upto_region 0 with fail
 refine kB [44, 47, 50] 51 (fun (W : World) => Hg n₀ l W S H s f c e A n k t G m d told bs mk ∧ Fr n₀ l w W) ⟨h.drew, Fr.call (Zb).drew h.st.size h.old⟩ (fun HS => ?_)
 generalize w.drew = wd1 at HS  ⊢
 refine kU 0 HS ?_
 refine kU 1 HS ?_
 refine kU 2 HS ?_
 refine kC 3 (fun w hSw => hSw.1.bx.cell 0 rfl) HS ?_
 refine kU 4 HS ?_
 refine kU 5 HS ?_
 refine kU 6 HS ?_
 refine kU 7 HS ?_
 refine kC 8 (fun w hSw => hSw.1.bx.cell 0 rfl) HS ?_
 refine kU 9 HS ?_
 refine kU 10 HS ?_
 refine kU 11 HS ?_
 refine kC 12 (fun w hSw => hSw.1.bx.cell 0 rfl) HS ?_
 refine kU 13 HS ?_
 refine kU 14 HS ?_
 refine kU 15 HS ?_
 refine kS 16 rfl (sub_y (cs := (scs s f c t.now e)) (vs := [f.m.pk, f.m.bt, f.m.ca, f.m.md, f.m.pt]) is_marks (by rfl) (.tmp 22) rfl rfl (fun w hSw => hSw.1.st.bx) rfl rfl) HS ?_
 refine kU 17 HS ?_
 refine kU 18 HS ?_
 refine kU 19 HS ?_
 refine kU 20 HS ?_
 refine kC 21 (v := .int .i64 t.ace) (fun w hSw => hSw.1.bx.cell 3 rfl) HS ?_
 refine kU 22 HS ?_
 refine kU 23 HS ?_
 refine kU 24 HS ?_
 refine kU 25 HS ?_
 refine kC 26 (v := .int .u32 t.ce) (fun w hSw => hSw.1.bx.cell 4 rfl) HS ?_
 refine kU 27 HS ?_
 refine kU 28 HS ?_
 refine kU 29 HS ?_
 refine kC 30 (v := .slice G m d) (fun w hSw => hSw.1.bx.cell 7 rfl) HS ?_
 refine kUv 31 (.int .i64 (m : Int)) HS ?_
 refine kU 32 HS ?_
 refine kU 33 HS ?_
 refine kU 34 HS ?_
 refine kC 35 (v := .int .i64 bs) (fun w hSw => hSw.1.bx.cell 8 rfl) HS ?_
 refine wpAnyV_one (k := 36) rfl (by kernel_rfl) (fun K hK => ?_)
 go_simp
 refine (mkheard_any _ _ _ _ _ _ _ _ _ _ HCE.out.1 HCE.out.2).mono ?_
 rintro e2 w2 ⟨he, hb⟩
 rw [HX.out] at he
 subst he
 refine kK hK ⟨HS.1.call hb, HS.2.trans (HS.1.frm hb)⟩ (fun HS => ?_)
 clear hK K
 refine kU 37 HS ?_
 refine kU 38 HS ?_
 refine kUv 39 (.int .i64 X.2.1) HS ?_
 refine kUv 40 (.int .i64 X.2.2) HS ?_
 refine kU 41 HS ?_
 refine kU 42 HS ?_
 refine kU 43 HS ?_
 refine wpAnyV_end (k := 44) rfl (by kernel_rfl) (fun K hK => ?_)
 refine sub_end is_marks (by rfl) (.tmp 49) (.tmp 44) rfl rfl [X.1.pk, X.1.bt, X.1.ca, X.1.md, X.1.pt] rfl HS.1.st.bx (by show (16 : Nat) ≤ 44; decide) rfl rfl ?_
 have HA := Zh (show Hg n₀ l (w2.setCells S 11 [X.1.pk, X.1.bt, X.1.ca, X.1.md, X.1.pt]) S H s { f with m := X.1 } c e A n k t G m d told bs mk ∧ Fr n₀ l w (w2.setCells S 11 [X.1.pk, X.1.bt, X.1.ca, X.1.md, X.1.pt]) from ⟨HS.1.cells 11 _ rfl (HS.1.st.fm.same rfl rfl rfl rfl HW1.out), HS.2.trans (HS.1.frc 11 [X.1.pk, X.1.bt, X.1.ca, X.1.md, X.1.pt])⟩)
 clear HS hb
 refine hK _ _ ?_
 clear hK K
 generalize w2.setCells S 11 [X.1.pk, X.1.bt, X.1.ca, X.1.md, X.1.pt] = wa at HA ⊢
 try simp only [Act.put, List.setIfInBounds_toArray, List.set_cons_zero, List.set_cons_succ]
 refine kN 45 ?_
 refine kN 46 ?_
 refine wpAnyV_end (k := 47) rfl (by kernel_rfl) (fun K hK => ?_)
 have cc := HA.out.1.bx.cell 9 rfl
 have fr := HA.out.1.bx.free 9
 have HB := Zh (show Hg n₀ l (wa.setCell ⟨H, 9, none⟩ (.int .i64 X.2.1)) S H s { f with m := X.1 } c e A n k t G m d told bs X.2.1 ∧ Fr n₀ l w (wa.setCell ⟨H, 9, none⟩ (.int .i64 X.2.1)) from ⟨HA.out.1.put 9 (.int .i64 X.2.1) rfl (HA.out.1.fr) (HA.out.1.fo), HA.out.2.trans (HA.out.1.frp 9 (.int .i64 X.2.1))⟩)
 clear HA
 go_simp
 refine hK _ _ ?_
 clear hK K
 clear cc fr
 generalize wa.setCell ⟨H, 9, none⟩ (.int .i64 X.2.1) = wb at HB ⊢
 try simp only [Act.put, List.setIfInBounds_toArray, List.set_cons_zero, List.set_cons_succ]
 refine kN 48 ?_
 refine kN 49 ?_
 refine wpAnyV_end (k := 50) rfl (by kernel_rfl) (fun K hK => ?_)
 have cc := HB.out.1.st.bx.cell 43 rfl
 have fr := HB.out.1.st.bx.free 43
 have HC := Zh (show Hg n₀ l (wb.setCell ⟨S, 43, none⟩ (.int .i64 X.2.2)) S H s { f with m := X.1 } c X.2.2 A n k t G m d told bs X.2.1 ∧ Fr n₀ l w (wb.setCell ⟨S, 43, none⟩ (.int .i64 X.2.2)) from ⟨HB.out.1.set 43 (.int .i64 X.2.2) rfl (HB.out.1.st.fm), HB.out.2.trans (HB.out.1.frs 43 (.int .i64 X.2.2))⟩)
 clear HB
 go_simp
 refine hK _ _ ?_
 clear hK K
 clear cc fr
 generalize wb.setCell ⟨S, 43, none⟩ (.int .i64 X.2.2) = wc at HC ⊢
 try simp only [Act.put, List.setIfInBounds_toArray, List.set_cons_zero, List.set_cons_succ]
 refine ⟨by kernel_rfl, ?_⟩
 clear h
 have c0 := HC.out.1.bx.cell 0 rfl
 have s43 : wc.cell? ⟨S, 43, none⟩ = some (.int .i64 X.2.2) := HC.out.1.st.bx.cell 43 rfl
 by_cases hx0 : X.2.2 = 0
 case neg =>
  have dz : (X.2.2 != 0) = true := by simpa using hx0
  have HX0 := Zh hx0
  clear hx0
  go_wp2_with fail
  (try simp only [Exit.inBlock, Exit.then]); refine bodyPost_ret (results_none rfl _ _ _) rfl ?_
  exact ⟨rfl, .inl ⟨HX0.out, HC.out.1.bad HC.out.2⟩⟩
 case pos =>
 have dz : (X.2.2 != 0) = false := by simpa using hx0
 have HC2 : Hid (Hg n₀ l wc S H s { f with m := X.1 } c 0 A n k t G m d told bs X.2.1 ∧ Fr n₀ l w wc) := Zh (by have := HC.out; rwa [hx0] at this)
 have HX0 := Zh hx0
 clear hx0 HC
 go_upto_region 2 with fail
 clear c0 s43 dz
 refine kB [44, 47] 48 (fun (W : World) => Hg n₀ l W S H s { f with m := X.1 } c 0 A n k t G m d told bs X.2.1 ∧ Fr n₀ l w W) ⟨HC2.out.1.drew, HC2.out.2.trans (HC2.out.1.frm (Zb).drew)⟩ (fun HS => ?_)
 generalize wc.drew = wd2 at HS  ⊢
 refine kU 0 HS ?_
 refine kU 1 HS ?_
 refine kU 2 HS ?_
 refine kC 3 (fun w hSw => hSw.1.bx.cell 0 rfl) HS ?_
 refine kU 4 HS ?_
 refine kU 5 HS ?_
 refine kU 6 HS ?_
 refine kC 7 (fun w hSw => hSw.1.bx.cell 0 rfl) HS ?_
 refine kU 8 HS ?_
 refine kU 9 HS ?_
 refine kU 10 HS ?_
 refine kC 11 (fun w hSw => hSw.1.bx.cell 0 rfl) HS ?_
 refine kU 12 HS ?_
 refine kU 13 HS ?_
 refine kU 14 HS ?_
 refine kS 15 rfl (sub_y (cs := (scs s { f with m := X.1 } c t.now 0)) (vs := [f.d.total, f.d.last, .slice s.a3 s.n3 s.c3]) is_rate (by rfl) (.tmp 77) rfl rfl (fun w hSw => hSw.1.st.bx) rfl rfl) HS ?_
 refine kU 16 HS ?_
 refine kU 17 HS ?_
 refine kU 18 HS ?_
 refine kC 19 (fun w hSw => hSw.1.bx.cell 0 rfl) HS ?_
 refine kU 20 HS ?_
 refine kU 21 HS ?_
 refine kC 22 (v := .int .i64 t.now) (fun w hSw => hSw.1.st.bx.cell 42 rfl) HS ?_
 refine kU 23 HS ?_
 refine kU 24 HS ?_
 refine kU 25 HS ?_
 refine kC 26 (fun w hSw => hSw.1.bx.cell 0 rfl) HS ?_
 refine kU 27 HS ?_
 refine kU 28 HS ?_
 refine kU 29 HS ?_
 refine kU 30 HS ?_
 refine kC 31 (v := .int .i64 f.d.last) (fun w hSw => hSw.1.st.bx.cell 17 rfl) HS ?_
 refine kUv 32 (.int .i64 (max t.now f.d.last)) HS ?_
 refine kU 33 HS ?_
 refine kU 34 HS ?_
 refine kU 35 HS ?_
 refine kC 36 (v := .int .i64 bs) (fun w hSw => hSw.1.bx.cell 8 rfl) HS ?_
 refine wpAnyV_one (k := 37) rfl (by kernel_rfl) (fun K hK => ?_)
 go_simp
 refine (ratcame_any _ _ _ _ _ f.d.l _ _ (Nw n₀ (S :: H :: l)) _ ⟨HS.1.st.fm.d, HS.1.st.fm.p3⟩ HS.1.st.newp).mono ?_
 rintro e4 w4 ⟨R, rm, rd, he, hsq, hb⟩
 rw [HY.out] at he hsq
 subst he
 refine kK hK ⟨HS.1.call hb, HS.2.trans (HS.1.frm hb)⟩ (fun HS => ?_)
 clear hK K
 refine kU 38 HS ?_
 refine kU 39 HS ?_
 refine kUv 40 (.int .i64 Y.2) HS ?_
 refine kU 41 HS ?_
 refine kU 42 HS ?_
 refine kU 43 HS ?_
 refine wpAnyV_end (k := 44) rfl (by kernel_rfl) (fun K hK => ?_)
 refine sub_end is_rate (by rfl) (.tmp 105) (.tmp 101) rfl rfl [Y.1.total, Y.1.last, .slice R rm rd] rfl HS.1.st.bx (by show (19 : Nat) ≤ 44; decide) rfl rfl ?_
 have HD := Zh (show Hg n₀ l (w4.setCells S 16 [Y.1.total, Y.1.last, .slice R rm rd]) S H ⟨s.a1, s.n1, s.c1, s.a2, s.n2, s.c2, R, rm, rd, s.a4, s.n4, s.c4⟩ { f with m := X.1, d := Y.1 } c 0 A n k t G m d told bs X.2.1 ∧ Fr n₀ l w (w4.setCells S 16 [Y.1.total, Y.1.last, .slice R rm rd]) from ⟨HS.1.cells 16 _ rfl (HS.1.st.fm.newD rfl rfl hsq.si hsq.at_ rfl HW2.out), HS.2.trans (HS.1.frc 16 [Y.1.total, Y.1.last, .slice R rm rd])⟩)
 clear HS hb hsq
 refine hK _ _ ?_
 clear hK K
 generalize w4.setCells S 16 [Y.1.total, Y.1.last, .slice R rm rd] = wd_ at HD ⊢
 try simp only [Act.put, List.setIfInBounds_toArray, List.set_cons_zero, List.set_cons_succ]
 refine kN 45 ?_
 refine kN 46 ?_
 refine wpAnyV_end (k := 47) rfl (by kernel_rfl) (fun K hK => ?_)
 have cc := HD.out.1.st.bx.cell 43 rfl
 have fr := HD.out.1.st.bx.free 43
 have HE := Zh (show Hg n₀ l (wd_.setCell ⟨S, 43, none⟩ (.int .i64 Y.2)) S H ⟨s.a1, s.n1, s.c1, s.a2, s.n2, s.c2, R, rm, rd, s.a4, s.n4, s.c4⟩ { f with m := X.1, d := Y.1 } c Y.2 A n k t G m d told bs X.2.1 ∧ Fr n₀ l w (wd_.setCell ⟨S, 43, none⟩ (.int .i64 Y.2)) from ⟨HD.out.1.set 43 (.int .i64 Y.2) rfl (HD.out.1.st.fm), HD.out.2.trans (HD.out.1.frs 43 (.int .i64 Y.2))⟩)
 clear HD
 go_simp
 refine hK _ _ ?_
 clear hK K
 clear cc fr
 generalize wd_.setCell ⟨S, 43, none⟩ (.int .i64 Y.2) = we_ at HE ⊢
 try simp only [Act.put, List.setIfInBounds_toArray, List.set_cons_zero, List.set_cons_succ]
 refine ⟨by kernel_rfl, ?_⟩
 have c0 := HE.out.1.bx.cell 0 rfl; have c7 := HE.out.1.bx.cell 7 rfl
 have s43 : we_.cell? ⟨S, 43, none⟩ = some (.int .i64 Y.2) := HE.out.1.st.bx.cell 43 rfl
 by_cases hy0 : Y.2 = 0
 case neg =>
  have dz : (Y.2 != 0) = true := by simpa using hy0
  have HY0 := Zh hy0
  clear hy0
  go_wp2_with fail
  (try simp only [Exit.inBlock, Exit.then]); refine bodyPost_ret (results_none rfl _ _ _) rfl ?_
  exact ⟨rfl, .inr (.inl ⟨HX0.out, HY0.out, HE.out.1.bad HE.out.2⟩)⟩
 case pos =>
 have dz : (Y.2 != 0) = false := by simpa using hy0
 have HE1 : Hid (Hg n₀ l we_ S H ⟨s.a1, s.n1, s.c1, s.a2, s.n2, s.c2, R, rm, rd, s.a4, s.n4, s.c4⟩ { f with m := X.1, d := Y.1 } c 0 A n k t G m d told bs X.2.1 ∧ Fr n₀ l w we_) := Zh (by have := HE.out; rwa [hy0] at this)
 have HY0 := Zh hy0
 clear hy0 HE
 by_cases hm : m = 0
 ·have d1 : ((m : Int) == 0) = true := by simp [hm]
  have d2 : decide ((m : Int) = 0) = true := Zt (by omega)
  have d3 : (m == 0) = true := by simp [hm]
  have d4 : decide (m = 0) = true := Zt hm
  have hs : smpD Y.1 told = Y.1 := if_neg (by rw [HLEN.out]; omega)
  have HSM := Zh hs
  clear hm hs
  go_wp2_with fail
  (try simp only [Exit.inBlock, Exit.then]); refine bodyPost_ret (results_none rfl _ _ _) rfl ?_
  exact ⟨rfl, .inr (.inr ⟨HX0.out, HY0.out, ⟨_, by rw [HSM.out]; exact HE1.out.1⟩, HE1.out.2⟩)⟩
 have d1 : ((m : Int) == 0) = false := by simp; omega
 have d2 : decide ((m : Int) = 0) = false := Zf (by omega)
 have d3 : (m == 0) = false := by simp [hm]
 have d4 : decide (m = 0) = false := Zf hm
 obtain ⟨bb, oo, rfl, _, _⟩ := HE1.out.1.fr.rd.at_ (by omega)
 obtain ⟨q, hq⟩ : ∃ q, m - 1 = q := ⟨_, rfl⟩
 obtain ⟨x, hx⟩ : ∃ x, ge told q = x := ⟨_, rfl⟩
 obtain ⟨V, hV⟩ : ∃ V, sampR Y.1 x.total x.last = V := ⟨_, rfl⟩
 have hvm : ramay V.1 = true := by rw [← hV]; exact sampR_may _ _ _
 have hs : smpD Y.1 told = if V.2.2 = 0 then V.1 else Y.1 := by unfold smpD; rw [if_pos (by rw [HLEN.out]; omega), HLEN.out, hq, hx, hV]
 have HSM := Zh hs
 have hql : q < m := by omega
 have HQ := Zh hql; have HQX := Zh hx
 have HV := Zh (show sampR ⟨Y.1.total, Y.1.last, Y.1.l⟩ x.total x.last = V from hV)
 have HW3 := Zh (show FvW { f with m := X.1, d := V.1 } from ra_w hvm HW1.out)
 have HE2 := HE1
 have i1 : IntKind.i64.wrap ((m : Int) - 1) = (q : Int) := by rw [IntWalk.i64_in _ (by have := HM.out; omega)]; omega
 have e1 : (q : Int) < (m : Int) := by omega
 have e2 : ¬ ((q : Int) < 0) := by omega
 clear hs hql hx hV hvm hq hm HE1
 go_upto_region 4 with fail
 clear c0 c7 s43 dz d1 d2 d3 d4
 refine kB [13] 14 (fun (W : World) => Hg n₀ l W S H ⟨s.a1, s.n1, s.c1, s.a2, s.n2, s.c2, R, rm, rd, s.a4, s.n4, s.c4⟩ { f with m := X.1, d := Y.1 } c 0 A n k t (some ⟨bb, oo, none⟩) m d told bs X.2.1 ∧ Fr n₀ l w W) ⟨HE2.out.1.drew, HE2.out.2.trans (HE2.out.1.frm (Zb).drew)⟩ (fun HS => ?_)
 generalize we_.drew = wd4 at HS  ⊢
 refine kU 0 HS ?_
 refine kU 1 HS ?_
 refine kU 2 HS ?_
 refine kC 3 (v := .slice (some ⟨bb, oo, none⟩) m d) (fun w hSw => hSw.1.bx.cell 7 rfl) HS ?_
 refine kU 4 HS ?_
 refine kU 5 HS ?_
 refine kU 6 HS ?_
 refine kC 7 (v := .slice (some ⟨bb, oo, none⟩) m d) (fun w hSw => hSw.1.bx.cell 7 rfl) HS ?_
 refine kUv 8 (.int .i64 (m : Int)) HS ?_
 refine kUv 9 (.int .i64 (q : Int)) HS ?_
 refine kU 10 HS ?_
 refine wpAnyV_take (i := 11) (v := .agg (El.cells x).toArray) rfl (by kernel_rfl) (fun _ _ _ h => h) (row_y (by rfl) (.tmp 134) rfl rfl (fun w hSw => HQX.out ▸ hSw.1.frange HQ.out)) HS ?_
 try simp only [Act.put, List.setIfInBounds_toArray, List.set_cons_zero, List.set_cons_succ]
 refine wpAnyV_one (k := 12) rfl (by kernel_rfl) (fun K hK => ?_)
 go_simp
 obtain ⟨L9, hL9⟩ : ∃ x, wd4.heap.size = x := ⟨_, rfl⟩
 have HSA := Zh HS
 have bX := Bx.new wd4 57 [.int .i64 0, .int .i64 0, .int .i64 0, .int .i64 0, .int .i64 0, .bool false, .bool false, .int .i64 0, .int .i64 0]
 have alX : Below wd4.heap.size wd4 (wd4.alloc (.cells #[.int .i64 0, .int .i64 0, .int .i64 0, .int .i64 0, .int .i64 0, .bool false, .bool false, .int .i64 0, .int .i64 0] 57)) := (Zb).alloc Zr _
 have hzX : wd4.heap.size ≤ (wd4.alloc (.cells #[.int .i64 0, .int .i64 0, .int .i64 0, .int .i64 0, .int .i64 0, .bool false, .bool false, .int .i64 0, .int .i64 0] 57)).heap.size := alX.size
 rw [hL9] at bX
 try rw [hL9]
 refine kK hK ⟨HS.1.call alX, HS.2.trans (HS.1.frm alX)⟩ (fun HS => ?_)
 clear hK K
 refine wpAnyV_end (k := 13) rfl (by kernel_rfl) (fun K hK => ?_)
 refine sub_end is_sent (by rfl) (.tmp 2) (.tmp 135) rfl rfl (El.cells x) rfl bX (by decide) rfl rfl ?_
 have gX := grown_cells (B := L9) (El.cells x) 0 (wd4.alloc (.cells #[.int .i64 0, .int .i64 0, .int .i64 0, .int .i64 0, .int .i64 0, .bool false, .bool false, .int .i64 0, .int .i64 0] 57))
 have hbX : Below wd4.heap.size wd4 ((wd4.alloc (.cells #[.int .i64 0, .int .i64 0, .int .i64 0, .int .i64 0, .int .i64 0, .bool false, .bool false, .int .i64 0, .int .i64 0] 57)).setCells L9 0 (El.cells x)) := alX.grown gX hzX (fun k hk => by cases hk; omega)
 have bY : Bx ((wd4.alloc (.cells #[.int .i64 0, .int .i64 0, .int .i64 0, .int .i64 0, .int .i64 0, .bool false, .bool false, .int .i64 0, .int .i64 0] 57)).setCells L9 0 (El.cells x)) L9 57 (El.cells x) := Bx.cells (El.cells x) (o := 0) bX
 have HNL9 := Zh (And.intro (⟨HSA.out.1.call hbX, HSA.out.2.trans (HSA.out.1.frm hbX)⟩ : Hg n₀ l ((wd4.alloc (.cells #[.int .i64 0, .int .i64 0, .int .i64 0, .int .i64 0, .int .i64 0, .bool false, .bool false, .int .i64 0, .int .i64 0] 57)).setCells L9 0 (El.cells x)) S H ⟨s.a1, s.n1, s.c1, s.a2, s.n2, s.c2, R, rm, rd, s.a4, s.n4, s.c4⟩ { f with m := X.1, d := Y.1 } c 0 A n k t (some ⟨bb, oo, none⟩) m d told bs X.2.1 ∧ Fr n₀ l w ((wd4.alloc (.cells #[.int .i64 0, .int .i64 0, .int .i64 0, .int .i64 0, .int .i64 0, .bool false, .bool false, .int .i64 0, .int .i64 0] 57)).setCells L9 0 (El.cells x))) bY)
 have HBX := Zh hbX
 clear HS HSA bX bY alX gX hzX hbX 
 refine hK _ _ ?_
 clear hK K
 generalize ((wd4.alloc (.cells #[.int .i64 0, .int .i64 0, .int .i64 0, .int .i64 0, .int .i64 0, .bool false, .bool false, .int .i64 0, .int .i64 0] 57)).setCells L9 0 (El.cells x)) = w6 at HNL9 HBX ⊢
 try simp only [Act.put, List.setIfInBounds_toArray, List.set_cons_zero, List.set_cons_succ]
 refine ⟨by kernel_rfl, ?_⟩
 clear i1 e1 e2
 go_upto_region 5 with fail
 apply cutP
 ·intro hP
  refine kB [18] 21 (fun (W : World) => Hg n₀ l W S H ⟨s.a1, s.n1, s.c1, s.a2, s.n2, s.c2, R, rm, rd, s.a4, s.n4, s.c4⟩ { f with m := X.1, d := Y.1 } c 0 A n k t (some ⟨bb, oo, none⟩) m d told bs X.2.1 ∧ Fr n₀ l w W ∧ Bx W L9 57 (El.cells x)) ⟨HNL9.out.1.1.drew, HNL9.out.1.2.trans (HNL9.out.1.1.frm (Zb).drew), HNL9.out.2.drew⟩ (fun HS => ?_)
  generalize w6.drew = wd5 at HS  ⊢
  refine kU 0 HS ?_
  refine kU 1 HS ?_
  refine kU 2 HS ?_
  refine kC 3 (fun w hSw => hSw.1.bx.cell 0 rfl) HS ?_
  refine kU 4 HS ?_
  refine kU 5 HS ?_
  refine kU 6 HS ?_
  refine kS 7 rfl (sub_y (cs := (scs ⟨s.a1, s.n1, s.c1, s.a2, s.n2, s.c2, R, rm, rd, s.a4, s.n4, s.c4⟩ { f with m := X.1, d := Y.1 } c t.now 0)) (vs := [Y.1.total, Y.1.last, .slice R rm rd]) is_rate (by rfl) (.tmp 143) rfl rfl (fun w hSw => hSw.1.st.bx) rfl rfl) HS ?_
  refine kU 8 HS ?_
  refine kC 9 (v := .int .i64 x.total) (fun w hSw => hSw.2.2.cell 7 rfl) HS ?_
  refine kU 10 HS ?_
  refine kC 11 (v := .int .i64 x.last) (fun w hSw => hSw.2.2.cell 8 rfl) HS ?_
  refine wpAnyV_two (k1 := 12) (k2 := 17) rfl rfl (by kernel_rfl) (fun K hK => ?_) (fun K hK => ?_)
  ·go_simp
   refine (ratsamp_any _ _ _ _ _ Y.1.l _ _ (Nw n₀ (S :: H :: l)) _ ⟨HS.1.st.fm.d, HS.1.st.fm.p3⟩ HS.1.st.newp).mono ?_
   rintro e8 w8 ⟨R2, rm2, rd2, he, hsq, hb⟩
   rw [HV.out] at he hsq
   subst he
   have HR := Zh (show Si w8 R2 rm2 rd2 V.1.l ∧ In1 (Nw n₀ (S :: H :: l)) R2 rm2 from ⟨hsq.si, hsq.at_⟩)
   clear hsq
   refine kK hK ⟨HS.1.call hb, HS.2.1.trans (HS.1.frm hb), HS.2.2.kept hb⟩ (fun HS => ?_)
   clear hK K
   refine kU 13 HS ?_
   refine kU 14 HS ?_
   refine kUv 15 (.int .i64 V.2.1) HS ?_
   refine kUv 16 (.int .i64 V.2.2) HS ?_
   refine wpAnyV_one (k := 17) rfl (by kernel_rfl) (fun K hK => ?_)
   go_simp
   obtain ⟨D9, hD9⟩ : ∃ x, w8.heap.size = x := ⟨_, rfl⟩
   have hb : Below w8.heap.size w8 (w8.alloc (.cells #[.int .i64 0, .int .i64 0, .slice none 0 0] 32)) := (Zb).alloc Zr _
   have TX := Zh (Xb.new HS.1 (.cells #[.int .i64 0, .int .i64 0, .slice none 0 0] 32))
   have bX := Zh (Bx.new w8 32 [.int .i64 0, .int .i64 0, .slice none 0 0])
   have hLX : L9 ≠ D9 := by have := HS.2.2.lt; omega
   have HSn : ((fun (W : World) => Hg n₀ l W S H ⟨s.a1, s.n1, s.c1, s.a2, s.n2, s.c2, R, rm, rd, s.a4, s.n4, s.c4⟩ { f with m := X.1, d := Y.1 } c 0 A n k t (some ⟨bb, oo, none⟩) m d told bs X.2.1 ∧ Fr n₀ l w W ∧ Bx W L9 57 (El.cells x))) _ := ⟨HS.1.call hb, HS.2.1.trans (HS.1.frm hb), HS.2.2.kept hb⟩
   replace HR := Zh (And.intro (HR.out.1.keep hb) (And.intro HR.out.2 (si_ne HR.out.1 (Nat.le_of_eq hD9))))
   clear HS hb
   rw [hD9] at TX bX
   try rw [hD9]
   generalize w8.alloc (.cells #[.int .i64 0, .int .i64 0, .slice none 0 0] 32) = wz at HSn TX bX HR ⊢
   clear hD9
   refine kK hK HSn (fun HS => ?_)
   clear hK K
   refine wpAnyV_end (k := 18) rfl (by kernel_rfl) (fun K hK => ?_)
   refine sub_end is_rate (by rfl) (.tmp 3) (.tmp 150) rfl rfl [V.1.total, V.1.last, .slice R2 rm2 rd2] rfl bX.out (by decide) rfl rfl ?_
   have gX := grown_cells (B := D9) [V.1.total, V.1.last, .slice R2 rm2 rd2] 0 wz
   have hp := TX.out.put [V.1.total, V.1.last, .slice R2 rm2 rd2] 0
   have hbx : Bx (wz.setCells D9 0 [V.1.total, V.1.last, .slice R2 rm2 rd2]) D9 32 [V.1.total, V.1.last, .slice R2 rm2 rd2] := Bx.cells [V.1.total, V.1.last, .slice R2 rm2 rd2] (o := 0) bX.out
   have HN := Zh (And.intro hp.1 (And.intro (HS.2.1.trans hp.2) (And.intro hbx (And.intro (si_grown HR.out.1 HR.out.2.2 gX (fun b hb e => hb (Zo e).symm)) HR.out.2.1))))
   clear HS HR TX bX gX hp hLX hbx
   refine hK _ _ ?_
   clear hK K
   generalize wz.setCells D9 0 [V.1.total, V.1.last, .slice R2 rm2 rd2] = w9 at HN ⊢
   try simp only [Act.put, List.setIfInBounds_toArray, List.set_cons_zero, List.set_cons_succ]
   refine kN 19 ?_
   refine kN 20 ?_
   refine ⟨by kernel_rfl, ?_⟩
   revert HN
   revert w9
   revert D9
   revert rd2
   revert rm2
   revert R2
   exact hP.out
  ·go_simp
   obtain ⟨D9, hD9⟩ : ∃ x, wd5.heap.size = x := ⟨_, rfl⟩
   have hb : Below wd5.heap.size wd5 (wd5.alloc (.cells #[.int .i64 0, .int .i64 0, .slice none 0 0] 32)) := (Zb).alloc Zr _
   have TX := Zh (Xb.new HS.1 (.cells #[.int .i64 0, .int .i64 0, .slice none 0 0] 32))
   have bX := Zh (Bx.new wd5 32 [.int .i64 0, .int .i64 0, .slice none 0 0])
   have hLX : L9 ≠ D9 := by have := HS.2.2.lt; omega
   have HSn : ((fun (W : World) => Hg n₀ l W S H ⟨s.a1, s.n1, s.c1, s.a2, s.n2, s.c2, R, rm, rd, s.a4, s.n4, s.c4⟩ { f with m := X.1, d := Y.1 } c 0 A n k t (some ⟨bb, oo, none⟩) m d told bs X.2.1 ∧ Fr n₀ l w W ∧ Bx W L9 57 (El.cells x))) _ := ⟨HS.1.call hb, HS.2.1.trans (HS.1.frm hb), HS.2.2.kept hb⟩
   clear HS hb
   rw [hD9] at TX bX
   try rw [hD9]
   generalize wd5.alloc (.cells #[.int .i64 0, .int .i64 0, .slice none 0 0] 32) = wz at HSn TX bX ⊢
   clear hD9
   refine kK hK HSn (fun HS => ?_)
   clear hK K
   refine wpAnyV_one (k := 12) rfl (by kernel_rfl) (fun K hK => ?_)
   go_simp
   refine (ratsamp_any _ _ _ _ _ Y.1.l _ _ (Nw n₀ (S :: H :: D9 :: l)) _ ⟨TX.out.hg.st.fm.d, TX.out.hg.st.fm.p3⟩ TX.out.hg.st.newp).mono ?_
   rintro e8 w8 ⟨R2, rm2, rd2, he, hsq, hb⟩
   rw [HV.out] at he hsq
   subst he
   have HR := Zh (And.intro hsq.si (nw_x hsq.at_))
   replace TX := Zh (TX.out.call hb)
   replace bX := Zh (bX.out.kept hb)
   clear hsq
   refine kK hK ⟨HS.1.call hb, HS.2.1.trans (HS.1.frm hb), HS.2.2.kept hb⟩ (fun HS => ?_)
   clear hK K
   refine kU 13 HS ?_
   refine kU 14 HS ?_
   refine kUv 15 (.int .i64 V.2.1) HS ?_
   refine kUv 16 (.int .i64 V.2.2) HS ?_
   refine wpAnyV_end (k := 18) rfl (by kernel_rfl) (fun K hK => ?_)
   refine sub_end is_rate (by rfl) (.tmp 3) (.tmp 150) rfl rfl [V.1.total, V.1.last, .slice R2 rm2 rd2] rfl bX.out (by decide) rfl rfl ?_
   have gX := grown_cells (B := D9) [V.1.total, V.1.last, .slice R2 rm2 rd2] 0 w8
   have hp := TX.out.put [V.1.total, V.1.last, .slice R2 rm2 rd2] 0
   have hbx : Bx (w8.setCells D9 0 [V.1.total, V.1.last, .slice R2 rm2 rd2]) D9 32 [V.1.total, V.1.last, .slice R2 rm2 rd2] := Bx.cells [V.1.total, V.1.last, .slice R2 rm2 rd2] (o := 0) bX.out
   have HN := Zh (And.intro hp.1 (And.intro (HS.2.1.trans hp.2) (And.intro hbx (And.intro (si_grown HR.out.1 HR.out.2.2 gX (fun b hb e => hb (Zo e).symm)) HR.out.2.1))))
   clear HS HR TX bX gX hp hLX hbx
   refine hK _ _ ?_
   clear hK K
   generalize w8.setCells D9 0 [V.1.total, V.1.last, .slice R2 rm2 rd2] = w9 at HN ⊢
   try simp only [Act.put, List.setIfInBounds_toArray, List.set_cons_zero, List.set_cons_succ]
   refine kN 19 ?_
   refine kN 20 ?_
   refine ⟨by kernel_rfl, ?_⟩
   revert HN
   revert w9
   revert D9
   revert rd2
   revert rm2
   revert R2
   exact hP.out
 intro R2 rm2 rd2 D9 w9 HN
 by_cases hv : V.2.2 = 0
 case neg =>
  have d1 : (V.2.2 == 0) = false := by simpa using hv
  have d2 : decide (V.2.2 = 0) = false := Zf hv
  rw [if_neg hv] at HSM
  clear hv
  go_wp2_with fail
  go_end0
  exact ⟨rfl, .inr (.inr ⟨HX0.out, HY0.out, ⟨_, by rw [HSM.out]; exact HN.out.1⟩, HN.out.2.1⟩)⟩
 case pos =>
  have d1 : (V.2.2 == 0) = true := by simpa using hv
  have d2 : decide (V.2.2 = 0) = true := Zt hv
  rw [if_pos hv] at HSM
  clear hv
  go_upto_region 7 with fail
  refine kB [8] 9 (fun (W : World) => Hg n₀ l W S H ⟨s.a1, s.n1, s.c1, s.a2, s.n2, s.c2, R, rm, rd, s.a4, s.n4, s.c4⟩ { f with m := X.1, d := Y.1 } c 0 A n k t (some ⟨bb, oo, none⟩) m d told bs X.2.1 ∧ Fr n₀ l w W ∧ Bx W D9 32 [V.1.total, V.1.last, .slice R2 rm2 rd2] ∧ Si W R2 rm2 rd2 V.1.l) ⟨HN.out.1.drew, HN.out.2.1.trans (HN.out.1.frm (Zb).drew), HN.out.2.2.1.drew, HN.out.2.2.2.1.keep (Zb).drew⟩ (fun HS => ?_)
  generalize w9.drew = wd7 at HS  ⊢
  refine kU 0 HS ?_
  refine kU 1 HS ?_
  refine kU 2 HS ?_
  refine kC 3 (fun w hSw => hSw.1.bx.cell 0 rfl) HS ?_
  refine kS 4 rfl (sub_y (cs := [V.1.total, V.1.last, .slice R2 rm2 rd2]) (vs := [V.1.total, V.1.last, .slice R2 rm2 rd2]) is_rate (by rfl) (.tmp 3) rfl rfl (fun w hSw => hSw.2.2.1) rfl rfl) HS ?_
  refine kU 5 HS ?_
  refine kU 6 HS ?_
  refine kU 7 HS ?_
  refine wpAnyV_end (k := 8) rfl (by kernel_rfl) (fun K hK => ?_)
  refine sub_end is_rate (by rfl) (.tmp 162) (.tmp 159) rfl rfl [V.1.total, V.1.last, .slice R2 rm2 rd2] rfl HS.1.st.bx (by show (19 : Nat) ≤ 44; decide) rfl rfl ?_
  have HF := Zh (show Hg n₀ l (wd7.setCells S 16 [V.1.total, V.1.last, .slice R2 rm2 rd2]) S H ⟨s.a1, s.n1, s.c1, s.a2, s.n2, s.c2, R2, rm2, rd2, s.a4, s.n4, s.c4⟩ { f with m := X.1, d := V.1 } c 0 A n k t (some ⟨bb, oo, none⟩) m d told bs X.2.1 ∧ Fr n₀ l w (wd7.setCells S 16 [V.1.total, V.1.last, .slice R2 rm2 rd2]) from ⟨HS.1.cells 16 _ rfl (HS.1.st.fm.newD rfl rfl HS.2.2.2 HN.out.2.2.2.2 rfl HW3.out), HS.2.1.trans (HS.1.frc 16 [V.1.total, V.1.last, .slice R2 rm2 rd2])⟩)
  clear HS
  refine hK _ _ ?_
  clear hK K
  generalize wd7.setCells S 16 [V.1.total, V.1.last, .slice R2 rm2 rd2] = wf at HF ⊢
  try simp only [Act.put, List.setIfInBounds_toArray, List.set_cons_zero, List.set_cons_succ]
  refine ⟨by kernel_rfl, ?_⟩
  go_wp2_with fail
  go_end0
  exact ⟨rfl, .inr (.inr ⟨HX0.out, HY0.out, ⟨_, by rw [HSM.out]; exact HF.out.1⟩, HF.out.2⟩)⟩
theorem rtsample_any (has : Bool) (srtt vr rto shift : Int) (took least most : Int) (w : World) :
  Calls Tryz.prog 171 #[.agg #[has, srtt, vr, rto, shift], took, least, most] w fun e w' => TellE w w' e (smp ⟨has, srtt, vr, rto, shift⟩ took least most) := by
 unfold TellE
 obtain ⟨B, hB⟩ : ∃ B, w.heap.size = B := ⟨_, rfl⟩
 rw [hB]
 have e0 := Bx.new w 24 [has, srtt, vr, rto, shift]
 have e1 := e0.alloc (.cells #[.bool false, .int .i64 0, .int .i64 0, .int .i64 0, .int .i64 0] 24)
 have y1 := two_new w (.cells #[has, srtt, vr, rto, shift] 24) 24 [.bool false, .int .i64 0, .int .i64 0, .int .i64 0, .int .i64 0]
 rw [hB] at e1 y1
 have b1 : Below B w ((w.alloc (.cells #[has, srtt, vr, rto, shift] 24)).alloc (.cells #[.bool false, .int .i64 0, .int .i64 0, .int .i64 0, .int .i64 0] 24)) := by rw [← hB]; exact two_below _ _ _
 clear e0
 go_enter Tryz.func171, Tryz.ntmps171
 go_wp2_with (refine rt_load rfl (.tmp 4) rfl rfl e1 rfl ?_)
 obtain ⟨w1, hw1⟩ : ∃ w1, (w.alloc (.cells #[has, srtt, vr, rto, shift] 24)).alloc (.cells #[.bool false, .int .i64 0, .int .i64 0, .int .i64 0, .int .i64 0] 24) = w1 := ⟨_, rfl⟩
 rw [hw1] at e1 y1 b1 ⊢
 clear hw1
 refine (rtmay_any has srtt vr rto shift _).mono ?_
 rintro e w2 ⟨he, hb2⟩
 have e2 := e1.kept hb2; have y2 := y1.kept hb2; have b2 := b1.trans (hb2.mono (Zl e1.lt))
 clear e1 y1 b1 hb2
 have hBs : B ≤ w2.heap.size := Zl e2.lt
 cases hk : rtB ⟨has, srtt, vr, rto, shift⟩ with
 | false =>
  rw [hk] at he; subst he
  have hx := smp_no (r := ⟨has, srtt, vr, rto, shift⟩) (took := took) (least := least) (most := most) (fun k => by rw [hk] at k; exact absurd k.1 (by simp))
  have HX := Zh hx; clear hx
  go_wp2_with (refine rt_store rfl (.tmp 8) (.tmp 34) rfl rfl [.bool false, .int .i64 0, .int .i64 0, .int .i64 0, .int .i64 0] rfl y2 rfl rfl rfl ?_)
  refine rt_end (by rfl) (by rfl) (by rfl) (rt_put y2 [.bool false, .int .i64 0, .int .i64 0, .int .i64 0, .int .i64 0]) rfl rfl ?_
  rw [HX.out]
  exact ⟨rfl, b2.grown (rt_grown _ (B + 1) #[.bool false, .int .i64 0, .int .i64 0, .int .i64 0, .int .i64 0]) (Zl e2.lt) (fun k hk => by cases hk; omega)⟩
 | true =>
 rw [hk] at he; subst he
 by_cases c0 : 0 ≤ took
 case neg =>
  have hx := smp_no (r := ⟨has, srtt, vr, rto, shift⟩) (took := took) (least := least) (most := most) (fun k => by have a := k.2; unfold ArgOk at a; exact c0 a.1)
  have HX := Zh hx; clear hx
  have g0 : took < 0 := by omega
  have d0 : decide (took < 0) = true := Zt g0
  go_wp2_with (refine rt_store rfl (.tmp 8) (.tmp 34) rfl rfl [.bool false, .int .i64 0, .int .i64 0, .int .i64 0, .int .i64 0] rfl y2 rfl rfl rfl ?_)
  refine rt_end (by rfl) (by rfl) (by rfl) (rt_put y2 [.bool false, .int .i64 0, .int .i64 0, .int .i64 0, .int .i64 0]) rfl rfl ?_
  rw [HX.out]
  exact ⟨rfl, b2.grown (rt_grown _ (B + 1) #[.bool false, .int .i64 0, .int .i64 0, .int .i64 0, .int .i64 0]) (Zl e2.lt) (fun k hk => by cases hk; omega)⟩
 case pos =>
 have g0 : ¬ (took < 0) := by omega
 have d0 : decide (took < 0) = false := Zf g0
 by_cases c1 : took ≤ 1099511627776
 case neg =>
  have hx := smp_no (r := ⟨has, srtt, vr, rto, shift⟩) (took := took) (least := least) (most := most) (fun k => by have a := k.2; unfold ArgOk at a; exact c1 a.2.1)
  have HX := Zh hx; clear hx
  have g1 : 1099511627776 < took := by omega
  have d1 : decide (1099511627776 < took) = true := Zt g1
  go_wp2_with (refine rt_store rfl (.tmp 8) (.tmp 34) rfl rfl [.bool false, .int .i64 0, .int .i64 0, .int .i64 0, .int .i64 0] rfl y2 rfl rfl rfl ?_)
  refine rt_end (by rfl) (by rfl) (by rfl) (rt_put y2 [.bool false, .int .i64 0, .int .i64 0, .int .i64 0, .int .i64 0]) rfl rfl ?_
  rw [HX.out]
  exact ⟨rfl, b2.grown (rt_grown _ (B + 1) #[.bool false, .int .i64 0, .int .i64 0, .int .i64 0, .int .i64 0]) (Zl e2.lt) (fun k hk => by cases hk; omega)⟩
 case pos =>
 have g1 : ¬ (1099511627776 < took) := by omega
 have d1 : decide (1099511627776 < took) = false := Zf g1
 by_cases c2 : 1 ≤ least
 case neg =>
  have hx := smp_no (r := ⟨has, srtt, vr, rto, shift⟩) (took := took) (least := least) (most := most) (fun k => by have a := k.2; unfold ArgOk at a; exact c2 a.2.2.1)
  have HX := Zh hx; clear hx
  have g2 : least < 1 := by omega
  have d2 : decide (least < 1) = true := Zt g2
  go_wp2_with (refine rt_store rfl (.tmp 8) (.tmp 34) rfl rfl [.bool false, .int .i64 0, .int .i64 0, .int .i64 0, .int .i64 0] rfl y2 rfl rfl rfl ?_)
  refine rt_end (by rfl) (by rfl) (by rfl) (rt_put y2 [.bool false, .int .i64 0, .int .i64 0, .int .i64 0, .int .i64 0]) rfl rfl ?_
  rw [HX.out]
  exact ⟨rfl, b2.grown (rt_grown _ (B + 1) #[.bool false, .int .i64 0, .int .i64 0, .int .i64 0, .int .i64 0]) (Zl e2.lt) (fun k hk => by cases hk; omega)⟩
 case pos =>
 have g2 : ¬ (least < 1) := by omega
 have d2 : decide (least < 1) = false := Zf g2
 by_cases c3 : least ≤ most
 case neg =>
  have hx := smp_no (r := ⟨has, srtt, vr, rto, shift⟩) (took := took) (least := least) (most := most) (fun k => by have a := k.2; unfold ArgOk at a; exact c3 a.2.2.2.1)
  have HX := Zh hx; clear hx
  have g3 : most < least := by omega
  have d3 : decide (most < least) = true := Zt g3
  go_wp2_with (refine rt_store rfl (.tmp 8) (.tmp 34) rfl rfl [.bool false, .int .i64 0, .int .i64 0, .int .i64 0, .int .i64 0] rfl y2 rfl rfl rfl ?_)
  refine rt_end (by rfl) (by rfl) (by rfl) (rt_put y2 [.bool false, .int .i64 0, .int .i64 0, .int .i64 0, .int .i64 0]) rfl rfl ?_
  rw [HX.out]
  exact ⟨rfl, b2.grown (rt_grown _ (B + 1) #[.bool false, .int .i64 0, .int .i64 0, .int .i64 0, .int .i64 0]) (Zl e2.lt) (fun k hk => by cases hk; omega)⟩
 case pos =>
 have g3 : ¬ (most < least) := by omega
 have d3 : decide (most < least) = false := Zf g3
 by_cases c4 : most ≤ 1099511627776
 case neg =>
  have hx := smp_no (r := ⟨has, srtt, vr, rto, shift⟩) (took := took) (least := least) (most := most) (fun k => by have a := k.2; unfold ArgOk at a; exact c4 a.2.2.2.2)
  have HX := Zh hx; clear hx
  have g4 : 1099511627776 < most := by omega
  have d4 : decide (1099511627776 < most) = true := Zt g4
  go_wp2_with (refine rt_store rfl (.tmp 8) (.tmp 34) rfl rfl [.bool false, .int .i64 0, .int .i64 0, .int .i64 0, .int .i64 0] rfl y2 rfl rfl rfl ?_)
  refine rt_end (by rfl) (by rfl) (by rfl) (rt_put y2 [.bool false, .int .i64 0, .int .i64 0, .int .i64 0, .int .i64 0]) rfl rfl ?_
  rw [HX.out]
  exact ⟨rfl, b2.grown (rt_grown _ (B + 1) #[.bool false, .int .i64 0, .int .i64 0, .int .i64 0, .int .i64 0]) (Zl e2.lt) (fun k hk => by cases hk; omega)⟩
 case pos =>
 have g4 : ¬ (1099511627776 < most) := by omega
 have d4 : decide (1099511627776 < most) = false := Zf g4
 have hx := smp_ok (r := ⟨has, srtt, vr, rto, shift⟩) hk (took := took) (least := least) (most := most) ⟨c0, c1, c2, c3, c4⟩
 have hv := (rtB_iff _).1 hk
 have hvb := smV_bd hv c0 c1
 have hsb := smS_bd hv c0 c1
 have HM := Zh (fun w => measured_any has srtt vr rto shift took w hv c0 c1)
 clear hk hv
 obtain ⟨S, hS⟩ : ∃ S, smS ⟨has, srtt, vr, rto, shift⟩ took = S := ⟨_, rfl⟩
 obtain ⟨V, hV⟩ : ∃ V, smV ⟨has, srtt, vr, rto, shift⟩ took = V := ⟨_, rfl⟩
 have hM : smM ⟨has, srtt, vr, rto, shift⟩ took = if 4 * V < 1000 then 1000 else 4 * V := by unfold smM; rw [hV]
 rw [hM, hS, hV] at hx
 rw [hS] at hsb; rw [hV] at hvb
 rw [hS, hV] at HM
 obtain ⟨hv0, hv1⟩ := hvb; obtain ⟨hs0, hs1⟩ := hsb
 have HT := Zh (fun w => timeout_any true S V rto shift least most w hs0 hs1 hv0 hv1)
 obtain ⟨C, hC⟩ : ∃ C, clI (S + if 4 * V < 1000 then 1000 else 4 * V) least most = C := ⟨_, rfl⟩
 rw [hC] at hx HT
 have HX := Zh hx; clear hx hS hV hM hC
 go_wp2_with (refine rt_load rfl (.tmp 4) rfl rfl e2 rfl ?_)
 refine (HM.out _).mono ?_
 rintro e w3 ⟨rfl, hb3⟩
 have e3 := e2.kept hb3; have y3 := y2.kept hb3; have b3 := b2.trans (hb3.mono (Zl e2.lt))
 have e4 := rt_put e3 [.bool true, S, V, rto, shift]
 have y4 := y3.grown (rt_grown w3 B #[.bool true, S, V, rto, shift]) (by simp)
 have b4 := b3.grown (rt_grown w3 B #[.bool true, S, V, rto, shift]) (Zl e3.lt) (fun k hk => by cases hk; exact Nat.le_refl _)
 clear e2 y2 b2
 go_wp2_with (first | (refine rt_store rfl (.tmp 4) (.tmp 37) rfl rfl [.bool true, S, V, rto, shift] rfl e3 rfl rfl rfl ?_) | (refine rt_load rfl (.tmp 4) rfl rfl e4 rfl ?_))
 refine (HT.out _).mono ?_
 rintro e w5 ⟨rfl, hb5⟩
 have e5 := e4.kept hb5; have y5 := y4.kept hb5; have b5 := b4.trans (hb5.mono (Zl e4.lt))
 have x3 := e5.cell 3 rfl; have f3 := e5.free 3
 have e6 := e5.set 3 (.int .i64 C)
 simp only [List.set_cons_zero, List.set_cons_succ] at e6
 have y6 := y5.far (p := ⟨B, 3, none⟩) (by simp) (.int .i64 C)
 have b6 : Below B w (w5.setCell ⟨B, 3, none⟩ (.int .i64 C)) := Below.own b5 (Zl e5.lt) Zr _
 have x4 := e6.cell 4 rfl; have f4 := e6.free 4
 have e7 := e6.set 4 (.int .i64 0)
 simp only [List.set_cons_zero, List.set_cons_succ] at e7
 have y7 := y6.far (p := ⟨B, 4, none⟩) (by simp) (.int .i64 0)
 have b7 : Below B w ((w5.setCell ⟨B, 3, none⟩ (.int .i64 C)).setCell ⟨B, 4, none⟩ (.int .i64 0)) := Below.own b6 (Zl e6.lt) Zr _
 go_wp2_with (first | (refine rt_load rfl (.tmp 4) rfl rfl e7 rfl ?_) | (refine rt_store rfl (.tmp 8) (.tmp 44) rfl rfl [.bool true, S, V, C, .int .i64 0] rfl y7 rfl rfl rfl ?_))
 refine rt_end (by rfl) (by rfl) (by rfl) (rt_put y7 [.bool true, S, V, C, .int .i64 0]) rfl rfl ?_
 rw [HX.out]
 exact ⟨rfl, b7.grown (rt_grown _ (B + 1) _) (Zl e7.lt) (fun k hk => by cases hk; omega)⟩
end Go.Proofs.YtbijhkhkigdddaaGreat
