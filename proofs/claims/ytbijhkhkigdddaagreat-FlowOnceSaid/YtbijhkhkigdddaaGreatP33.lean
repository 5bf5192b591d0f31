/- FlL12 RaRef3 RaL2 RaL. -/
import Derived.Test.YtbijhkhkigdddaaGreatP13
import Derived.Test.YtbijhkhkigdddaaGreatP29
set_option linter.all false
set_option maxRecDepth 100000
set_option maxHeartbeats 32000000
namespace Go.Proofs.YtbijhkhkigdddaaGreat
open Go.RowKit
theorem fllose_any (n₀ : Nat) (l : List Nat) (S H : Nat) (s : Fs) (f : Fv) (c : Cf) (e : Int) (A : Option Addr) (n k : Nat) (t : Tv) (G : Option Addr) (m d : Nat) (told : List Prt) (bs mk : Int) (w : World) (h : Hg n₀ l w S H s f c e A n k t G m d told bs mk) (hok : FvOk f c) (ht : t60 t.now = true) : Calls Tryz.prog 78 #[.pointer (some ⟨H, 0, none⟩)] w fun e' w' => e' = .returned (.tuple #[]) ∧ (∃ s', Hg n₀ l w' S H s' (loseG f c told t.now) c e A n k t G m d told bs mk) ∧ Fr n₀ l w w' := by
 have hlen := h.fr.rd.len
 have c7 := h.bx.cell 7 rfl; have c0 := h.bx.cell 0 rfl
 by_cases hm : m = 0
 ·have hF : loseG f c told t.now = f := if_neg (by rw [hlen]; omega)
  have d1 : ((m : Int) == 0) = true := by simp [hm]
  have d2 : decide ((m : Int) = 0) = true := Zt (by omega)
  have d3 : (m == 0) = true := by simp [hm]
  have d4 : decide (m = 0) = true := Zt hm
  have T := Zh h
  rw [hF]
  clear hF hm h hok hlen ht
  go_enter Tryz.func78, Tryz.ntmps78
  go_wp2_with fail
  (try simp only [Exit.inBlock, Exit.then]); refine bodyPost_ret (results_none rfl _ _ _) rfl ?_
  exact ⟨rfl, ⟨s, T.out⟩, Fr.refl _ _ _⟩
 ·have d1 : ((m : Int) == 0) = false := by simp; omega
  have d2 : decide ((m : Int) = 0) = false := Zf (by omega)
  have d3 : (m == 0) = false := by simp [hm]
  have d4 : decide (m = 0) = false := Zf hm
  have hF : loseG f c told t.now = lostF f c t.now := if_pos (by rw [hlen]; omega)
  rw [hF]
  have hlo := lostF_ok hok ht
  have hlw := lostL_ok hok ht
  have hn1 : s.n1 ≤ 1000 := by have := h.st.fm.l.rd.len; have := ((smay_iff _).1 hok.l).1; omega
  obtain ⟨y0, hy0⟩ : ∃ y0, (ofR f.b t.now).1 = y0 := ⟨_, rfl⟩
  obtain ⟨x1, hx1⟩ : ∃ x1, b40 y0 = x1 := ⟨_, rfl⟩
  obtain ⟨x2, hx2⟩ : ∃ x2, b40 f.r.srtt = x2 := ⟨_, rfl⟩
  obtain ⟨sl, hsl⟩ : ∃ sl, slackR f.k x1 x2 = sl := ⟨_, rfl⟩
  have hsf : slackF f t.now = sl := by unfold slackF; rw [hy0, hx1, hx2]; exact hsl
  obtain ⟨⟨L1, nl, n2, n3⟩, hy⟩ : ∃ y, lostR f.k f.l t.now sl = y := ⟨_, rfl⟩
  obtain ⟨z, hz⟩ : ∃ z, lossR f.cw f.th false c.mss c.most = z := ⟨_, rfl⟩
  have m1 : min y0 1099511627776 = x1 := hx1
  have m2 : min f.r.srtt 1099511627776 = x2 := hx2
  have HB := Zh hy0; have HSL := Zh hsl; have HYL := Zh hy; have HZ := Zh hz; have HN := Zh hn1
  have HW := Zh (w_valid hok)
  have HCC : Hid (f.cut = true ∨ f.cut = false) := Zh (by cases f.cut <;> simp)
  have hG : ∀ g, lostF f c t.now = g → (g = if 0 < nl ∧ f.cut = false then { f with l := L1, cw := z.1, th := z.2.1, cut := true } else { f with l := L1 }) := fun g hg => by
   rw [← hg]; unfold lostF; rw [hsf, hy, hz]
  have hwz : (0 < nl ∧ f.cut = false) → FvW { f with l := L1, cw := z.1, th := z.2.1, cut := true } := fun hh => by
   have := hG _ rfl
   rw [if_pos hh] at this
   rw [← this]; exact w_valid hlo
  obtain ⟨g, hg⟩ : ∃ g, lostF f c t.now = g := ⟨_, rfl⟩
  have HG := Zh (hG g hg)
  rw [hg]
  have HWZ0 := Zh hwz
  clear hF hm hok hlen ht hlo hlw hn1 hy0 hx1 hx2 hsl hsf hy hz hG hwz hg
  go_enter Tryz.func78, Tryz.ntmps78
  go_upto_region 1 with fail
  refine kB [] 26 (fun (W : World) => Hg n₀ l W S H s f c e A n k t G m d told bs mk ∧ Fr n₀ l w W) ⟨h.drew, Fr.call (Zb).drew h.st.size h.old⟩ (fun HS => ?_)
  generalize w.drew = wd1 at HS  ⊢
  refine kU 0 HS ?_
  refine kU 1 HS ?_
  refine kU 2 HS ?_
  refine kC 3 (fun w hSw => hSw.1.bx.cell 0 rfl) HS ?_
  refine kU 4 HS ?_
  refine kU 5 HS ?_
  refine kU 6 HS ?_
  refine kS 7 rfl (sub_y (cs := (scs s f c t.now e)) (vs := [f.k.at_, f.k.end_, f.k.took, f.k.far, f.k.mixed, f.k.quarters]) is_rack (by rfl) (.tmp 16) rfl rfl (fun w hSw => hSw.1.st.bx) rfl rfl) HS ?_
  refine kU 8 HS ?_
  refine kU 9 HS ?_
  refine kU 10 HS ?_
  refine kC 11 (fun w hSw => hSw.1.bx.cell 0 rfl) HS ?_
  refine kU 14 HS ?_
  refine kU 15 HS ?_
  refine kU 16 HS ?_
  refine kC 17 (fun w hSw => hSw.1.bx.cell 0 rfl) HS ?_
  refine kU 18 HS ?_
  refine kU 19 HS ?_
  refine kU 20 HS ?_
  refine kU 21 HS ?_
  refine kC 22 (v := .int .i64 f.r.srtt) (fun w hSw => hSw.1.st.bx.cell 4 rfl) HS ?_
  refine kUv 23 (.int .i64 x2) HS ?_
  refine wpAnyV_one (k := 12) rfl (by kernel_rfl) (fun K hK => ?_)
  go_simp
  refine (flbase_any _ _ _ _ _ _ _ _ _ HS.1.st).mono ?_
  rintro e2 w2 ⟨he, hb⟩
  rw [HB.out] at he
  subst he
  refine kK hK ⟨HS.1.call hb, HS.2.trans (HS.1.frm hb)⟩ (fun HS => ?_)
  clear hK K
  refine kUv 13 (.int .i64 x1) HS ?_
  refine wpAnyV_one (k := 24) rfl (by kernel_rfl) (fun K hK => ?_)
  go_simp
  refine (rakslack_any f.k _ _ _).mono ?_
  rintro e3 w3 ⟨he, hb⟩
  rw [HSL.out] at he
  subst he
  refine kK hK ⟨HS.1.call hb, HS.2.trans (HS.1.frm hb)⟩ (fun HS => ?_)
  clear hK K
  refine kUv 25 (.int .i64 sl) HS ?_
  refine ⟨by kernel_rfl, ?_⟩
  clear h c7 d1 d2 d3 d4 c0
  go_upto_region 3 with fail
  refine kB [37] 39 (fun (W : World) => Hg n₀ l W S H s f c e A n k t G m d told bs mk ∧ Fr n₀ l w W) ⟨HS.1.drew, HS.2.trans (HS.1.frm (Zb).drew)⟩ (fun HS => ?_)
  generalize w3.drew = wd2 at HS  ⊢
  refine kU 0 HS ?_
  refine kU 1 HS ?_
  refine kU 2 HS ?_
  refine kC 3 (fun w hSw => hSw.1.bx.cell 0 rfl) HS ?_
  refine kU 4 HS ?_
  refine kU 5 HS ?_
  refine kU 6 HS ?_
  refine kC 7 (fun w hSw => hSw.1.bx.cell 0 rfl) HS ?_
  refine kU 8 HS ?_
  refine kU 9 HS ?_
  refine kU 10 HS ?_
  refine kS 11 rfl (sub_y (cs := (scs s f c t.now e)) (vs := [f.k.at_, f.k.end_, f.k.took, f.k.far, f.k.mixed, f.k.quarters]) is_rack (by rfl) (.tmp 46) rfl rfl (fun w hSw => hSw.1.st.bx) rfl rfl) HS ?_
  refine kU 12 HS ?_
  refine kU 13 HS ?_
  refine kU 14 HS ?_
  refine kC 15 (fun w hSw => hSw.1.bx.cell 0 rfl) HS ?_
  refine kU 16 HS ?_
  refine kU 17 HS ?_
  refine kU 18 HS ?_
  refine kC 19 (v := .slice s.a1 s.n1 s.c1) (fun w hSw => hSw.1.st.bx.cell 1 rfl) HS ?_
  refine kU 20 HS ?_
  refine kU 21 HS ?_
  refine kU 22 HS ?_
  refine kC 23 (fun w hSw => hSw.1.bx.cell 0 rfl) HS ?_
  refine kU 24 HS ?_
  refine kU 25 HS ?_
  refine kC 26 (v := .int .i64 t.now) (fun w hSw => hSw.1.st.bx.cell 42 rfl) HS ?_
  refine kUv 27 (.int .i64 sl) HS ?_
  refine wpAnyV_one (k := 28) rfl (by kernel_rfl) (fun K hK => ?_)
  go_simp
  refine (raklost_any f.k _ _ _ f.l _ _ _ HS.1.st.fm.l HN.out).mono ?_
  rintro e4 w4 ⟨R, rm, rd, he, hsn, hb⟩
  have hfr := HS.1.st.fresh hsn.at_ (n := rm)
  rw [HYL.out] at he hsn
  dsimp only at he hsn
  subst he
  refine kK hK ⟨HS.1.call hb, HS.2.trans (HS.1.frm hb)⟩ (fun HS => ?_)
  clear hK K
  refine kU 29 HS ?_
  refine kU 30 HS ?_
  refine kUv 31 (.int .i64 nl) HS ?_
  refine kUv 32 (.int .i64 n2) HS ?_
  refine kUv 33 (.int .i64 n3) HS ?_
  refine kU 34 HS ?_
  refine kU 35 HS ?_
  refine kU 36 HS ?_
  refine wpAnyV_end (k := 37) rfl (by kernel_rfl) (fun K hK => ?_)
  have cc := HS.1.st.bx.cell 1 rfl
  have fr := HS.1.st.bx.free 1
  have HT1 := Zh (show Hg n₀ l (w4.setCell ⟨S, 1, none⟩ (.slice R rm rd)) S H ⟨R, rm, rd, s.a2, s.n2, s.c2, s.a3, s.n3, s.c3, s.a4, s.n4, s.c4⟩ { f with l := L1 } c e A n k t G m d told bs mk ∧ Fr n₀ l w (w4.setCell ⟨S, 1, none⟩ (.slice R rm rd)) from ⟨HS.1.set 1 (.slice R rm rd) rfl (HS.1.st.fm.newL hsn.se hfr rfl rfl rfl (HW.out.withL _)), HS.2.trans (HS.1.frs 1 (.slice R rm rd))⟩)
  clear HS hb hsn hfr
  go_simp
  refine hK _ _ ?_
  clear hK K
  clear cc fr
  generalize w4.setCell ⟨S, 1, none⟩ (.slice R rm rd) = w5 at HT1 ⊢
  try simp only [Act.put, List.setIfInBounds_toArray, List.set_cons_zero, List.set_cons_succ]
  refine kN 38 ?_
  refine ⟨by kernel_rfl, ?_⟩
  have c0 := HT1.out.1.bx.cell 0 rfl
  have s31 : w5.cell? ⟨S, 31, none⟩ = some (.bool f.cut) := HT1.out.1.st.bx.cell 31 rfl
  by_cases hnl : 0 < nl
  case neg =>
   have d5 : decide (0 < nl) = false := Zf hnl
   have e1 := HG.out
   rw [if_neg (fun h => hnl h.1)] at e1
   have HE := Zh e1
   clear e1 hnl HG
   go_wp2_with fail
   go_end0
   exact ⟨rfl, ⟨_, by rw [HE.out]; exact HT1.out.1⟩, HT1.out.2⟩
  case pos =>
   have d5 : decide (0 < nl) = true := Zt hnl
   rcases HCC.out with hc | hc
   ·have e1 := HG.out
    rw [if_neg (fun h => by rw [hc] at h; cases h.2)] at e1
    rw [hc] at s31
    have HE := Zh e1
    clear e1 hnl HG hc
    go_wp2_with fail
    go_end0
    exact ⟨rfl, ⟨_, by rw [HE.out]; exact HT1.out.1⟩, HT1.out.2⟩
   ·have e1 := HG.out
    rw [if_pos ⟨hnl, hc⟩] at e1
    have HWZ := Zh (HWZ0.out ⟨hnl, hc⟩)
    rw [hc] at s31
    have HE := Zh e1
    clear e1 hnl HG hc HWZ0
    go_upto_region 5 with fail
    clear c0 s31 d5
    refine kB [35] 36 (fun (W : World) => Hg n₀ l W S H ⟨R, rm, rd, s.a2, s.n2, s.c2, s.a3, s.n3, s.c3, s.a4, s.n4, s.c4⟩ { f with l := L1 } c e A n k t G m d told bs mk ∧ Fr n₀ l w W) ⟨HT1.out.1.drew, HT1.out.2.trans (HT1.out.1.frm (Zb).drew)⟩ (fun HS => ?_)
    generalize w5.drew = wd3 at HS  ⊢
    refine kU 0 HS ?_
    refine kU 1 HS ?_
    refine kU 2 HS ?_
    refine kC 3 (fun w hSw => hSw.1.bx.cell 0 rfl) HS ?_
    refine kU 4 HS ?_
    refine kU 5 HS ?_
    refine kU 6 HS ?_
    refine kC 7 (fun w hSw => hSw.1.bx.cell 0 rfl) HS ?_
    refine kU 8 HS ?_
    refine kU 9 HS ?_
    refine kU 10 HS ?_
    refine kS 11 rfl (sub_y (cs := (scs ⟨R, rm, rd, s.a2, s.n2, s.c2, s.a3, s.n3, s.c3, s.a4, s.n4, s.c4⟩ { f with l := L1 } c t.now e)) (vs := [f.cw, f.th]) is_win (by rfl) (.tmp 96) rfl rfl (fun w hSw => hSw.1.st.bx) rfl rfl) HS ?_
    refine kU 12 HS ?_
    refine kU 13 HS ?_
    refine kU 14 HS ?_
    refine kC 15 (fun w hSw => hSw.1.bx.cell 0 rfl) HS ?_
    refine kU 16 HS ?_
    refine kU 17 HS ?_
    refine kU 18 HS ?_
    refine kC 19 (v := .int .i64 c.mss) (fun w hSw => hSw.1.st.bx.cell 33 rfl) HS ?_
    refine kU 20 HS ?_
    refine kU 21 HS ?_
    refine kU 22 HS ?_
    refine kC 23 (fun w hSw => hSw.1.bx.cell 0 rfl) HS ?_
    refine kU 24 HS ?_
    refine kU 25 HS ?_
    refine kU 26 HS ?_
    refine kC 27 (v := .int .i64 c.most) (fun w hSw => hSw.1.st.bx.cell 34 rfl) HS ?_
    refine wpAnyV_one (k := 28) rfl (by kernel_rfl) (fun K hK => ?_)
    go_simp
    refine (xwloss_any _ _ _ _ _ _).mono ?_
    rintro e6 w6 ⟨he, hb⟩
    rw [HZ.out] at he
    subst he
    refine kK hK ⟨HS.1.call hb, HS.2.trans (HS.1.frm hb)⟩ (fun HS => ?_)
    clear hK K
    refine kU 29 HS ?_
    refine kU 30 HS ?_
    refine kUv 31 (.int .i64 z.2.2) HS ?_
    refine kU 32 HS ?_
    refine kU 33 HS ?_
    refine kU 34 HS ?_
    refine wpAnyV_end (k := 35) rfl (by kernel_rfl) (fun K hK => ?_)
    refine sub_end is_win (by rfl) (.tmp 119) (.tmp 115) rfl rfl [z.1, z.2.1] rfl HS.1.st.bx (by show (27 : Nat) ≤ 44; decide) rfl rfl ?_
    have HT2 := Zh (show Hg n₀ l (w6.setCells S 25 [z.1, z.2.1]) S H ⟨R, rm, rd, s.a2, s.n2, s.c2, s.a3, s.n3, s.c3, s.a4, s.n4, s.c4⟩ { f with l := L1, cw := z.1, th := z.2.1 } c e A n k t G m d told bs mk ∧ Fr n₀ l w (w6.setCells S 25 [z.1, z.2.1]) from ⟨HS.1.cells 25 _ rfl (HS.1.st.fm.same rfl rfl rfl rfl ⟨HWZ.out.next, HWZ.out.r1, HWZ.out.r2, HWZ.out.r3, HWZ.out.r4, HWZ.out.b1, HWZ.out.b2, HWZ.out.m1, HWZ.out.m2, HWZ.out.m3, HWZ.out.m4, HWZ.out.m5, HWZ.out.d1, HWZ.out.d2, HWZ.out.k1, HWZ.out.k2, HWZ.out.k3, HWZ.out.k4, HWZ.out.k5, HWZ.out.cw, HWZ.out.th, HWZ.out.t1, HWZ.out.t2, HWZ.out.rd⟩), HS.2.trans (HS.1.frc 25 [z.1, z.2.1])⟩)
    clear HS hb
    refine hK _ _ ?_
    clear hK K
    generalize w6.setCells S 25 [z.1, z.2.1] = w7 at HT2 ⊢
    try simp only [Act.put, List.setIfInBounds_toArray, List.set_cons_zero, List.set_cons_succ]
    refine ⟨by kernel_rfl, ?_⟩
    have c0 := HT2.out.1.bx.cell 0 rfl; have s31 := HT2.out.1.st.bx.cell 31 rfl; have f31 := HT2.out.1.st.bx.free 31
    have T := Zh (show Hg n₀ l (w7.setCell ⟨S, 31, none⟩ (.bool true)) S H ⟨R, rm, rd, s.a2, s.n2, s.c2, s.a3, s.n3, s.c3, s.a4, s.n4, s.c4⟩ { f with l := L1, cw := z.1, th := z.2.1, cut := true } c e A n k t G m d told bs mk from HT2.out.1.set 31 (.bool true) rfl (HT2.out.1.st.fm.same rfl rfl rfl rfl ⟨HWZ.out.next, HWZ.out.r1, HWZ.out.r2, HWZ.out.r3, HWZ.out.r4, HWZ.out.b1, HWZ.out.b2, HWZ.out.m1, HWZ.out.m2, HWZ.out.m3, HWZ.out.m4, HWZ.out.m5, HWZ.out.d1, HWZ.out.d2, HWZ.out.k1, HWZ.out.k2, HWZ.out.k3, HWZ.out.k4, HWZ.out.k5, HWZ.out.cw, HWZ.out.th, HWZ.out.t1, HWZ.out.t2, HWZ.out.rd⟩))
    have F := Zh (HT2.out.2.trans (HT2.out.1.frs 31 (.bool true)))
    go_wp2_with fail
    go_end0
    exact ⟨rfl, ⟨_, by rw [HE.out]; exact T.out⟩, F.out⟩
theorem num_md {a d : Int} (h0 : 0 ≤ a) (h1 : a ≤ 1152921504606846976) (h2 : 0 < d) (h3 : d ≤ 1152921504606846976) : (mdOk 1000000 a d = true ∧ tell (1000000 * a / d) (mdOk 1000000 a d) = 1000000 * a / d) ∨ (mdOk 1000000 a d = false ∧ 1152921504606846976 < 1000000 * a / d) := by
 have hq : 0 ≤ 1000000 * a / d := Int.ediv_nonneg (by omega) (by omega)
 have he : mdOk 1000000 a d = inB (1000000 * a / d) := by
  unfold mdOk
  rw [(inB_iff 1000000).2 (by omega), (inB_iff a).2 (by omega), (inB_iff d).2 (by omega), Zt (by omega : 1 ≤ d)]
  rfl
 cases hb : inB (1000000 * a / d) with
 | true => left; rw [he, hb]; exact ⟨rfl, rfl⟩
 | false =>
  right
  rw [he, hb]
  refine ⟨rfl, ?_⟩
  have := (inB_not _).1 hb
  omega
theorem raret_i {a b : Int} (h : a = b) : Ending.returned (.int .i64 a) = .returned (.int .i64 b) := by rw [h]
theorem persec_any (aa dd : Int) (w : World) (h0 : 0 ≤ aa) (h1 : aa ≤ 1152921504606846976) (h2 : 0 < dd) (h3 : dd ≤ 1152921504606846976) :
  Calls Tryz.prog 181 #[aa, dd] w fun e w' => e = .returned (.int .i64 (numR aa dd)) ∧ Below w.heap.size w w' := by
 have hmd := num_md h0 h1 h2 h3
 obtain ⟨q, hq⟩ : ∃ q, 1000000 * aa / dd = q := ⟨_, rfl⟩
 have hnr : numR aa dd = if 1152921504606846976 < q then 1152921504606846976 else q := by unfold numR; rw [hq]
 rw [hq] at hmd
 obtain ⟨nr, hnre⟩ : ∃ nr, numR aa dd = nr := ⟨_, rfl⟩
 rw [hnre] at hnr
 rw [hnre]
 obtain ⟨ok, hokd⟩ : ∃ ok, mdOk 1000000 aa dd = ok := ⟨_, rfl⟩
 rw [hokd] at hmd
 have mm := md_any 1000000 aa dd w
 rw [hq, hokd] at mm
 obtain ⟨tq, htq⟩ : ∃ tq, tell q ok = tq := ⟨_, rfl⟩
 rw [htq] at mm
 have hcase : (ok = false ∧ nr = 1152921504606846976) ∨ (ok = true ∧ 1152921504606846976 < tq ∧ nr = 1152921504606846976) ∨ (ok = true ∧ tq ≤ 1152921504606846976 ∧ nr = tq) := by
  rcases hmd with ⟨g1, g3⟩ | ⟨g1, g3⟩
  ·rw [htq] at g3
   subst g3
   split at hnr
   ·exact .inr (.inl ⟨g1, by assumption, hnr⟩)
   ·exact .inr (.inr ⟨g1, by omega, hnr⟩)
  ·rw [if_pos g3] at hnr
   exact .inl ⟨g1, hnr⟩
 clear htq hmd hnr hq hnre hokd h0 h1 h2 h3
 rcases hcase with ⟨k1, k2⟩ | ⟨k1, k3, k2⟩ | ⟨k1, k3, k2⟩
 ·subst k1; subst k2
  go_enter Tryz.func181, Tryz.ntmps181
  go_wp2_with (go_at_call 184; refine mm.mono ?_; rintro e wx ⟨rfl, hb⟩)
  go_ret
  exact ⟨rfl, hb⟩
 ·subst k1; subst k2
  have d1 : ¬ tq ≤ 1152921504606846976 := by omega
  have d2 : (1152921504606846976 : Int) ≤ tq := by omega
  have d3 : (1152921504606846976 : Int) < tq := by omega
  clear k3
  go_enter Tryz.func181, Tryz.ntmps181
  go_wp2_with (go_at_call 184; refine mm.mono ?_; rintro e wx ⟨rfl, hb⟩)
  all_goals (go_ret; exact ⟨raret_i (by omega), hb⟩)
 ·subst k1; subst k2
  have d1 : nr ≤ 1152921504606846976 := by omega
  clear k3
  go_enter Tryz.func181, Tryz.ntmps181
  go_wp2_with (go_at_call 184; refine mm.mono ?_; rintro e wx ⟨rfl, hb⟩)
  all_goals (go_ret; exact ⟨raret_i (by omega), hb⟩)
theorem rajoined_any (A : Option Addr) (n c : Nat) (l : List Int) (x : Int) (w : World) (hs : Si w A n c l) (hn : n ≤ 10) (hx : Hid (W64 x)) :
  Calls Tryz.prog 182 #[.slice A n c, x] w fun e w' => ∃ R m d, e = .returned (.slice R m d) ∧ Goti w' w.heap.size 3 (.slice R m d) m (pushR l x) ∧ Below w.heap.size w w' := by
 obtain ⟨B, hB⟩ : ∃ B, w.heap.size = B := ⟨_, rfl⟩
 rw [hB]
 have HB := Zh hB
 have hl := hs.rd.len
 have hle := hs.le
 have hmax := hs.max
 have HL := Zh hl; have HS := Zh hs
 clear hl hs hB
 have hsplit : n = 10 ∨ n < 10 := by omega
 rcases hsplit with h10 | h10
 ·obtain ⟨d, rfl⟩ : ∃ d, c = d + 1 := ⟨c - 1, by omega⟩
  have hd9 : 9 ≤ d := by omega
  subst h10
  have hcut : ∀ w, (Instr.slice 30 (.slice A 10 (d + 1)) (some (.int .i64 1)) none none).run Tryz.prog w = .ok (.slice (cutI A 1 (d + 1)) 9 d) w := fun w => run_cutI Tryz.prog 30 3 Tryz.underlying30 info_int A 1 9 d w (by omega) hd9
  have sc : Si w (cutI A 1 (d + 1)) 9 d (l.drop 1) := HS.out.cut (k := 1) (m := 9) (d := d) rfl rfl
  have HC := Zh sc; clear sc
  have hm1 : max (0 : Int) 1 = 1 := rfl
  go_enter Tryz.func182, Tryz.ntmps182
  go_upto_region 2 with fail
  go_wp2_with fail
  refine (raclone_any _ 9 d _ w HC.out (by omega)).mono ?_
  rintro e w2 ⟨R, d2, rfl, hg, hb⟩
  rw [HB.out] at hg hb
  have h2 : B ≤ w2.heap.size := by have := hb.size; rw [HB.out] at this; exact this
  have HG := Zh hg; have HW := Zh hb
  clear hg hb
  go_wp2_with (at_builtin; go_loud (refine wpList_appi _ rfl (.tmp 14) (.tmp 16) 30 rfl B 3 Tryz.underlying30 info_int _ _ _ rfl (HG.out.alloc (.cells #[x] 3)) rfl (fun h => by cases h) (ri_one w2 hx.out 3) (by omega) (by simp; omega) ?_; intro v' w5 hg' hgrow' hown'))
  obtain ⟨R2, c2, hv', hs2⟩ := hg'.si
  subst hv'
  have b5 : Below B w w5 := (HW.out.alloc h2 (.cells #[x] 3)).grown hgrow' (by simp; omega) (fun k h => by have := (HG.out.row.lt k h).1; omega)
  have hpush : pushR l x = l.drop 1 ++ [x] := by rw [push_full HL.out, List.drop_append_of_le_length (by rw [HL.out]; omega)]
  rw [hpush]
  go_ret
  exact ⟨R2, _, c2, rfl, hg', b5⟩
 ·have hm0 : max (0 : Int) ((n : Int) - 9) = 0 := by omega
  have hm1 : max (0 : Int) ((n : Int) + 1 - 10) = 0 := by omega
  have hcut : ∀ w, (Instr.slice 30 (.slice A n c) (some (.int .i64 0)) none none).run Tryz.prog w = .ok (.slice (cutI A 0 c) n c) w := fun w => run_cutI Tryz.prog 30 3 Tryz.underlying30 info_int A 0 n c w (by omega) hle
  have sc : Si w (cutI A 0 c) n c (l.drop 0) := HS.out.cut (k := 0) (m := n) (d := c) rfl rfl
  rw [List.drop_zero] at sc
  have HC := Zh sc; clear sc
  have i1 : IntKind.i64.wrap ((n : Int) + 1) = (n : Int) + 1 := IntWalk.i64_in _ (by omega)
  have i2 : IntKind.i64.wrap ((n : Int) + 1 - 10) = (n : Int) + 1 - 10 := IntWalk.i64_in _ (by omega)
  go_enter Tryz.func182, Tryz.ntmps182
  go_upto_region 2 with fail
  go_wp2_with fail
  refine (raclone_any _ n c _ w HC.out (by omega)).mono ?_
  rintro e w2 ⟨R, d2, rfl, hg, hb⟩
  rw [HB.out] at hg hb
  have h2 : B ≤ w2.heap.size := by have := hb.size; rw [HB.out] at this; exact this
  have HG := Zh hg; have HW := Zh hb
  clear hg hb
  go_wp2_with (at_builtin; go_loud (refine wpList_appi _ rfl (.tmp 14) (.tmp 16) 30 rfl B 3 Tryz.underlying30 info_int _ _ _ rfl (HG.out.alloc (.cells #[x] 3)) rfl (fun h => by cases h) (ri_one w2 hx.out 3) (by omega) (by simp; omega) ?_; intro v' w5 hg' hgrow' hown'))
  obtain ⟨R2, c2, hv', hs2⟩ := hg'.si
  subst hv'
  have b5 : Below B w w5 := (HW.out.alloc h2 (.cells #[x] 3)).grown hgrow' (by simp; omega) (fun k h => by have := (HG.out.row.lt k h).1; omega)
  have hpush : pushR l x = l ++ [x] := push_room (by rw [HL.out]; exact h10)
  rw [hpush]
  go_ret
  exact ⟨R2, _, c2, rfl, hg', b5⟩
theorem win_no {n lo hi : Int} (h : rawinB n lo hi = false) : ¬ (lo ≤ n ∧ n ≤ hi) := fun k => by rw [(rawin_iff n lo hi).2 k] at h; cases h
theorem ratcame_any (total last : Int) (A : Option Addr) (n c : Nat) (l : List Int) (at_ bytes : Int) (p : Nat → Prop) (w : World) (hs : Sq w p A n c l) (hp : ∀ b, w.heap.size ≤ b → p b) :
  Calls Tryz.prog 127 #[.agg #[total, last, .slice A n c], at_, bytes] w fun e w' => TellCP p w w' e (cameR ⟨total, last, l⟩ at_ bytes) := by
 unfold TellCP
 obtain ⟨B, hB⟩ : ∃ B, w.heap.size = B := ⟨_, rfl⟩
 rw [hB] at hp ⊢
 have hl := hs.si.rd.len
 have e0 := (Bx.new w 32 [total, last, .slice A n c]).alloc (.cells #[.int .i64 0, .int .i64 0, .slice none 0 0] 32)
 have y0 := Bx.new (w.alloc (.cells #[total, last, .slice A n c] 32)) 32 [.int .i64 0, .int .i64 0, .slice none 0 0]
 rw [World.size_alloc] at y0
 rw [hB] at e0 y0
 have b0 : Below B w ((w.alloc (.cells #[total, last, .slice A n c] 32)).alloc (.cells #[.int .i64 0, .int .i64 0, .slice none 0 0] 32)) := by rw [← hB]; exact ((Zb).alloc Zr _).alloc (by simp) _
 have s0 := (hs.si.alloc (.cells #[total, last, .slice A n c] 32)).alloc (.cells #[.int .i64 0, .int .i64 0, .slice none 0 0] 32)
 obtain ⟨x, hx⟩ : ∃ x, cameR ⟨total, last, l⟩ at_ bytes = x := ⟨_, rfl⟩
 rw [hx]
 have HX := Zh hx; have HL := Zh hl; have HS := Zh hs; have HB := Zh hB; have HP := Zh hp; clear hx hl hs hp
 go_enter Tryz.func127, Tryz.ntmps127
 go_wp2_with (refine ra_load rfl (.tmp 3) rfl rfl e0 rfl ?_)
 generalize (w.alloc (.cells #[total, last, .slice A n c] 32)).alloc (.cells #[.int .i64 0, .int .i64 0, .slice none 0 0] 32) = w1 at e0 y0 b0 s0 ⊢
 clear hB
 refine (ratmay_any total last A n c l _ s0).mono ?_
 rintro e w2 ⟨rfl, hb2⟩
 have e2 := e0.kept hb2; have y2 := y0.kept hb2; have b2 := b0.trans (hb2.mono (Zl e0.lt))
 have hBs : B ≤ w2.heap.size := Zl e2.lt
 have x0 := e2.cell 0 rfl; have x1 := e2.cell 1 rfl; have x2 := e2.cell 2 rfl
 clear e0 y0 b0 s0 hb2
 cases hk : ramay ⟨total, last, l⟩ with
 | false =>
  have hx := HX.out
  rw [came_no (fun h => by have := h.1; rw [hk] at this; cases this)] at hx
  subst hx
  clear HX
  go_upto_region 2 with (go_at_call 102; refine (rawithin_any _ _ _ _).mono ?_; rintro e wx ⟨rfl, rfl⟩)
  go_wp2_with (refine ra_store rfl (.tmp 6) (.tmp 23) rfl rfl [.int .i64 0, .int .i64 0, .slice none 0 0] rfl y2 rfl rfl rfl ?_)
  refine ra_end2 (by rfl) (by rfl) (by rfl) (ra_put y2 [.int .i64 0, .int .i64 0, .slice none 0 0]) rfl rfl ?_
  exact ⟨none, 0, 0, rfl, Sq.none _ _, b2.grown (ra_grown _ (B + 1) #[.int .i64 0, .int .i64 0, .slice none 0 0]) hBs (fun k hk => by cases hk; omega)⟩
 | true =>
 have hv := (ramay_iff _).1 hk
 have t0 : 0 ≤ total := hv.t0; have t1 : total ≤ 1152921504606846976 := hv.t1; have l0 : 0 ≤ last := hv.a0; have l1 : last ≤ 1152921504606846976 := hv.a1
 have hn : n ≤ 10 := by have := hv.len; dsimp only at this; rw [HL.out] at this; exact this
 have HK := Zh hk; clear hk hv
 cases ha : rawinB at_ last 1152921504606846976 with
 | false =>
  have hx := HX.out
  rw [came_no (fun h => win_no ha ⟨h.2.1, ((t60_iff _).1 h.2.2.1).2⟩)] at hx
  subst hx
  clear HX
  go_upto_region 2 with (go_at_call 102; refine (rawithin_any _ _ _ _).mono ?_; rintro e wx ⟨rfl, rfl⟩)
  go_wp2_with (refine ra_store rfl (.tmp 6) (.tmp 23) rfl rfl [.int .i64 0, .int .i64 0, .slice none 0 0] rfl y2 rfl rfl rfl ?_)
  refine ra_end2 (by rfl) (by rfl) (by rfl) (ra_put y2 [.int .i64 0, .int .i64 0, .slice none 0 0]) rfl rfl ?_
  exact ⟨none, 0, 0, rfl, Sq.none _ _, b2.grown (ra_grown _ (B + 1) #[.int .i64 0, .int .i64 0, .slice none 0 0]) hBs (fun k hk => by cases hk; omega)⟩
 | true =>
 cases hb : rawinB bytes 0 1099511627776 with
 | false =>
  have hx := HX.out
  rw [came_no (fun h => win_no hb ⟨h.2.2.2.1, h.2.2.2.2⟩)] at hx
  subst hx
  clear HX
  go_upto_region 2 with (go_at_call 102; refine (rawithin_any _ _ _ _).mono ?_; rintro e wx ⟨rfl, rfl⟩)
  go_wp2_with (refine ra_store rfl (.tmp 6) (.tmp 23) rfl rfl [.int .i64 0, .int .i64 0, .slice none 0 0] rfl y2 rfl rfl rfl ?_)
  refine ra_end2 (by rfl) (by rfl) (by rfl) (ra_put y2 [.int .i64 0, .int .i64 0, .slice none 0 0]) rfl rfl ?_
  exact ⟨none, 0, 0, rfl, Sq.none _ _, b2.grown (ra_grown _ (B + 1) #[.int .i64 0, .int .i64 0, .slice none 0 0]) hBs (fun k hk => by cases hk; omega)⟩
 | true =>
 have va := (rawin_iff _ _ _).1 ha
 have vb := (rawin_iff _ _ _).1 hb
 obtain ⟨va0, va1⟩ := va
 obtain ⟨vb0, vb1⟩ := vb
 have hok : CameOk ⟨total, last, l⟩ at_ bytes := ⟨HK.out, va0, (t60_iff _).2 ⟨by omega, va1⟩, vb0, vb1⟩
 have HOK := Zh hok; clear hok
 have i1 : IntKind.i64.wrap (total + bytes) = total + bytes := IntWalk.i64_in _ (by omega)
 go_upto_region 3 with (go_at_call 102; refine (rawithin_any _ _ _ _).mono ?_; rintro e wx ⟨rfl, rfl⟩)
 clear ha hb
 by_cases c1 : total + bytes ≤ 1152921504606846976
 case neg =>
  have d1 : decide (1152921504606846976 < total + bytes) = true := Zt (by omega)
  have hx := HX.out
  rw [came_over HOK.out c1] at hx
  subst hx
  clear HX c1
  go_upto_region 4 with fail
  go_wp2_with (refine ra_store rfl (.tmp 6) (.tmp 29) rfl rfl [.int .i64 0, .int .i64 0, .slice none 0 0] rfl y2 rfl rfl rfl ?_)
  refine ra_end2 (by rfl) (by rfl) (by rfl) (ra_put y2 [.int .i64 0, .int .i64 0, .slice none 0 0]) rfl rfl ?_
  exact ⟨none, 0, 0, rfl, Sq.none _ _, b2.grown (ra_grown _ (B + 1) #[.int .i64 0, .int .i64 0, .slice none 0 0]) hBs (fun k hk => by cases hk; omega)⟩
 case pos =>
 have d1 : decide (1152921504606846976 < total + bytes) = false := Zf (by omega)
 have hx := HX.out
 rw [came_ok HOK.out c1] at hx
 subst hx
 clear HX
 have f0 := e2.free 0
 go_upto_region 6 with fail
 have e4 := e2.set 0 (.int .i64 (total + bytes)); simp only [List.set_cons_zero, List.set_cons_succ] at e4
 have y4 := y2.far (p := ⟨B, 0, none⟩) (by simp) (.int .i64 (total + bytes))
 have b4 := b2.grown (ra_gset w2 ⟨B, 0, none⟩ (.int .i64 (total + bytes))) hBs (fun k h => by cases h; exact Nat.le_refl B)
 clear x0 x1 x2 f0 e2 y2 b2 hBs
 generalize w2.setCell ⟨B, 0, none⟩ (.int .i64 (total + bytes)) = w4 at e4 y4 b4 ⊢
 have hBs : B ≤ w4.heap.size := Zl e4.lt
 have x1 := e4.cell 1 rfl
 have f1 := e4.free 1
 go_upto_region 7 with fail
 have e5 := e4.set 1 (.int .i64 at_); simp only [List.set_cons_zero, List.set_cons_succ] at e5
 have y5 := y4.far (p := ⟨B, 1, none⟩) (by simp) (.int .i64 at_)
 have b5 := b4.grown (ra_gset w4 ⟨B, 1, none⟩ (.int .i64 at_)) hBs (fun k h => by cases h; exact Nat.le_refl B)
 clear x1 f1 e4 y4 b4 hBs
 generalize w4.setCell ⟨B, 1, none⟩ (.int .i64 at_) = w5 at e5 y5 b5 ⊢
 have s5 : Si w5 A n c l := HS.out.si.keep (by rw [HB.out]; exact b5)
 have HZ : Hid (B + 1 < w5.heap.size) := Zh y5.lt
 have x2 := e5.cell 2 rfl
 go_wp2_with fail
 refine (raclone_any A n c l w5 s5 (by omega)).mono ?_
 rintro e w6 ⟨R, d, rfl, hg6, hb6⟩
 have e6 := e5.kept hb6; have y6 := y5.kept hb6; have b6 := b5.trans (hb6.mono (Zl e5.lt))
 have h6 : B + 1 < w5.heap.size := HZ.out
 have h66 : w5.heap.size ≤ w6.heap.size := hb6.size
 have x2 := e6.cell 2 rfl
 have f2 := e6.free 2
 have HG := Zh hg6
 clear hg6
 go_upto_region 8 with fail
 have e7 := e6.set 2 (.slice R n d); simp only [List.set_cons_zero, List.set_cons_succ] at e7
 have y7 := y6.far (p := ⟨B, 2, none⟩) (by simp) (.slice R n d)
 have b7 := b6.grown (ra_gset w6 ⟨B, 2, none⟩ (.slice R n d)) (by omega) (fun k h => by cases h; exact Nat.le_refl B)
 have g7 : Goti (w6.setCell ⟨B, 2, none⟩ (.slice R n d)) w5.heap.size 3 (.slice R n d) n (l) := ⟨HG.out.row.kept (ra_gset w6 ⟨B, 2, none⟩ (.slice R n d)) (.inr (fun h => by have := (HG.out.row.lt B h).1; omega)), HG.out.wide⟩
 have h7 : w6.heap.size = (w6.setCell ⟨B, 2, none⟩ (.slice R n d)).heap.size := by simp
 have HG7 := Zh g7
 clear x2 f2 g7 e6 y6 b6 HG
 generalize w6.setCell ⟨B, 2, none⟩ (.slice R n d) = w7 at e7 y7 b7 HG7 h7 ⊢
 go_wp2_with (first | (refine ra_load rfl (.tmp 3) rfl rfl e7 rfl ?_) | (refine ra_store rfl (.tmp 6) (.tmp 41) rfl rfl [.int .i64 (total + bytes), at_, .slice R n d] rfl y7 rfl rfl rfl ?_))
 refine ra_end2 (by rfl) (by rfl) (by rfl) (ra_put y7 [.int .i64 (total + bytes), at_, .slice R n d]) rfl rfl ?_
 have g8 : Goti (w7.setRow (B + 1) #[.int .i64 (total + bytes), at_, .slice R n d]) w5.heap.size 3 (.slice R n d) n (l) := ⟨HG7.out.row.kept (ra_grown _ (B + 1) _) (.inr (fun h => by have := (HG7.out.row.lt (B + 1) h).1; omega)), HG7.out.wide⟩
 obtain ⟨R', d', hR', hsn⟩ := g8.sni
 cases hR'
 exact ⟨R, n, d, rfl, hsn.sq (fun b hb => HP.out b (by omega)), b7.grown (ra_grown _ (B + 1) _) (by omega) (fun k hk => by cases hk; omega)⟩
theorem ratsamp_any (total last : Int) (A : Option Addr) (n c : Nat) (l : List Int) (a b : Int) (p : Nat → Prop) (w : World) (hs : Sq w p A n c l) (hp : ∀ b, w.heap.size ≤ b → p b) :
  Calls Tryz.prog 128 #[.agg #[total, last, .slice A n c], a, b] w fun e w' => TellSP p w w' e (sampR ⟨total, last, l⟩ a b) := by
 unfold TellSP
 obtain ⟨B, hB⟩ : ∃ B, w.heap.size = B := ⟨_, rfl⟩
 rw [hB] at hp ⊢
 have hl := hs.si.rd.len
 have e0 := (Bx.new w 32 [total, last, .slice A n c]).alloc (.cells #[.int .i64 0, .int .i64 0, .slice none 0 0] 32)
 have y0 := Bx.new (w.alloc (.cells #[total, last, .slice A n c] 32)) 32 [.int .i64 0, .int .i64 0, .slice none 0 0]
 rw [World.size_alloc] at y0
 rw [hB] at e0 y0
 have b0 : Below B w ((w.alloc (.cells #[total, last, .slice A n c] 32)).alloc (.cells #[.int .i64 0, .int .i64 0, .slice none 0 0] 32)) := by rw [← hB]; exact ((Zb).alloc Zr _).alloc (by simp) _
 have s0 := (hs.si.alloc (.cells #[total, last, .slice A n c] 32)).alloc (.cells #[.int .i64 0, .int .i64 0, .slice none 0 0] 32)
 obtain ⟨x, hx⟩ : ∃ x, sampR ⟨total, last, l⟩ a b = x := ⟨_, rfl⟩
 rw [hx]
 have HX := Zh hx; have HL := Zh hl; have HS := Zh hs; have HB := Zh hB; have HP := Zh hp; clear hx hl hs hp
 go_enter Tryz.func128, Tryz.ntmps128
 go_wp2_with (refine ra_load rfl (.tmp 3) rfl rfl e0 rfl ?_)
 generalize (w.alloc (.cells #[total, last, .slice A n c] 32)).alloc (.cells #[.int .i64 0, .int .i64 0, .slice none 0 0] 32) = w1 at e0 y0 b0 s0 ⊢
 clear hB
 refine (ratmay_any total last A n c l _ s0).mono ?_
 rintro e w2 ⟨rfl, hb2⟩
 have e2 := e0.kept hb2; have y2 := y0.kept hb2; have b2 := b0.trans (hb2.mono (Zl e0.lt))
 have hBs : B ≤ w2.heap.size := Zl e2.lt
 have x0 := e2.cell 0 rfl; have x1 := e2.cell 1 rfl; have x2 := e2.cell 2 rfl
 clear e0 y0 b0 s0 hb2
 cases hk : ramay ⟨total, last, l⟩ with
 | false =>
  have hx := HX.out
  rw [samp_no (fun h => by have := h.1; rw [hk] at this; cases this)] at hx
  subst hx
  clear HX
  go_upto_region 2 with (go_at_call 102; refine (rawithin_any _ _ _ _).mono ?_; rintro e wx ⟨rfl, rfl⟩)
  go_wp2_with (refine ra_store rfl (.tmp 6) (.tmp 27) rfl rfl [.int .i64 0, .int .i64 0, .slice none 0 0] rfl y2 rfl rfl rfl ?_)
  refine ra_end3 (by rfl) (by rfl) (by rfl) (by rfl) (ra_put y2 [.int .i64 0, .int .i64 0, .slice none 0 0]) rfl rfl ?_
  exact ⟨none, 0, 0, rfl, Sq.none _ _, b2.grown (ra_grown _ (B + 1) #[.int .i64 0, .int .i64 0, .slice none 0 0]) hBs (fun k hk => by cases hk; omega)⟩
 | true =>
 have hv := (ramay_iff _).1 hk
 have t0 : 0 ≤ total := hv.t0; have t1 : total ≤ 1152921504606846976 := hv.t1; have l0 : 0 ≤ last := hv.a0; have l1 : last ≤ 1152921504606846976 := hv.a1
 have hn : n ≤ 10 := by have := hv.len; dsimp only at this; rw [HL.out] at this; exact this
 have HK := Zh hk; clear hk hv
 cases ha : rawinB a 0 total with
 | false =>
  have hx := HX.out
  rw [samp_no (fun h => win_no ha ⟨h.2.1, h.2.2.1⟩)] at hx
  subst hx
  clear HX
  go_upto_region 2 with (go_at_call 102; refine (rawithin_any _ _ _ _).mono ?_; rintro e wx ⟨rfl, rfl⟩)
  go_wp2_with (refine ra_store rfl (.tmp 6) (.tmp 27) rfl rfl [.int .i64 0, .int .i64 0, .slice none 0 0] rfl y2 rfl rfl rfl ?_)
  refine ra_end3 (by rfl) (by rfl) (by rfl) (by rfl) (ra_put y2 [.int .i64 0, .int .i64 0, .slice none 0 0]) rfl rfl ?_
  exact ⟨none, 0, 0, rfl, Sq.none _ _, b2.grown (ra_grown _ (B + 1) #[.int .i64 0, .int .i64 0, .slice none 0 0]) hBs (fun k hk => by cases hk; omega)⟩
 | true =>
 cases hb : rawinB b 0 last with
 | false =>
  have hx := HX.out
  rw [samp_no (fun h => win_no hb ⟨h.2.2.2.1, h.2.2.2.2⟩)] at hx
  subst hx
  clear HX
  go_upto_region 2 with (go_at_call 102; refine (rawithin_any _ _ _ _).mono ?_; rintro e wx ⟨rfl, rfl⟩)
  go_wp2_with (refine ra_store rfl (.tmp 6) (.tmp 27) rfl rfl [.int .i64 0, .int .i64 0, .slice none 0 0] rfl y2 rfl rfl rfl ?_)
  refine ra_end3 (by rfl) (by rfl) (by rfl) (by rfl) (ra_put y2 [.int .i64 0, .int .i64 0, .slice none 0 0]) rfl rfl ?_
  exact ⟨none, 0, 0, rfl, Sq.none _ _, b2.grown (ra_grown _ (B + 1) #[.int .i64 0, .int .i64 0, .slice none 0 0]) hBs (fun k hk => by cases hk; omega)⟩
 | true =>
 have va := (rawin_iff _ _ _).1 ha
 have vb := (rawin_iff _ _ _).1 hb
 obtain ⟨va0, va1⟩ := va
 obtain ⟨vb0, vb1⟩ := vb
 have hok : SampOk ⟨total, last, l⟩ a b := ⟨HK.out, va0, va1, vb0, vb1⟩
 have HOK := Zh hok; clear hok
 go_upto_region 3 with (go_at_call 102; refine (rawithin_any _ _ _ _).mono ?_; rintro e wx ⟨rfl, rfl⟩)
 clear ha hb
 by_cases c1 : b = last
 case pos =>
  have d1 : (b == last) = true := by simpa using c1
  have hx := HX.out
  rw [samp_same HOK.out (by dsimp only; omega)] at hx
  subst hx
  clear HX c1
  go_upto_region 4 with fail
  have s5 : Si w2 A n c l := HS.out.si.keep (by rw [HB.out]; exact b2)
  have HZ : Hid (B + 1 < w2.heap.size) := Zh y2.lt
  have x2 := e2.cell 2 rfl
  go_wp2_with fail
  refine (raclone_any A n c l w2 s5 (by omega)).mono ?_
  rintro e w6 ⟨R, d, rfl, hg6, hb6⟩
  have e6 := e2.kept hb6; have y6 := y2.kept hb6; have b6 := b2.trans (hb6.mono (Zl e2.lt))
  have h6 : B + 1 < w2.heap.size := HZ.out
  have h66 : w2.heap.size ≤ w6.heap.size := hb6.size
  have x2 := e6.cell 2 rfl
  have f2 := e6.free 2
  have HG := Zh hg6
  clear hg6
  go_upto_region 5 with fail
  have e7 := e6.set 2 (.slice R n d); simp only [List.set_cons_zero, List.set_cons_succ] at e7
  have y7 := y6.far (p := ⟨B, 2, none⟩) (by simp) (.slice R n d)
  have b7 := b6.grown (ra_gset w6 ⟨B, 2, none⟩ (.slice R n d)) (by omega) (fun k h => by cases h; exact Nat.le_refl B)
  have g7 : Goti (w6.setCell ⟨B, 2, none⟩ (.slice R n d)) w2.heap.size 3 (.slice R n d) n (l) := ⟨HG.out.row.kept (ra_gset w6 ⟨B, 2, none⟩ (.slice R n d)) (.inr (fun h => by have := (HG.out.row.lt B h).1; omega)), HG.out.wide⟩
  have h7 : w6.heap.size = (w6.setCell ⟨B, 2, none⟩ (.slice R n d)).heap.size := by simp
  have HG7 := Zh g7
  clear x2 f2 g7 e6 y6 b6 HG
  generalize w6.setCell ⟨B, 2, none⟩ (.slice R n d) = w7 at e7 y7 b7 HG7 h7 ⊢
  go_wp2_with (first | (refine ra_load rfl (.tmp 3) rfl rfl e7 rfl ?_) | (refine ra_store rfl (.tmp 6) (.tmp 36) rfl rfl [total, last, .slice R n d] rfl y7 rfl rfl rfl ?_))
  refine ra_end3 (by rfl) (by rfl) (by rfl) (by rfl) (ra_put y7 [total, last, .slice R n d]) rfl rfl ?_
  have g8 : Goti (w7.setRow (B + 1) #[total, last, .slice R n d]) w2.heap.size 3 (.slice R n d) n (l) := ⟨HG7.out.row.kept (ra_grown _ (B + 1) _) (.inr (fun h => by have := (HG7.out.row.lt (B + 1) h).1; omega)), HG7.out.wide⟩
  obtain ⟨R', d', hR', hsn⟩ := g8.sni
  cases hR'
  exact ⟨R, n, d, rfl, hsn.sq (fun b hb => HP.out b (by omega)), b7.grown (ra_grown _ (B + 1) _) (by omega) (fun k hk => by cases hk; omega)⟩
 case neg =>
 have d1 : (b == last) = false := by simpa using c1
 have hx := HX.out
 rw [samp_ok HOK.out (by dsimp only; omega)] at hx
 dsimp only at hx
 obtain ⟨aa, haa⟩ : ∃ aa, total - a = aa := ⟨_, rfl⟩
 obtain ⟨dd, hdd⟩ : ∃ dd, last - b = dd := ⟨_, rfl⟩
 rw [haa, hdd] at hx
 have i1 : IntKind.i64.wrap (total - a) = aa := by rw [haa]; exact IntWalk.i64_in _ (by omega)
 have i2 : IntKind.i64.wrap (last - b) = dd := by rw [hdd]; exact IntWalk.i64_in _ (by omega)
 have pp := fun w => persec_any aa dd w (by omega) (by omega) (by omega) (by omega)
 have hnb := num_bd (a := aa) (d := dd) (by omega) (by omega)
 obtain ⟨nr, hnre⟩ : ∃ nr, numR aa dd = nr := ⟨_, rfl⟩
 rw [hnre] at hx hnb pp
 obtain ⟨nr0, nr1⟩ := hnb
 have WN : Hid (W64 nr) := Zh (by unfold W64; omega)
 subst hx
 have HA := Zh haa; have HD := Zh hdd
 clear HX c1 hnre
 go_upto_region 6 with fail
 go_upto_region 7 with (go_at_call 181; refine (pp _).mono ?_; rintro e w3 ⟨rfl, hb3⟩; have e3 := e2.kept hb3; have y3 := y2.kept hb3; have b3 := b2.trans (hb3.mono hBs); have hE3 : w2.heap.size ≤ w3.heap.size := hb3.size)
 clear x0 x1 x2 e2 y2 b2 hb3
 have s5 : Si w3 A n c l := HS.out.si.keep (by rw [HB.out]; exact b3)
 have HZ : Hid (B + 1 < w3.heap.size) := Zh y3.lt
 have x2 := e3.cell 2 rfl
 go_wp2_with fail
 refine (rajoined_any A n c l nr w3 s5 (by omega) WN).mono ?_
 rintro e w6 ⟨R, m, d, rfl, hg6, hb6⟩
 have e6 := e3.kept hb6; have y6 := y3.kept hb6; have b6 := b3.trans (hb6.mono (Zl e3.lt))
 have h6 : B + 1 < w3.heap.size := HZ.out
 have h66 : w3.heap.size ≤ w6.heap.size := hb6.size
 have x2 := e6.cell 2 rfl
 have f2 := e6.free 2
 have HG := Zh hg6
 clear hg6
 go_upto_region 8 with fail
 have e7 := e6.set 2 (.slice R m d); simp only [List.set_cons_zero, List.set_cons_succ] at e7
 have y7 := y6.far (p := ⟨B, 2, none⟩) (by simp) (.slice R m d)
 have b7 := b6.grown (ra_gset w6 ⟨B, 2, none⟩ (.slice R m d)) (by omega) (fun k h => by cases h; exact Nat.le_refl B)
 have g7 : Goti (w6.setCell ⟨B, 2, none⟩ (.slice R m d)) w3.heap.size 3 (.slice R m d) m (pushR l nr) := ⟨HG.out.row.kept (ra_gset w6 ⟨B, 2, none⟩ (.slice R m d)) (.inr (fun h => by have := (HG.out.row.lt B h).1; omega)), HG.out.wide⟩
 have h7 : w6.heap.size = (w6.setCell ⟨B, 2, none⟩ (.slice R m d)).heap.size := by simp
 have HG7 := Zh g7
 clear x2 f2 g7 e6 y6 b6 HG
 generalize w6.setCell ⟨B, 2, none⟩ (.slice R m d) = w7 at e7 y7 b7 HG7 h7 ⊢
 go_wp2_with (first | (refine ra_load rfl (.tmp 3) rfl rfl e7 rfl ?_) | (refine ra_store rfl (.tmp 6) (.tmp 51) rfl rfl [total, last, .slice R m d] rfl y7 rfl rfl rfl ?_))
 refine ra_end3 (by rfl) (by rfl) (by rfl) (by rfl) (ra_put y7 [total, last, .slice R m d]) rfl rfl ?_
 have g8 : Goti (w7.setRow (B + 1) #[total, last, .slice R m d]) w3.heap.size 3 (.slice R m d) m (pushR l nr) := ⟨HG7.out.row.kept (ra_grown _ (B + 1) _) (.inr (fun h => by have := (HG7.out.row.lt (B + 1) h).1; omega)), HG7.out.wide⟩
 obtain ⟨R', d', hR', hsn⟩ := g8.sni
 cases hR'
 exact ⟨R, m, d, rfl, hsn.sq (fun b hb => HP.out b (by omega)), b7.grown (ra_grown _ (B + 1) _) (by omega) (fun k hk => by cases hk; omega)⟩
end Go.Proofs.YtbijhkhkigdddaaGreat
