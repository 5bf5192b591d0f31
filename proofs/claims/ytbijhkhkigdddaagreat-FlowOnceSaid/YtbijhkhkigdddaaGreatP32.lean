/- FlL11. -/
import Derived.Test.YtbijhkhkigdddaaGreatP13
import Derived.Test.YtbijhkhkigdddaaGreatP31
set_option linter.all false
set_option maxRecDepth 100000
set_option maxHeartbeats 32000000
namespace Go.Proofs.YtbijhkhkigdddaaGreat
open Go.RowKit
theorem flsettle_any (n₀ : Nat) (l : List Nat) (S H : Nat) (s : Fs) (f : Fv) (c : Cf) (e : Int) (A : Option Addr) (n k : Nat) (t : Tv) (G : Option Addr) (m d : Nat) (told : List Prt) (bs mk : Int) (w : World) (h : Hg n₀ l w S H s f c e A n k t G m d told bs mk) (hok : FvOk f c) : Calls Tryz.prog 80 #[.pointer (some ⟨H, 0, none⟩)] w fun e' w' => e' = .returned (.tuple #[]) ∧ Hg n₀ l w' S H s (settleG f told) c e A n k t G m d told bs mk ∧ Fr n₀ l w w' := by
 have hlen := h.fr.rd.len
 have c7 := h.bx.cell 7 rfl; have c0 := h.bx.cell 0 rfl
 have s32 := h.st.bx.cell 32 rfl; have f32 := h.st.bx.free 32
 have HW := Zh (w_valid hok)
 by_cases hm : 0 < m
 ·have hF : settleG f told = { f with pb := false } := if_pos (by rw [hlen]; exact hm)
  have d1 : decide (0 < m) = true := Zt hm
  have d2 : decide ((0 : Int) < (m : Int)) = true := Zt (by omega)
  have T := Zh (show Hg n₀ l (w.setCell ⟨S, 32, none⟩ (.bool false)) S H s { f with pb := false } c e A n k t G m d told bs mk from h.set 32 (.bool false) rfl (h.st.fm.same rfl rfl rfl rfl ⟨HW.out.next, HW.out.r1, HW.out.r2, HW.out.r3, HW.out.r4, HW.out.b1, HW.out.b2, HW.out.m1, HW.out.m2, HW.out.m3, HW.out.m4, HW.out.m5, HW.out.d1, HW.out.d2, HW.out.k1, HW.out.k2, HW.out.k3, HW.out.k4, HW.out.k5, HW.out.cw, HW.out.th, HW.out.t1, HW.out.t2, HW.out.rd⟩))
  have F := Zh (h.frs 32 (.bool false))
  rw [hF]
  clear hF hm h hok hlen
  go_enter Tryz.func80, Tryz.ntmps80
  go_wp2_with fail
  go_end0
  exact ⟨rfl, T.out, F.out⟩
 ·have hF : settleG f told = f := if_neg (by rw [hlen]; exact hm)
  have d1 : decide (0 < m) = false := Zf hm
  have d2 : decide ((0 : Int) < (m : Int)) = false := Zf (by omega)
  have T := Zh h
  rw [hF]
  clear hF hm h hok hlen s32 f32
  go_enter Tryz.func80, Tryz.ntmps80
  go_wp2_with fail
  go_end0
  exact ⟨rfl, T.out, Fr.refl _ _ _⟩
theorem flobey_any (n₀ : Nat) (l : List Nat) (S H : Nat) (s : Fs) (f : Fv) (c : Cf) (e : Int) (A : Option Addr) (n k : Nat) (t : Tv) (G : Option Addr) (m d : Nat) (told : List Prt) (bs mk : Int) (w : World) (h : Hg n₀ l w S H s f c e A n k t G m d told bs mk) (hok : FvOk f c) (h0 : 0 ≤ mk) (b0 : 0 ≤ bs) (b1 : bs ≤ 1099511627776) : Calls Tryz.prog 77 #[.pointer (some ⟨H, 0, none⟩)] w fun e' w' => e' = .returned (.tuple #[]) ∧ Hg n₀ l w' S H s (markF f c mk bs) c e A n k t G m d told bs mk ∧ Fr n₀ l w w' := by
 have hwf := w_valid (markF_ok (n := mk) hok b0 b1)
 have c9 := h.bx.cell 9 rfl; have c0 := h.bx.cell 0 rfl
 by_cases hm : mk = 0
 ·obtain ⟨y, hy⟩ : ∃ y, slowR f.cw f.th bs c.mss c.most = y := ⟨_, rfl⟩
  have hF : markF f c mk bs = { f with cw := y.1, th := y.2.1 } := by unfold markF; rw [if_neg (by omega), if_pos hm, hy]
  rw [hF] at hwf ⊢
  have HWF := Zh hwf; have HY := Zh hy
  have d1 : (mk == 0) = true := by simp [hm]
  have d2 : decide (mk = 0) = true := Zt hm
  clear hF hwf hy hm h0 b0 b1 hok
  go_enter Tryz.func77, Tryz.ntmps77
  go_upto_region 1 with fail
  refine kB [39] 40 (fun (W : World) => Hg n₀ l W S H s f c e A n k t G m d told bs mk ∧ Fr n₀ l w W) ⟨h.drew, Fr.call (Zb).drew h.st.size h.old⟩ (fun HS => ?_)
  generalize w.drew = wd at HS  ⊢
  refine kU 0 HS ?_
  refine kU 1 HS ?_
  refine kU 2 HS ?_
  refine kC 3 (fun w hSw => hSw.1.bx.cell 0 rfl) HS ?_
  refine kU 4 HS ?_
  refine kU 5 HS ?_
  refine kU 6 HS ?_
  refine kC 7 (fun w hSw => hSw.1.bx.cell 0 rfl) HS ?_
  refine kU 8 HS ?_
  refine kU 9 HS ?_
  refine kU 10 HS ?_
  refine kS 11 rfl (sub_y (cs := (scs s f c t.now e)) (vs := [f.cw, f.th]) is_win (by rfl) (.tmp 20) rfl rfl (fun w hSw => hSw.1.st.bx) rfl rfl) HS ?_
  refine kU 12 HS ?_
  refine kU 13 HS ?_
  refine kU 14 HS ?_
  refine kC 15 (v := .int .i64 bs) (fun w hSw => hSw.1.bx.cell 8 rfl) HS ?_
  refine kU 16 HS ?_
  refine kU 17 HS ?_
  refine kU 18 HS ?_
  refine kC 19 (fun w hSw => hSw.1.bx.cell 0 rfl) HS ?_
  refine kU 20 HS ?_
  refine kU 21 HS ?_
  refine kU 22 HS ?_
  refine kC 23 (v := .int .i64 c.mss) (fun w hSw => hSw.1.st.bx.cell 33 rfl) HS ?_
  refine kU 24 HS ?_
  refine kU 25 HS ?_
  refine kU 26 HS ?_
  refine kC 27 (fun w hSw => hSw.1.bx.cell 0 rfl) HS ?_
  refine kU 28 HS ?_
  refine kU 29 HS ?_
  refine kU 30 HS ?_
  refine kC 31 (v := .int .i64 c.most) (fun w hSw => hSw.1.st.bx.cell 34 rfl) HS ?_
  refine wpAnyV_one (k := 32) rfl (by kernel_rfl) (fun K hK => ?_)
  go_simp
  refine (xwslow_any _ _ _ _ _ _).mono ?_
  rintro e2 w2 ⟨he, hb⟩
  rw [HY.out] at he
  subst he
  refine kK hK ⟨HS.1.call hb, HS.2.trans (HS.1.frm hb)⟩ (fun HS => ?_)
  clear hK K
  refine kU 33 HS ?_
  refine kU 34 HS ?_
  refine kUv 35 (.int .i64 y.2.2) HS ?_
  refine kU 36 HS ?_
  refine kU 37 HS ?_
  refine kU 38 HS ?_
  refine wpAnyV_end (k := 39) rfl (by kernel_rfl) (fun K hK => ?_)
  refine sub_end is_win (by rfl) (.tmp 47) (.tmp 43) rfl rfl [y.1, y.2.1] rfl HS.1.st.bx (by show (27 : Nat) ≤ 44; decide) rfl rfl ?_
  have HT1_0 := Zh (show Hg n₀ l (w2.setCells S 25 [y.1, y.2.1]) S H s { f with cw := y.1, th := y.2.1 } c e A n k t G m d told bs mk ∧ Fr n₀ l w (w2.setCells S 25 [y.1, y.2.1]) from ⟨HS.1.cells 25 _ rfl (HS.1.st.fm.same rfl rfl rfl rfl ⟨HWF.out.next, HWF.out.r1, HWF.out.r2, HWF.out.r3, HWF.out.r4, HWF.out.b1, HWF.out.b2, HWF.out.m1, HWF.out.m2, HWF.out.m3, HWF.out.m4, HWF.out.m5, HWF.out.d1, HWF.out.d2, HWF.out.k1, HWF.out.k2, HWF.out.k3, HWF.out.k4, HWF.out.k5, HWF.out.cw, HWF.out.th, HWF.out.t1, HWF.out.t2, HWF.out.rd⟩), HS.2.trans (HS.1.frc 25 [y.1, y.2.1])⟩)
  clear HS hb
  refine hK _ _ ?_
  clear hK K
  generalize w2.setCells S 25 [y.1, y.2.1] = we1_0 at HT1_0 ⊢
  try simp only [Act.put, List.setIfInBounds_toArray, List.set_cons_zero, List.set_cons_succ]
  refine ⟨by kernel_rfl, ?_⟩
  go_wp2_with fail
  go_end0
  exact ⟨rfl, HT1_0.out.1, HT1_0.out.2⟩
 ·have d1 : (mk == 0) = false := by simp [hm]
  have d2 : decide (mk = 0) = false := Zf hm
  have hc : f.cut = true ∨ f.cut = false := by cases f.cut <;> simp
  have s31 : w.cell? ⟨S, 31, none⟩ = some (.bool f.cut) := h.st.bx.cell 31 rfl
  rcases hc with hc | hc
  ·have hF : markF f c mk bs = f := by unfold markF; rw [if_neg (by rw [hc]; simp), if_neg hm]
   rw [hF]
   rw [hc] at s31
   have T := Zh h
   clear hF hwf h hc hm h0 b0 b1 hok
   go_enter Tryz.func77, Tryz.ntmps77
   go_wp2_with fail
   go_end0
   exact ⟨rfl, T.out, Fr.refl _ _ _⟩
  ·obtain ⟨z, hz⟩ : ∃ z, cutPart f.m = z := ⟨_, rfl⟩
   obtain ⟨y, hy⟩ : ∃ y, xcutR f.cw f.th z c.mss c.most = y := ⟨_, rfl⟩
   have hF : markF f c mk bs = { f with cw := y.1, th := y.2.1, cut := true } := by unfold markF; rw [if_pos ⟨by omega, hc⟩, hz, hy]
   rw [hF] at hwf ⊢
   rw [hc] at s31
   have HWF := Zh hwf; have HY := Zh hy
   have s15 : w.cell? ⟨S, 15, none⟩ = some (.int .i64 f.m.pt) := h.st.bx.cell 15 rfl
   obtain ⟨p, hp⟩ : ∃ p, f.m.pt = p := ⟨_, rfl⟩
   unfold cutPart at hz
   rw [hp] at s15 hz
   have hp' := Zh hp
   clear hF hwf hy hc hm h0 b0 b1 hok hp
   by_cases hpz : p = 0
   ·have d3 : (p == 0) = true := by simp [hpz]
    have d4 : decide (p = 0) = true := Zt hpz
    rw [if_pos hpz] at hz
    subst hz
    clear hpz
    go_enter Tryz.func77, Tryz.ntmps77
    go_upto_region 6 with fail
    try rw [hp]
    refine kB [36] 37 (fun (W : World) => Hg n₀ l W S H s f c e A n k t G m d told bs mk ∧ Fr n₀ l w W) ⟨h.drew, Fr.call (Zb).drew h.st.size h.old⟩ (fun HS => ?_)
    generalize w.drew = wd at HS  ⊢
    refine kU 0 HS ?_
    refine kU 1 HS ?_
    refine kU 2 HS ?_
    refine kC 3 (fun w hSw => hSw.1.bx.cell 0 rfl) HS ?_
    refine kU 4 HS ?_
    refine kU 5 HS ?_
    refine kU 6 HS ?_
    refine kC 7 (fun w hSw => hSw.1.bx.cell 0 rfl) HS ?_
    refine kU 8 HS ?_
    refine kU 9 HS ?_
    refine kU 10 HS ?_
    refine kS 11 rfl (sub_y (cs := (scs s f c t.now e)) (vs := [f.cw, f.th]) is_win (by rfl) (.tmp 80) rfl rfl (fun w hSw => hSw.1.st.bx) rfl rfl) HS ?_
    refine kUv 12 (.int .i64 1024) HS ?_
    refine kU 13 HS ?_
    refine kU 14 HS ?_
    refine kU 15 HS ?_
    refine kC 16 (fun w hSw => hSw.1.bx.cell 0 rfl) HS ?_
    refine kU 17 HS ?_
    refine kU 18 HS ?_
    refine kU 19 HS ?_
    refine kC 20 (v := .int .i64 c.mss) (fun w hSw => hSw.1.st.bx.cell 33 rfl) HS ?_
    refine kU 21 HS ?_
    refine kU 22 HS ?_
    refine kU 23 HS ?_
    refine kC 24 (fun w hSw => hSw.1.bx.cell 0 rfl) HS ?_
    refine kU 25 HS ?_
    refine kU 26 HS ?_
    refine kU 27 HS ?_
    refine kC 28 (v := .int .i64 c.most) (fun w hSw => hSw.1.st.bx.cell 34 rfl) HS ?_
    refine wpAnyV_one (k := 29) rfl (by kernel_rfl) (fun K hK => ?_)
    go_simp
    refine (xwcut_any _ _ _ _ _ _).mono ?_
    rintro e2 w2 ⟨he, hb⟩
    rw [HY.out] at he
    subst he
    refine kK hK ⟨HS.1.call hb, HS.2.trans (HS.1.frm hb)⟩ (fun HS => ?_)
    clear hK K
    refine kU 30 HS ?_
    refine kU 31 HS ?_
    refine kUv 32 (.int .i64 y.2.2) HS ?_
    refine kU 33 HS ?_
    refine kU 34 HS ?_
    refine kU 35 HS ?_
    refine wpAnyV_end (k := 36) rfl (by kernel_rfl) (fun K hK => ?_)
    refine sub_end is_win (by rfl) (.tmp 104) (.tmp 100) rfl rfl [y.1, y.2.1] rfl HS.1.st.bx (by show (27 : Nat) ≤ 44; decide) rfl rfl ?_
    have HT2_0 := Zh (show Hg n₀ l (w2.setCells S 25 [y.1, y.2.1]) S H s { f with cw := y.1, th := y.2.1 } c e A n k t G m d told bs mk ∧ Fr n₀ l w (w2.setCells S 25 [y.1, y.2.1]) from ⟨HS.1.cells 25 _ rfl (HS.1.st.fm.same rfl rfl rfl rfl ⟨HWF.out.next, HWF.out.r1, HWF.out.r2, HWF.out.r3, HWF.out.r4, HWF.out.b1, HWF.out.b2, HWF.out.m1, HWF.out.m2, HWF.out.m3, HWF.out.m4, HWF.out.m5, HWF.out.d1, HWF.out.d2, HWF.out.k1, HWF.out.k2, HWF.out.k3, HWF.out.k4, HWF.out.k5, HWF.out.cw, HWF.out.th, HWF.out.t1, HWF.out.t2, HWF.out.rd⟩), HS.2.trans (HS.1.frc 25 [y.1, y.2.1])⟩)
    clear HS hb
    refine hK _ _ ?_
    clear hK K
    generalize w2.setCells S 25 [y.1, y.2.1] = we2_0 at HT2_0 ⊢
    try simp only [Act.put, List.setIfInBounds_toArray, List.set_cons_zero, List.set_cons_succ]
    refine ⟨by kernel_rfl, ?_⟩
    clear c9 c0 s31 s15
    have c0 := HT2_0.out.1.bx.cell 0 rfl; have s31 := HT2_0.out.1.st.bx.cell 31 rfl; have f31 := HT2_0.out.1.st.bx.free 31
    have T := Zh (show Hg n₀ l (we2_0.setCell ⟨S, 31, none⟩ (.bool true)) S H s { f with cw := y.1, th := y.2.1, cut := true } c e A n k t G m d told bs mk from HT2_0.out.1.set 31 (.bool true) rfl (HT2_0.out.1.st.fm.same rfl rfl rfl rfl ⟨HWF.out.next, HWF.out.r1, HWF.out.r2, HWF.out.r3, HWF.out.r4, HWF.out.b1, HWF.out.b2, HWF.out.m1, HWF.out.m2, HWF.out.m3, HWF.out.m4, HWF.out.m5, HWF.out.d1, HWF.out.d2, HWF.out.k1, HWF.out.k2, HWF.out.k3, HWF.out.k4, HWF.out.k5, HWF.out.cw, HWF.out.th, HWF.out.t1, HWF.out.t2, HWF.out.rd⟩))
    have F := Zh (HT2_0.out.2.trans (HT2_0.out.1.frs 31 (.bool true)))
    go_wp2_with fail
    go_end0
    exact ⟨rfl, T.out, F.out⟩
   ·have d3 : (p == 0) = false := by simp [hpz]
    have d4 : decide (p = 0) = false := Zf hpz
    rw [if_neg hpz] at hz
    subst hz
    clear hpz
    go_enter Tryz.func77, Tryz.ntmps77
    go_upto_region 6 with fail
    refine kB [36] 37 (fun (W : World) => Hg n₀ l W S H s f c e A n k t G m d told bs mk ∧ Fr n₀ l w W) ⟨h.drew, Fr.call (Zb).drew h.st.size h.old⟩ (fun HS => ?_)
    generalize w.drew = wd at HS  ⊢
    refine kU 0 HS ?_
    refine kU 1 HS ?_
    refine kU 2 HS ?_
    refine kC 3 (fun w hSw => hSw.1.bx.cell 0 rfl) HS ?_
    refine kU 4 HS ?_
    refine kU 5 HS ?_
    refine kU 6 HS ?_
    refine kC 7 (fun w hSw => hSw.1.bx.cell 0 rfl) HS ?_
    refine kU 8 HS ?_
    refine kU 9 HS ?_
    refine kU 10 HS ?_
    refine kS 11 rfl (sub_y (cs := (scs s f c t.now e)) (vs := [f.cw, f.th]) is_win (by rfl) (.tmp 80) rfl rfl (fun w hSw => hSw.1.st.bx) rfl rfl) HS ?_
    refine kUv 12 (.int .i64 p) HS ?_
    refine kU 13 HS ?_
    refine kU 14 HS ?_
    refine kU 15 HS ?_
    refine kC 16 (fun w hSw => hSw.1.bx.cell 0 rfl) HS ?_
    refine kU 17 HS ?_
    refine kU 18 HS ?_
    refine kU 19 HS ?_
    refine kC 20 (v := .int .i64 c.mss) (fun w hSw => hSw.1.st.bx.cell 33 rfl) HS ?_
    refine kU 21 HS ?_
    refine kU 22 HS ?_
    refine kU 23 HS ?_
    refine kC 24 (fun w hSw => hSw.1.bx.cell 0 rfl) HS ?_
    refine kU 25 HS ?_
    refine kU 26 HS ?_
    refine kU 27 HS ?_
    refine kC 28 (v := .int .i64 c.most) (fun w hSw => hSw.1.st.bx.cell 34 rfl) HS ?_
    refine wpAnyV_one (k := 29) rfl (by kernel_rfl) (fun K hK => ?_)
    go_simp
    refine (xwcut_any _ _ _ _ _ _).mono ?_
    rintro e2 w2 ⟨he, hb⟩
    rw [HY.out] at he
    subst he
    refine kK hK ⟨HS.1.call hb, HS.2.trans (HS.1.frm hb)⟩ (fun HS => ?_)
    clear hK K
    refine kU 30 HS ?_
    refine kU 31 HS ?_
    refine kUv 32 (.int .i64 y.2.2) HS ?_
    refine kU 33 HS ?_
    refine kU 34 HS ?_
    refine kU 35 HS ?_
    refine wpAnyV_end (k := 36) rfl (by kernel_rfl) (fun K hK => ?_)
    refine sub_end is_win (by rfl) (.tmp 104) (.tmp 100) rfl rfl [y.1, y.2.1] rfl HS.1.st.bx (by show (27 : Nat) ≤ 44; decide) rfl rfl ?_
    have HT2_0 := Zh (show Hg n₀ l (w2.setCells S 25 [y.1, y.2.1]) S H s { f with cw := y.1, th := y.2.1 } c e A n k t G m d told bs mk ∧ Fr n₀ l w (w2.setCells S 25 [y.1, y.2.1]) from ⟨HS.1.cells 25 _ rfl (HS.1.st.fm.same rfl rfl rfl rfl ⟨HWF.out.next, HWF.out.r1, HWF.out.r2, HWF.out.r3, HWF.out.r4, HWF.out.b1, HWF.out.b2, HWF.out.m1, HWF.out.m2, HWF.out.m3, HWF.out.m4, HWF.out.m5, HWF.out.d1, HWF.out.d2, HWF.out.k1, HWF.out.k2, HWF.out.k3, HWF.out.k4, HWF.out.k5, HWF.out.cw, HWF.out.th, HWF.out.t1, HWF.out.t2, HWF.out.rd⟩), HS.2.trans (HS.1.frc 25 [y.1, y.2.1])⟩)
    clear HS hb
    refine hK _ _ ?_
    clear hK K
    generalize w2.setCells S 25 [y.1, y.2.1] = we2_0 at HT2_0 ⊢
    try simp only [Act.put, List.setIfInBounds_toArray, List.set_cons_zero, List.set_cons_succ]
    refine ⟨by kernel_rfl, ?_⟩
    clear c9 c0 s31 s15
    have c0 := HT2_0.out.1.bx.cell 0 rfl; have s31 := HT2_0.out.1.st.bx.cell 31 rfl; have f31 := HT2_0.out.1.st.bx.free 31
    have T := Zh (show Hg n₀ l (we2_0.setCell ⟨S, 31, none⟩ (.bool true)) S H s { f with cw := y.1, th := y.2.1, cut := true } c e A n k t G m d told bs mk from HT2_0.out.1.set 31 (.bool true) rfl (HT2_0.out.1.st.fm.same rfl rfl rfl rfl ⟨HWF.out.next, HWF.out.r1, HWF.out.r2, HWF.out.r3, HWF.out.r4, HWF.out.b1, HWF.out.b2, HWF.out.m1, HWF.out.m2, HWF.out.m3, HWF.out.m4, HWF.out.m5, HWF.out.d1, HWF.out.d2, HWF.out.k1, HWF.out.k2, HWF.out.k3, HWF.out.k4, HWF.out.k5, HWF.out.cw, HWF.out.th, HWF.out.t1, HWF.out.t2, HWF.out.rd⟩))
    have F := Zh (HT2_0.out.2.trans (HT2_0.out.1.frs 31 (.bool true)))
    go_wp2_with fail
    go_end0
    exact ⟨rfl, T.out, F.out⟩
theorem flgrow_any (n₀ : Nat) (l : List Nat) (S H : Nat) (s : Fs) (f : Fv) (c : Cf) (e : Int) (A : Option Addr) (n k : Nat) (t : Tv) (G : Option Addr) (m d : Nat) (told : List Prt) (bs mk : Int) (w : World) (h : Hg n₀ l w S H s f c e A n k t G m d told bs mk) (hwF : FvW { f with cw := (growF f c t.growth t.now).1, th := (growF f c t.growth t.now).2.1 }) : Calls Tryz.prog 135 #[.pointer (some ⟨H, 0, none⟩)] w fun e' w' => e' = .returned (.tuple #[]) ∧ Hg n₀ l w' S H s { f with cw := (growF f c t.growth t.now).1, th := (growF f c t.growth t.now).2.1 } c e A n k t G m d told bs mk ∧ Fr n₀ l w w' := by
 obtain ⟨y, hy⟩ : ∃ y, (growF f c t.growth t.now) = y := ⟨_, rfl⟩
 rw [hy] at hwF ⊢
 have HWF := Zh hwF
 have c0 := h.bx.cell 0 rfl
 have s38 : w.cell? ⟨S, 38, none⟩ = some (.bool c.vegas) := h.st.bx.cell 38 rfl
 have hc : c.vegas = false ∨ c.vegas = true := by cases c.vegas <;> simp
 clear hwF
 unfold growF at hy
 rcases hc with hc | hc
 ·rw [if_neg (by rw [hc]; simp)] at hy
  rw [hc] at s38
  have HY := Zh hy
  clear hc hy
  go_enter Tryz.func135, Tryz.ntmps135
  go_upto_region 1 with fail
  refine kB [49] 50 (fun (W : World) => Hg n₀ l W S H s f c e A n k t G m d told bs mk ∧ Fr n₀ l w W) ⟨h.drew, Fr.call (Zb).drew h.st.size h.old⟩ (fun HS => ?_)
  generalize w.drew = wd at HS  ⊢
  refine kU 0 HS ?_
  refine kU 1 HS ?_
  refine kU 2 HS ?_
  refine kC 3 (fun w hSw => hSw.1.bx.cell 0 rfl) HS ?_
  refine kU 4 HS ?_
  refine kU 5 HS ?_
  refine kU 6 HS ?_
  refine kC 7 (fun w hSw => hSw.1.bx.cell 0 rfl) HS ?_
  refine kU 8 HS ?_
  refine kU 9 HS ?_
  refine kU 10 HS ?_
  refine kS 11 rfl (sub_y (cs := (scs s f c t.now e)) (vs := [f.cw, f.th]) is_win (by rfl) (.tmp 23) rfl rfl (fun w hSw => hSw.1.st.bx) rfl rfl) HS ?_
  refine kU 12 HS ?_
  refine kU 13 HS ?_
  refine kU 14 HS ?_
  refine kU 15 HS ?_
  refine kC 16 (v := .int .i64 t.growth) (fun w hSw => hSw.1.bx.cell 6 rfl) HS ?_
  refine kU 17 HS ?_
  refine kU 18 HS ?_
  refine kU 19 HS ?_
  refine kC 20 (fun w hSw => hSw.1.bx.cell 0 rfl) HS ?_
  refine kU 21 HS ?_
  refine kU 22 HS ?_
  refine kU 23 HS ?_
  refine kC 24 (v := .int .i64 c.mss) (fun w hSw => hSw.1.st.bx.cell 33 rfl) HS ?_
  refine kUv 25 (.int .i64 (min t.growth c.mss)) HS ?_
  refine kU 26 HS ?_
  refine kU 27 HS ?_
  refine kU 28 HS ?_
  refine kC 29 (fun w hSw => hSw.1.bx.cell 0 rfl) HS ?_
  refine kU 30 HS ?_
  refine kU 31 HS ?_
  refine kU 32 HS ?_
  refine kC 33 (v := .int .i64 c.mss) (fun w hSw => hSw.1.st.bx.cell 33 rfl) HS ?_
  refine kU 34 HS ?_
  refine kU 35 HS ?_
  refine kU 36 HS ?_
  refine kC 37 (fun w hSw => hSw.1.bx.cell 0 rfl) HS ?_
  refine kU 38 HS ?_
  refine kU 39 HS ?_
  refine kU 40 HS ?_
  refine kC 41 (v := .int .i64 c.most) (fun w hSw => hSw.1.st.bx.cell 34 rfl) HS ?_
  refine wpAnyV_one (k := 42) rfl (by kernel_rfl) (fun K hK => ?_)
  go_simp
  refine (xwround_any _ _ _ _ _ _).mono ?_
  rintro e2 w2 ⟨he, hb⟩
  rw [HY.out] at he
  subst he
  refine kK hK ⟨HS.1.call hb, HS.2.trans (HS.1.frm hb)⟩ (fun HS => ?_)
  clear hK K
  refine kU 43 HS ?_
  refine kU 44 HS ?_
  refine kUv 45 (.int .i64 y.2.2) HS ?_
  refine kU 46 HS ?_
  refine kU 47 HS ?_
  refine kU 48 HS ?_
  refine wpAnyV_end (k := 49) rfl (by kernel_rfl) (fun K hK => ?_)
  refine sub_end is_win (by rfl) (.tmp 60) (.tmp 56) rfl rfl [y.1, y.2.1] rfl HS.1.st.bx (by show (27 : Nat) ≤ 44; decide) rfl rfl ?_
  have HT3_0 := Zh (show Hg n₀ l (w2.setCells S 25 [y.1, y.2.1]) S H s { f with cw := y.1, th := y.2.1 } c e A n k t G m d told bs mk ∧ Fr n₀ l w (w2.setCells S 25 [y.1, y.2.1]) from ⟨HS.1.cells 25 _ rfl (HS.1.st.fm.same rfl rfl rfl rfl ⟨HWF.out.next, HWF.out.r1, HWF.out.r2, HWF.out.r3, HWF.out.r4, HWF.out.b1, HWF.out.b2, HWF.out.m1, HWF.out.m2, HWF.out.m3, HWF.out.m4, HWF.out.m5, HWF.out.d1, HWF.out.d2, HWF.out.k1, HWF.out.k2, HWF.out.k3, HWF.out.k4, HWF.out.k5, HWF.out.cw, HWF.out.th, HWF.out.t1, HWF.out.t2, HWF.out.rd⟩), HS.2.trans (HS.1.frc 25 [y.1, y.2.1])⟩)
  clear HS hb
  refine hK _ _ ?_
  clear hK K
  generalize w2.setCells S 25 [y.1, y.2.1] = we3_0 at HT3_0 ⊢
  try simp only [Act.put, List.setIfInBounds_toArray, List.set_cons_zero, List.set_cons_succ]
  refine ⟨by kernel_rfl, ?_⟩
  go_wp2_with fail
  (try simp only [Exit.inBlock, Exit.then]); refine bodyPost_ret (results_none rfl _ _ _) rfl ?_
  exact ⟨rfl, HT3_0.out.1, HT3_0.out.2⟩
 ·rw [if_pos hc] at hy
  rw [hc] at s38
  obtain ⟨bb, hb0⟩ : ∃ bb, (ofR f.b t.now).1 = bb := ⟨_, rfl⟩
  rw [hb0] at hy
  obtain ⟨qq, hq0⟩ : ∃ qq, queueR f.cw f.r.srtt bb c.mss = qq := ⟨_, rfl⟩
  rw [hq0] at hy
  have HY := Zh hy; have HB := Zh hb0; have HQ := Zh hq0
  clear hc hy hb0 hq0
  go_enter Tryz.func135, Tryz.ntmps135
  go_upto_region 2 with fail
  refine kB [] 33 (fun (W : World) => Hg n₀ l W S H s f c e A n k t G m d told bs mk ∧ Fr n₀ l w W) ⟨h.drew, Fr.call (Zb).drew h.st.size h.old⟩ (fun HS => ?_)
  generalize w.drew = wd4 at HS  ⊢
  refine kU 0 HS ?_
  refine kU 1 HS ?_
  refine kU 2 HS ?_
  refine kC 3 (fun w hSw => hSw.1.bx.cell 0 rfl) HS ?_
  refine kU 4 HS ?_
  refine kU 5 HS ?_
  refine kU 6 HS ?_
  refine kU 7 HS ?_
  refine kC 8 (v := .int .i64 f.cw) (fun w hSw => hSw.1.st.bx.cell 25 rfl) HS ?_
  refine kU 9 HS ?_
  refine kU 10 HS ?_
  refine kU 11 HS ?_
  refine kC 12 (fun w hSw => hSw.1.bx.cell 0 rfl) HS ?_
  refine kU 13 HS ?_
  refine kU 14 HS ?_
  refine kU 15 HS ?_
  refine kU 16 HS ?_
  refine kC 17 (v := .int .i64 f.r.srtt) (fun w hSw => hSw.1.st.bx.cell 4 rfl) HS ?_
  refine kU 18 HS ?_
  refine kU 19 HS ?_
  refine kU 20 HS ?_
  refine kC 21 (fun w hSw => hSw.1.bx.cell 0 rfl) HS ?_
  refine kU 23 HS ?_
  refine kU 24 HS ?_
  refine kU 25 HS ?_
  refine kC 26 (fun w hSw => hSw.1.bx.cell 0 rfl) HS ?_
  refine kU 27 HS ?_
  refine kU 28 HS ?_
  refine kU 29 HS ?_
  refine kC 30 (v := .int .i64 c.mss) (fun w hSw => hSw.1.st.bx.cell 33 rfl) HS ?_
  refine wpAnyV_one (k := 22) rfl (by kernel_rfl) (fun K hK => ?_)
  go_simp
  refine (flbase_any _ _ _ _ _ _ _ _ _ HS.1.st).mono ?_
  rintro e2 w2 ⟨he, hb⟩
  rw [HB.out] at he
  subst he
  refine kK hK ⟨HS.1.call hb, HS.2.trans (HS.1.frm hb)⟩ (fun HS => ?_)
  clear hK K
  refine wpAnyV_one (k := 31) rfl (by kernel_rfl) (fun K hK => ?_)
  go_simp
  refine (vgqueue_any _ _ _ _ _).mono ?_
  rintro e3 w3 ⟨he, hb⟩
  rw [HQ.out] at he
  subst he
  refine kK hK ⟨HS.1.call hb, HS.2.trans (HS.1.frm hb)⟩ (fun HS => ?_)
  clear hK K
  refine kUv 32 (.int .i64 qq) HS ?_
  refine ⟨by kernel_rfl, ?_⟩
  go_upto_region 3 with fail
  refine kB [41] 42 (fun (W : World) => Hg n₀ l W S H s f c e A n k t G m d told bs mk ∧ Fr n₀ l w W) ⟨HS.1.drew, HS.2.trans (HS.1.frm (Zb).drew)⟩ (fun HS => ?_)
  generalize w3.drew = wd5 at HS  ⊢
  refine kU 0 HS ?_
  refine kU 1 HS ?_
  refine kU 2 HS ?_
  refine kC 3 (fun w hSw => hSw.1.bx.cell 0 rfl) HS ?_
  refine kU 4 HS ?_
  refine kU 5 HS ?_
  refine kU 6 HS ?_
  refine kC 7 (fun w hSw => hSw.1.bx.cell 0 rfl) HS ?_
  refine kU 8 HS ?_
  refine kU 9 HS ?_
  refine kU 10 HS ?_
  refine kS 11 rfl (sub_y (cs := (scs s f c t.now e)) (vs := [f.cw, f.th]) is_win (by rfl) (.tmp 104) rfl rfl (fun w hSw => hSw.1.st.bx) rfl rfl) HS ?_
  refine kUv 12 (.int .i64 qq) HS ?_
  refine kU 13 HS ?_
  refine kU 14 HS ?_
  refine kU 15 HS ?_
  refine kU 16 HS ?_
  refine kC 17 (v := .int .i64 t.growth) (fun w hSw => hSw.1.bx.cell 6 rfl) HS ?_
  refine kU 18 HS ?_
  refine kU 19 HS ?_
  refine kU 20 HS ?_
  refine kC 21 (fun w hSw => hSw.1.bx.cell 0 rfl) HS ?_
  refine kU 22 HS ?_
  refine kU 23 HS ?_
  refine kU 24 HS ?_
  refine kC 25 (v := .int .i64 c.mss) (fun w hSw => hSw.1.st.bx.cell 33 rfl) HS ?_
  refine kU 26 HS ?_
  refine kU 27 HS ?_
  refine kU 28 HS ?_
  refine kC 29 (fun w hSw => hSw.1.bx.cell 0 rfl) HS ?_
  refine kU 30 HS ?_
  refine kU 31 HS ?_
  refine kU 32 HS ?_
  refine kC 33 (v := .int .i64 c.most) (fun w hSw => hSw.1.st.bx.cell 34 rfl) HS ?_
  refine wpAnyV_one (k := 34) rfl (by kernel_rfl) (fun K hK => ?_)
  go_simp
  refine (vground_any _ _ _ _ _ _ _).mono ?_
  rintro e4 w4 ⟨he, hb⟩
  rw [HY.out] at he
  subst he
  refine kK hK ⟨HS.1.call hb, HS.2.trans (HS.1.frm hb)⟩ (fun HS => ?_)
  clear hK K
  refine kU 35 HS ?_
  refine kU 36 HS ?_
  refine kUv 37 (.int .i64 y.2.2) HS ?_
  refine kU 38 HS ?_
  refine kU 39 HS ?_
  refine kU 40 HS ?_
  refine wpAnyV_end (k := 41) rfl (by kernel_rfl) (fun K hK => ?_)
  refine sub_end is_win (by rfl) (.tmp 133) (.tmp 129) rfl rfl [y.1, y.2.1] rfl HS.1.st.bx (by show (27 : Nat) ≤ 44; decide) rfl rfl ?_
  have HT5_0 := Zh (show Hg n₀ l (w4.setCells S 25 [y.1, y.2.1]) S H s { f with cw := y.1, th := y.2.1 } c e A n k t G m d told bs mk ∧ Fr n₀ l w (w4.setCells S 25 [y.1, y.2.1]) from ⟨HS.1.cells 25 _ rfl (HS.1.st.fm.same rfl rfl rfl rfl ⟨HWF.out.next, HWF.out.r1, HWF.out.r2, HWF.out.r3, HWF.out.r4, HWF.out.b1, HWF.out.b2, HWF.out.m1, HWF.out.m2, HWF.out.m3, HWF.out.m4, HWF.out.m5, HWF.out.d1, HWF.out.d2, HWF.out.k1, HWF.out.k2, HWF.out.k3, HWF.out.k4, HWF.out.k5, HWF.out.cw, HWF.out.th, HWF.out.t1, HWF.out.t2, HWF.out.rd⟩), HS.2.trans (HS.1.frc 25 [y.1, y.2.1])⟩)
  clear HS hb
  refine hK _ _ ?_
  clear hK K
  generalize w4.setCells S 25 [y.1, y.2.1] = we5_0 at HT5_0 ⊢
  try simp only [Act.put, List.setIfInBounds_toArray, List.set_cons_zero, List.set_cons_succ]
  refine ⟨by kernel_rfl, ?_⟩
  go_wp2_with fail
  go_end0
  exact ⟨rfl, HT5_0.out.1, HT5_0.out.2⟩
theorem flturn_any (n₀ : Nat) (l : List Nat) (S H : Nat) (s : Fs) (f : Fv) (c : Cf) (e : Int) (A : Option Addr) (n k : Nat) (t : Tv) (G : Option Addr) (m d : Nat) (told : List Prt) (bs mk : Int) (w : World) (h : Hg n₀ l w S H s f c e A n k t G m d told bs mk) (hok : FvOk f c) (g0 : 0 ≤ t.growth) (g1 : t.growth ≤ 1048576) : Calls Tryz.prog 79 #[.pointer (some ⟨H, 0, none⟩)] w fun e' w' => e' = .returned (.tuple #[]) ∧ Hg n₀ l w' S H s (turnG f c t) c e A n k t G m d told bs mk ∧ Fr n₀ l w w' := by
 have hr := roundF_ok (now := t.now) hok g0 g1
 have hz0 := growF_ok (now := t.now) hok g0 g1
 obtain ⟨g, hg⟩ : ∃ g, turnG f c t = g := ⟨_, rfl⟩
 rw [hg]
 have HG := Zh hg
 obtain ⟨q, hq⟩ : ∃ q, decide (t.got < f.rd) = q := ⟨_, rfl⟩
 obtain ⟨x, hx⟩ : ∃ x, roundR ⟨f.m.pk, f.m.bt, f.m.ca, f.m.md, f.m.pt⟩ = x := ⟨_, rfl⟩
 obtain ⟨z, hz⟩ : ∃ z, growF f c t.growth t.now = z := ⟨_, rfl⟩
 rw [hz] at hz0
 have hxm : mmay x.1 = true := by rw [← hx]; exact hr.m
 have HW1 := Zh (w_valid (f := { f with m := x.1 }) (c := c) ⟨hok.fine, hok.l, hok.r, hok.b, hxm, hok.d, hok.k, hok.w, hok.t, hok.g, hok.next, hok.rd, hok.link⟩)
 have HWZ := Zh (w_valid (f := { f with m := x.1, cw := z.1, th := z.2.1 }) (c := c) ⟨hok.fine, hok.l, hok.r, hok.b, hxm, hok.d, hok.k, hz0.1, hok.t, hok.g, hok.next, hok.rd, hok.link⟩)
 have HX := Zh hx; have HZ := Zh hz
 have HC : Hid (f.cut = true ∨ f.cut = false) := Zh (by cases f.cut <;> simp)
 clear hg hx hz hxm hr hz0 hok g0 g1
 go_enter Tryz.func79, Tryz.ntmps79
 go_upto_region 0 with fail
 refine kB [] 14 (fun (W : World) => Hg n₀ l W S H s f c e A n k t G m d told bs mk ∧ Fr n₀ l w W) ⟨h.drew, Fr.call (Zb).drew h.st.size h.old⟩ (fun HS => ?_)
 generalize w.drew = w1 at HS  ⊢
 refine kU 0 HS ?_
 refine kU 1 HS ?_
 refine kU 2 HS ?_
 refine kU 3 HS ?_
 refine kC 4 (v := .int .i64 t.got) (fun w hSw => hSw.1.bx.cell 1 rfl) HS ?_
 refine kU 5 HS ?_
 refine kU 6 HS ?_
 refine kU 7 HS ?_
 refine kC 8 (fun w hSw => hSw.1.bx.cell 0 rfl) HS ?_
 refine kU 9 HS ?_
 refine kU 10 HS ?_
 refine kU 11 HS ?_
 refine kC 12 (v := .int .i64 f.rd) (fun w hSw => hSw.1.st.bx.cell 30 rfl) HS ?_
 refine kUv 13 (.bool q) HS ?_
 refine ⟨by kernel_rfl, ?_⟩
 clear h
 cases q with
 | true =>
  have hF : turnG f c t = f := by unfold turnG; rw [if_neg (by have := of_decide_eq_true hq; omega)]
  have HS := Zh HS
  clear hq
  go_wp2_with fail
  (try simp only [Exit.inBlock, Exit.then]); refine bodyPost_ret (results_none rfl _ _ _) rfl ?_
  exact ⟨rfl, by rw [← HG.out, hF]; exact HS.out.1, HS.out.2⟩
 | false =>
  have hF : turnG f c t = roundF f c t.growth t.now := by unfold turnG; rw [if_pos (by have := of_decide_eq_false hq; omega)]
  have HF := Zh hF
  have HS := HS
  clear hq hF
  go_upto_region 1 with fail
  refine kB [19] 20 (fun (W : World) => Hg n₀ l W S H s f c e A n k t G m d told bs mk ∧ Fr n₀ l w W) ⟨HS.1.drew, HS.2.trans (HS.1.frm (Zb).drew)⟩ (fun HS => ?_)
  generalize w1.drew = wd7 at HS  ⊢
  refine kU 0 HS ?_
  refine kU 1 HS ?_
  refine kU 2 HS ?_
  refine kC 3 (fun w hSw => hSw.1.bx.cell 0 rfl) HS ?_
  refine kU 4 HS ?_
  refine kU 5 HS ?_
  refine kU 6 HS ?_
  refine kC 7 (fun w hSw => hSw.1.bx.cell 0 rfl) HS ?_
  refine kU 8 HS ?_
  refine kU 9 HS ?_
  refine kU 10 HS ?_
  refine kS 11 rfl (sub_y (cs := (scs s f c t.now e)) (vs := [f.m.pk, f.m.bt, f.m.ca, f.m.md, f.m.pt]) is_marks (by rfl) (.tmp 27) rfl rfl (fun w hSw => hSw.1.st.bx) rfl rfl) HS ?_
  refine wpAnyV_one (k := 12) rfl (by kernel_rfl) (fun K hK => ?_)
  go_simp
  refine (mkround_any _ _ _ _ _ _).mono ?_
  rintro e2 w2 ⟨he, hb⟩
  rw [HX.out] at he
  subst he
  refine kK hK ⟨HS.1.call hb, HS.2.trans (HS.1.frm hb)⟩ (fun HS => ?_)
  clear hK K
  refine kU 13 HS ?_
  refine kU 14 HS ?_
  refine kUv 15 (.int .i64 x.2) HS ?_
  refine kU 16 HS ?_
  refine kU 17 HS ?_
  refine kU 18 HS ?_
  refine wpAnyV_end (k := 19) rfl (by kernel_rfl) (fun K hK => ?_)
  refine sub_end is_marks (by rfl) (.tmp 34) (.tmp 30) rfl rfl [x.1.pk, x.1.bt, x.1.ca, x.1.md, x.1.pt] rfl HS.1.st.bx (by show (16 : Nat) ≤ 44; decide) rfl rfl ?_
  have HT1 := Zh (show Hg n₀ l (w2.setCells S 11 [x.1.pk, x.1.bt, x.1.ca, x.1.md, x.1.pt]) S H s { f with m := x.1 } c e A n k t G m d told bs mk ∧ Fr n₀ l w (w2.setCells S 11 [x.1.pk, x.1.bt, x.1.ca, x.1.md, x.1.pt]) from ⟨HS.1.cells 11 _ rfl (HS.1.st.fm.same rfl rfl rfl rfl ⟨HW1.out.next, HW1.out.r1, HW1.out.r2, HW1.out.r3, HW1.out.r4, HW1.out.b1, HW1.out.b2, HW1.out.m1, HW1.out.m2, HW1.out.m3, HW1.out.m4, HW1.out.m5, HW1.out.d1, HW1.out.d2, HW1.out.k1, HW1.out.k2, HW1.out.k3, HW1.out.k4, HW1.out.k5, HW1.out.cw, HW1.out.th, HW1.out.t1, HW1.out.t2, HW1.out.rd⟩), HS.2.trans (HS.1.frc 11 [x.1.pk, x.1.bt, x.1.ca, x.1.md, x.1.pt])⟩)
  clear HS hb
  refine hK _ _ ?_
  clear hK K
  generalize w2.setCells S 11 [x.1.pk, x.1.bt, x.1.ca, x.1.md, x.1.pt] = w3 at HT1 ⊢
  try simp only [Act.put, List.setIfInBounds_toArray, List.set_cons_zero, List.set_cons_succ]
  refine ⟨by kernel_rfl, ?_⟩
  have c0 := HT1.out.1.bx.cell 0 rfl
  have s31 : w3.cell? ⟨S, 31, none⟩ = some (.bool f.cut) := HT1.out.1.st.bx.cell 31 rfl
  rcases HC.out with hc | hc
  ·rw [hc] at s31
   have HCC := Zh hc
   clear hc
   go_upto_region 4 with fail
   clear c0 s31
   refine kB [19, 23] 24 (fun (W : World) => Hg n₀ l W S H s { f with m := x.1 } c e A n k t G m d told bs mk ∧ Fr n₀ l w W) ⟨HT1.out.1.drew, HT1.out.2.trans (HT1.out.1.frm (Zb).drew)⟩ (fun HS => ?_)
   generalize w3.drew = wd8 at HS  ⊢
   refine kU 0 HS ?_
   refine kU 1 HS ?_
   refine kU 2 HS ?_
   refine kC 3 (fun w hSw => hSw.1.bx.cell 0 rfl) HS ?_
   refine kU 4 HS ?_
   refine kU 5 HS ?_
   refine kU 6 HS ?_
   refine kC 7 (fun w hSw => hSw.1.bx.cell 0 rfl) HS ?_
   refine kU 8 HS ?_
   refine kU 9 HS ?_
   refine kU 10 HS ?_
   refine kC 11 (fun w hSw => hSw.1.bx.cell 0 rfl) HS ?_
   refine kU 12 HS ?_
   refine kU 13 HS ?_
   refine kU 14 HS ?_
   refine kC 15 (v := .int .i64 f.next) (fun w hSw => hSw.1.st.bx.cell 2 rfl) HS ?_
   refine kU 16 HS ?_
   refine kU 17 HS ?_
   refine kU 18 HS ?_
   refine wpAnyV_end (k := 19) rfl (by kernel_rfl) (fun K hK => ?_)
   have cc := HS.1.st.bx.cell 30 rfl
   have fr := HS.1.st.bx.free 30
   have HUa := Zh (show Hg n₀ l (wd8.setCell ⟨S, 30, none⟩ (.int .i64 f.next)) S H s { f with m := x.1, rd := f.next } c e A n k t G m d told bs mk ∧ Fr n₀ l w (wd8.setCell ⟨S, 30, none⟩ (.int .i64 f.next)) from ⟨HS.1.set 30 (.int .i64 f.next) rfl (HS.1.st.fm.same rfl rfl rfl rfl ⟨HW1.out.next, HW1.out.r1, HW1.out.r2, HW1.out.r3, HW1.out.r4, HW1.out.b1, HW1.out.b2, HW1.out.m1, HW1.out.m2, HW1.out.m3, HW1.out.m4, HW1.out.m5, HW1.out.d1, HW1.out.d2, HW1.out.k1, HW1.out.k2, HW1.out.k3, HW1.out.k4, HW1.out.k5, HW1.out.cw, HW1.out.th, HW1.out.t1, HW1.out.t2, HW1.out.next⟩), HS.2.trans (HS.1.frs 30 (.int .i64 f.next))⟩)
   clear HS
   go_simp
   refine hK _ _ ?_
   clear hK K
   clear cc fr
   generalize wd8.setCell ⟨S, 30, none⟩ (.int .i64 f.next) = w3a at HUa ⊢
   try simp only [Act.put, List.setIfInBounds_toArray, List.set_cons_zero, List.set_cons_succ]
   refine kN 20 ?_
   refine kN 21 ?_
   refine kN 22 ?_
   refine wpAnyV_end (k := 23) rfl (by kernel_rfl) (fun K hK => ?_)
   have cc := HUa.out.1.st.bx.cell 31 rfl
   have fr := HUa.out.1.st.bx.free 31
   have HUb := Zh (show Hg n₀ l (w3a.setCell ⟨S, 31, none⟩ (.bool false)) S H s { f with m := x.1, rd := f.next, cut := false } c e A n k t G m d told bs mk ∧ Fr n₀ l w (w3a.setCell ⟨S, 31, none⟩ (.bool false)) from ⟨HUa.out.1.set 31 (.bool false) rfl (HUa.out.1.st.fm.same rfl rfl rfl rfl ⟨HW1.out.next, HW1.out.r1, HW1.out.r2, HW1.out.r3, HW1.out.r4, HW1.out.b1, HW1.out.b2, HW1.out.m1, HW1.out.m2, HW1.out.m3, HW1.out.m4, HW1.out.m5, HW1.out.d1, HW1.out.d2, HW1.out.k1, HW1.out.k2, HW1.out.k3, HW1.out.k4, HW1.out.k5, HW1.out.cw, HW1.out.th, HW1.out.t1, HW1.out.t2, HW1.out.next⟩), HUa.out.2.trans (HUa.out.1.frs 31 (.bool false))⟩)
   clear HUa
   go_simp
   refine hK _ _ ?_
   clear hK K
   clear cc fr
   generalize w3a.setCell ⟨S, 31, none⟩ (.bool false) = w3b at HUb ⊢
   try simp only [Act.put, List.setIfInBounds_toArray, List.set_cons_zero, List.set_cons_succ]
   refine ⟨by kernel_rfl, ?_⟩
   go_wp2_with fail
   go_end0
   refine ⟨rfl, ?_, HUb.out.2⟩
   have e1 : g = { f with m := x.1, rd := f.next, cut := false } := by
    rw [← HG.out, HF.out]
    unfold roundF
    rw [if_pos HCC.out, if_pos HCC.out, ← HX.out]
   rw [e1]
   exact HUb.out.1
  ·rw [hc] at s31
   have HCC := Zh hc
   clear hc
   go_upto_region 3 with fail
   go_wp2_with fail
   refine (flgrow_any _ _ _ _ _ _ _ _ _ _ _ _ _ _ _ _ _ _ _ HT1.out.1 (by show FvW { f with m := x.1, cw := (growF f c t.growth t.now).1, th := (growF f c t.growth t.now).2.1 }; rw [HZ.out]; exact HWZ.out)).mono ?_
   rintro e4 w4 ⟨rfl, hh, hf⟩
   have h2 : Hg n₀ l w4 S H s { f with m := x.1, cw := (growF f c t.growth t.now).1, th := (growF f c t.growth t.now).2.1 } c e A n k t G m d told bs mk := hh
   rw [HZ.out] at h2
   have HT2 := Zh (And.intro h2 (HT1.out.2.trans hf))
   clear hh h2 hf HT1 c0 s31
   go_upto_region 4 with fail
   refine kB [19, 23] 24 (fun (W : World) => Hg n₀ l W S H s { f with m := x.1, cw := z.1, th := z.2.1 } c e A n k t G m d told bs mk ∧ Fr n₀ l w W) ⟨HT2.out.1.drew, HT2.out.2.trans (HT2.out.1.frm (Zb).drew)⟩ (fun HS => ?_)
   generalize w4.drew = wd9 at HS  ⊢
   refine kU 0 HS ?_
   refine kU 1 HS ?_
   refine kU 2 HS ?_
   refine kC 3 (fun w hSw => hSw.1.bx.cell 0 rfl) HS ?_
   refine kU 4 HS ?_
   refine kU 5 HS ?_
   refine kU 6 HS ?_
   refine kC 7 (fun w hSw => hSw.1.bx.cell 0 rfl) HS ?_
   refine kU 8 HS ?_
   refine kU 9 HS ?_
   refine kU 10 HS ?_
   refine kC 11 (fun w hSw => hSw.1.bx.cell 0 rfl) HS ?_
   refine kU 12 HS ?_
   refine kU 13 HS ?_
   refine kU 14 HS ?_
   refine kC 15 (v := .int .i64 f.next) (fun w hSw => hSw.1.st.bx.cell 2 rfl) HS ?_
   refine kU 16 HS ?_
   refine kU 17 HS ?_
   refine kU 18 HS ?_
   refine wpAnyV_end (k := 19) rfl (by kernel_rfl) (fun K hK => ?_)
   have cc := HS.1.st.bx.cell 30 rfl
   have fr := HS.1.st.bx.free 30
   have HVa := Zh (show Hg n₀ l (wd9.setCell ⟨S, 30, none⟩ (.int .i64 f.next)) S H s { f with m := x.1, cw := z.1, th := z.2.1, rd := f.next } c e A n k t G m d told bs mk ∧ Fr n₀ l w (wd9.setCell ⟨S, 30, none⟩ (.int .i64 f.next)) from ⟨HS.1.set 30 (.int .i64 f.next) rfl (HS.1.st.fm.same rfl rfl rfl rfl ⟨HW1.out.next, HW1.out.r1, HW1.out.r2, HW1.out.r3, HW1.out.r4, HW1.out.b1, HW1.out.b2, HW1.out.m1, HW1.out.m2, HW1.out.m3, HW1.out.m4, HW1.out.m5, HW1.out.d1, HW1.out.d2, HW1.out.k1, HW1.out.k2, HW1.out.k3, HW1.out.k4, HW1.out.k5, HWZ.out.cw, HWZ.out.th, HW1.out.t1, HW1.out.t2, HW1.out.next⟩), HS.2.trans (HS.1.frs 30 (.int .i64 f.next))⟩)
   clear HS
   go_simp
   refine hK _ _ ?_
   clear hK K
   clear cc fr
   generalize wd9.setCell ⟨S, 30, none⟩ (.int .i64 f.next) = w4a at HVa ⊢
   try simp only [Act.put, List.setIfInBounds_toArray, List.set_cons_zero, List.set_cons_succ]
   refine kN 20 ?_
   refine kN 21 ?_
   refine kN 22 ?_
   refine wpAnyV_end (k := 23) rfl (by kernel_rfl) (fun K hK => ?_)
   have cc := HVa.out.1.st.bx.cell 31 rfl
   have fr := HVa.out.1.st.bx.free 31
   have HVb := Zh (show Hg n₀ l (w4a.setCell ⟨S, 31, none⟩ (.bool false)) S H s { f with m := x.1, cw := z.1, th := z.2.1, rd := f.next, cut := false } c e A n k t G m d told bs mk ∧ Fr n₀ l w (w4a.setCell ⟨S, 31, none⟩ (.bool false)) from ⟨HVa.out.1.set 31 (.bool false) rfl (HVa.out.1.st.fm.same rfl rfl rfl rfl ⟨HW1.out.next, HW1.out.r1, HW1.out.r2, HW1.out.r3, HW1.out.r4, HW1.out.b1, HW1.out.b2, HW1.out.m1, HW1.out.m2, HW1.out.m3, HW1.out.m4, HW1.out.m5, HW1.out.d1, HW1.out.d2, HW1.out.k1, HW1.out.k2, HW1.out.k3, HW1.out.k4, HW1.out.k5, HWZ.out.cw, HWZ.out.th, HW1.out.t1, HW1.out.t2, HW1.out.next⟩), HVa.out.2.trans (HVa.out.1.frs 31 (.bool false))⟩)
   clear HVa
   go_simp
   refine hK _ _ ?_
   clear hK K
   clear cc fr
   generalize w4a.setCell ⟨S, 31, none⟩ (.bool false) = w4b at HVb ⊢
   try simp only [Act.put, List.setIfInBounds_toArray, List.set_cons_zero, List.set_cons_succ]
   refine ⟨by kernel_rfl, ?_⟩
   go_wp2_with fail
   go_end0
   refine ⟨rfl, ?_, HVb.out.2⟩
   have e1 : g = { f with m := x.1, cw := z.1, th := z.2.1, rd := f.next, cut := false } := by
    rw [← HG.out, HF.out]
    unfold roundF
    rw [if_neg (by rw [HCC.out]; simp), if_neg (by rw [HCC.out]; simp), ← HX.out, ← HZ.out]
   rw [e1]
   exact HVb.out.1
end Go.Proofs.YtbijhkhkigdddaaGreat
