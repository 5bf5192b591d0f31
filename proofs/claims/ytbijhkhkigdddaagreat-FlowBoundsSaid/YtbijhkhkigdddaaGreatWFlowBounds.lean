/- FlowBoundsWalk. -/
import Derived.Test.YtbijhkhkigdddaaGreatP38
import Derived.Test.YtbijhkhkigdddaaGreatP39
set_option linter.all false
set_option maxRecDepth 100000
set_option maxHeartbeats 32000000
namespace Go.Proofs.YtbijhkhkigdddaaGreat.flowBounds
open Go.RowKit
theorem walk (c : Cf) (A : Option Addr) (n k : Nat) (l : List Dd) (w : World) (hc : CfW c) (hs : @Se (DdIn w) _ w A n k l) :
  Calls Tryz.prog 4 #[.agg (ccs c).toArray, .slice A n k] w fun e w' => e = .returned (.bool true) ∧ Below w.heap.size w w' := by
 obtain ⟨B, hB⟩ : ∃ B, w.heap.size = B := ⟨_, rfl⟩
 have HB := Zh hB
 have y1 := Bx.new w 42 (ccs c)
 rw [hB] at y1 ⊢
 have b1 : Below B w (w.alloc (.cells (ccs c).toArray 42)) := by rw [← hB]; exact (Zb).alloc Zr _
 have HC := Zh hc; have HS0 := Zh hs
 clear hc hs
 go_enter Tryz.func4, Tryz.ntmps4
 go_upto_region 1 with fail
 generalize w.alloc (.cells (ccs c).toArray 42) = w1 at y1 b1 ⊢
 clear hB
 have z1 : B ≤ w1.heap.size := Zl y1.lt
 go_wp2_with fail
 refine (flawake_any _).mono ?_
 rintro e w2 ⟨rfl, hb⟩
 have y2 := y1.kept hb
 have b2 := b1.trans (hb.mono z1); have z2 := Zn z1 hb.size
 clear y1 b1 z1 hb
 by_cases hm : 60 < n
 ·have d1 : decide ((60 : Int) < (n : Int)) = true := Zt (by omega)
  clear hm
  go_wp2_with fail
  go_ret
  exact ⟨rfl, b2⟩
 have d1 : decide ((60 : Int) < (n : Int)) = false := Zf (by omega)
 go_upto_region 4 with fail
 go_wp2_with (refine cf_load rfl (.tmp 2) rfl rfl y2 rfl ?_)
 refine (flnew_any (fun _ => True) c _ (fun _ _ => trivial) HC.out).mono ?_
 rintro e w3 ⟨s, he, f3, hb⟩
 clear d1
 have y3 := y2.kept hb
 have b3 := b2.trans (hb.mono z2); have z3 := Zn z2 hb.size
 clear y2 b2 z2 hb
 cases hk : fineB c with
 | false =>
  rw [new_err hk] at he f3
  dsimp only at he f3
  subst he
  have hb := fw1_below w3 (fcs s zfv)
  go_upto_region 5 with (refine fl_store rfl (.tmp 6) (.tmp 24) rfl rfl (fcs s zfv) rfl (fz1 w3) rfl rfl rfl ?_)
  change Code.wp _ _ _ _ (fw1 w3 (fcs s zfv))
  generalize fw1 w3 (fcs s zfv) = w4 at hb ⊢
  have y4 := y3.kept hb
  have b4 := b3.trans (hb.mono z3); have z4 := Zn z3 hb.size
  clear y3 b3 z3 hb
  go_wp2_with (refine cf_load rfl (.tmp 2) rfl rfl y4 rfl ?_)
  refine (flfine_any c _ HC.out).mono ?_
  rw [hk]
  rintro e w5 ⟨rfl, hb⟩
  have b5 := b4.trans (hb.mono z4)
  go_wp2_with fail
  go_ret
  exact ⟨rfl, b5⟩
 | true =>
 have hok := (fineB_iff c).1 hk
 rw [new_yes hk] at he f3
 dsimp only at he f3
 subst he
 have x4 := fw1_box w3 (fcs s (newFv c))
 have hb := fw1_below w3 (fcs s (newFv c))
 have f4 := (f3.off Zr).keep hb
 go_upto_region 5 with (refine fl_store rfl (.tmp 6) (.tmp 24) rfl rfl (fcs s (newFv c)) rfl (fz1 w3) rfl rfl rfl ?_)
 change Code.wp _ _ _ _ (fw1 w3 (fcs s (newFv c)))
 generalize fw1 w3 (fcs s (newFv c)) = w4 at x4 f4 hb ⊢
 have zP : B < w3.heap.size := y3.lt
 have y4 := y3.kept hb
 have b4 := b3.trans (hb.mono z3); have z4 := Zn z3 hb.size
 clear y3 b3 z3 hb
 obtain ⟨P, hP⟩ : ∃ P, w3.heap.size = P := ⟨_, rfl⟩
 rw [hP] at x4 f4 zP ⊢
 have HOK := Zh hok
 have HNF := Zh (new_ok hok)
 have HNM := Zh hm
 clear hP f3 hk hok hm
 go_wp2_with fail
 go_loopw [8] (fun i wr => ∃ (j : Nat) (s : Fs) (f : Fv), j ≤ n ∧ i = .int .i64 (j : Int) ∧ Bx wr P 40 (fcs s f) ∧ Bx wr B 42 (ccs c) ∧ FlM wr (Off [P]) s f ∧ Hid (FvOk f c) ∧ Below B w wr) (fun i _ => n - (intOf i).toNat)
 case atStart => exact ⟨0, s, newFv c, Nat.zero_le _, rfl, x4, y4, f4, HNF, b4⟩
 clear x4 f4 y4 b4 z4 HNF
 case round =>
  obtain ⟨j, s, f, hj, rfl, er, yr, fr, hfo, br⟩ := hrel
  by_cases hlt : j < n
  case neg =>
   obtain rfl : j = n := by omega
   have dlt : decide (j < j) = false := Zf (by omega)
   have dlt' : decide ((j : Int) < (j : Int)) = false := Zf (by omega)
   go_wp2_with fail
   go_ret
   exact ⟨rfl, br⟩
  case pos =>
  have dlt : decide (j < n) = true := Zt hlt
  have dlt' : decide ((j : Int) < (n : Int)) = true := Zt (by omega)
  have hbr0 : Below w.heap.size w wr := by rw [HB.out]; exact br
  have rr := HS0.out.keep hbr0
  have hkn := rr.le; have hkm := rr.max
  unfold maxLen at hkm
  obtain ⟨d, hd⟩ : ∃ d : Dd, @ge (DdIn w) _ l j = d := ⟨_, rfl⟩
  have hdok : DdW d ∧ Ss w d.A d.m d.k d.t.sk := by rw [← hd]; exact rr.rd.ok _ (ge_mem (by rw [rr.rd.len]; exact hlt))
  obtain ⟨bb, o, hA, hbl, _⟩ := rr.rd.at_ (by omega)
  subst hA
  have HGE := Zh hd; have HDW := Zh hdok.1
  have sr := hdok.2.keep hbr0
  have hc3 := (dd_cells rr hlt hd).2.2.2.1
  have i2 : IntKind.i64.wrap ((j : Int) + 1) = (j : Int) + 1 := IntWalk.i64_in _ (by omega)
  clear hd hdok hbl hbr0
  go_upto_region 10 with fail
  by_cases h20 : 20 < d.m
  ·have d2 : decide ((20 : Int) < (d.m : Int)) = true := Zt (by omega)
   go_wp2_with fail
   go_ret
   exact ⟨rfl, br⟩
  have d2 : decide ((20 : Int) < (d.m : Int)) = false := Zf (by omega)
  go_upto_region 12 with fail
  have HM5 : Hid (d.m ≤ 1000) := Zh (by omega)
  clear d2 hc3 h20
  go_cut [9] (fun s9 wx => ∃ (P2 : Nat) (s2 : Fs), s9 = .pointer (some ⟨P2, 0, none⟩) ∧ Hid (Bx wx P2 40 (fcs s2 (doneF f c d)) ∧ Bx wx P 40 (fcs s f) ∧ Bx wx B 42 (ccs c) ∧ FlM wx (Off [P]) s f ∧ FlM wx (Off [P]) s2 (doneF f c d) ∧ Below B w wx ∧ P ≠ P2))
  case first =>
   have zB := Zl zP
   refine tB 8 9 (fun (W : World) => Bx W P 40 (fcs s f) ∧ Bx W B 42 (ccs c) ∧ W.cell? ⟨bb, o + j * 8, none⟩ = some (.int .i64 d.kd) ∧ W.cell? ⟨bb, o + j * 8 + 1, none⟩ = some (.int .i64 d.n) ∧ W.cell? ⟨bb, o + j * 8 + 2, none⟩ = some (.int .i64 d.t.got) ∧ W.cell? ⟨bb, o + j * 8 + 3, none⟩ = some (.slice d.A d.m d.k) ∧ W.cell? ⟨bb, o + j * 8 + 4, none⟩ = some (.int .i64 d.t.ace) ∧ W.cell? ⟨bb, o + j * 8 + 5, none⟩ = some (.int .u32 d.t.ce) ∧ W.cell? ⟨bb, o + j * 8 + 6, none⟩ = some (.int .i64 d.t.now) ∧ W.cell? ⟨bb, o + j * 8 + 7, none⟩ = some (.int .i64 d.t.growth)) ⟨er.drew, yr.drew, dd_cells (rr.keep (Zb).drew) hlt HGE.out⟩ (fun HS => ?_)
   have e_0 := er.drew; have y_0 := yr.drew; have f_0 := fr.drew; have b_0 := br.drew; have r_0 := rr.keep (Below.refl _ wr).drew; have k_0 := sr.keep (Below.refl _ wr).drew
   generalize wr.drew = wd at HS e_0 y_0 f_0 b_0 r_0 k_0 ⊢
   refine tS 0 rfl (fl_yields (by rfl) (.tmp 6) rfl rfl (fcs s f) rfl 40 (fun W hW => hW.1)) HS ?_
   refine tS 1 rfl (cf_yields (by rfl) (.tmp 2) rfl rfl (ccs c) rfl 42 (fun W hW => hW.2.1)) HS ?_
   refine tU 2 HS ?_
   refine tU 3 HS ?_
   refine tU 4 HS ?_
   refine wpAnyT_take (i := 5) (v := .agg (dcs d).toArray) rfl (by kernel_rfl) (fun _ _ _ h => h) (Or.inl ⟨by rfl, fun w hSw => by obtain ⟨_, _, c0, c1, c2, c3, c4, c5, c6, c7⟩ := hSw; go_simp; rfl⟩) HS ?_
   try simp only [Act.put, List.setIfInBounds_toArray, List.set_cons_zero, List.set_cons_succ]
   refine wpAnyT_two (k1 := 6) (k2 := 7) rfl rfl (by kernel_rfl) (by decide) (by decide) (fun K hK => ?_) (fun K hK => ?_)
   ·go_simp
    refine (fldone_any (Off [P]) s f c d _ (off_new (by intro x hx; simp only [List.mem_cons, List.mem_nil_iff, or_false] at hx; subst hx; exact e_0.lt)) f_0 HC.out HDW.out k_0 HM5.out).mono ?_
    rintro e wt ⟨s2, he, hf2, hbt⟩
    subst he
    have E_1 := e_0.kept hbt
    have Y_1 := y_0.kept hbt
    have FM_1 := f_0.keep hbt
    have BL_1 := b_0.trans (hbt.mono (Zn zB (Zl e_0.lt)))
    have RS_1 := r_0.keep hbt
    have SK_1 := k_0.keep hbt
    have G_1 := hf2
    have HS : (fun (W : World) => Bx W P 40 (fcs s f) ∧ Bx W B 42 (ccs c) ∧ W.cell? ⟨bb, o + j * 8, none⟩ = some (.int .i64 d.kd) ∧ W.cell? ⟨bb, o + j * 8 + 1, none⟩ = some (.int .i64 d.n) ∧ W.cell? ⟨bb, o + j * 8 + 2, none⟩ = some (.int .i64 d.t.got) ∧ W.cell? ⟨bb, o + j * 8 + 3, none⟩ = some (.slice d.A d.m d.k) ∧ W.cell? ⟨bb, o + j * 8 + 4, none⟩ = some (.int .i64 d.t.ace) ∧ W.cell? ⟨bb, o + j * 8 + 5, none⟩ = some (.int .u32 d.t.ce) ∧ W.cell? ⟨bb, o + j * 8 + 6, none⟩ = some (.int .i64 d.t.now) ∧ W.cell? ⟨bb, o + j * 8 + 7, none⟩ = some (.int .i64 d.t.growth)) _ := ⟨E_1, Y_1, dd_cells RS_1 hlt HGE.out⟩
    refine kP hK HS ?_
    clear hK K
    clear e_0 y_0 f_0 b_0 r_0 k_0 hbt
    refine tO 7 (fun K hK => ?_)
    go_simp
    have E_2 := E_1.alloc (.cells (fcs zfs zfv).toArray 40)
    have Y_2 := Y_1.alloc (.cells (fcs zfs zfv).toArray 40)
    have FM_2 := (FM_1.later Zr).alloc (.cells (fcs zfs zfv).toArray 40)
    have BL_2 := BL_1.alloc (Zn zB (Zl E_1.lt)) (.cells (fcs zfs zfv).toArray 40)
    have RS_2 := RS_1.alloc (.cells (fcs zfs zfv).toArray 40)
    have SK_2 := SK_1.alloc (.cells (fcs zfs zfv).toArray 40)
    have G_2 := (G_1.later Zr).alloc (.cells (fcs zfs zfv).toArray 40)
    have N1_2 := Bx.new wt 40 (fcs zfs zfv)
    have nP2e_2 := E_1.lt
    have HS : (fun (W : World) => Bx W P 40 (fcs s f) ∧ Bx W B 42 (ccs c) ∧ W.cell? ⟨bb, o + j * 8, none⟩ = some (.int .i64 d.kd) ∧ W.cell? ⟨bb, o + j * 8 + 1, none⟩ = some (.int .i64 d.n) ∧ W.cell? ⟨bb, o + j * 8 + 2, none⟩ = some (.int .i64 d.t.got) ∧ W.cell? ⟨bb, o + j * 8 + 3, none⟩ = some (.slice d.A d.m d.k) ∧ W.cell? ⟨bb, o + j * 8 + 4, none⟩ = some (.int .i64 d.t.ace) ∧ W.cell? ⟨bb, o + j * 8 + 5, none⟩ = some (.int .u32 d.t.ce) ∧ W.cell? ⟨bb, o + j * 8 + 6, none⟩ = some (.int .i64 d.t.now) ∧ W.cell? ⟨bb, o + j * 8 + 7, none⟩ = some (.int .i64 d.t.growth)) _ := ⟨E_2, Y_2, dd_cells RS_2 hlt HGE.out⟩
    refine kW hK (wt.alloc (.cells (fcs zfs zfv).toArray 40)) HS ?_
    clear hK K HS
    clear E_1 Y_1 FM_1 BL_1 RS_1 SK_1 G_1
    obtain ⟨P2, hP2⟩ : ∃ P, wt.heap.size = P := ⟨_, rfl⟩
    rw [hP2] at N1_2 nP2e_2 FM_2 G_2 ⊢
    generalize wt.alloc (.cells (fcs zfs zfv).toArray 40) = wz2 at E_2 Y_2 FM_2 BL_2 RS_2 SK_2 G_2 N1_2 ⊢
    clear hP2
    have nP2e := nP2e_2
    have HS : (fun (W : World) => Bx W P 40 (fcs s f) ∧ Bx W B 42 (ccs c) ∧ W.cell? ⟨bb, o + j * 8, none⟩ = some (.int .i64 d.kd) ∧ W.cell? ⟨bb, o + j * 8 + 1, none⟩ = some (.int .i64 d.n) ∧ W.cell? ⟨bb, o + j * 8 + 2, none⟩ = some (.int .i64 d.t.got) ∧ W.cell? ⟨bb, o + j * 8 + 3, none⟩ = some (.slice d.A d.m d.k) ∧ W.cell? ⟨bb, o + j * 8 + 4, none⟩ = some (.int .i64 d.t.ace) ∧ W.cell? ⟨bb, o + j * 8 + 5, none⟩ = some (.int .u32 d.t.ce) ∧ W.cell? ⟨bb, o + j * 8 + 6, none⟩ = some (.int .i64 d.t.now) ∧ W.cell? ⟨bb, o + j * 8 + 7, none⟩ = some (.int .i64 d.t.growth)) _ := ⟨E_2, Y_2, dd_cells RS_2 hlt HGE.out⟩
    refine ⟨by kernel_rfl, ?_⟩
    simp only [List.drop_succ_cons, List.drop_zero]
    go_wp2_with (refine fl_store rfl (.tmp 9) (.tmp 51) rfl rfl (fcs s2 (doneF f c d)) rfl N1_2 rfl rfl rfl ?_)
    go_meet
    have g1 := fl_grown wz2 P2 (fcs s2 (doneF f c d)).toArray
    case rel => exact ⟨P2, s2, rfl, Zh ⟨fl_put N1_2 _, E_2.grown g1 (fun e => by cases e; omega), Y_2.grown g1 (fun e => by cases e; omega), (FM_2.grown g1 (off_row (by simp))).imp (Off.imp (by simp)), (G_2.grown g1 (off_row (by simp))).imp (Off.imp (by simp)), BL_2.grown g1 (by have := E_2.lt; omega) (fun k hk => by cases hk; omega), by omega⟩⟩
   ·go_simp
    have E_3 := e_0.alloc (.cells (fcs zfs zfv).toArray 40)
    have Y_3 := y_0.alloc (.cells (fcs zfs zfv).toArray 40)
    have FM_3 := (f_0.later Zr).alloc (.cells (fcs zfs zfv).toArray 40)
    have BL_3 := b_0.alloc (Zn zB (Zl e_0.lt)) (.cells (fcs zfs zfv).toArray 40)
    have RS_3 := r_0.alloc (.cells (fcs zfs zfv).toArray 40)
    have SK_3 := k_0.alloc (.cells (fcs zfs zfv).toArray 40)
    have N1_3 := Bx.new wd 40 (fcs zfs zfv)
    have nP2e_3 := e_0.lt
    have HS : (fun (W : World) => Bx W P 40 (fcs s f) ∧ Bx W B 42 (ccs c) ∧ W.cell? ⟨bb, o + j * 8, none⟩ = some (.int .i64 d.kd) ∧ W.cell? ⟨bb, o + j * 8 + 1, none⟩ = some (.int .i64 d.n) ∧ W.cell? ⟨bb, o + j * 8 + 2, none⟩ = some (.int .i64 d.t.got) ∧ W.cell? ⟨bb, o + j * 8 + 3, none⟩ = some (.slice d.A d.m d.k) ∧ W.cell? ⟨bb, o + j * 8 + 4, none⟩ = some (.int .i64 d.t.ace) ∧ W.cell? ⟨bb, o + j * 8 + 5, none⟩ = some (.int .u32 d.t.ce) ∧ W.cell? ⟨bb, o + j * 8 + 6, none⟩ = some (.int .i64 d.t.now) ∧ W.cell? ⟨bb, o + j * 8 + 7, none⟩ = some (.int .i64 d.t.growth)) _ := ⟨E_3, Y_3, dd_cells RS_3 hlt HGE.out⟩
    refine kW hK (wd.alloc (.cells (fcs zfs zfv).toArray 40)) HS ?_
    clear hK K HS
    clear e_0 y_0 f_0 b_0 r_0 k_0
    obtain ⟨P2, hP2⟩ : ∃ P, wd.heap.size = P := ⟨_, rfl⟩
    rw [hP2] at N1_3 nP2e_3 FM_3 ⊢
    generalize wd.alloc (.cells (fcs zfs zfv).toArray 40) = wz3 at E_3 Y_3 FM_3 BL_3 RS_3 SK_3 N1_3 ⊢
    clear hP2
    have nP2e := nP2e_3
    have HS : (fun (W : World) => Bx W P 40 (fcs s f) ∧ Bx W B 42 (ccs c) ∧ W.cell? ⟨bb, o + j * 8, none⟩ = some (.int .i64 d.kd) ∧ W.cell? ⟨bb, o + j * 8 + 1, none⟩ = some (.int .i64 d.n) ∧ W.cell? ⟨bb, o + j * 8 + 2, none⟩ = some (.int .i64 d.t.got) ∧ W.cell? ⟨bb, o + j * 8 + 3, none⟩ = some (.slice d.A d.m d.k) ∧ W.cell? ⟨bb, o + j * 8 + 4, none⟩ = some (.int .i64 d.t.ace) ∧ W.cell? ⟨bb, o + j * 8 + 5, none⟩ = some (.int .u32 d.t.ce) ∧ W.cell? ⟨bb, o + j * 8 + 6, none⟩ = some (.int .i64 d.t.now) ∧ W.cell? ⟨bb, o + j * 8 + 7, none⟩ = some (.int .i64 d.t.growth)) _ := ⟨E_3, Y_3, dd_cells RS_3 hlt HGE.out⟩
    refine tO 6 (fun K hK => ?_)
    go_simp
    refine (fldone_any (Off [P2, P]) s f c d _ (off_new (by intro x hx; simp only [List.mem_cons, List.mem_nil_iff, or_false] at hx; rcases hx with rfl | rfl <;> first | exact N1_3.lt | exact E_3.lt)) FM_3 HC.out HDW.out SK_3 HM5.out).mono ?_
    rintro e wt ⟨s2, he, hf2, hbt⟩
    subst he
    have E_4 := E_3.kept hbt
    have Y_4 := Y_3.kept hbt
    have FM_4 := FM_3.keep hbt
    have BL_4 := BL_3.trans (hbt.mono (Zn zB (Zl E_3.lt)))
    have RS_4 := RS_3.keep hbt
    have SK_4 := SK_3.keep hbt
    have N1_4 := N1_3.kept hbt
    have G_4 := hf2
    have HS : (fun (W : World) => Bx W P 40 (fcs s f) ∧ Bx W B 42 (ccs c) ∧ W.cell? ⟨bb, o + j * 8, none⟩ = some (.int .i64 d.kd) ∧ W.cell? ⟨bb, o + j * 8 + 1, none⟩ = some (.int .i64 d.n) ∧ W.cell? ⟨bb, o + j * 8 + 2, none⟩ = some (.int .i64 d.t.got) ∧ W.cell? ⟨bb, o + j * 8 + 3, none⟩ = some (.slice d.A d.m d.k) ∧ W.cell? ⟨bb, o + j * 8 + 4, none⟩ = some (.int .i64 d.t.ace) ∧ W.cell? ⟨bb, o + j * 8 + 5, none⟩ = some (.int .u32 d.t.ce) ∧ W.cell? ⟨bb, o + j * 8 + 6, none⟩ = some (.int .i64 d.t.now) ∧ W.cell? ⟨bb, o + j * 8 + 7, none⟩ = some (.int .i64 d.t.growth)) _ := ⟨E_4, Y_4, dd_cells RS_4 hlt HGE.out⟩
    refine kP hK HS ?_
    clear hK K
    clear E_3 Y_3 FM_3 BL_3 RS_3 SK_3 N1_3 hbt
    refine ⟨by kernel_rfl, ?_⟩
    simp only [List.drop_succ_cons, List.drop_zero]
    go_wp2_with (refine fl_store rfl (.tmp 9) (.tmp 51) rfl rfl (fcs s2 (doneF f c d)) rfl N1_4 rfl rfl rfl ?_)
    go_meet
    have g1 := fl_grown wt P2 (fcs s2 (doneF f c d)).toArray
    case rel => exact ⟨P2, s2, rfl, Zh ⟨fl_put N1_4 _, E_4.grown g1 (fun e => by cases e; omega), Y_4.grown g1 (fun e => by cases e; omega), (FM_4.grown g1 (off_row (by simp))).imp (Off.imp (by simp)), (G_4.grown g1 (off_row (by simp))).imp (Off.imp (by simp)), BL_4.grown g1 (by have := E_4.lt; omega) (fun k hk => by cases hk; omega), by omega⟩⟩
  case rest =>
  obtain ⟨P2, s2, rfl, HH⟩ := hcut
  obtain ⟨v5, e5, y5, f5, g5, b5, hne⟩ := HH.out
  clear HH er yr fr br rr sr hkn hkm
  have hbd := done_bd (c := c) d hfo.out
  obtain ⟨g, hg⟩ : ∃ g, doneF f c d = g := ⟨_, rfl⟩
  rw [hg] at v5 g5 hbd
  have hmay := (fmay_iff g c).2 hbd.ok
  have hwf := (xmB_iff _ _ _ _).1 hfo.out.w
  have hwg := (xmB_iff _ _ _ _).1 hbd.ok.w
  have hm0 := HOK.out.m0; have hm1 := HOK.out.m1; have hw1 := HOK.out.w1
  have q1 : decide (g.cw < c.mss) = false := Zf (by omega)
  have q2 : decide (c.most < g.cw) = false := Zf (by omega)
  have q3 : decide (1073741824 < g.cw) = false := Zf (by omega)
  have q4 : decide (g.next < f.next) = false := Zf (by have := hbd.next; omega)
  have i1 : IntKind.i64.wrap (g.cw - f.cw) = g.cw - f.cw := IntWalk.i64_in _ (by omega)
  have HBD := Zh hbd; have HMAY := Zh hmay
  have z5 : B ≤ wc.heap.size := Zl y5.lt
  have hne' := Zh hne
  clear hg hbd hmay hwf hwg hm0 hm1 hw1 hne
  go_upto_region 13 with fail
  go_wp2_with (first | (refine fl_load rfl (.tmp 9) rfl rfl v5 rfl ?_) | (refine cf_load rfl (.tmp 2) rfl rfl y5 rfl ?_))
  refine (flmay_any _ s2 g c _ g5 HC.out).mono ?_
  rw [HMAY.out]
  rintro e w6 ⟨rfl, hb⟩
  have v6 := v5.kept hb
  have e6 := e5.kept hb
  have y6 := y5.kept hb
  have f6 := f5.keep hb
  have g6 := g5.keep hb
  have b6 := b5.trans (hb.mono z5); have z6 := Zn z5 hb.size
  clear v5 e5 y5 f5 g5 b5 z5 hb
  have k25 : w6.cell? ⟨P2, 25, none⟩ = some (.int .i64 g.cw) := v6.cell 25 rfl
  have m0 : w6.cell? ⟨B, 0, none⟩ = some (.int .i64 c.mss) := y6.cell 0 rfl
  have m1 : w6.cell? ⟨B, 1, none⟩ = some (.int .i64 c.most) := y6.cell 1 rfl
  go_upto_region 15 with fail
  clear k25 m0 m1
  have l1 : w6.cell? ⟨P, 1, none⟩ = some (.slice s.a1 s.n1 s.c1) := e6.cell 1 rfl
  go_wp2_with fail
  refine (stflight_any _ _ _ f.l _ f6.l).mono ?_
  rintro e w7 ⟨rfl, hb⟩
  clear l1
  have v7 := v6.kept hb
  have e7 := e6.kept hb
  have y7 := y6.kept hb
  have f7 := f6.keep hb
  have g7 := g6.keep hb
  have b7 := b6.trans (hb.mono z6); have z7 := Zn z6 hb.size
  clear v6 e6 y6 f6 g6 b6 z6 hb
  have l1 : w7.cell? ⟨P2, 1, none⟩ = some (.slice s2.a1 s2.n1 s2.c1) := v7.cell 1 rfl
  go_wp2_with fail
  refine (stflight_any _ _ _ g.l _ g7.l).mono ?_
  rintro e w8 ⟨rfl, hb⟩
  clear l1
  have v8 := v7.kept hb
  have e8 := e7.kept hb
  have y8 := y7.kept hb
  have f8 := f7.keep hb
  have g8 := g7.keep hb
  have b8 := b7.trans (hb.mono z7); have z8 := Zn z7 hb.size
  clear v7 e7 y7 f7 g7 b7 z7 hb
  obtain ⟨fa, hfa⟩ : ∃ x, flightR f.l = x := ⟨_, rfl⟩
  obtain ⟨ga, hga⟩ : ∃ x, flightR g.l = x := ⟨_, rfl⟩
  have hfly := HBD.out.fly; have hlate := HBD.out.late
  rw [hfa, hga] at hfly hlate
  rw [hfa, hga]
  have HFL := Zh hfly; have HLA := Zh hlate
  clear hfa hga hfly hlate
  have rr8 := HS0.out.keep (show Below w.heap.size w w8 by rw [HB.out]; exact b8)
  have k2 : w8.cell? ⟨P2, 2, none⟩ = some (.int .i64 g.next) := v8.cell 2 rfl
  have k25 : w8.cell? ⟨P2, 25, none⟩ = some (.int .i64 g.cw) := v8.cell 25 rfl
  have l2 : w8.cell? ⟨P, 2, none⟩ = some (.int .i64 f.next) := e8.cell 2 rfl
  have l25 : w8.cell? ⟨P, 25, none⟩ = some (.int .i64 f.cw) := e8.cell 25 rfl
  have l26 : w8.cell? ⟨P, 26, none⟩ = some (.int .i64 f.th) := e8.cell 26 rfl
  have m0 : w8.cell? ⟨B, 0, none⟩ = some (.int .i64 c.mss) := y8.cell 0 rfl
  have d0 := (dd_cells rr8 hlt HGE.out).1
  have hkn := rr8.le; have hkm := rr8.max
  unfold maxLen at hkm
  clear rr8
  go_upto_region 17 with fail
  go_cut [113] (fun s113 wx => s113 = .bool false ∧ wx = w8)
  case first =>
   by_cases h1 : ga ≤ fa
   ·have p1 : decide (fa < ga) = false := Zf (by omega)
    clear h1
    cases p3 : decide (2 ≤ d.kd) with
    | true =>
     go_wp2_with fail
     go_meet
     case rel => exact ⟨rfl, rfl⟩
    | false =>
     go_wp2_with fail
     go_meet
     case rel => exact ⟨rfl, rfl⟩
   ·have p1 : decide (fa < ga) = true := Zt (by omega)
    have p2 : decide (f.cw < ga) = false := Zf (by rcases HFL.out with h | h <;> omega)
    have p3 : decide (2 ≤ d.kd) = false := Zf (fun h => by have := HLA.out h; omega)
    clear h1
    go_wp2_with fail
    go_meet
    case rel => exact ⟨rfl, rfl⟩
  case rest =>
  obtain ⟨rfl, hwx⟩ := hcut
  rw [hwx]
  clear hwx
  go_upto_region 19 with fail
  go_cut [132] (fun s132 wx => s132 = .bool false ∧ wx = w8)
  case first =>
   by_cases h1 : f.th ≤ f.cw
   ·have p1 : decide (f.th ≤ f.cw) = true := Zt h1
    have p2 : decide (c.mss < g.cw - f.cw) = false := Zf (by have := HBD.out.win h1; omega)
    clear h1
    go_wp2_with fail
    go_meet
    case rel => exact ⟨rfl, rfl⟩
   ·have p1 : decide (f.th ≤ f.cw) = false := Zf h1
    clear h1
    go_wp2_with fail
    go_meet
    case rel => exact ⟨rfl, rfl⟩
  case rest =>
  obtain ⟨rfl, hwx⟩ := hcut
  rw [hwx]
  clear hwx k2 k25 l2 l25 l26 m0 d0
  go_upto_region 21 with fail
  go_wp2_with (first | (refine fl_load rfl (.tmp 9) rfl rfl v8 rfl ?_) | (refine fl_store rfl (.tmp 6) (.tmp 133) rfl rfl (fcs s2 g) rfl e8 rfl rfl rfl ?_))
  go_roundw
  case rel => exact ⟨j + 1, s2, g, by omega, by go_num, fl_put e8 _, y8.grown (fl_grown _ _ _) (fun e => by cases e; omega), g8.grown (fl_grown _ _ _) (off_row (by simp)), Zh HBD.out.ok, b8.grown (fl_grown _ _ _) z8 (fun k hk => by cases hk; omega)⟩
  case measure => simp [intOf]; omega
end Go.Proofs.YtbijhkhkigdddaaGreat.flowBounds
