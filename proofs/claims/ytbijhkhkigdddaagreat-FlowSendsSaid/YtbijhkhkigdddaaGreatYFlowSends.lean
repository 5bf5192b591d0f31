/- FlowSendsWalk. -/
import Derived.Test.YtbijhkhkigdddaaGreatM38
import Derived.Test.YtbijhkhkigdddaaGreatN1
set_option linter.all false
set_option maxRecDepth 100000
set_option maxHeartbeats 32000000
namespace Go.Proofs.YtbijhkhkigdddaaGreat.flowSends
open Go.RowKit
theorem walk (s : Fs) (f : Fv) (c : Cf) (dsn n now : Int) (w : World) (h : FlM w (fun _ => True) s f) (hc : CfW c) (h1 : W64 dsn) (h2 : W64 n) (h3 : W64 now) :
  Calls Tryz.prog 9 #[.agg (fcs s f).toArray, .agg (ccs c).toArray, dsn, n, now] w fun e w' => e = .returned (.bool true) ∧ Below w.heap.size w w' := by
 obtain ⟨B, hB⟩ : ∃ B, w.heap.size = B := ⟨_, rfl⟩
 have e1 := (Bx.new w 40 (fcs s f)).alloc (.cells (ccs c).toArray 42)
 have y1 := Bx.new (w.alloc (.cells (fcs s f).toArray 40)) 42 (ccs c)
 rw [World.size_alloc] at y1
 rw [hB] at e1 y1 ⊢
 have b1 : Below B w ((w.alloc (.cells (fcs s f).toArray 40)).alloc (.cells (ccs c).toArray 42)) := by rw [← hB]; exact ((Zb).alloc Zr _).alloc (by simp) _
 have f1 := (h.alloc (.cells (fcs s f).toArray 40)).alloc (.cells (ccs c).toArray 42)
 have HC := Zh hc; have HW := Zh (show i64 dsn ∧ i64 n ∧ i64 now from ⟨h1, h2, h3⟩)
 clear hc h h1 h2 h3
 go_enter Tryz.func9, Tryz.ntmps9
 go_upto_region 1 with fail
 generalize (w.alloc (.cells (fcs s f).toArray 40)).alloc (.cells (ccs c).toArray 42) = w1 at e1 y1 b1 f1 ⊢
 clear hB
 have z1 : B ≤ w1.heap.size := Zl e1.lt
 go_wp2_with fail
 refine (flawake_any _).mono ?_
 rintro e w2 ⟨rfl, hb⟩
 have e2 := e1.kept hb
 have y2 := y1.kept hb
 have f2 := f1.keep hb
 have b2 := b1.trans (hb.mono z1); have z2 := Zn z1 hb.size
 clear e1 y1 f1 b1 z1 hb
 go_wp2_with (refine fl_load rfl (.tmp 5) rfl rfl e2 rfl ?_)
 refine (flfew_any s f _).mono ?_
 rintro e w3 ⟨rfl, hb⟩
 have e3 := e2.kept hb
 have y3 := y2.kept hb
 have f3 := f2.keep hb
 have b3 := b2.trans (hb.mono z2); have z3 := Zn z2 hb.size
 clear e2 y2 f2 b2 z2 hb
 cases hfew : fewB s with
 | false =>
  go_wp2_with fail
  go_ret
  exact ⟨rfl, b3⟩
 | true =>
 go_upto_region 5 with fail
 obtain ⟨⟨g, x, er⟩, hr⟩ : ∃ r, sendF f c dsn n now = r := ⟨_, rfl⟩
 have HR := Zh hr; clear hr hfew
 go_wp2_with (first | (refine fl_load rfl (.tmp 5) rfl rfl e3 rfl ?_) | (refine cf_load rfl (.tmp 6) rfl rfl y3 rfl ?_))
 refine (flsend_any (fun _ => True) s f c dsn n now _ (fun _ _ => trivial) f3 HC.out HW.out.1 HW.out.2.1 HW.out.2.2).mono ?_
 rintro e w4 ⟨s4, he, g4, hb⟩
 rw [HR.out] at he g4
 dsimp only at he g4
 subst he
 have e4 := e3.kept hb
 have y4 := y3.kept hb
 have f4 := f3.keep hb
 have b4 := b3.trans (hb.mono z3); have z4 := Zn z3 hb.size
 clear e3 y3 f3 b3 z3 hb
 have q5 := fw2_part w4 (fcs s4 g) (El.cells x)
 have v5 := fw2_flow w4 (fcs s4 g) (El.cells x)
 have hb := fw2_below w4 (fcs s4 g) (El.cells x)
 have g5 := g4.keep hb
 go_upto_if 43 with (first | (refine fl_store rfl (.tmp 13) (.tmp 39) rfl rfl (fcs s4 g) rfl (fz2 w4) rfl rfl rfl ?_) | (refine fp_store rfl (.tmp 14) (.tmp 40) rfl rfl (El.cells x) rfl (fz3 w4 (fcs s4 g)) rfl rfl rfl ?_))
 change Code.wp _ _ _ _ (fw2 w4 (fcs s4 g) (El.cells x))
 generalize fw2 w4 (fcs s4 g) (El.cells x) = w5 at q5 v5 g5 hb ⊢
 obtain ⟨P, hP⟩ : ∃ P, w4.heap.size = P := ⟨_, rfl⟩
 rw [hP] at q5 v5 ⊢
 have e5 := e4.kept hb
 have y5 := y4.kept hb
 have f5 := f4.keep hb
 have b5 := b4.trans (hb.mono z4); have z5 := Zn z4 hb.size
 clear e4 y4 f4 b4 z4 hb
 clear g4 hP
 go_cut [16] (fun s16 wx => Hid (Bx wx B 40 (fcs s f) ∧ Bx wx (B + 1) 42 (ccs c) ∧ FlM wx (fun _ => True) s f ∧ Below B w wx ∧ B ≤ wx.heap.size))
 case first =>
  by_cases her : er = 0
  case neg =>
   have d0 : (er == 0) = false := by simpa using her
   go_wp2_with fail
   go_meet
   case rel => exact Zh ⟨e5, y5, f5, b5, z5⟩
  case pos =>
  have hsf := send_facts (f := f) (c := c) (dsn := dsn) (n := n) (now := now) (by rw [HR.out]; exact her)
  rw [HR.out] at hsf
  dsimp only at hsf
  subst her
  have HF := Zh hsf; clear hsf
  go_upto_region 7 with fail
  have d1 : decide (n ≤ c.mss) = true := Zt HF.out.nm
  have i1 : IntKind.i64.wrap (flightR f.l + n) = flightR f.l + n := by have := HF.out.f0; have := HF.out.n0; have := HF.out.fits; have := HF.out.fly; have := HF.out.top; exact IntWalk.i64_in _ (by omega)
  have d2 : decide (flightR f.l + n ≤ f.cw) = true := Zt (by have := HF.out.fits; have := HF.out.fly; omega)
  have d3 : (flightR f.l + n == flightR f.l + n) = true := by simp
  refine tB 24 25 (fun (W : World) => Bx W B 40 (fcs s f) ∧ Bx W (B + 1) 42 (ccs c) ∧ Bx W P 40 (fcs s4 g) ∧ Bx W (P + 1) 57 (El.cells x) ∧ FlM W (fun _ => True) s f ∧ FlM W (fun _ => True) s4 g ∧ Below B w W ∧ B ≤ W.heap.size ∧ W.cell? ⟨B + 1, 0, none⟩ = some (.int .i64 c.mss) ∧ W.cell? ⟨P, 1, none⟩ = some (.slice s4.a1 s4.n1 s4.c1) ∧ W.cell? ⟨B, 1, none⟩ = some (.slice s.a1 s.n1 s.c1) ∧ W.cell? ⟨B, 25, none⟩ = some (.int .i64 f.cw)) ⟨e5.drew, y5.drew, v5.drew, q5.drew, f5.drew, g5.drew, b5.drew, z5, y5.drew.cell 0 rfl, v5.drew.cell 1 rfl, e5.drew.cell 1 rfl, e5.drew.cell 25 rfl⟩ (fun HS => ?_)
  refine tU 0 HS ?_
  refine tU 1 HS ?_
  refine tU 2 HS ?_
  refine tU 3 HS ?_
  refine tU 4 HS ?_
  refine tU 5 HS ?_
  refine tU 6 HS ?_
  refine tU 8 HS ?_
  refine tU 9 HS ?_
  refine tU 11 HS ?_
  refine tO 7 (fun K hK => ?_)
  go_simp
  refine (stflight_any _ _ _ g.l _ HS.2.2.2.2.2.1.l).mono ?_
  rw [HF.out.fly]
  rintro e wv7 ⟨rfl, hb⟩
  refine kK hK ⟨(HS.1.kept hb), (HS.2.1.kept hb), (HS.2.2.1.kept hb), (HS.2.2.2.1.kept hb), (HS.2.2.2.2.1.keep hb), (HS.2.2.2.2.2.1.keep hb), (HS.2.2.2.2.2.2.1.trans (hb.mono HS.2.2.2.2.2.2.2.1)), (Zn HS.2.2.2.2.2.2.2.1 hb.size), (HS.2.1.kept hb).cell 0 rfl, (HS.2.2.1.kept hb).cell 1 rfl, (HS.1.kept hb).cell 1 rfl, (HS.1.kept hb).cell 25 rfl⟩ (fun HS => ?_)
  clear hK K
  refine tO 10 (fun K hK => ?_)
  go_simp
  refine (stflight_any _ _ _ f.l _ HS.2.2.2.2.1.l).mono ?_
  rintro e wv10 ⟨rfl, hb⟩
  refine kK hK ⟨(HS.1.kept hb), (HS.2.1.kept hb), (HS.2.2.1.kept hb), (HS.2.2.2.1.kept hb), (HS.2.2.2.2.1.keep hb), (HS.2.2.2.2.2.1.keep hb), (HS.2.2.2.2.2.2.1.trans (hb.mono HS.2.2.2.2.2.2.2.1)), (Zn HS.2.2.2.2.2.2.2.1 hb.size), (HS.2.1.kept hb).cell 0 rfl, (HS.2.2.1.kept hb).cell 1 rfl, (HS.1.kept hb).cell 1 rfl, (HS.1.kept hb).cell 25 rfl⟩ (fun HS => ?_)
  clear hK K
  refine tU 12 HS ?_
  refine tU 13 HS ?_
  refine tU 14 HS ?_
  refine tU 15 HS ?_
  refine tU 16 HS ?_
  refine tU 17 HS ?_
  refine tU 19 HS ?_
  refine tU 20 HS ?_
  refine tU 21 HS ?_
  refine tO 18 (fun K hK => ?_)
  go_simp
  refine (stflight_any _ _ _ g.l _ HS.2.2.2.2.2.1.l).mono ?_
  rw [HF.out.fly]
  rintro e wv18 ⟨rfl, hb⟩
  refine kK hK ⟨(HS.1.kept hb), (HS.2.1.kept hb), (HS.2.2.1.kept hb), (HS.2.2.2.1.kept hb), (HS.2.2.2.2.1.keep hb), (HS.2.2.2.2.2.1.keep hb), (HS.2.2.2.2.2.2.1.trans (hb.mono HS.2.2.2.2.2.2.2.1)), (Zn HS.2.2.2.2.2.2.2.1 hb.size), (HS.2.1.kept hb).cell 0 rfl, (HS.2.2.1.kept hb).cell 1 rfl, (HS.1.kept hb).cell 1 rfl, (HS.1.kept hb).cell 25 rfl⟩ (fun HS => ?_)
  clear hK K
  refine tU 22 HS ?_
  refine tU 23 HS ?_
  refine ⟨by kernel_rfl, ?_⟩
  simp only [List.drop_succ_cons, List.drop_zero]
  obtain ⟨e8, y8, v8, q8, f8, g8, b8, z8, _, _, _, _⟩ := HS
  generalize wv18 = w8 at *
  go_upto_region 8 with fail
  have c0 : w8.cell? ⟨P + 1, 0, none⟩ = some (.int .i64 f.next) := (q8.cell 0 rfl).trans (by show some (Value.int .i64 x.seq) = _; rw [HF.out.seq])
  have c1 : w8.cell? ⟨P + 1, 1, none⟩ = some (.int .i64 n) := (q8.cell 1 rfl).trans (by show some (Value.int .i64 x.len) = _; rw [HF.out.len])
  have c2 : w8.cell? ⟨P + 1, 2, none⟩ = some (.int .i64 dsn) := (q8.cell 2 rfl).trans (by show some (Value.int .i64 x.dsn) = _; rw [HF.out.ds])
  have c3 : w8.cell? ⟨P + 1, 3, none⟩ = some (.int .i64 now) := (q8.cell 3 rfl).trans (by show some (Value.int .i64 x.at_) = _; rw [HF.out.at_])
  have k2 : w8.cell? ⟨P, 2, none⟩ = some (.int .i64 (f.next + n)) := (v8.cell 2 rfl).trans (by show some (Value.int .i64 g.next) = _; rw [HF.out.next])
  have k25 : w8.cell? ⟨P, 25, none⟩ = some (.int .i64 f.cw) := (v8.cell 25 rfl).trans (by show some (Value.int .i64 g.cw) = _; rw [HF.out.cw])
  have k26 : w8.cell? ⟨P, 26, none⟩ = some (.int .i64 f.th) := (v8.cell 26 rfl).trans (by show some (Value.int .i64 g.th) = _; rw [HF.out.th])
  have k27 : w8.cell? ⟨P, 27, none⟩ = some (.int .i64 g.tm.kd) := v8.cell 27 rfl
  have l0 : w8.cell? ⟨B, 0, none⟩ = some (.bool true) := (e8.cell 0 rfl).trans (by show some (Value.bool f.up) = _; rw [HF.out.up])
  have l2 : w8.cell? ⟨B, 2, none⟩ = some (.int .i64 f.next) := e8.cell 2 rfl
  have l25 : w8.cell? ⟨B, 25, none⟩ = some (.int .i64 f.cw) := e8.cell 25 rfl
  have l26 : w8.cell? ⟨B, 26, none⟩ = some (.int .i64 f.th) := e8.cell 26 rfl
  have dk : (g.tm.kd == 0) = false := by have := HF.out.kd; simpa using this
  have i1 : IntKind.i64.wrap (f.next + n) = f.next + n := by have := HF.out.nb; have := HF.out.n1; have := HF.out.n0; exact IntWalk.i64_in _ (by omega)
  go_wp2_with fail
  go_meet
  case rel => exact Zh ⟨e8, y8, f8, b8, z8⟩
 case rest =>
  obtain ⟨e6, y6, f6, b6, z6⟩ := hcut.out
  clear hcut e5 y5 v5 q5 f5 g5 b5 z5 HR
  obtain ⟨⟨h, yp, er2⟩, hr⟩ : ∃ r, againF f c now = r := ⟨_, rfl⟩
  have HR := Zh hr; clear hr
  go_wp2_with (first | (refine fl_load rfl (.tmp 5) rfl rfl e6 rfl ?_) | (refine cf_load rfl (.tmp 6) rfl rfl y6 rfl ?_))
  refine (flagain_any (fun _ => True) s f c now _ (fun _ _ => trivial) f6 HC.out HW.out.2.2).mono ?_
  rintro e w7 ⟨s7, he, g7, hb⟩
  rw [HR.out] at he g7
  dsimp only at he g7
  subst he
  have e7 := e6.kept hb
  have y7 := y6.kept hb
  have f7 := f6.keep hb
  have b7 := b6.trans (hb.mono z6); have z7 := Zn z6 hb.size
  clear e6 y6 f6 b6 z6 hb
  have q8 := fw2_part w7 (fcs s7 h) (El.cells yp)
  have v8 := fw2_flow w7 (fcs s7 h) (El.cells yp)
  have hb := fw2_below w7 (fcs s7 h) (El.cells yp)
  have g8 := g7.keep hb
  go_upto_region 11 with (first | (refine fl_store rfl (.tmp 17) (.tmp 127) rfl rfl (fcs s7 h) rfl (fz2 w7) rfl rfl rfl ?_) | (refine fp_store rfl (.tmp 18) (.tmp 128) rfl rfl (El.cells yp) rfl (fz3 w7 (fcs s7 h)) rfl rfl rfl ?_))
  change Code.wp _ _ _ _ (fw2 w7 (fcs s7 h) (El.cells yp))
  generalize fw2 w7 (fcs s7 h) (El.cells yp) = w8 at q8 v8 g8 hb ⊢
  obtain ⟨P2, hP⟩ : ∃ P, w7.heap.size = P := ⟨_, rfl⟩
  rw [hP] at q8 v8 ⊢
  have e8 := e7.kept hb
  have y8 := y7.kept hb
  have f8 := f7.keep hb
  have b8 := b7.trans (hb.mono z7); have z8 := Zn z7 hb.size
  clear e7 y7 f7 b7 z7 hb
  clear g7 hP
  by_cases her : er2 = 0
  case neg =>
   have d0 : (er2 == 0) = false := by simpa using her
   have d0' : (er2 != 0) = true := by simpa using her
   have hz := again_err (f := f) (c := c) (d := now) (e := er2) (by rw [HR.out]) her
   rw [HR.out] at hz
   have c1 : w8.cell? ⟨P2 + 1, 1, none⟩ = some (.int .i64 0) := (q8.cell 1 rfl).trans (by show some (Value.int .i64 yp.len) = _; rw [(Prod.mk.inj (Prod.mk.inj hz).2).1]; rfl)
   have k2 : w8.cell? ⟨P2, 2, none⟩ = some (.int .i64 0) := (v8.cell 2 rfl).trans (by show some (Value.int .i64 h.next) = _; rw [(Prod.mk.inj hz).1]; rfl)
   clear hz
   go_wp2_with fail
   go_ret
   exact ⟨rfl, b8⟩
  case pos =>
  have hsf := again_facts (f := f) (c := c) (now := now) (by rw [HR.out]; exact her)
  rw [HR.out] at hsf
  dsimp only at hsf
  subst her
  have HF := Zh hsf; clear hsf
  have m3 : s.n1 ≤ 9223372036854775807 := by have := f8.l.le; have := f8.l.max; unfold maxLen at this; omega
  have HLEN := Zh f8.l.rd.len
  obtain ⟨M, hM⟩ : ∃ M, w8.heap.size = M := ⟨_, rfl⟩
  have HM := Zh hM; clear hM
  go_wp2_with fail
  go_loopw [20, 21] (fun a i wr => ∃ k : Nat, k ≤ s.n1 ∧ i = .int .i64 (k : Int) ∧ a = .int .i64 (if firstLost f.l < k then 1 else 0) ∧ Below M w8 wr) (fun _ i _ => s.n1 - (intOf i).toNat)
  case atStart => exact ⟨0, Nat.zero_le _, rfl, by rw [if_neg (Nat.not_lt_zero _)], Below.refl _ _⟩
  case round =>
   obtain ⟨k, hk, rfl, rfl, br⟩ := hrel
   have e9 := e8.below br (by rw [← HM.out]; exact e8.lt); have v9 := v8.below br (by rw [← HM.out]; exact v8.lt); have q9 := q8.below br (by rw [← HM.out]; exact q8.lt)
   have f9 := f8.keep (show Below w8.heap.size w8 wr by rw [HM.out]; exact br)
   have l1 : wr.cell? ⟨B, 1, none⟩ = some (.slice s.a1 s.n1 s.c1) := e9.cell 1 rfl
   by_cases hlt : k < s.n1
   ·have dlt : decide (k < s.n1) = true := Zt hlt
    have dlt' : decide ((k : Int) < (s.n1 : Int)) = true := Zt (by omega)
    have hkl : k < f.l.length := by rw [HLEN.out]; exact hlt
    obtain ⟨bb, o, hA, hbl, hc0⟩ := f9.l.rd.at_ (by omega)
    have X := prt_at hc0 hlt
    rw [hA] at l1
    obtain ⟨x0, _, _, _, x4, _, x6, _, _⟩ := X
    have r0 : wr.cell? ⟨P2 + 1, 0, none⟩ = some (.int .i64 yp.seq) := q9.cell 0 rfl
    have r4 : wr.cell? ⟨P2 + 1, 4, none⟩ = some (.int .i64 yp.tries) := q9.cell 4 rfl
    clear hA hbl hc0 e9 v9 q9 f9
    go_upto_region 17 with fail
    by_cases hki : k = firstLost f.l
    case neg =>
     have hne := HF.out.other k hkl hki
     have dq : ((ge f.l k).seq == yp.seq) = false := by simpa using hne
     have hst : (if firstLost f.l < k + 1 then (1 : Int) else 0) = (if firstLost f.l < k then 1 else 0) := by
      by_cases hq : firstLost f.l < k
      ·rw [if_pos hq, if_pos (by omega)]
      ·rw [if_neg hq, if_neg (by omega)]
     have HST := Zh hst
     clear hst hki hne
     go_quiet (fail)
     go_wp2_with fail
     go_roundw
     case rel => exact ⟨k + 1, by omega, by go_num, by rw [HST.out], below_drewN br _⟩
     case measure => simp [intOf]; omega
    case pos =>
     have hlo := HF.out.lost
     rw [← hki] at hlo
     have htr := HF.out.tries
     rw [← hki] at htr
     have dq : ((ge f.l k).seq == yp.seq) = true := by have := HF.out.seq; rw [← hki] at this; rw [this]; simp
     have x6' : wr.cell? ⟨bb, o + k * 9 + 6, none⟩ = some (.bool true) := by rw [x6, hlo]
     have i1 : IntKind.i64.wrap ((ge f.l k).tries + 1) = (ge f.l k).tries + 1 := by have := HF.out.t2; rw [← hki] at this; have h2 := HF.out.t1; rw [← hki] at h2; exact IntWalk.i64_in _ (by omega)
     have dt : ((ge f.l k).tries + 1 == yp.tries) = true := by rw [htr]; simp
     have hst : (if firstLost f.l < k + 1 then (1 : Int) else 0) = 1 ∧ (if firstLost f.l < k then (1 : Int) else 0) = 0 := ⟨if_pos (by omega), if_neg (by omega)⟩
     rw [hst.2]
     have HST := Zh hst.1
     clear hst hki hlo htr x6
     go_quiet (fail)
     go_wp2_with fail
     go_roundw
     case rel => exact ⟨k + 1, by omega, by go_num, by rw [HST.out], below_drewN br _⟩
     case measure => simp [intOf]; omega
   ·obtain rfl : k = s.n1 := by omega
    have dlt : decide (s.n1 < s.n1) = false := Zf (by omega)
    have dlt' : decide ((s.n1 : Int) < (s.n1 : Int)) = false := Zf (by omega)
    have hst : (if firstLost f.l < s.n1 then (1 : Int) else 0) = 1 := if_pos (by have := HF.out.lt; rw [HLEN.out] at this; exact this)
    rw [hst]
    have g9 := g8.keep (show Below w8.heap.size w8 wr by rw [HM.out]; exact br)
    have b9 := b8.trans (br.mono (by rw [← HM.out]; exact z8))
    have z9 : B ≤ wr.heap.size := by have := br.size; have := HM.out; omega
    clear hst e8 v8 q8 f8 g8 b8 y8 br
    go_upto_region 19 with fail
    have dk : (h.tm.kd != 0) = true := by have := HF.out.kd; simpa using this
    have i1 : IntKind.i64.wrap (flightR f.l + yp.len) = flightR f.l + yp.len := by have := HF.out.f0; have := HF.out.y0; have := HF.out.top; exact IntWalk.i64_in _ (by omega)
    have d3 : (flightR f.l + yp.len == flightR f.l + yp.len) = true := by simp
    have d4 : (f.next == f.next) = true := by simp
    have l1 := trivial
    refine tB 39 40 (fun (W : World) => Bx W B 40 (fcs s f) ∧ Bx W P2 40 (fcs s7 h) ∧ Bx W (P2 + 1) 57 (El.cells yp) ∧ FlM W (fun _ => True) s f ∧ FlM W (fun _ => True) s7 h ∧ Below B w W ∧ B ≤ W.heap.size ∧ W.cell? ⟨P2 + 1, 6, none⟩ = some (.bool false) ∧ W.cell? ⟨P2 + 1, 1, none⟩ = some (.int .i64 yp.len) ∧ W.cell? ⟨P2, 2, none⟩ = some (.int .i64 f.next) ∧ W.cell? ⟨B, 2, none⟩ = some (.int .i64 f.next) ∧ W.cell? ⟨P2, 1, none⟩ = some (.slice s7.a1 s7.n1 s7.c1) ∧ W.cell? ⟨B, 1, none⟩ = some (.slice s.a1 s.n1 s.c1) ∧ W.cell? ⟨P2, 27, none⟩ = some (.int .i64 h.tm.kd) ∧ W.cell? ⟨P2, 25, none⟩ = some (.int .i64 f.cw) ∧ W.cell? ⟨P2, 26, none⟩ = some (.int .i64 f.th) ∧ W.cell? ⟨B, 25, none⟩ = some (.int .i64 f.cw) ∧ W.cell? ⟨B, 26, none⟩ = some (.int .i64 f.th)) ⟨e9.drew, v9.drew, q9.drew, f9.drew, g9.drew, b9.drew, z9, (q9.drew.cell 6 rfl).trans (by show some (Value.bool yp.lost) = _; rw [HF.out.ylost]), q9.drew.cell 1 rfl, (v9.drew.cell 2 rfl).trans (by show some (Value.int .i64 h.next) = _; rw [HF.out.next]), e9.drew.cell 2 rfl, v9.drew.cell 1 rfl, e9.drew.cell 1 rfl, v9.drew.cell 27 rfl, (v9.drew.cell 25 rfl).trans (by show some (Value.int .i64 h.cw) = _; rw [HF.out.cw]), (v9.drew.cell 26 rfl).trans (by show some (Value.int .i64 h.th) = _; rw [HF.out.th]), e9.drew.cell 25 rfl, e9.drew.cell 26 rfl⟩ (fun HS => ?_)
    refine tU 0 HS ?_
    refine tU 1 HS ?_
    refine tU 2 HS ?_
    refine tU 3 HS ?_
    refine tU 4 HS ?_
    refine tU 5 HS ?_
    refine tU 6 HS ?_
    refine tU 7 HS ?_
    refine tU 8 HS ?_
    refine tU 9 HS ?_
    refine tU 10 HS ?_
    refine tU 11 HS ?_
    refine tU 12 HS ?_
    refine tU 13 HS ?_
    refine tU 14 HS ?_
    refine tU 15 HS ?_
    refine tU 16 HS ?_
    refine tU 18 HS ?_
    refine tU 19 HS ?_
    refine tU 21 HS ?_
    refine tU 22 HS ?_
    refine tO 17 (fun K hK => ?_)
    go_simp
    refine (stflight_any _ _ _ h.l _ HS.2.2.2.2.1.l).mono ?_
    rw [HF.out.fly]
    rintro e wv1 ⟨rfl, hb⟩
    refine kK hK ⟨(HS.1.kept hb), (HS.2.1.kept hb), (HS.2.2.1.kept hb), (HS.2.2.2.1.keep hb), (HS.2.2.2.2.1.keep hb), (HS.2.2.2.2.2.1.trans (hb.mono HS.2.2.2.2.2.2.1)), (Zn HS.2.2.2.2.2.2.1 hb.size), ((HS.2.2.1.kept hb).cell 6 rfl).trans (by show some (Value.bool yp.lost) = _; rw [HF.out.ylost]), (HS.2.2.1.kept hb).cell 1 rfl, ((HS.2.1.kept hb).cell 2 rfl).trans (by show some (Value.int .i64 h.next) = _; rw [HF.out.next]), (HS.1.kept hb).cell 2 rfl, (HS.2.1.kept hb).cell 1 rfl, (HS.1.kept hb).cell 1 rfl, (HS.2.1.kept hb).cell 27 rfl, ((HS.2.1.kept hb).cell 25 rfl).trans (by show some (Value.int .i64 h.cw) = _; rw [HF.out.cw]), ((HS.2.1.kept hb).cell 26 rfl).trans (by show some (Value.int .i64 h.th) = _; rw [HF.out.th]), (HS.1.kept hb).cell 25 rfl, (HS.1.kept hb).cell 26 rfl⟩ (fun HS => ?_)
    clear hK K
    refine tO 20 (fun K hK => ?_)
    go_simp
    refine (stflight_any _ _ _ f.l _ HS.2.2.2.1.l).mono ?_
    rintro e wv2 ⟨rfl, hb⟩
    refine kK hK ⟨(HS.1.kept hb), (HS.2.1.kept hb), (HS.2.2.1.kept hb), (HS.2.2.2.1.keep hb), (HS.2.2.2.2.1.keep hb), (HS.2.2.2.2.2.1.trans (hb.mono HS.2.2.2.2.2.2.1)), (Zn HS.2.2.2.2.2.2.1 hb.size), ((HS.2.2.1.kept hb).cell 6 rfl).trans (by show some (Value.bool yp.lost) = _; rw [HF.out.ylost]), (HS.2.2.1.kept hb).cell 1 rfl, ((HS.2.1.kept hb).cell 2 rfl).trans (by show some (Value.int .i64 h.next) = _; rw [HF.out.next]), (HS.1.kept hb).cell 2 rfl, (HS.2.1.kept hb).cell 1 rfl, (HS.1.kept hb).cell 1 rfl, (HS.2.1.kept hb).cell 27 rfl, ((HS.2.1.kept hb).cell 25 rfl).trans (by show some (Value.int .i64 h.cw) = _; rw [HF.out.cw]), ((HS.2.1.kept hb).cell 26 rfl).trans (by show some (Value.int .i64 h.th) = _; rw [HF.out.th]), (HS.1.kept hb).cell 25 rfl, (HS.1.kept hb).cell 26 rfl⟩ (fun HS => ?_)
    clear hK K
    refine tU 23 HS ?_
    refine tU 24 HS ?_
    refine tU 25 HS ?_
    refine tU 26 HS ?_
    refine tU 27 HS ?_
    refine tU 28 HS ?_
    refine tU 29 HS ?_
    refine tU 30 HS ?_
    refine tU 31 HS ?_
    refine tU 32 HS ?_
    refine tU 33 HS ?_
    refine tU 34 HS ?_
    refine tU 35 HS ?_
    refine tU 36 HS ?_
    refine tU 37 HS ?_
    refine tU 38 HS ?_
    refine ⟨by kernel_rfl, ?_⟩
    simp only [List.drop_succ_cons, List.drop_zero]
    go_wp2_with fail
    go_ret
    exact ⟨rfl, HS.2.2.2.2.2.1⟩
end Go.Proofs.YtbijhkhkigdddaaGreat.flowSends
