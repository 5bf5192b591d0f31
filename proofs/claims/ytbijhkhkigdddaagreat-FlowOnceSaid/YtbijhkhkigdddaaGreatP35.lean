/- FlL14 FlL15. -/
import Derived.Test.YtbijhkhkigdddaaGreatP17
import Derived.Test.YtbijhkhkigdddaaGreatP34
set_option linter.all false
set_option maxRecDepth 100000
set_option maxHeartbeats 32000000
namespace Go.Proofs.YtbijhkhkigdddaaGreat
open Go.RowKit
theorem ne_new {W : World} {R : Option Addr} {n D : Nat} (h : ∀ b o q, R = some ⟨b, o, q⟩ → W.heap.size ≤ b) (hD : D < W.heap.size) : In1 (fun b => b ≠ D) R n := fun _ b o q e hb => by have := h b o q e; omega
def sampX (f : Fv) (c : Cf) (took now : Int) : Fv :=
 { f with r := (smp f.r took c.least c.longest).1, b := metOr f.b now took, dl := (addG f.dl (overF took (ofR (metOr f.b now took) now).1)).1 }
theorem tookX_samp (f : Fv) (c : Cf) (x : Prt) (now : Int) : tookX f c x now = sampX f c (b40 (now - x.at_)) now := rfl
theorem over_eq {took y : Int} (h0 : 0 ≤ took) (h1 : took ≤ 1099511627776) (y0 : 0 ≤ y) (y1 : y ≤ 1152921504606846976) :
  (if tell ((took - y) / 16) (mdOk (took - y) 1 16) < 0 ∨ (262144 : Int) < 0 then 0 else if 262144 < tell ((took - y) / 16) (mdOk (took - y) 1 16) then 262144 else tell ((took - y) / 16) (mdOk (took - y) 1 16)) = overF took y := by
 have hk : mdOk (took - y) 1 16 = true := by
  unfold mdOk inB
  rw [Int.mul_one]
  simp only [Bool.and_eq_true, decide_eq_true_eq]
  omega
 rw [hk]
 unfold tell overF b40
 simp only [if_true]
 split
 ·omega
 ·split <;> omega
theorem flsample_any (n₀ : Nat) (l : List Nat) (S H : Nat) (s : Fs) (f : Fv) (c : Cf) (e : Int) (A : Option Addr) (n k : Nat) (t : Tv) (G : Option Addr) (m d : Nat) (told : List Prt) (bs mk : Int) (w : World) (h : Hg n₀ l w S H s f c e A n k t G m d told bs mk) (took : Int) (hok : FvOk f c) (h0 : 0 ≤ took) (h1 : took ≤ 1099511627776) : Calls Tryz.prog 123 #[.pointer (some ⟨H, 0, none⟩), took] w fun e' w' => e' = .returned (.tuple #[]) ∧ (∃ s', Hg n₀ l w' S H s' (sampX f c took t.now) c e A n k t G m d told bs mk) ∧ Fr n₀ l w w' := by
 have ha : ArgOk took c.least c.longest := by
  have := hok.fine.l0; have := hok.fine.l1; have := hok.fine.l2
  unfold ArgOk; omega
 obtain ⟨x, hx⟩ : ∃ x, smp f.r took c.least c.longest = x := ⟨_, rfl⟩
 have hxr : rtB x.1 = true := by rw [← hx, smp_ok hok.r ha]; exact (rtB_iff _).2 (smp_valid ((rtB_iff _).1 hok.r) ha)
 obtain ⟨z, hz⟩ : ∃ z, metR f.b t.now took = z := ⟨_, rfl⟩
 obtain ⟨v, hv⟩ : ∃ v, metOr f.b t.now took = v := ⟨_, rfl⟩
 have hvb : lmay v = true := by rw [← hv]; exact metOr_ok hok.b
 have hvz : z.2.2 = 0 → v = z.1 := fun hh => by rw [← hv]; unfold metOr; rw [hz, if_pos hh]
 have hvn : z.2.2 ≠ 0 → v = f.b := fun hh => by rw [← hv]; unfold metOr; rw [hz, if_neg hh]
 obtain ⟨y, hy⟩ : ∃ y, (ofR v t.now).1 = y := ⟨_, rfl⟩
 have hyb := of_bd ((lmay_iff v).1 hvb) t.now
 rw [hy] at hyb
 obtain ⟨ov, hov⟩ : ∃ ov, overF took y = ov := ⟨_, rfl⟩
 obtain ⟨g, hg⟩ : ∃ g, addG f.dl ov = g := ⟨_, rfl⟩
 have hF : (sampX f c took t.now) = { f with r := x.1, b := v, dl := g.1 } := by unfold sampX; rw [hx, hv, hy, hov, hg]
 rw [hF]
 obtain ⟨qd, hqd⟩ : ∃ qd, tell ((took - y) / 16) (mdOk (took - y) 1 16) = qd := ⟨_, rfl⟩
 have hoe := over_eq h0 h1 hyb.1 hyb.2
 rw [hqd, hov] at hoe
 have HOV := Zh hoe; have HQD := Zh hqd
 have HX := Zh (show smp ⟨f.r.has, f.r.srtt, f.r.vr, f.r.rto, f.r.shift⟩ took c.least c.longest = x from hx)
 have HZ := Zh (show metR ⟨f.b.span, f.b.l, f.b.high⟩ t.now took = z from hz)
 have HY := Zh hy; have HG := Zh hg; have HVZ := Zh hvz; have HVN := Zh hvn
 have HW1 := Zh (w_valid (f := { f with r := x.1 }) (c := c) ⟨hok.fine, hok.l, hxr, hok.b, hok.m, hok.d, hok.k, hok.w, hok.t, hok.g, hok.next, hok.rd, hok.link⟩)
 have HW2 : Hid (z.2.2 = 0 → FvW { f with r := x.1, b := z.1 }) := Zh (fun hh => w_valid (c := c) ⟨hok.fine, hok.l, hxr, (by rw [← hvz hh]; exact hvb), hok.m, hok.d, hok.k, hok.w, hok.t, hok.g, hok.next, hok.rd, hok.link⟩)
 have HW3 := Zh (show FvW { f with r := x.1, b := v, dl := g.1 } from w_valid (f := { f with r := x.1, b := v }) (c := c) ⟨hok.fine, hok.l, hxr, hvb, hok.m, hok.d, hok.k, hok.w, hok.t, hok.g, hok.next, hok.rd, hok.link⟩ |> fun h => ⟨h.next, h.r1, h.r2, h.r3, h.r4, h.b1, h.b2, h.m1, h.m2, h.m3, h.m4, h.m5, h.d1, h.d2, h.k1, h.k2, h.k3, h.k4, h.k5, h.cw, h.th, h.t1, h.t2, h.rd⟩)
 have i1 : IntKind.i64.wrap (took - y) = took - y := IntWalk.i64_in _ (by omega)
 clear hok ha hx hxr hz hv hvb hvz hvn hy hyb hov hg hF hqd hoe h0 h1
 go_enter Tryz.func123, Tryz.ntmps123
 go_upto_region 0 with fail
 refine kB [36] 37 (fun (W : World) => Hg n₀ l W S H s f c e A n k t G m d told bs mk ∧ Fr n₀ l w W) ⟨h.drew, Fr.call (Zb).drew h.st.size h.old⟩ (fun HS => ?_)
 generalize w.drew = wd1 at HS  ⊢
 refine kU 0 HS ?_
 refine kU 1 HS ?_
 refine kU 2 HS ?_
 refine kC 3 (fun w hSw => hSw.1.bx.cell 0 rfl) HS ?_
 refine kU 4 HS ?_
 refine kU 5 HS ?_
 refine kU 6 HS ?_
 refine kC 7 (fun w hSw => hSw.1.bx.cell 0 rfl) HS ?_
 refine kU 8 HS ?_
 refine kU 9 HS ?_
 refine kU 10 HS ?_
 refine kS 11 rfl (sub_y (cs := (scs s f c t.now e)) (vs := [f.r.has, f.r.srtt, f.r.vr, f.r.rto, f.r.shift]) is_rtt (by rfl) (.tmp 20) rfl rfl (fun w hSw => hSw.1.st.bx) rfl rfl) HS ?_
 refine kUv 12 (.int .i64 took) HS ?_
 refine kU 13 HS ?_
 refine kU 14 HS ?_
 refine kU 15 HS ?_
 refine kC 16 (fun w hSw => hSw.1.bx.cell 0 rfl) HS ?_
 refine kU 17 HS ?_
 refine kU 18 HS ?_
 refine kU 19 HS ?_
 refine kC 20 (v := .int .i64 c.least) (fun w hSw => hSw.1.st.bx.cell 35 rfl) HS ?_
 refine kU 21 HS ?_
 refine kU 22 HS ?_
 refine kU 23 HS ?_
 refine kC 24 (fun w hSw => hSw.1.bx.cell 0 rfl) HS ?_
 refine kU 25 HS ?_
 refine kU 26 HS ?_
 refine kU 27 HS ?_
 refine kC 28 (v := .int .i64 c.longest) (fun w hSw => hSw.1.st.bx.cell 36 rfl) HS ?_
 refine wpAnyV_one (k := 29) rfl (by kernel_rfl) (fun K hK => ?_)
 go_simp
 refine (rtsample_any _ _ _ _ _ _ _ _ _).mono ?_
 rintro e2 w2 ⟨he, hb⟩
 rw [HX.out] at he
 subst he
 refine kK hK ⟨HS.1.call hb, HS.2.trans (HS.1.frm hb)⟩ (fun HS => ?_)
 clear hK K
 refine kU 30 HS ?_
 refine kU 31 HS ?_
 refine kUv 32 (.int .i64 x.2) HS ?_
 refine kU 33 HS ?_
 refine kU 34 HS ?_
 refine kU 35 HS ?_
 refine wpAnyV_end (k := 36) rfl (by kernel_rfl) (fun K hK => ?_)
 refine sub_end is_rtt (by rfl) (.tmp 44) (.tmp 40) rfl rfl [x.1.has, x.1.srtt, x.1.vr, x.1.rto, x.1.shift] rfl HS.1.st.bx (by show (8 : Nat) ≤ 44; decide) rfl rfl ?_
 have HA := Zh (show Hg n₀ l (w2.setCells S 3 [x.1.has, x.1.srtt, x.1.vr, x.1.rto, x.1.shift]) S H s { f with r := x.1 } c e A n k t G m d told bs mk ∧ Fr n₀ l w (w2.setCells S 3 [x.1.has, x.1.srtt, x.1.vr, x.1.rto, x.1.shift]) from ⟨HS.1.cells 3 _ rfl (HS.1.st.fm.same rfl rfl rfl rfl HW1.out), HS.2.trans (HS.1.frc 3 [x.1.has, x.1.srtt, x.1.vr, x.1.rto, x.1.shift])⟩)
 clear HS hb
 refine hK _ _ ?_
 clear hK K
 generalize w2.setCells S 3 [x.1.has, x.1.srtt, x.1.vr, x.1.rto, x.1.shift] = wa at HA ⊢
 try simp only [Act.put, List.setIfInBounds_toArray, List.set_cons_zero, List.set_cons_succ]
 refine ⟨by kernel_rfl, ?_⟩
 clear h
 go_upto_region 1 with fail
 apply cutP
 ·intro hP
  refine kB [22] 25 (fun (W : World) => Hg n₀ l W S H s { f with r := x.1 } c e A n k t G m d told bs mk ∧ Fr n₀ l w W) ⟨HA.out.1.drew, HA.out.2.trans (HA.out.1.frm (Zb).drew)⟩ (fun HS => ?_)
  generalize wa.drew = wd1 at HS  ⊢
  refine kU 0 HS ?_
  refine kU 1 HS ?_
  refine kU 2 HS ?_
  refine kC 3 (fun w hSw => hSw.1.bx.cell 0 rfl) HS ?_
  refine kU 4 HS ?_
  refine kU 5 HS ?_
  refine kU 6 HS ?_
  refine kS 7 rfl (sub_y (cs := (scs s { f with r := x.1 } c t.now e)) (vs := [f.b.span, .slice s.a2 s.n2 s.c2, f.b.high]) is_least (by rfl) (.tmp 52) rfl rfl (fun w hSw => hSw.1.st.bx) rfl rfl) HS ?_
  refine kU 8 HS ?_
  refine kU 9 HS ?_
  refine kU 10 HS ?_
  refine kC 11 (fun w hSw => hSw.1.bx.cell 0 rfl) HS ?_
  refine kU 12 HS ?_
  refine kU 13 HS ?_
  refine kC 14 (v := .int .i64 t.now) (fun w hSw => hSw.1.st.bx.cell 42 rfl) HS ?_
  refine kUv 15 (.int .i64 took) HS ?_
  refine wpAnyV_two (k1 := 16) (k2 := 21) rfl rfl (by kernel_rfl) (fun K hK => ?_) (fun K hK => ?_)
  ·go_simp
   refine (lemet_any _ _ _ _ _ f.b.l _ _ _ HS.1.st.fm.b).mono ?_
   rintro e8 w8 ⟨R, rm, rd, he, hsn, hb⟩
   have hfr := HS.1.st.fresh hsn.at_ (n := rm)
   rw [HZ.out] at he hsn
   subst he
   have HR := Zh (And.intro hsn.ss hfr)
   clear hsn hfr
   refine kK hK ⟨HS.1.call hb, HS.2.trans (HS.1.frm hb)⟩ (fun HS => ?_)
   clear hK K
   refine kU 17 HS ?_
   refine kU 18 HS ?_
   refine kUv 19 (.bool z.2.1) HS ?_
   refine kUv 20 (.int .i64 z.2.2) HS ?_
   refine wpAnyV_one (k := 21) rfl (by kernel_rfl) (fun K hK => ?_)
   go_simp
   obtain ⟨D9, hD9⟩ : ∃ x, w8.heap.size = x := ⟨_, rfl⟩
   have hb : Below w8.heap.size w8 (w8.alloc (.cells #[.int .i64 0, .slice none 0 0, .int .i64 0] 27)) := (Zb).alloc Zr _
   have TX := Zh (Xb.new HS.1 (.cells #[.int .i64 0, .slice none 0 0, .int .i64 0] 27))
   have bX := Zh (Bx.new w8 27 [.int .i64 0, .slice none 0 0, .int .i64 0])
   have HSn : ((fun (W : World) => Hg n₀ l W S H s { f with r := x.1 } c e A n k t G m d told bs mk ∧ Fr n₀ l w W)) _ := ⟨HS.1.call hb, HS.2.trans (HS.1.frm hb)⟩
   replace HR := Zh (And.intro (HR.out.1.keep hb) (And.intro HR.out.2 (ss_ne HR.out.1 (Nat.le_of_eq hD9))))
   clear HS hb
   rw [hD9] at TX bX
   try rw [hD9]
   generalize w8.alloc (.cells #[.int .i64 0, .slice none 0 0, .int .i64 0] 27) = wz at HSn TX bX HR ⊢
   clear hD9
   refine kK hK HSn (fun HS => ?_)
   clear hK K
   refine wpAnyV_end (k := 22) rfl (by kernel_rfl) (fun K hK => ?_)
   refine sub_end is_least (by rfl) (.tmp 4) (.tmp 63) rfl rfl [z.1.span, .slice R rm rd, z.1.high] rfl bX.out (by decide) rfl rfl ?_
   have gX := grown_cells (B := D9) [z.1.span, .slice R rm rd, z.1.high] 0 wz
   have hp := TX.out.put [z.1.span, .slice R rm rd, z.1.high] 0
   have hbx : Bx (wz.setCells D9 0 [z.1.span, .slice R rm rd, z.1.high]) D9 27 [z.1.span, .slice R rm rd, z.1.high] := Bx.cells [z.1.span, .slice R rm rd, z.1.high] (o := 0) bX.out
   have HN := Zh (And.intro hp.1 (And.intro (HS.2.trans hp.2) (And.intro hbx (And.intro (ss_grown HR.out.1 HR.out.2.2 gX (fun b hb e => hb (Zo e).symm)) HR.out.2.1))))
   clear HS HR TX bX gX hp hbx
   refine hK _ _ ?_
   clear hK K
   generalize wz.setCells D9 0 [z.1.span, .slice R rm rd, z.1.high] = w9 at HN ⊢
   try simp only [Act.put, List.setIfInBounds_toArray, List.set_cons_zero, List.set_cons_succ]
   refine kN 23 ?_
   refine kN 24 ?_
   refine ⟨by kernel_rfl, ?_⟩
   revert HN
   revert w9
   revert D9
   revert rd
   revert rm
   revert R
   exact hP.out
  ·go_simp
   obtain ⟨D9, hD9⟩ : ∃ x, wd1.heap.size = x := ⟨_, rfl⟩
   have hb : Below wd1.heap.size wd1 (wd1.alloc (.cells #[.int .i64 0, .slice none 0 0, .int .i64 0] 27)) := (Zb).alloc Zr _
   have TX := Zh (Xb.new HS.1 (.cells #[.int .i64 0, .slice none 0 0, .int .i64 0] 27))
   have bX := Zh (Bx.new wd1 27 [.int .i64 0, .slice none 0 0, .int .i64 0])
   have HSn : ((fun (W : World) => Hg n₀ l W S H s { f with r := x.1 } c e A n k t G m d told bs mk ∧ Fr n₀ l w W)) _ := ⟨HS.1.call hb, HS.2.trans (HS.1.frm hb)⟩
   clear HS hb
   rw [hD9] at TX bX
   try rw [hD9]
   generalize wd1.alloc (.cells #[.int .i64 0, .slice none 0 0, .int .i64 0] 27) = wz at HSn TX bX ⊢
   clear hD9
   refine kK hK HSn (fun HS => ?_)
   clear hK K
   refine wpAnyV_one (k := 16) rfl (by kernel_rfl) (fun K hK => ?_)
   go_simp
   refine (lemet_any _ _ _ _ _ f.b.l _ _ _ HS.1.st.fm.b).mono ?_
   rintro e8 w8 ⟨R, rm, rd, he, hsn, hb⟩
   have hfr := HS.1.st.fresh hsn.at_ (n := rm)
   have hnx := ne_new (n := rm) hsn.at_ bX.out.lt
   rw [HZ.out] at he hsn
   subst he
   have HR := Zh (And.intro hsn.ss (And.intro hfr hnx))
   replace TX := Zh (TX.out.call hb)
   replace bX := Zh (bX.out.kept hb)
   clear hsn hfr hnx
   refine kK hK ⟨HS.1.call hb, HS.2.trans (HS.1.frm hb)⟩ (fun HS => ?_)
   clear hK K
   refine kU 17 HS ?_
   refine kU 18 HS ?_
   refine kUv 19 (.bool z.2.1) HS ?_
   refine kUv 20 (.int .i64 z.2.2) HS ?_
   refine wpAnyV_end (k := 22) rfl (by kernel_rfl) (fun K hK => ?_)
   refine sub_end is_least (by rfl) (.tmp 4) (.tmp 63) rfl rfl [z.1.span, .slice R rm rd, z.1.high] rfl bX.out (by decide) rfl rfl ?_
   have gX := grown_cells (B := D9) [z.1.span, .slice R rm rd, z.1.high] 0 w8
   have hp := TX.out.put [z.1.span, .slice R rm rd, z.1.high] 0
   have hbx : Bx (w8.setCells D9 0 [z.1.span, .slice R rm rd, z.1.high]) D9 27 [z.1.span, .slice R rm rd, z.1.high] := Bx.cells [z.1.span, .slice R rm rd, z.1.high] (o := 0) bX.out
   have HN := Zh (And.intro hp.1 (And.intro (HS.2.trans hp.2) (And.intro hbx (And.intro (ss_grown HR.out.1 HR.out.2.2 gX (fun b hb e => hb (Zo e).symm)) HR.out.2.1))))
   clear HS HR TX bX gX hp hbx
   refine hK _ _ ?_
   clear hK K
   generalize w8.setCells D9 0 [z.1.span, .slice R rm rd, z.1.high] = w9 at HN ⊢
   try simp only [Act.put, List.setIfInBounds_toArray, List.set_cons_zero, List.set_cons_succ]
   refine kN 23 ?_
   refine kN 24 ?_
   refine ⟨by kernel_rfl, ?_⟩
   revert HN
   revert w9
   revert D9
   revert rd
   revert rm
   revert R
   exact hP.out
 intro R rm rd D9 w9 HN
 go_upto_if 67 with fail
 go_cut [66] (fun s66 wx => Hid (∃ s2, Hg n₀ l wx S H s2 { f with r := x.1, b := v } c e A n k t G m d told bs mk ∧ Fr n₀ l w wx))
 case first =>
  by_cases hz0 : z.2.2 = 0
  case neg =>
   have d1 : (z.2.2 == 0) = false := by simpa using hz0
   have d2 : decide (z.2.2 = 0) = false := Zf hz0
   have hvf := HVN.out hz0
   have hN : Hg n₀ l w9 S H s { f with r := x.1, b := v } c e A n k t G m d told bs mk := by rw [hvf]; exact HN.out.1
   have HN2 := Zh (And.intro hN HN.out.2.1)
   clear hz0 hvf hN HN
   go_wp2_with fail
   go_meet
   case rel => exact Zh ⟨s, HN2.out⟩
  case pos =>
   have d1 : (z.2.2 == 0) = true := by simpa using hz0
   have d2 : decide (z.2.2 = 0) = true := Zt hz0
   have HE0 := Zh hz0
   clear hz0
   go_upto_region 3 with fail
   clear d1 d2
   refine kB [8] 9 (fun (W : World) => Hg n₀ l W S H s { f with r := x.1 } c e A n k t G m d told bs mk ∧ Fr n₀ l w W ∧ Bx W D9 27 [z.1.span, .slice R rm rd, z.1.high] ∧ Ss W R rm rd z.1.l) ⟨HN.out.1.drew, HN.out.2.1.trans (HN.out.1.frm (Zb).drew), HN.out.2.2.1.drew, HN.out.2.2.2.1.keep (Zb).drew⟩ (fun HS => ?_)
   generalize w9.drew = wd3 at HS  ⊢
   refine kU 0 HS ?_
   refine kU 1 HS ?_
   refine kU 2 HS ?_
   refine kC 3 (fun w hSw => hSw.1.bx.cell 0 rfl) HS ?_
   refine kS 4 rfl (sub_y (cs := [z.1.span, .slice R rm rd, z.1.high]) (vs := [z.1.span, .slice R rm rd, z.1.high]) is_least (by rfl) (.tmp 4) rfl rfl (fun w hSw => hSw.2.2.1) rfl rfl) HS ?_
   refine kU 5 HS ?_
   refine kU 6 HS ?_
   refine kU 7 HS ?_
   refine wpAnyV_end (k := 8) rfl (by kernel_rfl) (fun K hK => ?_)
   refine sub_end is_least (by rfl) (.tmp 75) (.tmp 72) rfl rfl [z.1.span, .slice R rm rd, z.1.high] rfl HS.1.st.bx (by show (11 : Nat) ≤ 44; decide) rfl rfl ?_
   have HF := Zh (show Hg n₀ l (wd3.setCells S 8 [z.1.span, .slice R rm rd, z.1.high]) S H ⟨s.a1, s.n1, s.c1, R, rm, rd, s.a3, s.n3, s.c3, s.a4, s.n4, s.c4⟩ { f with r := x.1, b := z.1 } c e A n k t G m d told bs mk ∧ Fr n₀ l w (wd3.setCells S 8 [z.1.span, .slice R rm rd, z.1.high]) from ⟨HS.1.cells 8 _ rfl (HS.1.st.fm.newB rfl HS.2.2.2 HN.out.2.2.2.2 rfl rfl (HW2.out HE0.out)), HS.2.1.trans (HS.1.frc 8 [z.1.span, .slice R rm rd, z.1.high])⟩)
   clear HS
   refine hK _ _ ?_
   clear hK K
   generalize wd3.setCells S 8 [z.1.span, .slice R rm rd, z.1.high] = wf at HF ⊢
   try simp only [Act.put, List.setIfInBounds_toArray, List.set_cons_zero, List.set_cons_succ]
   refine ⟨by kernel_rfl, ?_⟩
   have hN : Hg n₀ l wf S H ⟨s.a1, s.n1, s.c1, R, rm, rd, s.a3, s.n3, s.c3, s.a4, s.n4, s.c4⟩ { f with r := x.1, b := v } c e A n k t G m d told bs mk := by rw [HVZ.out HE0.out]; exact HF.out.1
   have HN2 := Zh (And.intro hN HF.out.2)
   clear hN HF HN
   go_wp2_with fail
   go_meet
   case rel => exact Zh ⟨_, HN2.out⟩
 case rest =>
 obtain ⟨s2, hN1, hN2⟩ := hcut
 have HQ := Zh (And.intro hN1 hN2)
 clear hN1 hN2 HN
 have c0 := HQ.out.1.bx.cell 0 rfl
 go_upto_region 4 with fail
 go_wp2_with (first | (go_at_call 125; refine (flbase_any _ _ _ _ _ _ _ _ _ HQ.out.1.st).mono ?_; rintro e2 w2 ⟨he, hb⟩; rw [show (ofR ({ f with r := x.1, b := v } : Fv).b t.now).1 = y from HY.out] at he; subst he; replace HQ := Zh (And.intro (HQ.out.1.call hb) (HQ.out.2.trans (HQ.out.1.frm hb))); clear hb c0) | (go_at_call 173; refine (div_any _ _ _).mono ?_; rintro e3 w3 ⟨he, hb⟩; rw [HQD.out] at he; subst he; replace HQ := Zh (And.intro (HQ.out.1.call hb) (HQ.out.2.trans (HQ.out.1.frm hb))); clear hb))
 go_upto_region 5 with fail
 rename World => wq
 refine kB [21] 22 (fun (W : World) => Hg n₀ l W S H s2 { f with r := x.1, b := v } c e A n k t G m d told bs mk ∧ Fr n₀ l w W) ⟨HQ.out.1.drew, HQ.out.2.trans (HQ.out.1.frm (Zb).drew)⟩ (fun HS => ?_)
 generalize wq.drew = wd3 at HS  ⊢
 refine kU 0 HS ?_
 refine kU 1 HS ?_
 refine kU 2 HS ?_
 refine kC 3 (fun w hSw => hSw.1.bx.cell 0 rfl) HS ?_
 refine kU 4 HS ?_
 refine kU 5 HS ?_
 refine kU 6 HS ?_
 refine kC 7 (fun w hSw => hSw.1.bx.cell 0 rfl) HS ?_
 refine kU 8 HS ?_
 refine kU 9 HS ?_
 refine kU 10 HS ?_
 refine kC 11 (v := .slice s2.a4 s2.n4 s2.c4) (fun w hSw => hSw.1.st.bx.cell 29 rfl) HS ?_
 refine kUv 12 (.int .i64 qd) HS ?_
 refine wpAnyV_one (k := 13) rfl (by kernel_rfl) (fun K hK => ?_)
 go_simp
 refine (clamp_any _ _ _ _).mono ?_
 rintro e3 w3 ⟨he, rfl⟩
 rw [HOV.out] at he
 subst he
 refine kK hK HS (fun HS => ?_)
 clear hK K
 refine wpAnyV_one (k := 14) rfl (by kernel_rfl) (fun K hK => ?_)
 go_simp
 refine (ggadd_own _ _ _ f.dl _ _ HS.1.st.fm.g).mono ?_
 rintro e5 w5 ⟨R, rm, rd, he, hsn, hb⟩
 have hfr := HS.1.st.fresh hsn.at_ (n := rm)
 rw [HG.out] at he hsn
 subst he
 refine kK hK ⟨HS.1.call hb, HS.2.trans (HS.1.frm hb)⟩ (fun HS => ?_)
 clear hK K
 refine kU 15 HS ?_
 refine kU 16 HS ?_
 refine kUv 17 (.int .i64 g.2) HS ?_
 refine kU 18 HS ?_
 refine kU 19 HS ?_
 refine kU 20 HS ?_
 refine wpAnyV_end (k := 21) rfl (by kernel_rfl) (fun K hK => ?_)
 have cc := HS.1.st.bx.cell 29 rfl
 have fr := HS.1.st.bx.free 29
 have HZZ := Zh (show Hg n₀ l (w5.setCell ⟨S, 29, none⟩ (.slice R rm rd)) S H ⟨s2.a1, s2.n1, s2.c1, s2.a2, s2.n2, s2.c2, s2.a3, s2.n3, s2.c3, R, rm, rd⟩ { f with r := x.1, b := v, dl := g.1 } c e A n k t G m d told bs mk ∧ Fr n₀ l w (w5.setCell ⟨S, 29, none⟩ (.slice R rm rd)) from ⟨HS.1.set 29 (.slice R rm rd) rfl (HS.1.st.fm.newG rfl rfl rfl hsn.si hfr HW3.out), HS.2.trans (HS.1.frs 29 (.slice R rm rd))⟩)
 clear HS hb hsn hfr
 go_simp
 refine hK _ _ ?_
 clear hK K
 clear cc fr
 generalize w5.setCell ⟨S, 29, none⟩ (.slice R rm rd) = w6 at HZZ ⊢
 try simp only [Act.put, List.setIfInBounds_toArray, List.set_cons_zero, List.set_cons_succ]
 refine ⟨by kernel_rfl, ?_⟩
 go_wp2_with fail
 go_end0
 exact ⟨rfl, ⟨_, HZZ.out.1⟩, HZZ.out.2⟩
theorem flreceive_any (n₀ : Nat) (l : List Nat) (S H : Nat) (s : Fs) (f : Fv) (c : Cf) (e : Int) (A : Option Addr) (n k : Nat) (t : Tv) (G : Option Addr) (m d : Nat) (told : List Prt) (bs mk : Int) (w : World) (h : Hg n₀ l w S H s f c e A n k t G m d told bs mk) (hok : FvOk f c) (hb0 : bs = 0) (hsk : Ss w A n k t.sk) (hn : n ≤ 1000) : Calls Tryz.prog 73 #[.pointer (some ⟨H, 0, none⟩)] w fun e' w' => e' = .returned (.tuple #[]) ∧ (∃ s' G' m' d', Hg n₀ l w' S H s' { f with l := (heardR f.l t.got t.sk).1 } c (heardR f.l t.got t.sk).2.2 A n k t G' m' d' (heardR f.l t.got t.sk).2.1 (lenSum (heardR f.l t.got t.sk).2.1) mk) ∧ Fr n₀ l w w' := by
 have hbd : ∀ i, i ≤ (heardR f.l t.got t.sk).2.1.length → 0 ≤ lenSum ((heardR f.l t.got t.sk).2.1.take i) ∧ lenSum ((heardR f.l t.got t.sk).2.1.take i) ≤ 1460 * (i : Int) := by
  by_cases h1 : smayB f.l = true ∧ mayB t.sk = true
  ·by_cases h2 : f.l.length = 0 ∨ t.got < (spanR f.l).1 ∨ (spanR f.l).2 < t.got ∨ outB (spanR f.l) t.sk = true
   ·rw [heard_none h1 h2]; intro i hi; simp at hi; subst hi; simp [lenSum]
   ·rw [heard_ok h1 h2]; exact lenSum_bd (fun x hx => (told_ok hok.l hx).1)
  ·rw [heard_no h1]; intro i hi; simp at hi; subst hi; simp [lenSum]
 have hl5 : (heardR f.l t.got t.sk).2.1.length ≤ 500 := by
  by_cases h1 : smayB f.l = true ∧ mayB t.sk = true
  ·by_cases h2 : f.l.length = 0 ∨ t.got < (spanR f.l).1 ∨ (spanR f.l).2 < t.got ∨ outB (spanR f.l) t.sk = true
   ·rw [heard_none h1 h2]; simp
   ·rw [heard_ok h1 h2]; exact (told_sum hok.l).2.2
  ·rw [heard_no h1]; simp
 obtain ⟨x, hx⟩ : ∃ x, heardR f.l t.got t.sk = x := ⟨_, rfl⟩
 rw [hx] at hbd hl5 ⊢
 subst hb0
 have HX := Zh hx; have HBD := Zh hbd; have HL5 := Zh hl5; have HN2 := Zh hn
 have HW := Zh (w_valid hok)
 have HN := Zh (show s.n1 ≤ 1000 by have := h.st.fm.l.rd.len; have := ((smay_iff _).1 hok.l).1; omega)
 clear hx hbd hl5 hn hok
 go_enter Tryz.func73, Tryz.ntmps73
 go_upto_region 0 with fail
 refine kB [35, 38, 41] 42 (fun (W : World) => Hg n₀ l W S H s f c e A n k t G m d told 0 mk ∧ Fr n₀ l w W ∧ Ss W A n k t.sk) ⟨h.drew, Fr.call (Zb).drew h.st.size h.old, hsk.keep (Zb).drew⟩ (fun HS => ?_)
 generalize w.drew = wd1 at HS  ⊢
 refine kU 0 HS ?_
 refine kU 1 HS ?_
 refine kU 2 HS ?_
 refine kC 3 (fun w hSw => hSw.1.bx.cell 0 rfl) HS ?_
 refine kU 4 HS ?_
 refine kU 5 HS ?_
 refine kU 6 HS ?_
 refine kU 7 HS ?_
 refine kC 8 (fun w hSw => hSw.1.bx.cell 0 rfl) HS ?_
 refine kU 9 HS ?_
 refine kU 10 HS ?_
 refine kU 11 HS ?_
 refine kC 12 (fun w hSw => hSw.1.bx.cell 0 rfl) HS ?_
 refine kU 13 HS ?_
 refine kU 14 HS ?_
 refine kU 15 HS ?_
 refine kC 16 (v := .slice s.a1 s.n1 s.c1) (fun w hSw => hSw.1.st.bx.cell 1 rfl) HS ?_
 refine kU 17 HS ?_
 refine kU 18 HS ?_
 refine kU 19 HS ?_
 refine kU 20 HS ?_
 refine kC 21 (v := .int .i64 t.got) (fun w hSw => hSw.1.bx.cell 1 rfl) HS ?_
 refine kU 22 HS ?_
 refine kU 23 HS ?_
 refine kU 24 HS ?_
 refine kU 25 HS ?_
 refine kC 26 (v := .slice A n k) (fun w hSw => hSw.1.bx.cell 2 rfl) HS ?_
 refine wpAnyV_one (k := 27) rfl (by kernel_rfl) (fun K hK => ?_)
 go_simp
 refine (stheard_any _ _ _ f.l _ _ _ _ t.sk _ HS.1.st.fm.l HS.2.2 HN.out HN2.out).mono ?_
 rintro e2 w2 ⟨R, rm, rd, G2, m2, d2, he, hsn, hsf, hb⟩
 have hfr := HS.1.st.fresh hsn.at_ (n := rm)
 have hfo := HS.1.fresh hsf.at_ (n' := m2)
 rw [HX.out] at he hsn hsf
 subst he
 refine kK hK ⟨HS.1.call hb, HS.2.1.trans (HS.1.frm hb), HS.2.2.keep hb⟩ (fun HS => ?_)
 clear hK K
 refine kU 28 HS ?_
 refine kU 29 HS ?_
 refine kU 30 HS ?_
 refine kUv 31 (.int .i64 x.2.2) HS ?_
 refine kU 32 HS ?_
 refine kU 33 HS ?_
 refine kU 34 HS ?_
 refine wpAnyV_end (k := 35) rfl (by kernel_rfl) (fun K hK => ?_)
 have cc := HS.1.st.bx.cell 1 rfl
 have fr := HS.1.st.bx.free 1
 have HA := Zh (show Hg n₀ l (w2.setCell ⟨S, 1, none⟩ (.slice R rm rd)) S H ⟨R, rm, rd, s.a2, s.n2, s.c2, s.a3, s.n3, s.c3, s.a4, s.n4, s.c4⟩ { f with l := x.1 } c e A n k t G m d told 0 mk ∧ Fr n₀ l w (w2.setCell ⟨S, 1, none⟩ (.slice R rm rd)) from ⟨HS.1.set 1 (.slice R rm rd) rfl (HS.1.st.fm.newL hsn.se hfr rfl rfl rfl (HW.out.withL _)), HS.2.1.trans (HS.1.frs 1 (.slice R rm rd))⟩)
 have HK0 : Hid (Se (w2.setCell ⟨S, 1, none⟩ (.slice R rm rd)) G2 m2 d2 x.2.1) := Zh (se_grown hsf.se hfo (fl_gset w2 ⟨S, 1, none⟩ (.slice R rm rd)) (fun b hb e => hb.2 (by rw [← Zo e]; simp)))
 have HFO := Zh hfo
 clear HS hb hsn hfr hsf hfo
 go_simp
 refine hK _ _ ?_
 clear hK K
 clear cc fr
 generalize w2.setCell ⟨S, 1, none⟩ (.slice R rm rd) = wa at HA HK0 ⊢
 try simp only [Act.put, List.setIfInBounds_toArray, List.set_cons_zero, List.set_cons_succ]
 refine kN 36 ?_
 refine kN 37 ?_
 refine wpAnyV_end (k := 38) rfl (by kernel_rfl) (fun K hK => ?_)
 have cc := HA.out.1.bx.cell 7 rfl
 have fr := HA.out.1.bx.free 7
 have HB := Zh (show Hg n₀ l (wa.setCell ⟨H, 7, none⟩ (.slice G2 m2 d2)) S H ⟨R, rm, rd, s.a2, s.n2, s.c2, s.a3, s.n3, s.c3, s.a4, s.n4, s.c4⟩ { f with l := x.1 } c e A n k t G2 m2 d2 x.2.1 0 mk ∧ Fr n₀ l w (wa.setCell ⟨H, 7, none⟩ (.slice G2 m2 d2)) from ⟨HA.out.1.put 7 (.slice G2 m2 d2) rfl (HK0.out) (HFO.out), HA.out.2.trans (HA.out.1.frp 7 (.slice G2 m2 d2))⟩)
 clear HA
 go_simp
 refine hK _ _ ?_
 clear hK K
 clear cc fr
 generalize wa.setCell ⟨H, 7, none⟩ (.slice G2 m2 d2) = wb at HB ⊢
 try simp only [Act.put, List.setIfInBounds_toArray, List.set_cons_zero, List.set_cons_succ]
 refine kN 39 ?_
 refine kN 40 ?_
 refine wpAnyV_end (k := 41) rfl (by kernel_rfl) (fun K hK => ?_)
 have cc := HB.out.1.st.bx.cell 43 rfl
 have fr := HB.out.1.st.bx.free 43
 have HC := Zh (show Hg n₀ l (wb.setCell ⟨S, 43, none⟩ (.int .i64 x.2.2)) S H ⟨R, rm, rd, s.a2, s.n2, s.c2, s.a3, s.n3, s.c3, s.a4, s.n4, s.c4⟩ { f with l := x.1 } c x.2.2 A n k t G2 m2 d2 x.2.1 0 mk ∧ Fr n₀ l w (wb.setCell ⟨S, 43, none⟩ (.int .i64 x.2.2)) from ⟨HB.out.1.set 43 (.int .i64 x.2.2) rfl (HB.out.1.st.fm), HB.out.2.trans (HB.out.1.frs 43 (.int .i64 x.2.2))⟩)
 clear HB
 go_simp
 refine hK _ _ ?_
 clear hK K
 clear cc fr
 generalize wb.setCell ⟨S, 43, none⟩ (.int .i64 x.2.2) = wc at HC ⊢
 try simp only [Act.put, List.setIfInBounds_toArray, List.set_cons_zero, List.set_cons_succ]
 refine ⟨by kernel_rfl, ?_⟩
 clear h hsk HK0 HFO
 have hlen := HC.out.1.fr.rd.len
 have hmx := HC.out.1.fr.max; have hle := HC.out.1.fr.le
 unfold maxLen at hmx
 have HLEN := Zh hlen
 have c7 := HC.out.1.bx.cell 7 rfl
 have m3 : m2 ≤ 9223372036854775807 := by omega
 clear hlen hle hmx
 go_upto_region 1 with fail
 go_wp2_with fail
 clear c7
 go_loopw [48] (fun i wr => ∃ kk : Nat, kk ≤ m2 ∧ i = .int .i64 (kk : Int) ∧ Hid (Hg n₀ l wr S H ⟨R, rm, rd, s.a2, s.n2, s.c2, s.a3, s.n3, s.c3, s.a4, s.n4, s.c4⟩ { f with l := x.1 } c x.2.2 A n k t G2 m2 d2 x.2.1 (lenSum (x.2.1.take kk)) mk ∧ Fr n₀ l w wr)) (fun i _ => m2 - (intOf i).toNat)
 case atStart => exact ⟨0, Nat.zero_le _, rfl, HC⟩
 case round =>
  obtain ⟨kk, hk, rfl, HK⟩ := hrel
  by_cases hlt : kk < m2
  case pos =>
   have dlt : decide (kk < m2) = true := Zt hlt
   have hb1 := HBD.out kk (by rw [HLEN.out]; omega); have hb2 := HBD.out (kk + 1) (by rw [HLEN.out]; omega)
   have hsn : lenSum (x.2.1.take (kk + 1)) = lenSum (x.2.1.take kk) + (ge x.2.1 kk).len := by rw [take_ge (by rw [HLEN.out]; exact hlt), lenSum_snoc]
   have hk5 : kk < 500 := by have := HL5.out; have := HLEN.out; omega
   obtain ⟨a0, ha0⟩ : ∃ a0, lenSum (x.2.1.take kk) = a0 := ⟨_, rfl⟩
   obtain ⟨nb, hnb⟩ : ∃ nb, lenSum (x.2.1.take (kk + 1)) = nb := ⟨_, rfl⟩
   rw [ha0] at HK hb1 hsn
   rw [hnb] at hb2 hsn
   have HNB := Zh hnb; have HSUM := Zh hsn
   have hbb := And.intro hb1 (And.intro hb2 hk5)
   have HBB := Zh hbb
   clear ha0 hnb hb1 hb2 hsn hk5 hbb
   have hkl : kk < (x.2.1).length := by rw [HLEN.out]; exact hlt
   obtain ⟨bb, oo, ha, hbl, hcl⟩ := HK.out.1.fr.rd.at_ (by omega)
   have hcc := hcl kk hlt
   obtain ⟨y', hy⟩ : ∃ y', ge (x.2.1) kk = y' := ⟨_, rfl⟩
   rw [hy] at hcc
   have hyw : PrtW y' := by rw [← hy]; exact HK.out.1.fr.rd.ok _ (ge_mem hkl)
   have c0 : wr.cell? ⟨bb, oo + kk * 9, none⟩ = some (.int .i64 y'.seq) := hcc 0 _ rfl
   have c1 : wr.cell? ⟨bb, oo + kk * 9 + 1, none⟩ = some (.int .i64 y'.len) := hcc 1 _ rfl
   have c2 : wr.cell? ⟨bb, oo + kk * 9 + 2, none⟩ = some (.int .i64 y'.dsn) := hcc 2 _ rfl
   have c3 : wr.cell? ⟨bb, oo + kk * 9 + 3, none⟩ = some (.int .i64 y'.at_) := hcc 3 _ rfl
   have c4 : wr.cell? ⟨bb, oo + kk * 9 + 4, none⟩ = some (.int .i64 y'.tries) := hcc 4 _ rfl
   have c5 : wr.cell? ⟨bb, oo + kk * 9 + 5, none⟩ = some (.bool y'.came) := hcc 5 _ rfl
   have c6 : wr.cell? ⟨bb, oo + kk * 9 + 6, none⟩ = some (.bool y'.lost) := hcc 6 _ rfl
   have c7 : wr.cell? ⟨bb, oo + kk * 9 + 7, none⟩ = some (.int .i64 y'.total) := hcc 7 _ rfl
   have c8 : wr.cell? ⟨bb, oo + kk * 9 + 8, none⟩ = some (.int .i64 y'.last) := hcc 8 _ rfl
   have HYW := Zh hyw; have HY := Zh hy; have HKL := Zh hkl
   obtain ⟨X9, hX9⟩ : ∃ X, wr.heap.size = X := ⟨_, rfl⟩
   have al : Below wr.heap.size wr (wr.alloc (.cells #[y'.seq, y'.len, y'.dsn, y'.at_, y'.tries, y'.came, y'.lost, y'.total, y'.last] 57)) := (Zb).alloc Zr _
   have x1 := Bx.new wr 57 [y'.seq, y'.len, y'.dsn, y'.at_, y'.tries, y'.came, y'.lost, y'.total, y'.last]
   have HP := Zh (And.intro (HK.out.1.call al) (And.intro (HK.out.2.trans (HK.out.1.frm al)) x1))
   clear hcl hcc hbl hyw hy hkl x1 al
   subst ha
   go_upto_region 4 with fail
   rw [hX9] at HP
   try rw [hX9]
   generalize wr.alloc (.cells #[y'.seq, y'.len, y'.dsn, y'.at_, y'.tries, y'.came, y'.lost, y'.total, y'.last] 57) = w1 at HP ⊢
   clear c0 c1 c2 c3 c4 c5 c6 c7 c8 hX9
   have i1 : IntKind.i64.wrap (a0 + y'.len) = nb := by
    have h1 := HSUM.out
    rw [HY.out] at h1
    rw [← h1]
    have := HBB.out.2.1; have := HBB.out.2.2
    exact IntWalk.i64_in _ (by omega)
   refine kB [9] 10 (fun (W : World) => Hg n₀ l W S H ⟨R, rm, rd, s.a2, s.n2, s.c2, s.a3, s.n3, s.c3, s.a4, s.n4, s.c4⟩ { f with l := x.1 } c x.2.2 A n k t (some ⟨bb, oo, none⟩) m2 d2 x.2.1 a0 mk ∧ Fr n₀ l w W ∧ Bx W X9 57 [y'.seq, y'.len, y'.dsn, y'.at_, y'.tries, y'.came, y'.lost, y'.total, y'.last]) ⟨HP.out.1.drew, HP.out.2.1.trans (HP.out.1.frm (Zb).drew), HP.out.2.2.drew⟩ (fun HS => ?_)
   generalize w1.drew = wd4 at HS  ⊢
   refine kU 0 HS ?_
   refine kU 1 HS ?_
   refine kU 2 HS ?_
   refine kC 3 (v := .int .i64 a0) (fun w hSw => hSw.1.bx.cell 8 rfl) HS ?_
   refine kU 4 HS ?_
   refine kC 5 (v := .int .i64 y'.len) (fun w hSw => hSw.2.2.cell 1 rfl) HS ?_
   refine kUv 6 (.int .i64 nb) HS ?_
   refine kU 7 HS ?_
   refine kU 8 HS ?_
   refine wpAnyV_end (k := 9) rfl (by kernel_rfl) (fun K hK => ?_)
   have cc := HS.1.bx.cell 8 rfl
   have fr := HS.1.bx.free 8
   have HE := Zh (show Hg n₀ l (wd4.setCell ⟨H, 8, none⟩ (.int .i64 nb)) S H ⟨R, rm, rd, s.a2, s.n2, s.c2, s.a3, s.n3, s.c3, s.a4, s.n4, s.c4⟩ { f with l := x.1 } c x.2.2 A n k t (some ⟨bb, oo, none⟩) m2 d2 x.2.1 nb mk ∧ Fr n₀ l w (wd4.setCell ⟨H, 8, none⟩ (.int .i64 nb)) from ⟨HS.1.put 8 (.int .i64 nb) rfl (HS.1.fr) (HS.1.fo), HS.2.1.trans (HS.1.frp 8 (.int .i64 nb))⟩)
   clear HS
   go_simp
   refine hK _ _ ?_
   clear hK K
   clear cc fr
   generalize wd4.setCell ⟨H, 8, none⟩ (.int .i64 nb) = we at HE ⊢
   try simp only [Act.put, List.setIfInBounds_toArray, List.set_cons_zero, List.set_cons_succ]
   refine ⟨by kernel_rfl, ?_⟩
   go_wp2_with fail
   go_roundw
   case rel => exact ⟨kk + 1, by omega, by go_num, by rw [HNB.out]; exact HE⟩
   case measure => simp [intOf]; omega
  case neg =>
   obtain rfl : kk = m2 := by omega
   have dlt : decide (kk < kk) = false := Zf (by omega)
   have hfin : x.2.1.take kk = x.2.1 := by rw [← HLEN.out, List.take_length]
   rw [hfin] at HK
   clear hfin
   go_wp2_with fail
   go_end0
   exact ⟨rfl, ⟨_, _, _, _, HK.out.1⟩, HK.out.2⟩
end Go.Proofs.YtbijhkhkigdddaaGreat
