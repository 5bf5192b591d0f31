/- FlL5 FlL6. -/
import Derived.Test.YtbijhkhkigdddaaGreatP25
import Derived.Laws.ByValue
set_option linter.all false
set_option maxRecDepth 100000
set_option maxHeartbeats 32000000
namespace Go.Proofs.YtbijhkhkigdddaaGreat
open Go.RowKit
theorem FvW.withL {f : Fv} (h : FvW f) (l : List Prt) : FvW { f with l := l } := ⟨h.next, h.r1, h.r2, h.r3, h.r4, h.b1, h.b2, h.m1, h.m2, h.m3, h.m4, h.m5, h.d1, h.d2, h.k1, h.k2, h.k3, h.k4, h.k5, h.cw, h.th, h.t1, h.t2, h.rd⟩
theorem FvW.withN {f : Fv} (h : FvW f) (l : List Prt) {n : Int} (hn : i64 n) : FvW { f with l := l, next := n } := ⟨hn, h.r1, h.r2, h.r3, h.r4, h.b1, h.b2, h.m1, h.m2, h.m3, h.m4, h.m5, h.d1, h.d2, h.k1, h.k2, h.k3, h.k4, h.k5, h.cw, h.th, h.t1, h.t2, h.rd⟩
theorem sendadd_any (n₀ : Nat) (l : List Nat) (S : Nat) (s : Fs) (f : Fv) (c : Cf) (now e : Int) (w : World) (h : St n₀ l w S s f c now e) (x : Prt) (n : Int) (P X N : Nat) (hPS : P ≠ S) (hXS : X ≠ S) (hNS : N ≠ S) (bP : Bx w P 97 [.pointer (some ⟨S, 0, none⟩)]) (bX : Bx w X 57 (El.cells x)) (bN : Bx w N 3 [n])
  (hxw : PrtW x) (hln : f.l.length ≤ 1000) (hsr : sendR f.l x = (f.l ++ [x], 0)) (hw : FvW f) (hn : 0 ≤ f.next + n ∧ f.next + n ≤ 1152921504606846976) :
  Calls Tryz.prog 62 #[.pointer (some ⟨P, 0, none⟩), .pointer (some ⟨X, 0, none⟩), .pointer (some ⟨N, 0, none⟩)] w fun e' w' => e' = .returned (.tuple #[]) ∧ ∃ s', St n₀ l w' S s' { f with l := f.l ++ [x], next := f.next + n } c now e ∧ Fr n₀ l w w' := by
 have HXW := Zh hxw; have HLN := Zh hln; have HSR := Zh hsr; have HWF := Zh hw
 have i1 : IntKind.i64.wrap (f.next + n) = f.next + n := IntWalk.i64_in _ (by omega)
 have HW2 := Zh (hw.withN (f.l ++ [x]) (n := f.next + n) (by unfold i64; omega))
 clear hxw hln hsr hw hn
 go_enter Tryz.func62, Tryz.ntmps62
 go_upto_region 0 with fail
 refine kB [14] 15 (fun (W : World) => St n₀ l W S s f c now e ∧ Fr n₀ l w W ∧ Bx W P 97 [.pointer (some ⟨S, 0, none⟩)] ∧ Bx W X 57 (El.cells x) ∧ Bx W N 3 [n]) ⟨h.drew, Fr.call (Zb).drew h.size h.old, bP.drew, bX.drew, bN.drew⟩ (fun HS => ?_)
 generalize w.drew = wd at HS ⊢
 refine kC 0 (v := .pointer (some ⟨S, 0, none⟩)) (fun w hSw => hSw.2.2.1.cell 0 rfl) HS ?_
 refine kC 1 (v := .pointer (some ⟨S, 0, none⟩)) (fun w hSw => hSw.2.2.1.cell 0 rfl) HS ?_
 refine kU 2 HS ?_
 refine kU 3 HS ?_
 refine kU 4 HS ?_
 refine kC 5 (v := .slice s.a1 s.n1 s.c1) (fun w hSw => hSw.1.bx.cell 1 rfl) HS ?_
 refine kS 6 rfl (sub_y (cs := (El.cells x)) (vs := [x.seq, x.len, x.dsn, x.at_, x.tries, x.came, x.lost, x.total, x.last]) is_sent (by rfl) (.tmp 1) rfl rfl (fun w hSw => hSw.2.2.2.1) rfl rfl) HS ?_
 refine wpAnyV_one (k := 7) rfl (by kernel_rfl) (fun K hK => ?_)
 go_simp
 refine (stsend_any _ _ _ f.l x _ HS.1.fm.l HXW.out (by rw [← HS.1.fm.l.rd.len]; exact HLN.out)).mono ?_
 rintro e2 w2 ⟨G, m, d, he, hsn, hb⟩
 rw [HSR.out] at he hsn
 subst he
 have hfr := HS.1.fresh hsn.at_ (n := m)
 refine kK hK ⟨HS.1.call hb, HS.2.1.trans (HS.1.fr hb), HS.2.2.1.kept hb, HS.2.2.2.1.kept hb, HS.2.2.2.2.kept hb⟩ (fun HS => ?_)
 clear hK K
 refine kU 8 HS ?_
 refine kU 9 HS ?_
 refine kUv 10 (.int .i64 0) HS ?_
 refine kU 11 HS ?_
 refine kU 12 HS ?_
 refine kU 13 HS ?_
 refine wpAnyV_end (k := 14) rfl (by kernel_rfl) (fun K hK => ?_)
 have T1 : St n₀ l (w2.setCell ⟨S, 1, none⟩ (.slice G m d)) S ⟨G, m, d, s.a2, s.n2, s.c2, s.a3, s.n3, s.c3, s.a4, s.n4, s.c4⟩ { f with l := f.l ++ [x] } c now e := HS.1.set 1 (.slice G m d) rfl (HS.1.fm.newL hsn.se hfr rfl rfl rfl (HWF.out.withL _))
 have R1 := HS.2.1.trans (HS.1.frs 1 (.slice G m d))
 have P1 := HS.2.2.1.far (p := ⟨S, 1, none⟩) (show P ≠ S from hPS) (.slice G m d)
 have X1 := HS.2.2.2.1.far (p := ⟨S, 1, none⟩) (show X ≠ S from hXS) (.slice G m d)
 have N1 := HS.2.2.2.2.far (p := ⟨S, 1, none⟩) (show N ≠ S from hNS) (.slice G m d)
 have cc := HS.1.bx.cell 1 rfl
 have fr := HS.1.bx.free 1
 have HT := Zh (And.intro T1 (And.intro R1 (And.intro P1 (And.intro X1 N1))))
 clear T1 R1 P1 X1 N1 HS hsn hfr hb
 go_simp
 refine hK _ _ ?_
 clear hK K
 clear cc fr
 generalize w2.setCell ⟨S, 1, none⟩ (.slice G m d) = w3 at HT ⊢
 try simp only [Act.put, List.setIfInBounds_toArray, List.set_cons_zero, List.set_cons_succ]
 refine ⟨by kernel_rfl, ?_⟩
 go_upto_region 1 with fail
 refine kB [10] 11 (fun (W : World) => St n₀ l W S ⟨G, m, d, s.a2, s.n2, s.c2, s.a3, s.n3, s.c3, s.a4, s.n4, s.c4⟩ { f with l := f.l ++ [x] } c now e ∧ Fr n₀ l w W ∧ Bx W P 97 [.pointer (some ⟨S, 0, none⟩)] ∧ Bx W X 57 (El.cells x) ∧ Bx W N 3 [n]) ⟨HT.out.1.drew, HT.out.2.1.trans (Fr.call (Zb).drew HT.out.1.size HT.out.1.old), HT.out.2.2.1.drew, HT.out.2.2.2.1.drew, HT.out.2.2.2.2.drew⟩ (fun HS => ?_)
 generalize w3.drew = wd at HS ⊢
 refine kC 0 (v := .pointer (some ⟨S, 0, none⟩)) (fun w hSw => hSw.2.2.1.cell 0 rfl) HS ?_
 refine kU 1 HS ?_
 refine kU 2 HS ?_
 refine kU 3 HS ?_
 refine kC 4 (v := .int .i64 f.next) (fun w hSw => hSw.1.bx.cell 2 rfl) HS ?_
 refine kC 5 (v := .int .i64 n) (fun w hSw => hSw.2.2.2.2.cell 0 rfl) HS ?_
 refine kUv 6 (.int .i64 (f.next + n)) HS ?_
 refine kU 7 HS ?_
 refine kU 8 HS ?_
 refine kU 9 HS ?_
 refine wpAnyV_end (k := 10) rfl (by kernel_rfl) (fun K hK => ?_)
 have T1 : St n₀ l (wd.setCell ⟨S, 2, none⟩ (.int .i64 (f.next + n))) S ⟨G, m, d, s.a2, s.n2, s.c2, s.a3, s.n3, s.c3, s.a4, s.n4, s.c4⟩ { f with l := f.l ++ [x], next := f.next + n } c now e := HS.1.set 2 (.int .i64 (f.next + n)) rfl (HS.1.fm.same rfl rfl rfl rfl HW2.out)
 have R1 := HS.2.1.trans (HS.1.frs 2 (.int .i64 (f.next + n)))
 have cc := HS.1.bx.cell 2 rfl
 have fr := HS.1.bx.free 2
 have HU := Zh (And.intro T1 R1)
 clear T1 R1 HS
 go_simp
 refine hK _ _ ?_
 clear hK K
 clear cc fr
 generalize wd.setCell ⟨S, 2, none⟩ (.int .i64 (f.next + n)) = w4 at HU ⊢
 try simp only [Act.put, List.setIfInBounds_toArray, List.set_cons_zero, List.set_cons_succ]
 refine ⟨by kernel_rfl, ?_⟩
 go_wp2_with fail
 go_end0
 exact ⟨rfl, _, HU.out.1, HU.out.2⟩
theorem fl_end_c2 {W : World} {B X : Nat} {t t2 : TypeId} {cs xs : List Value} {fn : Func} {tmps : Array Value} {R : Ending → World → Prop} {v : Value} {ds : List Deferred} {p q r : Tmp} (hr : fn.results = #[.cell p 40, .cell q 57, .tmp r]) (h2 : tmps.getD p undef = .pointer (some ⟨B, 0, none⟩)) (h3 : tmps.getD q undef = .pointer (some ⟨X, 0, none⟩)) (h4 : tmps.getD r undef = v)
  (e : Bx W B t cs) (hl : cs.length = 33) (e2 : Bx W X t2 xs) (hl2 : xs.length = 9) (hd : ds = []) (h : R (.returned (.tuple #[.agg cs.toArray, .agg xs.toArray, v])) W) : bodyPost Tryz.prog fn R .ret { tmps := tmps, defers := ds } W := by
 have l2 := fl_var e hl
 have l3 := fp_var e2 hl2
 have h2a : tmps[p]?.getD undef = .pointer (some ⟨B, 0, none⟩) := by simpa using h2
 have h2b : tmps[q]?.getD undef = .pointer (some ⟨X, 0, none⟩) := by simpa using h3
 have h2c : tmps[r]?.getD undef = v := by simpa using h4
 refine bodyPost_ret (v := .tuple #[.agg cs.toArray, .agg xs.toArray, v]) ?_ hd h
 simp [results, hr, h2a, h2b, h2c, asAddr, l2, l3]
theorem ent_sadd : ∀ args w, (callFunc 62 args).run Tryz.prog w = .ok (.enter 62 args) w := enters_of Tryz.func62 (by kernel_rfl) rfl
theorem AllOk.of_may {l : List Prt} {x : Prt} {l0 : List Prt} (_ : AllOk l0) (h : smayB (l ++ [x]) = true) : PrtW x := (parts_bd h x (by simp)).w
theorem send_no1 {f : Fv} {c : Cf} {dsn n now : Int} (h : ¬ SendOk f c dsn n now) : sendF f c dsn n now = (zfv, zprt, 1) := if_neg h
theorem send_no3 {f : Fv} {c : Cf} {dsn n now : Int} (h : SendOk f c dsn n now) (hu : f.up = false) : sendF f c dsn n now = (zfv, zprt, 3) := by unfold sendF; rw [if_pos h, if_neg (by rw [hu]; simp)]
theorem send_no4 {f : Fv} {c : Cf} {dsn n now : Int} (h : SendOk f c dsn n now) (hu : f.up = true) (hw : f.cw < flightR f.l + n ∨ 500 ≤ f.l.length) : sendF f c dsn n now = (zfv, zprt, 4) := by unfold sendF; rw [if_pos h, if_pos hu, if_pos hw]
theorem send_ok0 {f : Fv} {c : Cf} {dsn n now : Int} (h : SendOk f c dsn n now) (hu : f.up = true) (hw : ¬ (f.cw < flightR f.l + n ∨ 500 ≤ f.l.length)) : sendF f c dsn n now = (sentF f c dsn n now, partF f dsn n now, 0) := by unfold sendF; rw [if_pos h, if_pos hu, if_neg hw]
theorem flsend_any (p : Nat → Prop) (s : Fs) (f : Fv) (c : Cf) (dsn n now : Int) (w : World) (hp : NewP w p) (h : FlM w p s f) (hc : CfW c) (h1 : i64 dsn) (h2 : i64 n) (h3 : i64 now) : Calls Tryz.prog 20 #[.agg (fcs s f).toArray, .agg (ccs c).toArray, dsn, n, now] w fun e w' => TellFP p w w' e (sendF f c dsn n now) := by
 unfold TellFP
 obtain ⟨B, hB⟩ : ∃ B, w.heap.size = B := ⟨_, rfl⟩
 have y0 := ((((Bx.new w 40 (fcs s f)).alloc (.cells (ccs c).toArray 42)).alloc (.cells #[n] 3)).alloc (.cells (fcs zfs zfv).toArray 40)).alloc (.cells (El.cells zprt).toArray 57)
 have k0 := (((Bx.new (w.alloc (.cells (fcs s f).toArray 40)) 42 (ccs c)).alloc (.cells #[n] 3)).alloc (.cells (fcs zfs zfv).toArray 40)).alloc (.cells (El.cells zprt).toArray 57)
 have n0 := ((Bx.new ((w.alloc (.cells (fcs s f).toArray 40)).alloc (.cells (ccs c).toArray 42)) 3 [n]).alloc (.cells (fcs zfs zfv).toArray 40)).alloc (.cells (El.cells zprt).toArray 57)
 have r0 := (Bx.new (((w.alloc (.cells (fcs s f).toArray 40)).alloc (.cells (ccs c).toArray 42)).alloc (.cells #[n] 3)) 40 (fcs zfs zfv)).alloc (.cells (El.cells zprt).toArray 57)
 have q0 := Bx.new ((((w.alloc (.cells (fcs s f).toArray 40)).alloc (.cells (ccs c).toArray 42)).alloc (.cells #[n] 3)).alloc (.cells (fcs zfs zfv).toArray 40)) 57 (El.cells zprt)
 have b0 : Below w.heap.size w (((((w.alloc (.cells (fcs s f).toArray 40)).alloc (.cells (ccs c).toArray 42)).alloc (.cells #[n] 3)).alloc (.cells (fcs zfs zfv).toArray 40)).alloc (.cells (El.cells zprt).toArray 57)) := (((((Zb).alloc Zr _).alloc (by simp) _).alloc (by simp; omega) _).alloc (by simp; omega) _).alloc (by simp; omega) _
 simp only [World.size_alloc] at y0 k0 n0 r0 q0
 have f0 := ((((h.alloc (.cells (fcs s f).toArray 40)).alloc (.cells (ccs c).toArray 42)).alloc (.cells #[n] 3)).alloc (.cells (fcs zfs zfv).toArray 40)).alloc (.cells (El.cells zprt).toArray 57)
 rw [hB] at y0 k0 n0 r0 q0 b0 ⊢
 have HC := Zh hc; have HP := Zh hp; have H1 := Zh h1; have H2 := Zh h2; have HBB := Zh hB
 obtain ⟨X, hX⟩ : ∃ X, sendF f c dsn n now = X := ⟨_, rfl⟩
 rw [hX]
 have HX := Zh hX
 clear h hc hp h1 h2 h3 hX
 go_enter Tryz.func20, Tryz.ntmps20
 go_upto_region 1 with fail
 change Code.wp _ _ _ _ (((((w.alloc (.cells (fcs s f).toArray 40)).alloc (.cells (ccs c).toArray 42)).alloc (.cells #[n] 3)).alloc (.cells (fcs zfs zfv).toArray 40)).alloc (.cells (El.cells zprt).toArray 57))
 generalize (((((w.alloc (.cells (fcs s f).toArray 40)).alloc (.cells (ccs c).toArray 42)).alloc (.cells #[n] 3)).alloc (.cells (fcs zfs zfv).toArray 40)).alloc (.cells (El.cells zprt).toArray 57)) = w1 at y0 k0 n0 r0 q0 b0 f0 ⊢
 clear hB
 have z1 : B ≤ w1.heap.size := Zl y0.lt
 go_wp2_with (first | (refine fl_load rfl (.tmp 5) rfl rfl y0 rfl ?_) | (refine cf_load rfl (.tmp 6) rfl rfl k0 rfl ?_))
 refine (flbegin_any p s f c now w1 f0 HC.out).mono ?_
 rintro e w2 ⟨hb, hcase⟩
 have y2 := y0.kept hb; have k2 := k0.kept hb; have n2 := n0.kept hb; have r2 := r0.kept hb; have q2 := q0.kept hb; have b2 := b0.trans (hb.mono z1); have z2 : B ≤ w2.heap.size := Zn z1 hb.size
 have hn0 : B + 5 ≤ w1.heap.size := q0.lt
 clear y0 k0 n0 r0 q0 b0 f0 hb
 obtain ⟨m0, hm0⟩ : ∃ m, w1.heap.size = m := ⟨_, rfl⟩
 rw [hm0] at hcase hn0
 clear hm0
 rcases hcase with ⟨hm, S, s', rfl, hst, _⟩ | ⟨hm, rfl⟩
 case inr =>
  have hF : X = (zfv, zprt, 1) := by rw [← HX.out]; refine send_no1 (fun h => ?_); rw [h.1, h.2.2.2.2.1] at hm; cases hm
  clear hm
  have y3 := y2.alloc (.cells #[.pointer none] 97); have r3 := r2.alloc (.cells #[.pointer none] 97); have q3 := q2.alloc (.cells #[.pointer none] 97); have b3 := b2.alloc z2 (.cells #[.pointer none] 97)
  have z3 : B ≤ (w2.alloc (.cells #[.pointer none] 97)).heap.size := Zn z2 (by simp)
  subst hF
  clear HX
  go_upto_region 2 with fail
  generalize w2.alloc (.cells #[.pointer none] 97) = w3 at y3 r3 q3 b3 z3 ⊢
  clear y2 r2 q2 b2 z2 k2 n2 hn0
  go_wp2_with (first | (refine fl_store rfl (.tmp 10) (.tmp 45) rfl rfl (fcs zfs zfv) rfl r3 rfl rfl rfl ?_) | (refine fp_store rfl (.tmp 11) (.tmp 46) rfl rfl (El.cells zprt) rfl (q3.grown (fl_grown _ (B + 1 + 1 + 1) _) (fun e => by have := Zo e; omega)) rfl rfl rfl ?_))
  refine fl_end_c2 (by rfl) (by rfl) (by rfl) (by rfl) ((fl_put r3 (fcs zfs zfv)).grown (fp_grown _ (B + 1 + 1 + 1 + 1) _) (fun e => by have := Zo e; omega)) rfl (fp_put (q3.grown (fl_grown _ (B + 1 + 1 + 1) _) (fun e => by have := Zo e; omega)) (El.cells zprt)) rfl rfl ?_
  exact ⟨zfs, rfl, FlM.zero _ _, (b3.grown (fl_grown _ (B + 1 + 1 + 1) _) z3 (fun k hk => by cases hk; omega)).grown (fp_grown _ (B + 1 + 1 + 1 + 1) _) (Zn z3 (by simp [World.setRow])) (fun k hk => by cases hk; omega)⟩
 case inl =>
 have hok := (fmay_iff f c).1 (by simp only [Bool.and_eq_true] at hm; exact hm.1)
 have ht : t60 now = true := by simp only [Bool.and_eq_true] at hm; exact hm.2
 have hms := (fmay_iff f c).2 hok
 clear hm
 obtain ⟨P, hP⟩ : ∃ P, w2.heap.size = P := ⟨_, rfl⟩
 have al : Below w2.heap.size w2 (w2.alloc (.cells #[.pointer (some ⟨S, 0, none⟩)] 97)) := (Zb).alloc Zr _
 have p3 := Bx.new w2 97 [.pointer (some ⟨S, 0, none⟩)]
 have t3 := hst.more Zr al (by simp)
 rw [hP] at p3 t3
 have y3 := y2.kept al; have k3 := k2.kept al; have n3 := n2.kept al; have r3 := r2.kept al; have q3 := q2.kept al; have b3 := b2.trans (al.mono z2); have z3 : B ≤ (w2.alloc (.cells #[.pointer (some ⟨S, 0, none⟩)] 97)).heap.size := Zn z2 al.size
 have hPS : P ≠ S := by rw [← hP]; have := hst.bx.lt; omega
 have hSB : B + 5 ≤ S := Zn hn0 hst.s0
 have hPB : B + 5 ≤ P := by rw [← hP]; have := hst.bx.lt; omega
 go_upto_region 2 with fail
 clear al y2 k2 n2 r2 q2 b2 z2 hst
 try rw [hP]
 generalize w2.alloc (.cells #[.pointer (some ⟨S, 0, none⟩)] 97) = w3 at p3 t3 y3 k3 n3 r3 q3 b3 z3 ⊢
 clear hP
 have cn := n3.cell 0 rfl; have ck := k3.cell 0 rfl; have cy := y3.cell 2 rfl; have cp := p3.cell 0 rfl; have cu := t3.bx.cell 0 rfl; have cl := t3.bx.cell 1 rfl
 have HOK := Zh hok; have HT := Zh ht; have HMS := Zh hms
 have T3 := Zh t3
 have hnx := (t60_iff f.next).1 hok.next
 have hmss := hok.fine.m1
 clear hms ht t3
 cases g1 : fwinB n 1 c.mss with
 | false =>
  have hF : X = (zfv, zprt, 1) := by rw [← HX.out]; refine send_no1 (fun h => ?_); rw [(fwin_iff _ _ _).2 ⟨h.2.1, h.2.2.1⟩] at g1; cases g1
  clear hok hnx hmss
  go_upto_region 3 with (go_at_call 38; refine (fwin_any _ _ _ _).mono ?_; rintro e wx ⟨rfl, rfl⟩)
  subst hF
  clear HX
  go_wp2_with (first | (refine fl_store rfl (.tmp 10) (.tmp 45) rfl rfl (fcs zfs zfv) rfl r3 rfl rfl rfl ?_) | (refine fp_store rfl (.tmp 11) (.tmp 46) rfl rfl (El.cells zprt) rfl (q3.grown (fl_grown _ (B + 1 + 1 + 1) _) (fun e => by have := Zo e; omega)) rfl rfl rfl ?_))
  refine fl_end_c2 (by rfl) (by rfl) (by rfl) (by rfl) ((fl_put r3 (fcs zfs zfv)).grown (fp_grown _ (B + 1 + 1 + 1 + 1) _) (fun e => by have := Zo e; omega)) rfl (fp_put (q3.grown (fl_grown _ (B + 1 + 1 + 1) _) (fun e => by have := Zo e; omega)) (El.cells zprt)) rfl rfl ?_
  exact ⟨zfs, rfl, FlM.zero _ _, (b3.grown (fl_grown _ (B + 1 + 1 + 1) _) z3 (fun k hk => by cases hk; omega)).grown (fp_grown _ (B + 1 + 1 + 1 + 1) _) (Zn z3 (by simp [World.setRow])) (fun k hk => by cases hk; omega)⟩
 | true =>
 obtain ⟨g1a, g1b⟩ := (fwin_iff _ _ _).1 g1
 cases g2 : fwinB dsn 0 1152921504606846976 with
 | false =>
  have hF : X = (zfv, zprt, 1) := by rw [← HX.out]; refine send_no1 (fun h => ?_); have := h.2.2.2.1; rw [← fwin60, g2] at this; cases this
  clear hok hnx hmss
  go_upto_region 3 with (go_at_call 38; refine (fwin_any _ _ _ _).mono ?_; rintro e wx ⟨rfl, rfl⟩)
  subst hF
  clear HX
  go_wp2_with (first | (refine fl_store rfl (.tmp 10) (.tmp 45) rfl rfl (fcs zfs zfv) rfl r3 rfl rfl rfl ?_) | (refine fp_store rfl (.tmp 11) (.tmp 46) rfl rfl (El.cells zprt) rfl (q3.grown (fl_grown _ (B + 1 + 1 + 1) _) (fun e => by have := Zo e; omega)) rfl rfl rfl ?_))
  refine fl_end_c2 (by rfl) (by rfl) (by rfl) (by rfl) ((fl_put r3 (fcs zfs zfv)).grown (fp_grown _ (B + 1 + 1 + 1 + 1) _) (fun e => by have := Zo e; omega)) rfl (fp_put (q3.grown (fl_grown _ (B + 1 + 1 + 1) _) (fun e => by have := Zo e; omega)) (El.cells zprt)) rfl rfl ?_
  exact ⟨zfs, rfl, FlM.zero _ _, (b3.grown (fl_grown _ (B + 1 + 1 + 1) _) z3 (fun k hk => by cases hk; omega)).grown (fp_grown _ (B + 1 + 1 + 1 + 1) _) (Zn z3 (by simp [World.setRow])) (fun k hk => by cases hk; omega)⟩
 | true =>
 have i1 : IntKind.i64.wrap (f.next + n) = f.next + n := IntWalk.i64_in _ (by omega)
 by_cases g3 : f.next + n ≤ 1152921504606846976
 case neg =>
  have hF : X = (zfv, zprt, 1) := by rw [← HX.out]; exact send_no1 (fun h => g3 h.2.2.2.2.2)
  have d3 : decide (1152921504606846976 < f.next + n) = true := Zt (by omega)
  clear hok hnx hmss
  go_upto_region 3 with (go_at_call 38; refine (fwin_any _ _ _ _).mono ?_; rintro e wx ⟨rfl, rfl⟩)
  subst hF
  clear HX
  go_wp2_with (first | (refine fl_store rfl (.tmp 10) (.tmp 45) rfl rfl (fcs zfs zfv) rfl r3 rfl rfl rfl ?_) | (refine fp_store rfl (.tmp 11) (.tmp 46) rfl rfl (El.cells zprt) rfl (q3.grown (fl_grown _ (B + 1 + 1 + 1) _) (fun e => by have := Zo e; omega)) rfl rfl rfl ?_))
  refine fl_end_c2 (by rfl) (by rfl) (by rfl) (by rfl) ((fl_put r3 (fcs zfs zfv)).grown (fp_grown _ (B + 1 + 1 + 1 + 1) _) (fun e => by have := Zo e; omega)) rfl (fp_put (q3.grown (fl_grown _ (B + 1 + 1 + 1) _) (fun e => by have := Zo e; omega)) (El.cells zprt)) rfl rfl ?_
  exact ⟨zfs, rfl, FlM.zero _ _, (b3.grown (fl_grown _ (B + 1 + 1 + 1) _) z3 (fun k hk => by cases hk; omega)).grown (fp_grown _ (B + 1 + 1 + 1 + 1) _) (Zn z3 (by simp [World.setRow])) (fun k hk => by cases hk; omega)⟩
 case pos =>
 have d3 : decide (1152921504606846976 < f.next + n) = false := Zf (by omega)
 have hsok : SendOk f c dsn n now := ⟨HMS.out, g1a, g1b, by rw [← fwin60]; exact g2, HT.out, g3⟩
 have HSOK := Zh hsok; have HN := Zh (And.intro g1a (And.intro g1b (And.intro g3 (And.intro hnx hmss))))
 go_upto_region 4 with (go_at_call 38; refine (fwin_any _ _ _ _).mono ?_; rintro e wx ⟨rfl, rfl⟩)
 clear g1 g2 g3 d3 hsok hok hnx hmss g1a g1b cn ck cy
 cases hu : f.up with
 | false =>
  have hF : X = (zfv, zprt, 3) := by rw [← HX.out]; exact send_no3 HSOK.out hu
  rw [hu] at cu
  clear hu
  go_upto_region 5 with fail
  subst hF
  clear HX
  go_wp2_with (first | (refine fl_store rfl (.tmp 10) (.tmp 53) rfl rfl (fcs zfs zfv) rfl r3 rfl rfl rfl ?_) | (refine fp_store rfl (.tmp 11) (.tmp 54) rfl rfl (El.cells zprt) rfl (q3.grown (fl_grown _ (B + 1 + 1 + 1) _) (fun e => by have := Zo e; omega)) rfl rfl rfl ?_))
  refine fl_end_c2 (by rfl) (by rfl) (by rfl) (by rfl) ((fl_put r3 (fcs zfs zfv)).grown (fp_grown _ (B + 1 + 1 + 1 + 1) _) (fun e => by have := Zo e; omega)) rfl (fp_put (q3.grown (fl_grown _ (B + 1 + 1 + 1) _) (fun e => by have := Zo e; omega)) (El.cells zprt)) rfl rfl ?_
  exact ⟨zfs, rfl, FlM.zero _ _, (b3.grown (fl_grown _ (B + 1 + 1 + 1) _) z3 (fun k hk => by cases hk; omega)).grown (fp_grown _ (B + 1 + 1 + 1 + 1) _) (Zn z3 (by simp [World.setRow])) (fun k hk => by cases hk; omega)⟩
 | true =>
 rw [hu] at cu
 have HU := Zh hu
 clear hu
 go_upto_region 6 with fail
 have cn := n3.cell 0 rfl
 have hfit := flfits_any m0 [P] S s' f c now 0 w3 T3.out n ((fmay_iff f c).1 HMS.out) (by have := HN.out.1; have := HN.out.2.1; have := HN.out.2.2.2.2; omega)
 have hlen := T3.out.fm.l.rd.len
 have hl5 := ((smay_iff _).1 ((fmay_iff f c).1 HMS.out).l).1
 obtain ⟨q, hq⟩ : ∃ q, decide (flightR f.l + n ≤ f.cw) = q := ⟨_, rfl⟩
 rw [hq] at hfit
 have HQ := Zh hq; have HLEN := Zh hlen; have HL5 := Zh hl5
 have HFIT := Zh hfit
 clear hq hfit hlen hl5
 go_wp2_with fail
 refine HFIT.out.mono ?_
 rintro e w4 ⟨rfl, hb⟩
 have y4 := y3.kept hb; have k4 := k3.kept hb; have n4 := n3.kept hb; have r4 := r3.kept hb; have q4 := q3.kept hb; have b4 := b3.trans (hb.mono z3); have z4 : B ≤ w4.heap.size := Zn z3 hb.size
 have T4 := Zh (T3.out.call hb); have p4 := p3.kept hb
 clear y3 k3 n3 r3 q3 b3 z3 p3 cp cl cu cn hb T3 HFIT
 have cp := p4.cell 0 rfl; have cl := T4.out.bx.cell 1 rfl
 cases q with
 | false =>
  have hF : X = (zfv, zprt, 4) := by rw [← HX.out]; exact send_no4 HSOK.out HU.out (.inl (by have := of_decide_eq_false HQ.out; omega))
  go_upto_region 7 with fail
  subst hF
  clear HX
  go_wp2_with (first | (refine fl_store rfl (.tmp 10) (.tmp 68) rfl rfl (fcs zfs zfv) rfl r4 rfl rfl rfl ?_) | (refine fp_store rfl (.tmp 11) (.tmp 69) rfl rfl (El.cells zprt) rfl (q4.grown (fl_grown _ (B + 1 + 1 + 1) _) (fun e => by have := Zo e; omega)) rfl rfl rfl ?_))
  refine fl_end_c2 (by rfl) (by rfl) (by rfl) (by rfl) ((fl_put r4 (fcs zfs zfv)).grown (fp_grown _ (B + 1 + 1 + 1 + 1) _) (fun e => by have := Zo e; omega)) rfl (fp_put (q4.grown (fl_grown _ (B + 1 + 1 + 1) _) (fun e => by have := Zo e; omega)) (El.cells zprt)) rfl rfl ?_
  exact ⟨zfs, rfl, FlM.zero _ _, (b4.grown (fl_grown _ (B + 1 + 1 + 1) _) z4 (fun k hk => by cases hk; omega)).grown (fp_grown _ (B + 1 + 1 + 1 + 1) _) (Zn z4 (by simp [World.setRow])) (fun k hk => by cases hk; omega)⟩
 | true =>
 by_cases g5 : s'.n1 = 500
 case pos =>
  have hF : X = (zfv, zprt, 4) := by rw [← HX.out]; exact send_no4 HSOK.out HU.out (.inr (by have := HLEN.out; omega))
  have d5 : ((s'.n1 : Int) == 500) = true := by simp; omega
  have d6 : decide ((s'.n1 : Int) = 500) = true := Zt (by omega)
  clear g5
  go_upto_region 7 with fail
  subst hF
  clear HX
  go_wp2_with (first | (refine fl_store rfl (.tmp 10) (.tmp 68) rfl rfl (fcs zfs zfv) rfl r4 rfl rfl rfl ?_) | (refine fp_store rfl (.tmp 11) (.tmp 69) rfl rfl (El.cells zprt) rfl (q4.grown (fl_grown _ (B + 1 + 1 + 1) _) (fun e => by have := Zo e; omega)) rfl rfl rfl ?_))
  refine fl_end_c2 (by rfl) (by rfl) (by rfl) (by rfl) ((fl_put r4 (fcs zfs zfv)).grown (fp_grown _ (B + 1 + 1 + 1 + 1) _) (fun e => by have := Zo e; omega)) rfl (fp_put (q4.grown (fl_grown _ (B + 1 + 1 + 1) _) (fun e => by have := Zo e; omega)) (El.cells zprt)) rfl rfl ?_
  exact ⟨zfs, rfl, FlM.zero _ _, (b4.grown (fl_grown _ (B + 1 + 1 + 1) _) z4 (fun k hk => by cases hk; omega)).grown (fp_grown _ (B + 1 + 1 + 1 + 1) _) (Zn z4 (by simp [World.setRow])) (fun k hk => by cases hk; omega)⟩
 case neg =>
 have d5 : ((s'.n1 : Int) == 500) = false := by simp; omega
 have d6 : decide ((s'.n1 : Int) = 500) = false := Zf (by omega)
 have hn5 : ¬ 500 ≤ f.l.length := by have := HLEN.out; have := HL5.out; omega
 have HN5 := Zh hn5
 have hF : X = (sentF f c dsn n now, partF f dsn n now, 0) := by rw [← HX.out]; exact send_ok0 HSOK.out HU.out (fun h => by have := of_decide_eq_true HQ.out; rcases h with h | h; omega; exact HN5.out h)
 have HF := Zh hF
 clear hF HX g5 hn5
 go_upto_region 8 with fail
 clear d5 d6 cp cl
 have hs4 : w4.heap.size = w4.heap.size := rfl
 clear hs4
 refine kB [22] 23 (fun (W : World) => St m0 [P] W S s' f c now 0 ∧ Bx W P 97 [.pointer (some ⟨S, 0, none⟩)] ∧ Bx W (B + 1 + 1) 3 [n] ∧ Bx W B 40 (fcs s f) ∧ Bx W (B + 1 + 1 + 1) 40 (fcs zfs zfv) ∧ Bx W (B + 1 + 1 + 1 + 1) 57 (El.cells zprt) ∧ Below B w W ∧ B ≤ W.heap.size) ⟨T4.out.drew, p4.drew, n4.drew, y4.drew, r4.drew, q4.drew, b4.drew, z4⟩ (fun HS => ?_)
 generalize w4.drew = wd at HS  ⊢
 refine kC 0 (v := .pointer (some ⟨S, 0, none⟩)) (fun w hSw => hSw.2.1.cell 0 rfl) HS ?_
 refine kU 1 HS ?_
 refine kU 2 HS ?_
 refine kU 3 HS ?_
 refine kC 4 (v := .int .i64 f.next) (fun w hSw => hSw.1.bx.cell 2 rfl) HS ?_
 refine kC 5 (v := .int .i64 n) (fun w hSw => hSw.2.2.1.cell 0 rfl) HS ?_
 refine kUv 6 (.int .i64 dsn) HS ?_
 refine kUv 7 (.int .i64 now) HS ?_
 refine kC 8 (v := .pointer (some ⟨S, 0, none⟩)) (fun w hSw => hSw.2.1.cell 0 rfl) HS ?_
 refine kU 9 HS ?_
 refine kU 10 HS ?_
 refine kU 11 HS ?_
 refine kU 12 HS ?_
 refine kC 13 (v := .int .i64 f.d.total) (fun w hSw => hSw.1.bx.cell 16 rfl) HS ?_
 refine kC 14 (v := .pointer (some ⟨S, 0, none⟩)) (fun w hSw => hSw.2.1.cell 0 rfl) HS ?_
 refine kU 15 HS ?_
 refine kU 16 HS ?_
 refine kU 17 HS ?_
 refine kU 18 HS ?_
 refine kC 19 (v := .int .i64 f.d.last) (fun w hSw => hSw.1.bx.cell 17 rfl) HS ?_
 refine kU 20 HS ?_
 refine wpAnyV_one (k := 21) rfl (by kernel_rfl) (fun K hK => ?_)
 go_simp
 have bX := Bx.new wd 57 [.int .i64 0, .int .i64 0, .int .i64 0, .int .i64 0, .int .i64 0, .bool false, .bool false, .int .i64 0, .int .i64 0]
 obtain ⟨XX, hXX⟩ : ∃ x, wd.heap.size = x := ⟨_, rfl⟩
 have alX : Below wd.heap.size wd (wd.alloc (.cells #[.int .i64 0, .int .i64 0, .int .i64 0, .int .i64 0, .int .i64 0, .bool false, .bool false, .int .i64 0, .int .i64 0] 57)) := (Zb).alloc Zr _
 have T5 := Zh (HS.1.more Zr alX (by simp))
 have hXB : B + 5 ≤ XX := by rw [← hXX]; exact HS.2.2.2.2.2.1.lt
 have hXS : XX ≠ S := by rw [← hXX]; have := HS.1.bx.lt; omega
 have hXP : XX ≠ P := by rw [← hXX]; have := HS.2.1.lt; omega
 rw [hXX] at bX T5
 try rw [hXX]
 refine kK hK ⟨HS.1.call alX, HS.2.1.kept alX, HS.2.2.1.kept alX, HS.2.2.2.1.kept alX, HS.2.2.2.2.1.kept alX, HS.2.2.2.2.2.1.kept alX, HS.2.2.2.2.2.2.1.trans (alX.mono HS.2.2.2.2.2.2.2), Zn HS.2.2.2.2.2.2.2 alX.size⟩ (fun HS => ?_)
 clear hK K
 refine wpAnyV_end (k := 22) rfl (by kernel_rfl) (fun K hK => ?_)
 refine sub_end is_sent (by rfl) (.tmp 15) (.tmp 90) rfl rfl [f.next, n, dsn, now, .int .i64 1, .bool false, .bool false, f.d.total, f.d.last] rfl bX (by decide) rfl rfl ?_
 refine hK _ _ ?_
 clear hK K
 try simp only [Act.put, List.setIfInBounds_toArray, List.set_cons_zero, List.set_cons_succ]
 refine ⟨by kernel_rfl, ?_⟩
 have gX : ((wd.alloc (.cells #[.int .i64 0, .int .i64 0, .int .i64 0, .int .i64 0, .int .i64 0, .bool false, .bool false, .int .i64 0, .int .i64 0] 57))).grownBy ((wd.alloc (.cells #[.int .i64 0, .int .i64 0, .int .i64 0, .int .i64 0, .int .i64 0, .bool false, .bool false, .int .i64 0, .int .i64 0] 57)).setCells XX 0 [f.next, n, dsn, now, .int .i64 1, .bool false, .bool false, f.d.total, f.d.last]) (some XX) := grown_cells [f.next, n, dsn, now, .int .i64 1, .bool false, .bool false, f.d.total, f.d.last] 0 _
 have x6 : Bx ((wd.alloc (.cells #[.int .i64 0, .int .i64 0, .int .i64 0, .int .i64 0, .int .i64 0, .bool false, .bool false, .int .i64 0, .int .i64 0] 57)).setCells XX 0 [f.next, n, dsn, now, .int .i64 1, .bool false, .bool false, f.d.total, f.d.last]) XX 57 (El.cells (partF f dsn n now)) := Bx.cells [f.next, n, dsn, now, .int .i64 1, .bool false, .bool false, f.d.total, f.d.last] (o := 0) bX
 have T6 := T5.out.other gX (List.mem_cons_self ..)
 have p6 := HS.2.1.grown gX (fun e => hXP (Zo e).symm)
 have n6 := HS.2.2.1.grown gX (fun e => by have := Zo e; omega)
 have y6 := HS.2.2.2.1.grown gX (fun e => by have := Zo e; omega)
 have r6 := HS.2.2.2.2.1.grown gX (fun e => by have := Zo e; omega)
 have q6 := HS.2.2.2.2.2.1.grown gX (fun e => by have := Zo e; omega)
 have b6 := HS.2.2.2.2.2.2.1.grown gX HS.2.2.2.2.2.2.2 (fun k hk => by cases hk; omega)
 have z6 : B ≤ ((wd.alloc (.cells #[.int .i64 0, .int .i64 0, .int .i64 0, .int .i64 0, .int .i64 0, .bool false, .bool false, .int .i64 0, .int .i64 0] 57)).setCells XX 0 [f.next, n, dsn, now, .int .i64 1, .bool false, .bool false, f.d.total, f.d.last]).heap.size := Zn HS.2.2.2.2.2.2.2 gX.size
 clear HS T5 bX alX gX
 generalize (wd.alloc (.cells #[.int .i64 0, .int .i64 0, .int .i64 0, .int .i64 0, .int .i64 0, .bool false, .bool false, .int .i64 0, .int .i64 0] 57)).setCells XX 0 [f.next, n, dsn, now, .int .i64 1, .bool false, .bool false, f.d.total, f.d.last] = w6 at x6 T6 p6 n6 y6 r6 q6 b6 z6 ⊢
 have T6' := Zh T6
 have cp := p6.cell 0 rfl
 clear T6
 go_upto_region 10 with fail
 go_wp2_with fail
 obtain ⟨R, hR⟩ : ∃ R, w6.heap.size = R := ⟨_, rfl⟩
 have alR : Below w6.heap.size w6 (w6.alloc (.cells #[.func (.func 62) #[] #[.pointer (some ⟨P, 0, none⟩), .pointer (some ⟨XX, 0, none⟩), .pointer (some ⟨B + 1 + 1, 0, none⟩)], .func (.func 65) #[.pointer (some ⟨S, 0, none⟩)] #[]] 1)) := (Zb).alloc Zr _
 have bR := Bx.new w6 1 [.func (.func 62) #[] #[.pointer (some ⟨P, 0, none⟩), .pointer (some ⟨XX, 0, none⟩), .pointer (some ⟨B + 1 + 1, 0, none⟩)], .func (.func 65) #[.pointer (some ⟨S, 0, none⟩)] #[]]
 have T7 := T6'.out.more Zr alR (by simp)
 have x7 := x6.kept alR; have p7 := p6.kept alR; have n7 := n6.kept alR; have y7 := y6.kept alR; have r7 := r6.kept alR; have q7 := q6.kept alR; have b7 := b6.trans (alR.mono z6)
 rw [hR] at bR T7 ⊢
 clear T6' x6 p6 n6 y6 r6 q6 b6 cp alR hR z6
 generalize w6.alloc (.cells #[.func (.func 62) #[] #[.pointer (some ⟨P, 0, none⟩), .pointer (some ⟨XX, 0, none⟩), .pointer (some ⟨B + 1 + 1, 0, none⟩)], .func (.func 65) #[.pointer (some ⟨S, 0, none⟩)] #[]] 1) = w7 at bR T7 x7 p7 n7 y7 r7 q7 b7 ⊢
 have hok := (fmay_iff f c).1 HMS.out
 have hso := sent_ok HSOK.out HN5.out
 have hok2 : FvOk { f with l := f.l ++ [partF f dsn n now], next := f.next + n } c := ⟨hso.fine, hso.l, hso.r, hso.b, hso.m, hso.d, hso.k, hso.w, hok.t, hso.g, hso.next, hso.rd, hso.link⟩
 have hmay := (smay_iff _).1 hso.l
 have hsr : sendR f.l (partF f dsn n now) = (f.l ++ [partF f dsn n now], 0) := by
  have hch : chainB (f.l ++ [partF f dsn n now]) = true := by have := hso.l; unfold smayB at this; simp only [Bool.and_eq_true] at this; exact this.2
  have := HL5.out; have := HN5.out
  unfold sendR
  rw [if_pos ⟨hch, HL5.out⟩, if_neg (by omega)]
 have hxw : PrtW (partF f dsn n now) := T7.fm.l.rd.ok.of_may hso.l
 have hrun := flrun_two m0 [R, XX, P] S R 62 #[] #[.pointer (some ⟨P, 0, none⟩), .pointer (some ⟨XX, 0, none⟩), .pointer (some ⟨B + 1 + 1, 0, none⟩)] s' f _ c now w7 ent_sadd T7 (List.mem_cons_self ..) bR hok2 HT.out
  ((sendadd_any m0 [R, XX, P] S s' f c now 0 w7 T7 (partF f dsn n now) n P XX (B + 1 + 1) hPS hXS (by omega) p7 x7 n7 hxw (by have := HL5.out; omega) hsr (w_valid hok) (by have := HN.out; omega)).mono (fun e W' hh => ⟨hh.1, ⟨hh.2.choose, hh.2.choose_spec.1⟩, hh.2.choose_spec.2⟩))
 obtain ⟨g, hg⟩ : ∃ g, setF { f with l := f.l ++ [partF f dsn n now], next := f.next + n } c now = g := ⟨_, rfl⟩
 rw [hg] at hrun
 have hgg : sentF f c dsn n now = g := hg
 have HG := Zh hgg
 clear hg hgg hxw hsr hmay hok2 hso hok
 refine hrun.mono ?_
 rintro e w8 ⟨rfl, ⟨s8, T8⟩, hf⟩
 have y8 := y7.below hf.below (by omega); have r8 := r7.below hf.below (by omega); have q8 := q7.below hf.below (by omega); have p8 := hf.bx p7 (by simp); have x8 := hf.bx x7 (by simp); have b8 := b7.trans (hf.below.mono (by omega))
 have z8 : B ≤ w8.heap.size := Zl y8.lt
 clear hrun bR T7 x7 p7 n7 y7 r7 q7 b7 hf
 go_upto_region 11 with fail
 have rr := r8.drew; have qq := q8.drew; have bb := b8.drew; have zz : B ≤ w8.drew.heap.size := z8
 refine kB [6] 8 (fun (W : World) => St m0 [R, XX, P] W S s8 g c now 0 ∧ Bx W P 97 [.pointer (some ⟨S, 0, none⟩)] ∧ Bx W XX 57 (El.cells (partF f dsn n now))) ⟨T8.drew, p8.drew, x8.drew⟩ (fun HS => ?_)
 generalize w8.drew = wd at HS rr qq bb zz ⊢
 refine kC 0 (v := .pointer (some ⟨S, 0, none⟩)) (fun w hSw => hSw.2.1.cell 0 rfl) HS ?_
 refine kU 1 HS ?_
 refine kU 2 HS ?_
 refine kS 3 rfl (sub_y (cs := (scs s8 g c now 0)) (vs := fcs s8 g) is_flow (by rfl) (.tmp 100) rfl rfl (fun w hSw => hSw.1.bx) rfl rfl) HS ?_
 refine kS 4 rfl (sub_y (cs := (El.cells (partF f dsn n now))) (vs := El.cells (partF f dsn n now)) is_sent (by rfl) (.tmp 15) rfl rfl (fun w hSw => hSw.2.2) rfl rfl) HS ?_
 refine wpAnyV_one (k := 5) rfl (by kernel_rfl) (fun K hK => ?_)
 refine sub_end is_flow (by rfl) (.tmp 10) (.tmp 101) rfl rfl (fcs s8 g) rfl rr (by decide) rfl (fcs_one _ _) ?_
 have g5 : wd.grownBy (wd.setCells (B + 1 + 1 + 1) 0 (fcs s8 g)) (some (B + 1 + 1 + 1)) := grown_cells (fcs s8 g) 0 wd
 have r9 : Bx (wd.setCells (B + 1 + 1 + 1) 0 (fcs s8 g)) (B + 1 + 1 + 1) 40 (fcs s8 g) := rr.flow s8 g
 have q9 := qq.grown g5 (fun e => by have := Zo e; omega)
 have b9 := bb.grown g5 zz (fun k hk => by cases hk; omega)
 have z9 : B ≤ (wd.setCells (B + 1 + 1 + 1) 0 (fcs s8 g)).heap.size := Zn zz g5.size
 have T9 : FlM (wd.setCells (B + 1 + 1 + 1) 0 (fcs s8 g)) (fun b => m0 ≤ b) s8 g := (HS.1.fm.imp (fun b hb => hb.1)).grown g5 (fun b hb e => by have := Zo e; omega)
 refine kK hK ⟨HS.1.far g5 (by omega), HS.2.1.grown g5 (fun e => by have := Zo e; omega), HS.2.2.grown g5 (fun e => by have := Zo e; omega)⟩ (fun HS => ?_)
 clear hK K
 clear rr qq bb zz g5
 generalize wd.setCells (B + 1 + 1 + 1) 0 (fcs s8 g) = we at HS r9 q9 b9 z9 T9 ⊢
 try simp only [Act.put, List.setIfInBounds_toArray, List.set_cons_zero, List.set_cons_succ]
 refine wpAnyV_end (k := 6) rfl (by kernel_rfl) (fun K hK => ?_)
 refine sub_end is_sent (by rfl) (.tmp 11) (.tmp 102) rfl rfl (El.cells (partF f dsn n now)) rfl q9 (by decide) rfl rfl ?_
 have g6 : we.grownBy (we.setCells (B + 1 + 1 + 1 + 1) 0 (El.cells (partF f dsn n now))) (some (B + 1 + 1 + 1 + 1)) := grown_cells (El.cells (partF f dsn n now)) 0 we
 have qA : Bx (we.setCells (B + 1 + 1 + 1 + 1) 0 (El.cells (partF f dsn n now))) (B + 1 + 1 + 1 + 1) 57 (El.cells (partF f dsn n now)) := q9.part _
 have rA := r9.grown g6 (fun e => by have := Zo e; omega)
 have bA := b9.grown g6 z9 (fun k hk => by cases hk; omega)
 have TA := T9.grown g6 (fun b hb e => by have := Zo e; omega)
 clear HS
 refine hK _ _ ?_
 clear hK K
 clear r9 q9 b9 z9 T9 g6
 generalize we.setCells (B + 1 + 1 + 1 + 1) 0 (El.cells (partF f dsn n now)) = wf at qA rA bA TA ⊢
 try simp only [Act.put, List.setIfInBounds_toArray, List.set_cons_zero, List.set_cons_succ]
 refine kN 7 ?_
 refine ⟨by kernel_rfl, ?_⟩
 go_wp2_with fail
 refine fl_end_c2 (by rfl) (by rfl) (by rfl) (by rfl) rA rfl qA rfl rfl ?_
 have hX := HF.out
 rw [HG.out] at hX
 subst hX
 exact ⟨s8, rfl, TA.imp (fun b hb => HP.out b (by rw [HBB.out]; omega)), bA⟩
end Go.Proofs.YtbijhkhkigdddaaGreat
