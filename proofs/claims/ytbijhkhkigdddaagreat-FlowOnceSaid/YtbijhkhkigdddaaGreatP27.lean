/- FlL7 FlL8 XmL2. -/
import Derived.Test.YtbijhkhkigdddaaGreatP12
import Derived.Test.YtbijhkhkigdddaaGreatP26
set_option linter.all false
set_option maxRecDepth 100000
set_option maxHeartbeats 32000000
namespace Go.Proofs.YtbijhkhkigdddaaGreat
open Go.RowKit
theorem idxC_any (f : Nat) (hent : ∀ args w, (callFunc f args).run Tryz.prog w = .ok (.enter f args) w) (caps : Array Value) (p : Prt → Bool) (A : Option Addr) (n c : Nat) (l : List Prt) (w : World) (hs : Se w A n c l)
  (hcall : Hid (∀ W, Below w.heap.size w W → ∀ i, i < n → Calls Tryz.prog f (#[.agg #[.int .i64 (ge l i).seq, .int .i64 (ge l i).len, .int .i64 (ge l i).dsn, .int .i64 (ge l i).at_, .int .i64 (ge l i).tries, .bool (ge l i).came, .bool (ge l i).lost, .int .i64 (ge l i).total, .int .i64 (ge l i).last]] ++ caps) W fun e W' => e = .returned (.bool (p (ge l i))) ∧ Below W.heap.size W W')) :
  Calls Tryz.prog 68 #[.slice A n c, .func (.func f) #[] caps] w fun e w' => e = .returned (.int .i64 (idxR p l)) ∧ Below w.heap.size w w' := by
 have hl := hs.rd.len
 have m1 := hs.le
 have m2 := hs.max
 have m3 : n ≤ 9223372036854775807 := by unfold maxLen at m2; omega
 clear m1 m2
 obtain ⟨x, hx⟩ : ∃ x, idxR p l = x := ⟨_, rfl⟩
 rw [hx]
 have HX := Zh hx
 have HA := Zh hs; have HL := Zh hl
 clear hx hs hl
 go_enter Tryz.func68, Tryz.ntmps68
 go_wp2_with fail
 go_loopw [8] (fun i wr => ∃ k : Nat, k ≤ n ∧ i = .int .i64 (k : Int) ∧ Hid (∀ i, i < k → p (ge l i) = false) ∧ Below w.heap.size w wr) (fun i _ => n - (intOf i).toNat)
 case atStart => exact ⟨0, Nat.zero_le _, rfl, Zh (fun i hi => absurd hi (by omega)), Below.refl _ _⟩
 case round =>
  obtain ⟨k, hk, rfl, HNO, hb⟩ := hrel
  by_cases hlt : k < n
  ·have dlt : decide (k < n) = true := Zt hlt
   have hsr : Se wr A n c l := HA.out.keep hb
   obtain ⟨b, o, rfl, hbl, hc⟩ := hsr.rd.at_ (by omega)
   have X := prt_at hc hlt
   have hkl : k < l.length := by rw [HL.out]; exact hlt
   have hf := hcall.out wr hb k hlt
   have hgo : p (ge l k) = false → ∀ i, i < k + 1 → p (ge l i) = false := fun h i hi => by
    by_cases e : i = k
    ·subst e; exact h
    ·exact HNO.out i (by omega)
   have hstop : p (ge l k) = true → x = (k : Int) := fun h => by rw [← HX.out]; exact idxR_at hkl HNO.out h
   obtain ⟨y, hy⟩ : ∃ y, ge l k = y := ⟨_, rfl⟩
   rw [hy] at X hf hgo hstop
   obtain ⟨x0, x1, x2, x3, x4, x5, x6, x7, x8⟩ := X
   have HGO := Zh hgo; have HSTOP := Zh hstop
   clear hc hy hsr hkl hgo hstop
   cases hz : p y with
   | false =>
    rw [hz] at hf
    have HGO2 := Zh (HGO.out hz)
    clear hz
    go_wp2_with (go_at_fn f; refine hf.mono ?_; rintro e wv ⟨rfl, hbv⟩)
    go_roundw
    case rel => exact ⟨k + 1, by omega, by go_num, HGO2, hb.trans (hbv.mono hb.size)⟩
    case measure => simp [intOf]; omega
   | true =>
    rw [hz] at hf
    have hF := HSTOP.out hz
    subst hF
    clear hz
    go_wp2_with (go_at_fn f; refine hf.mono ?_; rintro e wv ⟨rfl, hbv⟩)
    go_ret
    exact ⟨rfl, hb.trans (hbv.mono hb.size)⟩
  ·obtain rfl : k = n := by omega
   have hF : x = -1 := by rw [← HX.out]; exact idxR_none (by rw [HL.out]; exact HNO.out)
   subst hF
   have dlt : decide (k < k) = false := Zf (by omega)
   go_wp2_with fail
   go_ret
   exact ⟨rfl, hb⟩
theorem ent_lost : ∀ args w, (callFunc 69 args).run Tryz.prog w = .ok (.enter 69 args) w := enters_of Tryz.func69 (by kernel_rfl) rfl
theorem ent_sag : ∀ args w, (callFunc 70 args).run Tryz.prog w = .ok (.enter 70 args) w := enters_of Tryz.func70 (by kernel_rfl) rfl
theorem lost_any (x : Prt) (w : World) : Calls Tryz.prog 69 #[.agg #[x.seq, x.len, x.dsn, x.at_, x.tries, x.came, x.lost, x.total, x.last]] w fun e w' => e = .returned (.bool (lostOne x)) ∧ Below w.heap.size w w' := by
 obtain ⟨B, hB⟩ : ∃ B, w.heap.size = B := ⟨_, rfl⟩
 have e0 := Bx.new w 57 [x.seq, x.len, x.dsn, x.at_, x.tries, x.came, x.lost, x.total, x.last]
 rw [hB] at e0 ⊢
 have b0 : Below B w (w.alloc (.cells #[x.seq, x.len, x.dsn, x.at_, x.tries, x.came, x.lost, x.total, x.last] 57)) := by rw [← hB]; exact (Zb).alloc Zr _
 obtain ⟨q, hq⟩ : ∃ q, lostOne x = q := ⟨_, rfl⟩
 rw [hq]
 unfold lostOne at hq
 go_enter Tryz.func69, Tryz.ntmps69
 go_upto_region 1 with fail
 generalize w.alloc (.cells #[x.seq, x.len, x.dsn, x.at_, x.tries, x.came, x.lost, x.total, x.last] 57) = w1 at e0 b0 ⊢
 have c4 := e0.cell 4 rfl; have c6 := e0.cell 6 rfl
 cases hl : x.lost with
 | false =>
  rw [hl] at c6 hq
  have hF : q = false := by rw [← hq]; rfl
  subst hF
  clear hq hl
  go_wp2_with fail
  go_ret
  exact ⟨rfl, b0⟩
 | true =>
  rw [hl] at c6 hq
  have hF : q = decide (x.tries < 1000) := by rw [← hq]; rfl
  subst hF
  clear hq hl
  go_wp2_with fail
  go_ret
  exact ⟨rfl, b0⟩
theorem St.part {n₀ : Nat} {l : List Nat} {W : World} {S : Nat} {s : Fs} {f : Fv} {c : Cf} {now e : Int} (h : St n₀ l W S s f c now e) {bb oo i : Nat} (ha : s.a1 = some ⟨bb, oo, none⟩) (hi : i < s.n1) (j : Nat) {u : Value} (hu : (El.cells (ge f.l i))[j]? = some u) : W.cell? ⟨bb, oo + i * 9 + j, none⟩ = some u := by
 obtain ⟨b, o, e', _, hc⟩ := h.fm.l.rd.at_ (by omega)
 rw [ha] at e'; cases e'
 exact hc i hi j u hu
theorem sendag_any (n₀ : Nat) (l : List Nat) (S : Nat) (s : Fs) (f : Fv) (c : Cf) (now e : Int) (w : World) (h : St n₀ l w S s f c now e) (i : Nat) (P I N : Nat) (bb oo : Nat) (bP : Bx w P 97 [.pointer (some ⟨S, 0, none⟩)]) (bI : Bx w I 3 [.int .i64 (i : Int)]) (bN : Bx w N 3 [now])
  (hln : f.l.length ≤ 1000) (hlt : i < s.n1) (ha : s.a1 = some ⟨bb, oo, none⟩) (hw : FvW f) :
  Calls Tryz.prog 70 #[.pointer (some ⟨P, 0, none⟩), .pointer (some ⟨I, 0, none⟩), .pointer (some ⟨N, 0, none⟩)] w fun e' w' => e' = .returned (.tuple #[]) ∧ (∃ s', St n₀ l w' S s' { f with l := (againR f.l (ge f.l i).seq now).1 } c now e) ∧ Fr n₀ l w w' := by
 obtain ⟨x, hx⟩ : ∃ x, againR f.l (ge f.l i).seq now = x := ⟨_, rfl⟩
 rw [hx]
 have HX := Zh hx
 clear hx
 have HLN := Zh hln; have HLT := Zh hlt; have HWF := Zh hw; have HA := Zh ha
 have hk := h.fm.l.le; have hk2 := h.fm.l.max
 unfold maxLen at hk2
 have d1 : (i : Int) < (s.n1 : Int) := by omega
 have d2 : ¬ ((i : Int) < 0) := by omega
 clear hln hw hk hk2
 go_enter Tryz.func70, Tryz.ntmps70
 go_upto_region 0 with fail
 have ha' := ha
 clear ha
 refine kB [23] 24 (fun (W : World) => St n₀ l W S s f c now e ∧ Fr n₀ l w W ∧ Bx W P 97 [.pointer (some ⟨S, 0, none⟩)] ∧ Bx W I 3 [.int .i64 (i : Int)] ∧ Bx W N 3 [now]) ⟨h.drew, Fr.call (Zb).drew h.size h.old, bP.drew, bI.drew, bN.drew⟩ (fun HS => ?_)
 generalize w.drew = wd at HS  ⊢
 refine kC 0 (v := .pointer (some ⟨S, 0, none⟩)) (fun w hSw => hSw.2.2.1.cell 0 rfl) HS ?_
 refine kC 1 (v := .pointer (some ⟨S, 0, none⟩)) (fun w hSw => hSw.2.2.1.cell 0 rfl) HS ?_
 refine kU 2 HS ?_
 refine kU 3 HS ?_
 refine kU 4 HS ?_
 refine kC 5 (v := .slice s.a1 s.n1 s.c1) (fun w hSw => hSw.1.bx.cell 1 rfl) HS ?_
 refine kC 6 (v := .pointer (some ⟨S, 0, none⟩)) (fun w hSw => hSw.2.2.1.cell 0 rfl) HS ?_
 refine kU 7 HS ?_
 refine kU 8 HS ?_
 refine kU 9 HS ?_
 refine kC 10 (v := .slice s.a1 s.n1 s.c1) (fun w hSw => hSw.1.bx.cell 1 rfl) HS ?_
 refine kC 11 (v := .int .i64 (i : Int)) (fun w hSw => hSw.2.2.2.1.cell 0 rfl) HS ?_
 refine kU 12 HS ?_
 refine kU 13 HS ?_
 refine wpAnyV_take (i := 14) (v := .int .i64 (ge f.l i).seq) rfl (by kernel_rfl) (fun _ _ _ h => h) (Or.inl ⟨by rfl, fun w hSw => ?_⟩) HS ?_
 ·have cc := hSw.1.part HA.out HLT.out 0 rfl
  simp only [Nat.add_zero] at cc
  clear hSw HS
  go_simp
 try simp only [Act.put, List.setIfInBounds_toArray, List.set_cons_zero, List.set_cons_succ]
 refine kC 15 (v := .int .i64 now) (fun w hSw => hSw.2.2.2.2.cell 0 rfl) HS ?_
 refine wpAnyV_one (k := 16) rfl (by kernel_rfl) (fun K hK => ?_)
 go_simp
 have hse := HS.1.fm.l
 rw [ha'] at hse
 refine (stagain_any _ _ _ f.l (ge f.l i).seq now _ hse (by rw [← HS.1.fm.l.rd.len]; exact HLN.out)).mono ?_
 rintro e2 w2 ⟨G, m, d, he, hsn, hb⟩
 have hfr := HS.1.fresh hsn.at_ (n := m)
 rw [HX.out] at he hsn
 subst he
 refine kK hK ⟨HS.1.call hb, HS.2.1.trans (HS.1.fr hb), HS.2.2.1.kept hb, HS.2.2.2.1.kept hb, HS.2.2.2.2.kept hb⟩ (fun HS => ?_)
 clear hK K
 refine kU 17 HS ?_
 refine kU 18 HS ?_
 refine kUv 19 (.int .i64 x.2) HS ?_
 refine kU 20 HS ?_
 refine kU 21 HS ?_
 refine kU 22 HS ?_
 refine wpAnyV_end (k := 23) rfl (by kernel_rfl) (fun K hK => ?_)
 have T1 : St n₀ l (w2.setCell ⟨S, 1, none⟩ (.slice G m d)) S ⟨G, m, d, s.a2, s.n2, s.c2, s.a3, s.n3, s.c3, s.a4, s.n4, s.c4⟩ { f with l := x.1 } c now e := HS.1.set 1 (.slice G m d) rfl (HS.1.fm.newL hsn.se hfr rfl rfl rfl (HWF.out.withL _))
 have R1 := HS.2.1.trans (HS.1.frs 1 (.slice G m d))
 have cc := HS.1.bx.cell 1 rfl
 have fr := HS.1.bx.free 1
 have HT := Zh (And.intro T1 R1)
 clear T1 R1 HS hsn hfr hb
 go_simp
 refine hK _ _ ?_
 clear hK K
 clear cc fr
 generalize w2.setCell ⟨S, 1, none⟩ (.slice G m d) = w3 at HT ⊢
 try simp only [Act.put, List.setIfInBounds_toArray, List.set_cons_zero, List.set_cons_succ]
 refine ⟨by kernel_rfl, ?_⟩
 go_wp2_with fail
 go_end0
 exact ⟨rfl, ⟨_, HT.out.1⟩, HT.out.2⟩
theorem ag_no1 {f : Fv} {c : Cf} {now : Int} (h : ¬ (fmayB f c = true ∧ t60 now = true)) : againF f c now = (zfv, zprt, 1) := if_neg h
theorem ag_no3 {f : Fv} {c : Cf} {now : Int} (h : fmayB f c = true ∧ t60 now = true) (hu : ¬ (f.up = true ∧ firstLost f.l < f.l.length)) : againF f c now = (zfv, zprt, 3) := by unfold againF; rw [if_pos h, if_neg hu]
theorem ag_no4 {f : Fv} {c : Cf} {now : Int} (h : fmayB f c = true ∧ t60 now = true) (hu : f.up = true ∧ firstLost f.l < f.l.length) (hw : f.cw < flightR f.l + (ge f.l (firstLost f.l)).len) : againF f c now = (zfv, zprt, 4) := by unfold againF; rw [if_pos h, if_pos hu, if_pos hw]
theorem ag_ok0 {f : Fv} {c : Cf} {now : Int} (h : fmayB f c = true ∧ t60 now = true) (hu : f.up = true ∧ firstLost f.l < f.l.length) (hw : ¬ f.cw < flightR f.l + (ge f.l (firstLost f.l)).len) : againF f c now = (againFv f c now, ge (againFv f c now).l (firstLost f.l), 0) := by unfold againF; rw [if_pos h, if_pos hu, if_neg hw]
theorem St.range {n₀ : Nat} {l : List Nat} {W : World} {S : Nat} {s : Fs} {f : Fv} {c : Cf} {now e : Int} (h : St n₀ l W S s f c now e) {bb oo i : Nat} (ha : s.a1 = some ⟨bb, oo, none⟩) (hi : i < s.n1) : W.rangeAt bb (oo + i * 9) (El.cells (ge f.l i)) := fun j u hu => h.part ha hi j hu
theorem row_y {ops : Array Oper} {I : World → Prop} {op : Oper} {a : Act} {bb o : Nat} {x : Prt} (hw : Region.wanted op (yielded ops a.tmps) = true) (y : Operand) (ho : op.op = .load 57 y) (hx : a.eval y = .pointer (some ⟨bb, o, none⟩)) (hS : ∀ W, I W → W.rangeAt bb o (El.cells x)) : YieldsIf Tryz.prog ops I op (.agg (El.cells x).toArray) a := by
 obtain ⟨⟨d, hu, hd⟩, hi⟩ := is_sent
 exact yieldsIf_load_mid hw 57 y ho bb o hx (El.cells x) d hS hu hd (by rw [hi]; rfl)
theorem flagain_any (p : Nat → Prop) (s : Fs) (f : Fv) (c : Cf) (now : Int) (w : World) (hp : NewP w p) (h : FlM w p s f) (hc : CfW c) (h3 : i64 now) : Calls Tryz.prog 22 #[.agg (fcs s f).toArray, .agg (ccs c).toArray, now] w fun e w' => TellFP p w w' e (againF f c now) := by
 unfold TellFP
 obtain ⟨B, hB⟩ : ∃ B, w.heap.size = B := ⟨_, rfl⟩
 have y0 := ((((Bx.new w 40 (fcs s f)).alloc (.cells (ccs c).toArray 42)).alloc (.cells #[now] 3)).alloc (.cells (fcs zfs zfv).toArray 40)).alloc (.cells (El.cells zprt).toArray 57)
 have k0 := (((Bx.new (w.alloc (.cells (fcs s f).toArray 40)) 42 (ccs c)).alloc (.cells #[now] 3)).alloc (.cells (fcs zfs zfv).toArray 40)).alloc (.cells (El.cells zprt).toArray 57)
 have n0 := ((Bx.new ((w.alloc (.cells (fcs s f).toArray 40)).alloc (.cells (ccs c).toArray 42)) 3 [now]).alloc (.cells (fcs zfs zfv).toArray 40)).alloc (.cells (El.cells zprt).toArray 57)
 have r0 := (Bx.new (((w.alloc (.cells (fcs s f).toArray 40)).alloc (.cells (ccs c).toArray 42)).alloc (.cells #[now] 3)) 40 (fcs zfs zfv)).alloc (.cells (El.cells zprt).toArray 57)
 have q0 := Bx.new ((((w.alloc (.cells (fcs s f).toArray 40)).alloc (.cells (ccs c).toArray 42)).alloc (.cells #[now] 3)).alloc (.cells (fcs zfs zfv).toArray 40)) 57 (El.cells zprt)
 have b0 : Below w.heap.size w (((((w.alloc (.cells (fcs s f).toArray 40)).alloc (.cells (ccs c).toArray 42)).alloc (.cells #[now] 3)).alloc (.cells (fcs zfs zfv).toArray 40)).alloc (.cells (El.cells zprt).toArray 57)) := (((((Zb).alloc Zr _).alloc (by simp) _).alloc (by simp; omega) _).alloc (by simp; omega) _).alloc (by simp; omega) _
 simp only [World.size_alloc] at y0 k0 n0 r0 q0
 have f0 := ((((h.alloc (.cells (fcs s f).toArray 40)).alloc (.cells (ccs c).toArray 42)).alloc (.cells #[now] 3)).alloc (.cells (fcs zfs zfv).toArray 40)).alloc (.cells (El.cells zprt).toArray 57)
 rw [hB] at y0 k0 n0 r0 q0 b0 ⊢
 have HC := Zh hc; have HP := Zh hp; have HBB := Zh hB
 obtain ⟨X, hX⟩ : ∃ X, againF f c now = X := ⟨_, rfl⟩
 rw [hX]
 have HX := Zh hX
 clear h hc hp h3 hX
 go_enter Tryz.func22, Tryz.ntmps22
 go_upto_region 1 with fail
 change Code.wp _ _ _ _ (((((w.alloc (.cells (fcs s f).toArray 40)).alloc (.cells (ccs c).toArray 42)).alloc (.cells #[now] 3)).alloc (.cells (fcs zfs zfv).toArray 40)).alloc (.cells (El.cells zprt).toArray 57))
 generalize (((((w.alloc (.cells (fcs s f).toArray 40)).alloc (.cells (ccs c).toArray 42)).alloc (.cells #[now] 3)).alloc (.cells (fcs zfs zfv).toArray 40)).alloc (.cells (El.cells zprt).toArray 57)) = w1 at y0 k0 n0 r0 q0 b0 f0 ⊢
 clear hB
 have z1 : B ≤ w1.heap.size := Zl y0.lt
 have cn := n0.cell 0 rfl
 go_wp2_with (first | (refine fl_load rfl (.tmp 3) rfl rfl y0 rfl ?_) | (refine cf_load rfl (.tmp 4) rfl rfl k0 rfl ?_))
 refine (flbegin_any p s f c now w1 f0 HC.out).mono ?_
 rintro e w2 ⟨hb, hcase⟩
 clear cn
 have y2 := y0.kept hb; have k2 := k0.kept hb; have n2 := n0.kept hb; have r2 := r0.kept hb; have q2 := q0.kept hb; have b2 := b0.trans (hb.mono z1); have z2 : B ≤ w2.heap.size := Zn z1 hb.size
 have hn0 : B + 5 ≤ w1.heap.size := q0.lt
 clear y0 k0 n0 r0 q0 b0 f0 hb
 obtain ⟨m0, hm0⟩ : ∃ m, w1.heap.size = m := ⟨_, rfl⟩
 rw [hm0] at hcase hn0
 clear hm0
 rcases hcase with ⟨hm, S, s', rfl, hst, _⟩ | ⟨hm, rfl⟩
 case inr =>
  have hF : X = (zfv, zprt, 1) := by rw [← HX.out]; refine ag_no1 (fun h => ?_); rw [h.1, h.2] at hm; cases hm
  clear hm
  have y3 := y2.alloc (.cells #[.pointer none] 97); have r3 := r2.alloc (.cells #[.pointer none] 97); have q3 := q2.alloc (.cells #[.pointer none] 97); have b3 := b2.alloc z2 (.cells #[.pointer none] 97)
  have z3 : B ≤ (w2.alloc (.cells #[.pointer none] 97)).heap.size := Zn z2 (by simp)
  subst hF
  clear HX
  go_upto_region 2 with fail
  generalize w2.alloc (.cells #[.pointer none] 97) = w3 at y3 r3 q3 b3 z3 ⊢
  clear y2 r2 q2 b2 z2 k2 n2 hn0
  go_wp2_with (first | (refine fl_store rfl (.tmp 6) (.tmp 22) rfl rfl (fcs zfs zfv) rfl r3 rfl rfl rfl ?_) | (refine fp_store rfl (.tmp 7) (.tmp 23) rfl rfl (El.cells zprt) rfl (q3.grown (fl_grown _ (B + 1 + 1 + 1) _) (fun e => by have := Zo e; omega)) rfl rfl rfl ?_))
  refine fl_end_c2 (by rfl) (by rfl) (by rfl) (by rfl) ((fl_put r3 (fcs zfs zfv)).grown (fp_grown _ (B + 1 + 1 + 1 + 1) _) (fun e => by have := Zo e; omega)) rfl (fp_put (q3.grown (fl_grown _ (B + 1 + 1 + 1) _) (fun e => by have := Zo e; omega)) (El.cells zprt)) rfl rfl ?_
  exact ⟨zfs, rfl, FlM.zero _ _, (b3.grown (fl_grown _ (B + 1 + 1 + 1) _) z3 (fun k hk => by cases hk; omega)).grown (fp_grown _ (B + 1 + 1 + 1 + 1) _) (Zn z3 (by simp [World.setRow])) (fun k hk => by cases hk; omega)⟩
 case inl =>
 have hok := (fmay_iff f c).1 (by simp only [Bool.and_eq_true] at hm; exact hm.1)
 have ht : t60 now = true := by simp only [Bool.and_eq_true] at hm; exact hm.2
 have hms : fmayB f c = true ∧ t60 now = true := ⟨(fmay_iff f c).2 hok, ht⟩
 clear hm
 obtain ⟨P, hP⟩ : ∃ P, w2.heap.size = P := ⟨_, rfl⟩
 have al : Below w2.heap.size w2 (w2.alloc (.cells #[.pointer (some ⟨S, 0, none⟩)] 97)) := (Zb).alloc Zr _
 have p3 := Bx.new w2 97 [.pointer (some ⟨S, 0, none⟩)]
 have t3 := hst.more Zr al (by simp)
 rw [hP] at p3 t3
 have y3 := y2.kept al; have k3 := k2.kept al; have n3 := n2.kept al; have r3 := r2.kept al; have q3 := q2.kept al; have b3 := b2.trans (al.mono z2); have z3 : B ≤ (w2.alloc (.cells #[.pointer (some ⟨S, 0, none⟩)] 97)).heap.size := Zn z2 al.size
 have hPS : P ≠ S := by rw [← hP]; have := hst.bx.lt; omega
 have hSB : B + 5 ≤ S := Zn hn0 hst.s0
 have hPB : B + 5 ≤ P := by rw [← hP]; have := hst.bx.lt; omega
 go_upto_region 2 with fail
 clear al y2 k2 n2 r2 q2 b2 z2 hst
 try rw [hP]
 generalize w2.alloc (.cells #[.pointer (some ⟨S, 0, none⟩)] 97) = w3 at p3 t3 y3 k3 n3 r3 q3 b3 z3 ⊢
 clear hP
 have cp := p3.cell 0 rfl; have cu := t3.bx.cell 0 rfl; have cl := t3.bx.cell 1 rfl
 have hlen := t3.fm.l.rd.len
 have hl5 := ((smay_iff _).1 hok.l).1
 have HOK := Zh hok; have HT := Zh ht; have HMS := Zh hms; have HLEN := Zh hlen; have HL5 := Zh hl5
 have T3 := Zh t3
 clear hms ht t3 hok hlen hl5
 have hidx := idxC_any 69 ent_lost #[] lostOne s'.a1 s'.n1 s'.c1 f.l w3 T3.out.fm.l (Zh (fun W hW i hi => by simpa using lost_any (ge f.l i) W))
 obtain ⟨q, hq⟩ : ∃ q, idxR lostOne f.l = q := ⟨_, rfl⟩
 rw [hq] at hidx
 have HI := Zh hidx; have HQ := Zh hq
 clear hidx hq
 go_upto_region 4 with fail
 go_wp2_with fail
 refine HI.out.mono ?_
 rintro e w4 ⟨rfl, hb⟩
 have y4 := y3.kept hb; have k4 := k3.kept hb; have n4 := n3.kept hb; have r4 := r3.kept hb; have q4 := q3.kept hb; have b4 := b3.trans (hb.mono z3); have z4 : B ≤ w4.heap.size := Zn z3 hb.size
 have T4 := Zh (T3.out.call hb); have p4 := p3.kept hb
 clear y3 k3 n3 r3 q3 b3 z3 p3 cp cl cu hb T3 HI
 obtain ⟨I, hI⟩ : ∃ I, w4.heap.size = I := ⟨_, rfl⟩
 have al : Below w4.heap.size w4 (w4.alloc (.cells #[q] 3)) := (Zb).alloc Zr _
 have i5 := Bx.new w4 3 [q]
 have T5 := Zh (T4.out.more Zr al (by simp))
 rw [hI] at i5 T5
 have y5 := y4.kept al; have k5 := k4.kept al; have n5 := n4.kept al; have r5 := r4.kept al; have q5 := q4.kept al; have b5 := b4.trans (al.mono z4); have z5 : B ≤ (w4.alloc (.cells #[q] 3)).heap.size := Zn z4 al.size
 have p5 := p4.kept al
 have hIB : B + 5 ≤ I := by rw [← hI]; exact Zl (Nat.lt_of_le_of_lt hPB p4.lt)
 go_upto_region 5 with fail
 clear al y4 k4 n4 r4 q4 b4 z4 p4 T4
 try rw [hI]
 generalize w4.alloc (.cells #[q] 3) = w5 at i5 T5 y5 k5 n5 r5 q5 b5 z5 p5 ⊢
 clear hI
 have cp := p5.cell 0 rfl; have cu := T5.out.bx.cell 0 rfl; have ci := i5.cell 0 rfl
 have hqq : q = if firstLost f.l < f.l.length then (firstLost f.l : Int) else -1 := HQ.out.symm
 cases hu : f.up with
 | false =>
  have hF : X = (zfv, zprt, 3) := by rw [← HX.out]; exact ag_no3 HMS.out (fun h => by rw [hu] at h; cases h.1)
  rw [hu] at cu
  clear hu hqq
  go_upto_region 6 with fail
  subst hF
  clear HX
  go_wp2_with (first | (refine fl_store rfl (.tmp 6) (.tmp 40) rfl rfl (fcs zfs zfv) rfl r5 rfl rfl rfl ?_) | (refine fp_store rfl (.tmp 7) (.tmp 41) rfl rfl (El.cells zprt) rfl (q5.grown (fl_grown _ (B + 1 + 1 + 1) _) (fun e => by have := Zo e; omega)) rfl rfl rfl ?_))
  refine fl_end_c2 (by rfl) (by rfl) (by rfl) (by rfl) ((fl_put r5 (fcs zfs zfv)).grown (fp_grown _ (B + 1 + 1 + 1 + 1) _) (fun e => by have := Zo e; omega)) rfl (fp_put (q5.grown (fl_grown _ (B + 1 + 1 + 1) _) (fun e => by have := Zo e; omega)) (El.cells zprt)) rfl rfl ?_
  exact ⟨zfs, rfl, FlM.zero _ _, (b5.grown (fl_grown _ (B + 1 + 1 + 1) _) z5 (fun k hk => by cases hk; omega)).grown (fp_grown _ (B + 1 + 1 + 1 + 1) _) (Zn z5 (by simp [World.setRow])) (fun k hk => by cases hk; omega)⟩
 | true =>
 rw [hu] at cu
 by_cases hk : firstLost f.l < f.l.length
 case neg =>
  have hF : X = (zfv, zprt, 3) := by rw [← HX.out]; exact ag_no3 HMS.out (fun h => hk h.2)
  rw [if_neg hk] at hqq
  subst hqq
  clear hu hk
  go_upto_region 6 with fail
  subst hF
  clear HX
  go_wp2_with (first | (refine fl_store rfl (.tmp 6) (.tmp 40) rfl rfl (fcs zfs zfv) rfl r5 rfl rfl rfl ?_) | (refine fp_store rfl (.tmp 7) (.tmp 41) rfl rfl (El.cells zprt) rfl (q5.grown (fl_grown _ (B + 1 + 1 + 1) _) (fun e => by have := Zo e; omega)) rfl rfl rfl ?_))
  refine fl_end_c2 (by rfl) (by rfl) (by rfl) (by rfl) ((fl_put r5 (fcs zfs zfv)).grown (fp_grown _ (B + 1 + 1 + 1 + 1) _) (fun e => by have := Zo e; omega)) rfl (fp_put (q5.grown (fl_grown _ (B + 1 + 1 + 1) _) (fun e => by have := Zo e; omega)) (El.cells zprt)) rfl rfl ?_
  exact ⟨zfs, rfl, FlM.zero _ _, (b5.grown (fl_grown _ (B + 1 + 1 + 1) _) z5 (fun k hk => by cases hk; omega)).grown (fp_grown _ (B + 1 + 1 + 1 + 1) _) (Zn z5 (by simp [World.setRow])) (fun k hk => by cases hk; omega)⟩
 case pos =>
 rw [if_pos hk] at hqq
 obtain ⟨k, hkk⟩ : ∃ k, firstLost f.l = k := ⟨_, rfl⟩
 rw [hkk] at hqq hk
 subst hqq
 have d0 : decide ((k : Int) < 0) = false := Zf (by omega)
 have HUP := Zh (And.intro hu hk); have HK := Zh hkk
 clear hu hkk
 go_upto_region 7 with fail
 clear cu cp ci d0 HQ
 have hkn : k < s'.n1 := by have := HLEN.out; omega
 obtain ⟨bb, oo, ha, _, _⟩ := T5.out.fm.l.rd.at_ (by omega)
 have HA := Zh ha; have HKN := Zh hkn
 have hpk := ((smay_iff _).1 HOK.out.l).2 k hk
 have hle := T5.out.fm.l.le; have hmx := T5.out.fm.l.max
 unfold maxLen at hmx
 have e1 : (k : Int) < (s'.n1 : Int) := by omega
 have e2 : ¬ ((k : Int) < 0) := by omega
 have hlen1 := hpk.1.l1; have hlen2 := hpk.1.l2
 have ha1 := ha
 clear hpk hle hmx hk hkn ha
 have hfit := fun W (hW : St m0 [I, P] W S s' f c now 0) => flfits_any m0 [I, P] S s' f c now 0 W hW (ge f.l k).len HOK.out (by omega)
 obtain ⟨q, hq⟩ : ∃ q, decide (flightR f.l + (ge f.l k).len ≤ f.cw) = q := ⟨_, rfl⟩
 rw [hq] at hfit
 have HQ := Zh hq; have HFIT := Zh hfit
 clear hq hfit hlen1 hlen2
 refine kB [] 12 (fun (W : World) => St m0 [I, P] W S s' f c now 0 ∧ Bx W P 97 [.pointer (some ⟨S, 0, none⟩)] ∧ Bx W I 3 [.int .i64 (k : Int)] ∧ Bx W (B + 1 + 1) 3 [now] ∧ Bx W B 40 (fcs s f) ∧ Bx W (B + 1 + 1 + 1) 40 (fcs zfs zfv) ∧ Bx W (B + 1 + 1 + 1 + 1) 57 (El.cells zprt) ∧ Below B w W ∧ B ≤ W.heap.size) ⟨T5.out.drew, p5.drew, i5.drew, n5.drew, y5.drew, r5.drew, q5.drew, b5.drew, z5⟩ (fun HS => ?_)
 generalize w5.drew = wd at HS  ⊢
 refine kC 0 (v := .pointer (some ⟨S, 0, none⟩)) (fun w hSw => hSw.2.1.cell 0 rfl) HS ?_
 refine kC 1 (v := .pointer (some ⟨S, 0, none⟩)) (fun w hSw => hSw.2.1.cell 0 rfl) HS ?_
 refine kU 2 HS ?_
 refine kU 3 HS ?_
 refine kU 4 HS ?_
 refine kC 5 (v := .slice s'.a1 s'.n1 s'.c1) (fun w hSw => hSw.1.bx.cell 1 rfl) HS ?_
 refine kC 6 (v := .int .i64 (k : Int)) (fun w hSw => hSw.2.2.1.cell 0 rfl) HS ?_
 refine kU 7 HS ?_
 refine kU 8 HS ?_
 refine kC 9 (v := .int .i64 (ge f.l k).len) (fun w hSw => hSw.1.part HA.out HKN.out 1 rfl) HS ?_
 refine wpAnyV_one (k := 10) rfl (by kernel_rfl) (fun K hK => ?_)
 go_simp
 refine (HFIT.out _ HS.1).mono ?_
 rintro e w6 ⟨rfl, hb⟩
 refine kK hK ⟨HS.1.call hb, HS.2.1.kept hb, HS.2.2.1.kept hb, HS.2.2.2.1.kept hb, HS.2.2.2.2.1.kept hb, HS.2.2.2.2.2.1.kept hb, HS.2.2.2.2.2.2.1.kept hb, HS.2.2.2.2.2.2.2.1.trans (hb.mono HS.2.2.2.2.2.2.2.2), Zn HS.2.2.2.2.2.2.2.2 hb.size⟩ (fun HS => ?_)
 clear hK K
 refine kUv 11 (.bool (!q)) HS ?_
 refine ⟨by kernel_rfl, ?_⟩
 obtain ⟨T6, p6, i6, n6, y6, r6, q6, b6, z6⟩ := HS
 have T6' := Zh T6
 clear T6
 cases q with
 | false =>
  have hF : X = (zfv, zprt, 4) := by rw [← HX.out]; exact ag_no4 HMS.out (by rw [HK.out]; exact HUP.out) (by rw [HK.out]; have := of_decide_eq_false HQ.out; omega)
  have k6 := y6
  go_upto_region 8 with fail
  subst hF
  clear HX
  go_wp2_with (first | (refine fl_store rfl (.tmp 6) (.tmp 54) rfl rfl (fcs zfs zfv) rfl r6 rfl rfl rfl ?_) | (refine fp_store rfl (.tmp 7) (.tmp 55) rfl rfl (El.cells zprt) rfl (q6.grown (fl_grown _ (B + 1 + 1 + 1) _) (fun e => by have := Zo e; omega)) rfl rfl rfl ?_))
  refine fl_end_c2 (by rfl) (by rfl) (by rfl) (by rfl) ((fl_put r6 (fcs zfs zfv)).grown (fp_grown _ (B + 1 + 1 + 1 + 1) _) (fun e => by have := Zo e; omega)) rfl (fp_put (q6.grown (fl_grown _ (B + 1 + 1 + 1) _) (fun e => by have := Zo e; omega)) (El.cells zprt)) rfl rfl ?_
  exact ⟨zfs, rfl, FlM.zero _ _, (b6.grown (fl_grown _ (B + 1 + 1 + 1) _) z6 (fun k hk => by cases hk; omega)).grown (fp_grown _ (B + 1 + 1 + 1 + 1) _) (Zn z6 (by simp [World.setRow])) (fun k hk => by cases hk; omega)⟩
 | true =>
 have hF : X = (againFv f c now, ge (againFv f c now).l (firstLost f.l), 0) := by rw [← HX.out]; exact ag_ok0 HMS.out (by rw [HK.out]; exact HUP.out) (by rw [HK.out]; have := of_decide_eq_true HQ.out; omega)
 rw [HK.out] at hF
 have HF := Zh hF
 clear hF HX
 have cp := p6.cell 0 rfl
 go_upto_region 10 with fail
 go_wp2_with fail
 obtain ⟨R, hR⟩ : ∃ R, w6.heap.size = R := ⟨_, rfl⟩
 have alR : Below w6.heap.size w6 (w6.alloc (.cells #[.func (.func 70) #[] #[.pointer (some ⟨P, 0, none⟩), .pointer (some ⟨I, 0, none⟩), .pointer (some ⟨B + 1 + 1, 0, none⟩)], .func (.func 65) #[.pointer (some ⟨S, 0, none⟩)] #[]] 1)) := (Zb).alloc Zr _
 have bR := Bx.new w6 1 [.func (.func 70) #[] #[.pointer (some ⟨P, 0, none⟩), .pointer (some ⟨I, 0, none⟩), .pointer (some ⟨B + 1 + 1, 0, none⟩)], .func (.func 65) #[.pointer (some ⟨S, 0, none⟩)] #[]]
 have T7 := T6'.out.more Zr alR (by simp)
 have i7 := i6.kept alR; have p7 := p6.kept alR; have n7 := n6.kept alR; have y7 := y6.kept alR; have r7 := r6.kept alR; have q7 := q6.kept alR; have b7 := b6.trans (alR.mono z6)
 rw [hR] at bR T7 ⊢
 clear T6' i6 p6 n6 y6 r6 q6 b6 cp alR hR z6
 generalize w6.alloc (.cells #[.func (.func 70) #[] #[.pointer (some ⟨P, 0, none⟩), .pointer (some ⟨I, 0, none⟩), .pointer (some ⟨B + 1 + 1, 0, none⟩)], .func (.func 65) #[.pointer (some ⟨S, 0, none⟩)] #[]] 1) = w7 at bR T7 i7 p7 n7 y7 r7 q7 b7 ⊢
 have hag := again_ok HOK.out HT.out (by rw [HK.out]; exact HUP.out.2)
 have hso := hag.ok
 rw [HK.out] at hag
 have hok := HOK.out
 have hok2 : FvOk { f with l := (againR f.l (ge f.l k).seq now).1 } c := by
  rw [← HK.out]
  exact ⟨hso.fine, hso.l, hso.r, hso.b, hso.m, hso.d, hso.k, hso.w, hok.t, hso.g, hso.next, hso.rd, hso.link⟩
 have hrun := flrun_two m0 [R, I, P] S R 70 #[] #[.pointer (some ⟨P, 0, none⟩), .pointer (some ⟨I, 0, none⟩), .pointer (some ⟨B + 1 + 1, 0, none⟩)] s' f _ c now w7 ent_sag T7 (List.mem_cons_self ..) bR hok2 HT.out
  (sendag_any m0 [R, I, P] S s' f c now 0 w7 T7 k P I (B + 1 + 1) bb oo p7 i7 n7 (by have := HL5.out; omega) HKN.out HA.out (w_valid hok))
 obtain ⟨g, hg⟩ : ∃ g, againFv f c now = g := ⟨_, rfl⟩
 have hgg : setF { f with l := (againR f.l (ge f.l k).seq now).1 } c now = g := by rw [← hg, ← HK.out]; rfl
 rw [hgg] at hrun
 have hgl : k < g.l.length := by rw [← hg, hag.l, List.length_set]; exact HUP.out.2
 have HG := Zh hg
 clear hg hgg hok2 hso hok hag e1 e2 ha1
 refine hrun.mono ?_
 rintro e w8 ⟨rfl, ⟨s8, T8⟩, hf⟩
 have y8 := y7.below hf.below (by omega); have r8 := r7.below hf.below (by omega); have q8 := q7.below hf.below (by omega); have p8 := hf.bx p7 (by simp); have i8 := hf.bx i7 (by simp); have b8 := b7.trans (hf.below.mono (by omega))
 have z8 : B ≤ w8.heap.size := Zl y8.lt
 clear hrun bR T7 i7 p7 n7 y7 r7 q7 b7 hf
 have hkn8 : k < s8.n1 := by have := T8.fm.l.rd.len; omega
 obtain ⟨b9, o9, ha9, _, _⟩ := T8.fm.l.rd.at_ (by omega)
 have HA9 := Zh ha9; have HKN9 := Zh hkn8; have HGL := Zh hgl
 have hle := T8.fm.l.le; have hmx := T8.fm.l.max
 unfold maxLen at hmx
 have e1 : (k : Int) < (s8.n1 : Int) := by omega
 have e2 : ¬ ((k : Int) < 0) := by omega
 have ha8 := ha9
 clear hle hmx ha9 hkn8 hgl HA HKN
 go_upto_region 11 with fail
 have rr := r8.drew; have qq := q8.drew; have bb' := b8.drew; have zz : B ≤ w8.drew.heap.size := z8
 refine kB [13] 15 (fun (W : World) => St m0 [R, I, P] W S s8 g c now 0 ∧ Bx W P 97 [.pointer (some ⟨S, 0, none⟩)] ∧ Bx W I 3 [.int .i64 (k : Int)]) ⟨T8.drew, p8.drew, i8.drew⟩ (fun HS => ?_)
 generalize w8.drew = wd at HS rr qq bb' zz ⊢
 refine kC 0 (v := .pointer (some ⟨S, 0, none⟩)) (fun w hSw => hSw.2.1.cell 0 rfl) HS ?_
 refine kU 1 HS ?_
 refine kU 2 HS ?_
 refine kS 3 rfl (sub_y (cs := (scs s8 g c now 0)) (vs := fcs s8 g) is_flow (by rfl) (.tmp 65) rfl rfl (fun w hSw => hSw.1.bx) rfl rfl) HS ?_
 refine kC 4 (v := .pointer (some ⟨S, 0, none⟩)) (fun w hSw => hSw.2.1.cell 0 rfl) HS ?_
 refine kU 5 HS ?_
 refine kU 6 HS ?_
 refine kU 7 HS ?_
 refine kC 8 (v := .slice s8.a1 s8.n1 s8.c1) (fun w hSw => hSw.1.bx.cell 1 rfl) HS ?_
 refine kC 9 (v := .int .i64 (k : Int)) (fun w hSw => hSw.2.2.cell 0 rfl) HS ?_
 refine kU 10 HS ?_
 refine wpAnyV_take (i := 11) (v := .agg (El.cells (ge g.l k)).toArray) rfl (by kernel_rfl) (fun _ _ _ h => h) (row_y (by rfl) (.tmp 73) rfl rfl (fun w hSw => hSw.1.range HA9.out HKN9.out)) HS ?_
 try simp only [Act.put, List.setIfInBounds_toArray, List.set_cons_zero, List.set_cons_succ]
 refine wpAnyV_one (k := 12) rfl (by kernel_rfl) (fun K hK => ?_)
 refine sub_end is_flow (by rfl) (.tmp 6) (.tmp 66) rfl rfl (fcs s8 g) rfl rr (by decide) rfl (fcs_one _ _) ?_
 have g5 : wd.grownBy (wd.setCells (B + 1 + 1 + 1) 0 (fcs s8 g)) (some (B + 1 + 1 + 1)) := grown_cells (fcs s8 g) 0 wd
 have r9 : Bx (wd.setCells (B + 1 + 1 + 1) 0 (fcs s8 g)) (B + 1 + 1 + 1) 40 (fcs s8 g) := rr.flow s8 g
 have q9 := qq.grown g5 (fun e => by have := Zo e; omega)
 have b9' := bb'.grown g5 zz (fun k hk => by cases hk; omega)
 have z9 : B ≤ (wd.setCells (B + 1 + 1 + 1) 0 (fcs s8 g)).heap.size := Zn zz g5.size
 have T9 : FlM (wd.setCells (B + 1 + 1 + 1) 0 (fcs s8 g)) (fun b => m0 ≤ b) s8 g := (HS.1.fm.imp (fun b hb => hb.1)).grown g5 (fun b hb e => by have := Zo e; omega)
 refine kK hK ⟨HS.1.far g5 (by omega), HS.2.1.grown g5 (fun e => by have := Zo e; omega), HS.2.2.grown g5 (fun e => by have := Zo e; omega)⟩ (fun HS => ?_)
 clear hK K
 clear rr qq bb' zz g5
 generalize wd.setCells (B + 1 + 1 + 1) 0 (fcs s8 g) = we at HS r9 q9 b9' z9 T9 ⊢
 try simp only [Act.put, List.setIfInBounds_toArray, List.set_cons_zero, List.set_cons_succ]
 refine wpAnyV_end (k := 13) rfl (by kernel_rfl) (fun K hK => ?_)
 refine sub_end is_sent (by rfl) (.tmp 7) (.tmp 74) rfl rfl (El.cells (ge g.l k)) rfl q9 (by decide) rfl rfl ?_
 have g6 : we.grownBy (we.setCells (B + 1 + 1 + 1 + 1) 0 (El.cells (ge g.l k))) (some (B + 1 + 1 + 1 + 1)) := grown_cells (El.cells (ge g.l k)) 0 we
 have qA : Bx (we.setCells (B + 1 + 1 + 1 + 1) 0 (El.cells (ge g.l k))) (B + 1 + 1 + 1 + 1) 57 (El.cells (ge g.l k)) := q9.part _
 have rA := r9.grown g6 (fun e => by have := Zo e; omega)
 have bA := b9'.grown g6 z9 (fun k hk => by cases hk; omega)
 have TA := T9.grown g6 (fun b hb e => by have := Zo e; omega)
 clear HS
 refine hK _ _ ?_
 clear hK K
 clear r9 q9 b9' z9 T9 g6
 generalize we.setCells (B + 1 + 1 + 1 + 1) 0 (El.cells (ge g.l k)) = wf at qA rA bA TA ⊢
 try simp only [Act.put, List.setIfInBounds_toArray, List.set_cons_zero, List.set_cons_succ]
 refine kN 14 ?_
 refine ⟨by kernel_rfl, ?_⟩
 go_wp2_with fail
 refine fl_end_c2 (by rfl) (by rfl) (by rfl) (by rfl) rA rfl qA rfl rfl ?_
 have hX := HF.out
 rw [HG.out] at hX
 subst hX
 exact ⟨s8, rfl, TA.imp (fun b hb => HP.out b (by rw [HBB.out]; omega)), bA⟩
theorem info_xa : (Tryz.prog.info? 208).map (·.size) = some 10 := by kernel_rfl
theorem xa_struct : ∃ n e, Tryz.prog.underlying 208 = some (.array n e) := ⟨_, _, Tryz.underlying208⟩
section
variable {W : World} {B : Nat} {t : TypeId} {cs : List Value}
theorem xa_put (h : Bx W B t cs) (vs : List Value) : Bx (W.setRow B vs.toArray) B t vs := setRow_heap W B _ vs.toArray t (0, 0) h
theorem xa_grown (W : World) (B : Nat) (vs : Array Value) : W.grownBy (W.setRow B vs) (some B) :=
 ⟨rfl, rfl, rfl, by simp [World.setRow], fun i _ hne => setRow_other W B i vs (fun e => hne (by rw [e]))⟩
theorem xa_store {ops : Array Oper} {rest : List Oper} {o : Oper} {a : Act} {Q : Exit → Act → World → Prop} (hgd : o.guard = none) (x y : Operand) (ho : o.op = .store 208 x y) (hx : a.eval x = .pointer (some ⟨B, 0, none⟩))
  (vs : List Value) (hy : a.eval y = .agg vs.toArray) (h : Bx W B t cs) (hl : cs.length = 10) (hv : vs.length = 10) (h1 : vs.all (·.oneCell') = true) (k : wpList Tryz.prog ops Q rest (a.put o.dst undef) (W.setRow B vs.toArray)) : wpList Tryz.prog ops Q (o :: rest) a W :=
 wpList_store_row hgd _ x y ho B vs.toArray hx hy t cs.toArray h (by rw [info_xa]; simp [hv]) (by simp [hl, hv]) (by simpa using h1) k
theorem xa_var (h : Bx W B t cs) (hl : cs.length = 10) : (Go.loadVar 208 ⟨B, 0, none⟩).run Tryz.prog W = .ok (.agg cs.toArray) W := by
 obtain ⟨n', e', hu⟩ := xa_struct
 exact run_loadVar_row W B t 208 cs.toArray (0, 0) _ h hu rfl (by rw [info_xa]; simp [hl])
variable {fn : Func} {tmps : Array Value} {R : Ending → World → Prop} {v u : Value} {ds : List Deferred} {p q r : Tmp}
theorem xa_end1 (hr : fn.results = #[.cell p 208]) (h2 : tmps.getD p undef = .pointer (some ⟨B, 0, none⟩))
  (e : Bx W B t cs) (hl : cs.length = 10) (hd : ds = []) (h : R (.returned (.agg cs.toArray)) W) : bodyPost Tryz.prog fn R .ret { tmps := tmps, defers := ds } W := by
 have l2 := xa_var e hl
 have h2a : tmps[p]?.getD undef = .pointer (some ⟨B, 0, none⟩) := by simpa using h2
 refine bodyPost_ret (v := .agg cs.toArray) ?_ hd h
 simp [results, hr, h2a, asAddr, l2]
end
theorem info_xo : (Tryz.prog.info? 207).map (·.size) = some 2 := by kernel_rfl
section
variable {W : World} {B : Nat} {t : TypeId} {cs : List Value}
theorem xo_put (h : Bx W B t cs) (vs : List Value) : Bx (W.setRow B vs.toArray) B t vs := setRow_heap W B _ vs.toArray t (0, 0) h
theorem xo_grown (W : World) (B : Nat) (vs : Array Value) : W.grownBy (W.setRow B vs) (some B) :=
 ⟨rfl, rfl, rfl, by simp [World.setRow], fun i _ hne => setRow_other W B i vs (fun e => hne (by rw [e]))⟩
theorem xo_store {ops : Array Oper} {rest : List Oper} {o : Oper} {a : Act} {Q : Exit → Act → World → Prop} (hgd : o.guard = none) (x y : Operand) (ho : o.op = .store 207 x y) (hx : a.eval x = .pointer (some ⟨B, 0, none⟩))
  (vs : List Value) (hy : a.eval y = .agg vs.toArray) (h : Bx W B t cs) (hl : cs.length = 2) (hv : vs.length = 2) (h1 : vs.all (·.oneCell') = true) (k : wpList Tryz.prog ops Q rest (a.put o.dst undef) (W.setRow B vs.toArray)) : wpList Tryz.prog ops Q (o :: rest) a W :=
 wpList_store_row hgd _ x y ho B vs.toArray hx hy t cs.toArray h (by rw [info_xo]; simp [hv]) (by simp [hl, hv]) (by simpa using h1) k
variable {fn : Func} {tmps : Array Value} {R : Ending → World → Prop} {v u : Value} {ds : List Deferred} {p q r : Tmp}
end
theorem clx_any (n low high : Int) (w : World) : Calls Tryz.prog 157 #[n, low, high] w fun e w' => e = .returned (.int .i64 (cl2 n low high)) ∧ w = w' := clamp_any n low high w
theorem ent_xop0 : ∀ args w, (callFunc 225 args).run Tryz.prog w = .ok (.enter 225 args) w := enters_of Tryz.func225 (by kernel_rfl) rfl
theorem ent_xop1 : ∀ args w, (callFunc 226 args).run Tryz.prog w = .ok (.enter 226 args) w := enters_of Tryz.func226 (by kernel_rfl) rfl
theorem ent_xop2 : ∀ args w, (callFunc 227 args).run Tryz.prog w = .ok (.enter 227 args) w := enters_of Tryz.func227 (by kernel_rfl) rfl
theorem ent_xop3 : ∀ args w, (callFunc 228 args).run Tryz.prog w = .ok (.enter 228 args) w := enters_of Tryz.func228 (by kernel_rfl) rfl
theorem ent_xop4 : ∀ args w, (callFunc 229 args).run Tryz.prog w = .ok (.enter 229 args) w := enters_of Tryz.func229 (by kernel_rfl) rfl
theorem xops_any (mss : Int) (F : Nat) (w : World) (hF : w.heap.size = F) :
  Calls Tryz.prog 209 #[mss] w fun e w' => e = .returned (.agg #[.int .i64 1099511627776, (.func (.func 225) #[] #[]), mss, (.func (.func 226) #[] #[]), .int .i64 1024, (.func (.func 227) #[] #[]), .int .i64 0, (.func (.func 228) #[] #[.pointer (some ⟨F, 0, none⟩)]), .int .i64 0, (.func (.func 229) #[] #[.pointer (some ⟨F, 0, none⟩)])]) ∧ Bx w' F 3 [mss] ∧ Below F w w' := by
 have e0 := (Bx.new w 3 [mss]).alloc (.cells #[.int .i64 0, .nilFunc, .int .i64 0, .nilFunc, .int .i64 0, .nilFunc, .int .i64 0, .nilFunc, .int .i64 0, .nilFunc] 208)
 have y0 := Bx.new (w.alloc (.cells #[mss] 3)) 208 [.int .i64 0, .nilFunc, .int .i64 0, .nilFunc, .int .i64 0, .nilFunc, .int .i64 0, .nilFunc, .int .i64 0, .nilFunc]
 rw [World.size_alloc] at y0
 rw [hF] at e0 y0
 have b0 : Below F w ((w.alloc (.cells #[mss] 3)).alloc (.cells #[.int .i64 0, .nilFunc, .int .i64 0, .nilFunc, .int .i64 0, .nilFunc, .int .i64 0, .nilFunc, .int .i64 0, .nilFunc] 208)) := by rw [← hF]; exact ((Zb).alloc Zr _).alloc (by simp) _
 go_enter Tryz.func209, Tryz.ntmps209
 go_upto_region 1 with fail
 try rw [hF]
 generalize (w.alloc (.cells #[mss] 3)).alloc (.cells #[.int .i64 0, .nilFunc, .int .i64 0, .nilFunc, .int .i64 0, .nilFunc, .int .i64 0, .nilFunc, .int .i64 0, .nilFunc] 208) = w1 at e0 y0 b0 ⊢
 have c0 := e0.cell 0 rfl
 have hFs := Zl e0.lt
 go_wp2_with (refine xa_store rfl (.tmp 2) (.tmp 11) rfl rfl [.int .i64 1099511627776, (.func (.func 225) #[] #[]), mss, (.func (.func 226) #[] #[]), .int .i64 1024, (.func (.func 227) #[] #[]), .int .i64 0, (.func (.func 228) #[] #[.pointer (some ⟨F, 0, none⟩)]), .int .i64 0, (.func (.func 229) #[] #[.pointer (some ⟨F, 0, none⟩)])] rfl y0 rfl rfl rfl ?_)
 refine xa_end1 (by rfl) (by rfl) (xa_put y0 [.int .i64 1099511627776, (.func (.func 225) #[] #[]), mss, (.func (.func 226) #[] #[]), .int .i64 1024, (.func (.func 227) #[] #[]), .int .i64 0, (.func (.func 228) #[] #[.pointer (some ⟨F, 0, none⟩)]), .int .i64 0, (.func (.func 229) #[] #[.pointer (some ⟨F, 0, none⟩)])]) rfl rfl ?_
 exact ⟨rfl, e0.grown (xa_grown _ (F + 1) #[.int .i64 1099511627776, (.func (.func 225) #[] #[]), mss, (.func (.func 226) #[] #[]), .int .i64 1024, (.func (.func 227) #[] #[]), .int .i64 0, (.func (.func 228) #[] #[.pointer (some ⟨F, 0, none⟩)]), .int .i64 0, (.func (.func 229) #[] #[.pointer (some ⟨F, 0, none⟩)])]) (fun e => by cases e), b0.grown (xa_grown _ (F + 1) #[.int .i64 1099511627776, (.func (.func 225) #[] #[]), mss, (.func (.func 226) #[] #[]), .int .i64 1024, (.func (.func 227) #[] #[]), .int .i64 0, (.func (.func 228) #[] #[.pointer (some ⟨F, 0, none⟩)]), .int .i64 0, (.func (.func 229) #[] #[.pointer (some ⟨F, 0, none⟩)])]) hFs (fun k hk => by cases hk; omega)⟩
end Go.Proofs.YtbijhkhkigdddaaGreat
