/- FoSpan FoWrong FlowWrongWalk. -/
import Derived.Test.YtbijhkhkigdddaaGreatM38
import Derived.Test.YtbijhkhkigdddaaGreatN1
set_option linter.all false
set_option maxRecDepth 100000
set_option maxHeartbeats 32000000
namespace Go.Proofs.YtbijhkhkigdddaaGreat
open Go.RowKit
theorem info_sb : (Tryz.prog.info? 74).map (·.size) = some 2 := by kernel_rfl
section
variable {W : World} {B : Nat} {t : TypeId} {cs : List Value}
theorem sb_put (h : Bx W B t cs) (vs : List Value) : Bx (W.setRow B vs.toArray) B t vs := setRow_heap W B _ vs.toArray t (0, 0) h
theorem sb_grown (W : World) (B : Nat) (vs : Array Value) : W.grownBy (W.setRow B vs) (some B) :=
 ⟨rfl, rfl, rfl, by simp [World.setRow], fun i _ hne => setRow_other W B i vs (fun e => hne (by rw [e]))⟩
theorem sb_store {ops : Array Oper} {rest : List Oper} {o : Oper} {a : Act} {Q : Exit → Act → World → Prop} (hgd : o.guard = none) (x y : Operand) (ho : o.op = .store 74 x y) (hx : a.eval x = .pointer (some ⟨B, 0, none⟩))
  (vs : List Value) (hy : a.eval y = .agg vs.toArray) (h : Bx W B t cs) (hl : cs.length = 2) (hv : vs.length = 2) (h1 : vs.all (·.oneCell') = true) (k : wpList Tryz.prog ops Q rest (a.put o.dst undef) (W.setRow B vs.toArray)) : wpList Tryz.prog ops Q (o :: rest) a W :=
 wpList_store_row hgd _ x y ho B vs.toArray hx hy t cs.toArray h (by rw [info_sb]; simp [hv]) (by simp [hl, hv]) (by simpa using h1) k
variable {fn : Func} {tmps : Array Value} {R : Ending → World → Prop} {v u : Value} {ds : List Deferred} {p q r : Tmp}
end
def svs (a b : Int) : List Value := [a, b]
def sw1 (w : World) (a b : Int) : World := (w.alloc (.cells (svs 0 0).toArray 74)).setRow w.heap.size (svs a b).toArray
section
variable {w : World}
theorem sz1 (w : World) : Bx (w.alloc (.cells (svs 0 0).toArray 74)) w.heap.size 74 (svs 0 0) := Bx.new _ _ _
theorem sw1_box (w : World) (a b : Int) : Bx (sw1 w a b) w.heap.size 74 (svs a b) := sb_put (sz1 w) _
theorem sw1_below (w : World) (a b : Int) : Below w.heap.size w (sw1 w a b) := ((Zb).alloc Zr _).grown (sb_grown _ _ _) (by simp) (fun k hk => by cases hk; exact Nat.le_refl _)
end
theorem ss_off {w : World} {A : Option Addr} {n c : Nat} {l : List Sp} (h : Ss w A n c l) {P : Nat} (hP : w.heap.size ≤ P) : In1 (Off [P]) A n := fun h0 b o q e => by
 obtain ⟨b', o', e', hlt, _⟩ := h.rd.at_ h0
 rw [e] at e'; cases e'
 intro hx
 have := List.mem_singleton.1 hx
 omega
theorem FlM.off {w : World} {p : Nat → Prop} {s : Fs} {f : Fv} (h : FlM w p s f) {P : Nat} (hP : w.heap.size ≤ P) : FlM w (Off [P]) s f := (h.imp (q := Off []) (fun b _ hx => by cases hx)).later hP
def wrB (a b got : Int) (l : List Sp) : Nat → Bool
 | 0 => decide (got < a) || decide (b < got)
 | k + 1 => wrB a b got l k || (decide (b < (sp l k).2) || decide ((sp l k).1 < a))
theorem wr_none {a b got : Int} {l : List Sp} (h0 : a ≤ got) (h1 : got ≤ b) (h : outB (a, b) l = false) : ∀ k, k ≤ l.length → wrB a b got l k = false := by
 intro k
 induction k with
 | zero => intro _; unfold wrB; rw [Zf (by omega), Zf (by omega)]; rfl
 | succ k ih =>
  intro hk
  have h2 := ih (by omega)
  unfold wrB
  rw [h2]
  unfold outB at h
  rw [List.any_eq_false] at h
  have h3 := h (sp l k) (by rw [sp_eq (by omega)]; exact List.getElem_mem _)
  unfold outP at h3
  simp only [Bool.or_eq_true, decide_eq_true_eq, not_or] at h3
  rw [Zf h3.2, Zf h3.1]; rfl
theorem wrong_err {f : Fv} {c : Cf} {t : Tv} (h : (heardF f c t).2.2 = 0) : wrB (spanR f.l).1 (spanR f.l).2 t.got t.sk t.sk.length = false := by
 obtain ⟨h1, h2, h3⟩ := heard_yes h
 have hm := (fmay_iff f c).1 h1.1
 have hk : smayB f.l = true ∧ mayB t.sk = true := ⟨hm.l, h3.may⟩
 by_cases k : f.l.length = 0 ∨ t.got < (spanR f.l).1 ∨ (spanR f.l).2 < t.got ∨ outB (spanR f.l) t.sk = true
 ·rw [heard_none hk k] at h2; cases h2
 ·simp only [not_or] at k
  exact wr_none (by omega) (by omega) (by have := k.2.2.2; simpa using this) _ Zr
theorem up_heard {f : Fv} {c : Cf} {t : Tv} (hu : f.up = false) : (heardF f c t).2.2 ≠ 0 := by
 intro h
 have := (heard_yes h).2.2.up
 rw [hu] at this; cases this
theorem up_send {f : Fv} {c : Cf} {a b d : Int} (hu : f.up = false) : (sendF f c a b d).2.2 ≠ 0 := by
 intro h
 have := (send_facts h).up
 rw [hu] at this; cases this
theorem up_again {f : Fv} {c : Cf} (hm : fmayB f c = true) : againF { f with up := false } c 0 = (zfv, zprt, 3) := by
 unfold againF
 have h1 : fmayB { f with up := false } c = true := hm
 rw [if_pos ⟨h1, rfl⟩, if_neg (fun h => by cases h.1)]
end Go.Proofs.YtbijhkhkigdddaaGreat
namespace Go.Proofs.YtbijhkhkigdddaaGreat.flowWrong
open Go.RowKit
theorem walk (s : Fs) (f : Fv) (c : Cf) (A : Option Addr) (m k : Nat) (t : Tv) (w : World) (h : FlM w (fun _ => True) s f) (hc : CfW c) (ht : TvW t) (hs : Ss w A m k t.sk) :
  Calls Tryz.prog 6 #[.agg (fcs s f).toArray, .agg (ccs c).toArray, .agg (tcs A m k t).toArray] w fun e w' => e = .returned (.bool true) ∧ Below w.heap.size w w' := by
 obtain ⟨B, hB⟩ : ∃ B, w.heap.size = B := ⟨_, rfl⟩
 have e1 := ((Bx.new w 40 (fcs s f)).alloc (.cells (ccs c).toArray 42)).alloc (.cells (tcs A m k t).toArray 46)
 have y1 := (Bx.new (w.alloc (.cells (fcs s f).toArray 40)) 42 (ccs c)).alloc (.cells (tcs A m k t).toArray 46)
 have u1 := Bx.new ((w.alloc (.cells (fcs s f).toArray 40)).alloc (.cells (ccs c).toArray 42)) 46 (tcs A m k t)
 simp only [World.size_alloc] at y1 u1
 have f1 := (((h.off (P := w.heap.size) Zr).alloc (.cells (fcs s f).toArray 40)).alloc (.cells (ccs c).toArray 42)).alloc (.cells (tcs A m k t).toArray 46)
 have hin := ss_off hs (P := w.heap.size) Zr
 rw [hB] at e1 y1 u1 f1 hin ⊢
 have b1 : Below B w (((w.alloc (.cells (fcs s f).toArray 40)).alloc (.cells (ccs c).toArray 42)).alloc (.cells (tcs A m k t).toArray 46)) := by rw [← hB]; exact (((Zb).alloc Zr _).alloc (by simp) _).alloc (by simp; omega) _
 have r1 := hs.keep (show Below w.heap.size w _ by rw [hB]; exact b1)
 have HC := Zh hc; have HT := Zh ht; have HIN := Zh hin
 clear hc h ht hs hin
 go_enter Tryz.func6, Tryz.ntmps6
 go_upto_region 1 with fail
 generalize ((w.alloc (.cells (fcs s f).toArray 40)).alloc (.cells (ccs c).toArray 42)).alloc (.cells (tcs A m k t).toArray 46) = w1 at e1 y1 u1 b1 f1 r1 ⊢
 clear hB
 have z1 : B ≤ w1.heap.size := Zl e1.lt
 go_wp2_with fail
 refine (flawake_any _).mono ?_
 rintro e w2 ⟨rfl, hb⟩
 have e2 := e1.kept hb
 have y2 := y1.kept hb
 have u2 := u1.kept hb
 have f2 := f1.keep hb
 have r2 := r1.keep hb
 have b2 := b1.trans (hb.mono z1); have z2 := Zn z1 hb.size
 clear e1 y1 u1 f1 r1 b1 z1 hb
 go_wp2_with (refine fl_load rfl (.tmp 3) rfl rfl e2 rfl ?_)
 refine (flfew_any s f _).mono ?_
 rintro e w3 ⟨rfl, hb⟩
 have e3 := e2.kept hb
 have y3 := y2.kept hb
 have u3 := u2.kept hb
 have f3 := f2.keep hb
 have r3 := r2.keep hb
 have b3 := b2.trans (hb.mono z2); have z3 := Zn z2 hb.size
 clear e2 y2 u2 f2 r2 b2 z2 hb
 cases hfew : fewB s with
 | false =>
  go_wp2_with fail
  go_ret
  exact ⟨rfl, b3⟩
 | true =>
 clear hfew
 have l5 : w3.cell? ⟨B + 2, 1, none⟩ = some (.slice A m k) := u3.cell 1 rfl
 by_cases hm : 20 < m
 ·have d1 : decide ((20 : Int) < (m : Int)) = true := Zt (by omega)
  clear hm
  go_wp2_with fail
  go_ret
  exact ⟨rfl, b3⟩
 have d1 : decide ((20 : Int) < (m : Int)) = false := Zf (by omega)
 have HM := Zh hm; clear hm
 go_wp2_with (first | (refine fl_loadg (by rfl) (.tmp 3) rfl rfl e3 rfl ?_) | (refine cf_loadg (by rfl) (.tmp 4) rfl rfl y3 rfl ?_))
 refine (flmay_any _ s f c _ f3 HC.out).mono ?_
 rintro e w4 ⟨rfl, hb⟩
 clear l5 d1
 have e4 := e3.kept hb
 have y4 := y3.kept hb
 have u4 := u3.kept hb
 have f4 := f3.keep hb
 have r4 := r3.keep hb
 have b4 := b3.trans (hb.mono z3); have z4 := Zn z3 hb.size
 clear e3 y3 u3 f3 r3 b3 z3 hb
 cases hmay : fmayB f c with
 | false =>
  go_wp2_with fail
  go_ret
  exact ⟨rfl, b4⟩
 | true =>
 have HMAY := Zh hmay; clear hmay
 go_upto_region 5 with fail
 obtain ⟨⟨g, td, er⟩, hr⟩ : ∃ r, heardF f c t = r := ⟨_, rfl⟩
 have HR := Zh hr; clear hr
 go_wp2_with (first | (refine fl_load rfl (.tmp 3) rfl rfl e4 rfl ?_) | (refine cf_load rfl (.tmp 4) rfl rfl y4 rfl ?_) | (refine tv_load rfl (.tmp 5) rfl rfl u4 rfl ?_))
 refine (flheard_any (Off [B]) s f c A m k t _ (off_new (fun x hx => by rw [List.mem_singleton.1 hx]; exact e4.lt)) f4 HC.out HT.out r4 (by have := HM.out; omega)).mono ?_
 rintro e w5 ⟨s5, A5, m5, k5, he, g5, q5, hi5, hb⟩
 rw [HR.out] at he g5 q5
 dsimp only at he g5 q5
 subst he
 have HQ := Zh q5.rd.len
 clear hi5 q5
 have e5 := e4.kept hb
 have y5 := y4.kept hb
 have u5 := u4.kept hb
 have f5 := f4.keep hb
 have r5 := r4.keep hb
 have b5 := b4.trans (hb.mono z4); have z5 := Zn z4 hb.size
 clear e4 y4 u4 f4 r4 b4 z4 hb
 have v6 := fw1_box w5 (fcs s5 g)
 have hb := fw1_below w5 (fcs s5 g)
 go_upto_region 6 with (refine fl_store rfl (.tmp 9) (.tmp 51) rfl rfl (fcs s5 g) rfl (fz1 w5) rfl rfl rfl ?_)
 change Code.wp _ _ _ _ (fw1 w5 (fcs s5 g))
 generalize fw1 w5 (fcs s5 g) = w6 at v6 hb ⊢
 obtain ⟨P, hP⟩ : ∃ P, w5.heap.size = P := ⟨_, rfl⟩
 rw [hP] at v6 ⊢
 have e6 := e5.kept hb
 have y6 := y5.kept hb
 have u6 := u5.kept hb
 have f6 := f5.keep hb
 have r6 := r5.keep hb
 have b6 := b5.trans (hb.mono z5); have z6 := Zn z5 hb.size
 clear e5 y5 u5 f5 r5 b5 z5 hb
 clear g5 hP
 have l1 : w6.cell? ⟨B, 1, none⟩ = some (.slice s.a1 s.n1 s.c1) := e6.cell 1 rfl
 go_wp2_with fail
 refine (stspan_any s.a1 s.n1 s.c1 f.l _ f6.l).mono ?_
 rintro e w7 ⟨rfl, hb⟩
 have v7 := v6.kept hb; clear l1 v6
 have e7 := e6.kept hb
 have y7 := y6.kept hb
 have u7 := u6.kept hb
 have f7 := f6.keep hb
 have r7 := r6.keep hb
 have b7 := b6.trans (hb.mono z6); have z7 := Zn z6 hb.size
 clear e6 y6 u6 f6 r6 b6 z6 hb
 have x8 := sw1_box w7 (spanR f.l).1 (spanR f.l).2
 have hb := sw1_below w7 (spanR f.l).1 (spanR f.l).2
 go_upto_region 7 with (refine sb_store rfl (.tmp 12) (.tmp 56) rfl rfl (svs (spanR f.l).1 (spanR f.l).2) rfl (sz1 w7) rfl rfl rfl ?_)
 change Code.wp _ _ _ _ (sw1 w7 (spanR f.l).1 (spanR f.l).2)
 generalize sw1 w7 (spanR f.l).1 (spanR f.l).2 = w8 at x8 hb ⊢
 obtain ⟨Q, hQ⟩ : ∃ P, w7.heap.size = P := ⟨_, rfl⟩
 rw [hQ] at x8 ⊢
 have v8 := v7.kept hb; clear v7
 have e8 := e7.kept hb
 have y8 := y7.kept hb
 have u8 := u7.kept hb
 have f8 := f7.keep hb
 have r8 := r7.keep hb
 have b8 := b7.trans (hb.mono z7); have z8 := Zn z7 hb.size
 clear e7 y7 u7 f7 r7 b7 z7 hb
 clear hQ
 have HE := Zh (fun h => wrong_err (f := f) (c := c) (t := t) h)
 have hsl := r8.rd.len
 rw [hsl] at HE
 have HSL := Zh hsl; clear hsl
 obtain ⟨a, ha⟩ : ∃ a, (spanR f.l).1 = a := ⟨_, rfl⟩
 obtain ⟨b, hb⟩ : ∃ b, (spanR f.l).2 = b := ⟨_, rfl⟩
 rw [ha, hb] at HE
 rw [ha, hb] at x8
 clear ha hb
 simp only [Act.put]
 go_cut [13] (fun s13 wx => s13 = .bool (wrB a b t.got t.sk 0) ∧ wx = w8)
 case first =>
  have l0 : w8.cell? ⟨B + 2, 0, none⟩ = some (.int .i64 t.got) := u8.cell 0 rfl
  have q0 : w8.cell? ⟨Q, 0, none⟩ = some (.int .i64 a) := x8.cell 0 rfl
  have q1 : w8.cell? ⟨Q, 1, none⟩ = some (.int .i64 b) := x8.cell 1 rfl
  cases h1 : decide (t.got < a) with
  | true =>
   go_wp2_with fail
   go_meet
   case rel => exact ⟨by unfold wrB; rw [h1]; rfl, rfl⟩
  | false =>
   cases h2 : decide (b < t.got) with
   | true =>
    go_wp2_with fail
    go_meet
    case rel => exact ⟨by unfold wrB; rw [h1, h2]; rfl, rfl⟩
   | false =>
    go_wp2_with fail
    go_meet
    case rel => exact ⟨by unfold wrB; rw [h1, h2]; rfl, rfl⟩
 case rest =>
 obtain ⟨rfl, hwx⟩ := hcut
 rw [hwx]
 clear hwx
 obtain ⟨M, hM⟩ : ∃ M, w8.heap.size = M := ⟨_, rfl⟩
 have HMM := Zh hM; clear hM
 go_wp2_with fail
 go_loopw [13, 14] (fun a13 i wr => ∃ j : Nat, j ≤ m ∧ i = .int .i64 (j : Int) ∧ a13 = .bool (wrB a b t.got t.sk j) ∧ Below M w8 wr) (fun _ i _ => m - (intOf i).toNat)
 case atStart => exact ⟨0, Nat.zero_le _, rfl, rfl, Below.refl _ _⟩
 case round =>
  obtain ⟨j, hj, rfl, rfl, br⟩ := hrel
  have u9 := u8.below br (by rw [← HMM.out]; exact u8.lt); have x9 := x8.below br (by rw [← HMM.out]; exact x8.lt)
  have r9 := r8.keep (show Below w8.heap.size w8 wr by rw [HMM.out]; exact br)
  have l1 : wr.cell? ⟨B + 2, 1, none⟩ = some (.slice A m k) := u9.cell 1 rfl
  have hk := r9.le; have hkm := r9.max
  unfold maxLen at hkm
  by_cases hlt : j < m
  ·have dlt : decide (j < m) = true := Zt hlt
   have dlt' : decide ((j : Int) < (m : Int)) = true := Zt (by omega)
   obtain ⟨bb, o, hA, hbl, hc0⟩ := r9.rd.at_ (by omega)
   obtain ⟨c0, c1⟩ := hc0 j hlt
   rw [hA] at l1
   have q0 : wr.cell? ⟨Q, 0, none⟩ = some (.int .i64 a) := x9.cell 0 rfl
   have q1 : wr.cell? ⟨Q, 1, none⟩ = some (.int .i64 b) := x9.cell 1 rfl
   have i2 : IntKind.i64.wrap ((j : Int) + 1) = (j : Int) + 1 := IntWalk.i64_in _ (by omega)
   have hst : wrB a b t.got t.sk (j + 1) = (wrB a b t.got t.sk j || (decide (b < (sp t.sk j).2) || decide ((sp t.sk j).1 < a))) := rfl
   obtain ⟨q, hq⟩ : ∃ q, wrB a b t.got t.sk j = q := ⟨_, rfl⟩
   rw [hq] at hst ⊢
   have HST := Zh hst
   clear hA hbl hc0 u9 x9 r9 hq hst
   go_upto_region 11 with fail
   cases q with
   | true =>
    go_quiet (fail)
    go_wp2_with fail
    go_roundw
    case rel => exact ⟨j + 1, by omega, by go_num, by rw [HST.out]; rfl, below_drewN br _⟩
    case measure => simp [intOf]; omega
   | false =>
    cases h1 : decide (b < (sp t.sk j).2) with
    | true =>
     go_quiet (fail)
     go_wp2_with fail
     go_roundw
     case rel => exact ⟨j + 1, by omega, by go_num, by rw [HST.out, h1]; rfl, below_drewN br _⟩
     case measure => simp [intOf]; omega
    | false =>
     cases h2 : decide ((sp t.sk j).1 < a) with
     | true =>
      go_quiet (fail)
      go_wp2_with fail
      go_roundw
      case rel => exact ⟨j + 1, by omega, by go_num, by rw [HST.out, h1, h2]; rfl, below_drewN br _⟩
      case measure => simp [intOf]; omega
     | false =>
      go_quiet (fail)
      go_wp2_with fail
      go_roundw
      case rel => exact ⟨j + 1, by omega, by go_num, by rw [HST.out, h1, h2]; rfl, below_drewN br _⟩
      case measure => simp [intOf]; omega
  ·obtain rfl : j = m := by omega
   have dlt : decide (j < j) = false := Zf (by omega)
   have dlt' : decide ((j : Int) < (j : Int)) = false := Zf (by omega)
   have brk : Below w8.heap.size w8 wr := by rw [HMM.out]; exact br
   have e9 := e8.kept brk; have y9 := y8.kept brk; have v9 := v8.kept brk; have f9 := f8.keep brk
   have b9 := b8.trans (brk.mono z8)
   have z9 : B ≤ wr.heap.size := by have := br.size; have := HMM.out; omega
   obtain ⟨q, hq⟩ : ∃ q, wrB a b t.got t.sk j = q := ⟨_, rfl⟩
   rw [hq] at HE ⊢
   clear e8 y8 u8 v8 f8 r8 b8 z8 br brk hk hkm hq x8 x9
   go_upto_region 12 with fail
   clear l1
   go_cut [117] (fun s117 wx => s117 = .bool false ∧ wx = wr)
   case first =>
    by_cases her : er = 0
    case pos =>
     have hw : q = false := by have := HE.out (by rw [HR.out]; exact her); exact this
     subst hw
     subst her
     go_wp2_with fail
     go_meet
     case rel => exact ⟨rfl, rfl⟩
    case neg =>
     have d0 : (er == 0) = false := by simpa using her
     have d0' : (er != 0) = true := by simpa using her
     have hz := heard_err (f := f) (c := c) (t := t) (e := er) (by rw [HR.out]) her
     rw [HR.out] at hz
     have hm5 : m5 = 0 := by have := HQ.out; rw [(Prod.mk.inj (Prod.mk.inj hz).2).1] at this; exact this.symm
     have k2 : wr.cell? ⟨P, 2, none⟩ = some (.int .i64 0) := (v9.cell 2 rfl).trans (by show some (Value.int .i64 g.next) = _; rw [(Prod.mk.inj hz).1]; rfl)
     subst hm5
     clear hz HQ
     cases q with
     | true =>
      go_wp2_with fail
      go_meet
      case rel => exact ⟨rfl, rfl⟩
     | false =>
      go_wp2_with fail
      go_meet
      case rel => exact ⟨rfl, rfl⟩
   case rest =>
   obtain ⟨rfl, hwx⟩ := hcut
   rw [hwx]
   clear hwx HE HQ HR v9
   have c0 : wr.cell? ⟨B, 0, none⟩ = some (.bool f.up) := e9.cell 0 rfl
   have fr0 := e9.free 0
   go_upto_region 15 with fail
   have e10 : Bx (wr.setCell ⟨B, 0, none⟩ (.bool false)) B 40 (fcs s { f with up := false }) := e9.set 0 (.bool false)
   have y10 := y9.far (p := ⟨B, 0, none⟩) (by dsimp only; omega) (.bool false)
   have u10 := u9.far (p := ⟨B, 0, none⟩) (by dsimp only; omega) (.bool false)
   have f10 := (f9.grown (fl_gset wr ⟨B, 0, none⟩ (.bool false)) (off_row (List.mem_singleton.2 rfl))).up false
   have r10 := ss_grown r9 HIN.out (fl_gset wr ⟨B, 0, none⟩ (.bool false)) (off_row (List.mem_singleton.2 rfl))
   have b10 : Below B w (wr.setCell ⟨B, 0, none⟩ (.bool false)) := b9.grown (fl_gset _ _ _) z9 (fun k hk => by cases hk; exact Nat.le_refl _)
   have z10 : B ≤ (wr.setCell ⟨B, 0, none⟩ (.bool false)).heap.size := Zl e10.lt
   generalize wr.setCell ⟨B, 0, none⟩ (.bool false) = w10 at e10 y10 u10 f10 r10 b10 z10 ⊢
   clear e9 y9 u9 f9 r9 b9 z9 c0 fr0
   have HU1 := Zh (up_heard (f := { f with up := false }) (c := c) (t := t) rfl)
   have HU2 := Zh (up_send (f := { f with up := false }) (c := c) (a := 0) (b := 1) (d := 0) rfl)
   have HU3 := Zh (up_again (f := f) (c := c) HMAY.out)
   obtain ⟨F, hF⟩ : ∃ F, ({ f with up := false } : Fv) = F := ⟨_, rfl⟩
   rw [hF] at e10 f10 HU1 HU2 HU3
   clear hF
   obtain ⟨⟨g1, td1, er1⟩, hr⟩ : ∃ r, heardF F c t = r := ⟨_, rfl⟩
   have HR := Zh hr; clear hr
   rw [HR.out] at HU1
   go_wp2_with (first | (refine fl_load rfl (.tmp 3) rfl rfl e10 rfl ?_) | (refine cf_load rfl (.tmp 4) rfl rfl y10 rfl ?_) | (refine tv_load rfl (.tmp 5) rfl rfl u10 rfl ?_))
   refine (flheard_any (Off [B]) s F c A j k t _ (off_new (fun x hx => by rw [List.mem_singleton.1 hx]; exact e10.lt)) f10 HC.out HT.out r10 (by have := HM.out; omega)).mono ?_
   rintro e w11 ⟨s11, A11, m11, k11, he, g11, q11, hi11, hb⟩
   rw [HR.out] at he g11 q11
   dsimp only at he g11 q11
   subst he
   clear hi11 q11
   have e11 := e10.kept hb
   have y11 := y10.kept hb
   have u11 := u10.kept hb
   have f11 := f10.keep hb
   have r11 := r10.keep hb
   have b11 := b10.trans (hb.mono z10); have z11 := Zn z10 hb.size
   clear e10 y10 u10 f10 r10 b10 z10 hb
   have hb := fw1_below w11 (fcs s11 g1)
   go_upto_region 16 with (refine fl_store rfl (.tmp 15) (.tmp 124) rfl rfl (fcs s11 g1) rfl (fz1 w11) rfl rfl rfl ?_)
   change Code.wp _ _ _ _ (fw1 w11 (fcs s11 g1))
   generalize fw1 w11 (fcs s11 g1) = w12 at hb ⊢
   have e12 := e11.kept hb
   have y12 := y11.kept hb
   have u12 := u11.kept hb
   have f12 := f11.keep hb
   have r12 := r11.keep hb
   have b12 := b11.trans (hb.mono z11); have z12 := Zn z11 hb.size
   clear e11 y11 u11 f11 r11 b11 z11 hb
   clear g11 HR
   obtain ⟨⟨g2, p2, er2⟩, hr⟩ : ∃ r, sendF F c 0 1 0 = r := ⟨_, rfl⟩
   have HR := Zh hr; clear hr
   rw [HR.out] at HU2
   go_wp2_with (first | (refine fl_load rfl (.tmp 3) rfl rfl e12 rfl ?_) | (refine cf_load rfl (.tmp 4) rfl rfl y12 rfl ?_) | (refine tv_load rfl (.tmp 5) rfl rfl u12 rfl ?_))
   refine (flsend_any (Off [B]) s F c 0 1 0 _ (off_new (fun x hx => by rw [List.mem_singleton.1 hx]; exact e12.lt)) f12 HC.out (by unfold i64; omega) (by unfold i64; omega) (by unfold i64; omega)).mono ?_
   rintro e w13 ⟨s13, he, g13, hb⟩
   rw [HR.out] at he g13
   dsimp only at he g13
   subst he
   have e13 := e12.kept hb
   have y13 := y12.kept hb
   have u13 := u12.kept hb
   have f13 := f12.keep hb
   have r13 := r12.keep hb
   have b13 := b12.trans (hb.mono z12); have z13 := Zn z12 hb.size
   clear e12 y12 u12 f12 r12 b12 z12 hb
   have hb := fw2_below w13 (fcs s13 g2) (El.cells p2)
   go_upto_region 17 with (first | (refine fl_store rfl (.tmp 18) (.tmp 131) rfl rfl (fcs s13 g2) rfl (fz2 w13) rfl rfl rfl ?_) | (refine fp_store rfl (.tmp 19) (.tmp 132) rfl rfl (El.cells p2) rfl (fz3 w13 (fcs s13 g2)) rfl rfl rfl ?_))
   change Code.wp _ _ _ _ (fw2 w13 (fcs s13 g2) (El.cells p2))
   generalize fw2 w13 (fcs s13 g2) (El.cells p2) = w14 at hb ⊢
   have e14 := e13.kept hb
   have y14 := y13.kept hb
   have u14 := u13.kept hb
   have f14 := f13.keep hb
   have r14 := r13.keep hb
   have b14 := b13.trans (hb.mono z13); have z14 := Zn z13 hb.size
   clear e13 y13 u13 f13 r13 b13 z13 hb
   clear g13 HR
   go_wp2_with (first | (refine fl_load rfl (.tmp 3) rfl rfl e14 rfl ?_) | (refine cf_load rfl (.tmp 4) rfl rfl y14 rfl ?_) | (refine tv_load rfl (.tmp 5) rfl rfl u14 rfl ?_))
   refine (flagain_any (Off [B]) s F c 0 _ (off_new (fun x hx => by rw [List.mem_singleton.1 hx]; exact e14.lt)) f14 HC.out (by unfold i64; omega)).mono ?_
   rintro e w15 ⟨s15, he, g15, hb⟩
   rw [HU3.out] at he g15
   dsimp only at he g15
   subst he
   have e15 := e14.kept hb
   have y15 := y14.kept hb
   have u15 := u14.kept hb
   have f15 := f14.keep hb
   have r15 := r14.keep hb
   have b15 := b14.trans (hb.mono z14); have z15 := Zn z14 hb.size
   clear e14 y14 u14 f14 r14 b14 z14 hb
   have hb := fw2_below w15 (fcs s15 zfv) (El.cells zprt)
   go_upto_region 18 with (first | (refine fl_store rfl (.tmp 21) (.tmp 138) rfl rfl (fcs s15 zfv) rfl (fz2 w15) rfl rfl rfl ?_) | (refine fp_store rfl (.tmp 22) (.tmp 139) rfl rfl (El.cells zprt) rfl (fz3 w15 (fcs s15 zfv)) rfl rfl rfl ?_))
   change Code.wp _ _ _ _ (fw2 w15 (fcs s15 zfv) (El.cells zprt))
   generalize fw2 w15 (fcs s15 zfv) (El.cells zprt) = w16 at hb ⊢
   have e16 := e15.kept hb
   have y16 := y15.kept hb
   have u16 := u15.kept hb
   have f16 := f15.keep hb
   have r16 := r15.keep hb
   have b16 := b15.trans (hb.mono z15); have z16 := Zn z15 hb.size
   clear e15 y15 u15 f15 r15 b15 z15 hb
   clear g15
   have d1 : (er1 != 0) = true := by have := HU1.out; simpa using this
   have d2 : (er2 != 0) = true := by have := HU2.out; simpa using this
   go_wp2_with fail
   go_ret
   exact ⟨rfl, b16⟩
end Go.Proofs.YtbijhkhkigdddaaGreat.flowWrong
