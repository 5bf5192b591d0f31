/- FlL2. -/
import Derived.Test.YtbijhkhkigdddaaGreatP22
set_option linter.all false
set_option maxRecDepth 100000
set_option maxHeartbeats 32000000
namespace Go.Proofs.YtbijhkhkigdddaaGreat
open Go.RowKit
def placedB (f : Fv) : Bool := smayB f.l && (t60 f.next && (t60 f.rd && decide (linkF f)))
theorem span_field (a b : Value) (w : World) : (Instr.field 74 (.agg #[a, b]) 1).run Tryz.prog w = .ok b w := by kernel_rfl
theorem flplaced_any (p : Nat → Prop) (s : Fs) (f : Fv) (w : World) (h : FlM w p s f) : Calls Tryz.prog 48 #[.agg (fcs s f).toArray] w fun e w' => e = .returned (.bool (placedB f)) ∧ Below w.heap.size w w' := by
 obtain ⟨B, hB⟩ : ∃ B, w.heap.size = B := ⟨_, rfl⟩
 have y0 := Bx.new w 40 (fcs s f)
 rw [hB] at y0 ⊢
 have b0 : Below B w (w.alloc (.cells (fcs s f).toArray 40)) := by rw [← hB]; exact (Zb).alloc Zr _
 have l0 := h.l.alloc (.cells (fcs s f).toArray 40)
 have hlen := h.l.rd.len
 obtain ⟨q, hq⟩ : ∃ q, placedB f = q := ⟨_, rfl⟩
 rw [hq]
 unfold placedB at hq
 have HQ := Zh hq; have HLEN := Zh hlen
 clear hq h hlen
 go_enter Tryz.func48, Tryz.ntmps48
 go_upto_region 1 with fail
 change Code.wp _ _ _ _ (w.alloc (.cells (fcs s f).toArray 40))
 generalize (w.alloc (.cells (fcs s f).toArray 40)) = w1 at y0 b0 l0 ⊢
 have c1 := y0.cell 1 rfl; have c2 := y0.cell 2 rfl; have c30 := y0.cell 30 rfl
 have zB : B ≤ w1.heap.size := Zl y0.lt
 clear hB
 have hm := stmay_any s.a1 s.n1 s.c1 f.l w1 l0
 cases h0 : smayB f.l with
 | false =>
  rw [h0] at hm
  have hF : q = false := by rw [← HQ.out]; simp [h0]
  subst hF
  clear HQ
  go_wp2_with (first | (go_at_call 97; refine hm.mono ?_; rintro e w2 ⟨rfl, hb⟩; have y2 := y0.kept hb; have l2 := l0.keep hb; have b2 : Below B w w2 := b0.trans (hb.mono zB); have zB2 : B ≤ w2.heap.size := Zn zB hb.size; have c2' := y2.cell 2 rfl; have c30' := y2.cell 30 rfl; clear c1 c2 c30) | (go_at_call 38; refine (fwin_any _ _ _ _).mono ?_; rintro e wx ⟨rfl, rfl⟩))
  go_ret
  exact ⟨rfl, b2⟩
 | true =>
 rw [h0] at hm
 cases h1 : fwinB f.next 0 1152921504606846976 with
 | false =>
  have h1' : t60 f.next = false := by rw [← fwin60]; exact h1
  have hF : q = false := by rw [← HQ.out]; simp [h1']
  subst hF
  clear HQ
  go_wp2_with (first | (go_at_call 97; refine hm.mono ?_; rintro e w2 ⟨rfl, hb⟩; have y2 := y0.kept hb; have l2 := l0.keep hb; have b2 : Below B w w2 := b0.trans (hb.mono zB); have zB2 : B ≤ w2.heap.size := Zn zB hb.size; have c2' := y2.cell 2 rfl; have c30' := y2.cell 30 rfl; clear c1 c2 c30) | (go_at_call 38; refine (fwin_any _ _ _ _).mono ?_; rintro e wx ⟨rfl, rfl⟩))
  go_ret
  exact ⟨rfl, b2⟩
 | true =>
 cases h2 : fwinB f.rd 0 1152921504606846976 with
 | false =>
  have h2' : t60 f.rd = false := by rw [← fwin60]; exact h2
  have hF : q = false := by rw [← HQ.out]; simp [h2']
  subst hF
  clear HQ
  go_wp2_with (first | (go_at_call 97; refine hm.mono ?_; rintro e w2 ⟨rfl, hb⟩; have y2 := y0.kept hb; have l2 := l0.keep hb; have b2 : Below B w w2 := b0.trans (hb.mono zB); have zB2 : B ≤ w2.heap.size := Zn zB hb.size; have c2' := y2.cell 2 rfl; have c30' := y2.cell 30 rfl; clear c1 c2 c30) | (go_at_call 38; refine (fwin_any _ _ _ _).mono ?_; rintro e wx ⟨rfl, rfl⟩))
  go_ret
  exact ⟨rfl, b2⟩
 | true =>
 have h1' : t60 f.next = true := by rw [← fwin60]; exact h1
 have h2' : t60 f.rd = true := by rw [← fwin60]; exact h2
 have hF : q = decide (linkF f) := by rw [← HQ.out]; simp [h0, h1', h2']
 have HF := Zh hF
 clear hF HQ h1' h2'
 go_upto_region 3 with (first | (go_at_call 97; refine hm.mono ?_; rintro e w2 ⟨rfl, hb⟩; have y2 := y0.kept hb; have l2 := l0.keep hb; have b2 : Below B w w2 := b0.trans (hb.mono zB); have zB2 : B ≤ w2.heap.size := Zn zB hb.size; have c2' := y2.cell 2 rfl; have c30' := y2.cell 30 rfl; clear c1 c2 c30) | (go_at_call 38; refine (fwin_any _ _ _ _).mono ?_; rintro e wx ⟨rfl, rfl⟩))
 clear y0 l0 b0 zB hm h0 h1 h2 hb c2' c30'
 by_cases hn : s.n1 = 0
 case pos =>
  have hF : q = true := by rw [HF.out, decide_eq_true_eq]; intro h; have := HLEN.out; omega
  subst hF
  have d0 : ((s.n1 : Int) == 0) = true := by simp; omega
  have d1 : decide ((s.n1 : Int) = 0) = true := Zt (by omega)
  clear hn
  refine tB 13 14 (fun (W : World) => Bx W B 40 (fcs s f) ∧ Se W s.a1 s.n1 s.c1 f.l ∧ Below B w W) ⟨y2.drew, l2.drew, b2.drew⟩ (fun HS => ?_)
  refine tV 0 (.pointer (some ⟨B, 1, none⟩)) (fun w hSw => ?_) HS ?_
  ·clear hSw HS
   go_simp
  refine tV 1 (.slice s.a1 s.n1 s.c1) (fun w hSw => ?_) HS ?_
  ·have cc := Bx.cell (hSw.1) 1 (v := .slice s.a1 s.n1 s.c1) rfl
   clear hSw HS
   go_simp
  refine tV 2 (.int .i64 (s.n1 : Int)) (fun w hSw => ?_) HS ?_
  ·clear hSw HS
   go_simp
  refine tV 3 (.bool true) (fun w hSw => ?_) HS ?_
  ·clear hSw HS
   go_simp
  refine tV 4 (.bool true) (fun w hSw => ?_) HS ?_
  ·clear hSw HS
   go_simp
  refine tF 5 HS ?_
  refine tF 6 HS ?_
  refine tF 7 HS ?_
  refine tF 8 HS ?_
  refine tF 9 HS ?_
  refine tF 10 HS ?_
  refine tF 11 HS ?_
  refine tV 12 (.bool true) (fun w hSw => ?_) HS ?_
  ·clear hSw HS
   go_simp
  refine ⟨by kernel_rfl, ?_⟩
  simp only [List.drop_succ_cons, List.drop_zero]
  go_wp2_with fail
  go_ret
  exact ⟨rfl, HS.2.2⟩
 case neg =>
 have d0 : ((s.n1 : Int) == 0) = false := by simp; omega
 have d1 : decide ((s.n1 : Int) = 0) = false := Zf (by omega)
 have hl0 : 0 < f.l.length := by have := HLEN.out; omega
 have HL0 := Zh hl0
 have sf := span_field
 clear hn hl0
 by_cases hE : f.next = (spanR f.l).2
 case pos =>
  have hF : q = true := by rw [HF.out, decide_eq_true_eq]; intro h; exact hE.symm
  subst hF
  have d2 : (f.next == (spanR f.l).2) = true := by simpa using hE
  have d3 : decide (f.next = (spanR f.l).2) = true := Zt hE
  clear hE
  refine tB 13 14 (fun (W : World) => Bx W B 40 (fcs s f) ∧ Se W s.a1 s.n1 s.c1 f.l ∧ Below B w W) ⟨y2.drew, l2.drew, b2.drew⟩ (fun HS => ?_)
  refine tV 0 (.pointer (some ⟨B, 1, none⟩)) (fun w hSw => ?_) HS ?_
  ·clear hSw HS
   go_simp
  refine tV 1 (.slice s.a1 s.n1 s.c1) (fun w hSw => ?_) HS ?_
  ·have cc := Bx.cell (hSw.1) 1 (v := .slice s.a1 s.n1 s.c1) rfl
   clear hSw HS
   go_simp
  refine tV 2 (.int .i64 (s.n1 : Int)) (fun w hSw => ?_) HS ?_
  ·clear hSw HS
   go_simp
  refine tV 3 (.bool false) (fun w hSw => ?_) HS ?_
  ·clear hSw HS
   go_simp
  refine tV 4 (.bool false) (fun w hSw => ?_) HS ?_
  ·clear hSw HS
   go_simp
  refine tV 5 (.pointer (some ⟨B, 2, none⟩)) (fun w hSw => ?_) HS ?_
  ·clear hSw HS
   go_simp
  refine tV 6 (.int .i64 f.next) (fun w hSw => ?_) HS ?_
  ·have cc := Bx.cell (hSw.1) 2 (v := .int .i64 f.next) rfl
   clear hSw HS
   go_simp
  refine tV 7 (.pointer (some ⟨B, 1, none⟩)) (fun w hSw => ?_) HS ?_
  ·clear hSw HS
   go_simp
  refine tV 8 (.slice s.a1 s.n1 s.c1) (fun w hSw => ?_) HS ?_
  ·have cc := Bx.cell (hSw.1) 1 (v := .slice s.a1 s.n1 s.c1) rfl
   clear hSw HS
   go_simp
  refine tO 9 (fun K hK => ?_)
  go_simp
  refine (stspan_any _ _ _ _ _ HS.2.1).mono ?_
  rintro e w3 ⟨rfl, hb3⟩
  refine kK hK ⟨HS.1.kept hb3, HS.2.1.keep hb3, HS.2.2.trans (hb3.mono (Zl HS.1.lt))⟩ (fun HS => ?_)
  clear hK K
  refine tV 10 (.int .i64 (spanR f.l).2) (fun w hSw => ?_) HS ?_
  ·clear hSw HS
   go_simp
  refine tV 11 (.bool true) (fun w hSw => ?_) HS ?_
  ·clear hSw HS
   go_simp
  refine tV 12 (.bool true) (fun w hSw => ?_) HS ?_
  ·clear hSw HS
   go_simp
  refine ⟨by kernel_rfl, ?_⟩
  simp only [List.drop_succ_cons, List.drop_zero]
  go_wp2_with fail
  go_ret
  exact ⟨rfl, HS.2.2⟩
 case neg =>
  have hF : q = false := by rw [HF.out, decide_eq_false_iff_not]; intro h; exact hE (h HL0.out).symm
  subst hF
  have d2 : (f.next == (spanR f.l).2) = false := by simpa using hE
  have d3 : decide (f.next = (spanR f.l).2) = false := Zf hE
  clear hE
  refine tB 13 14 (fun (W : World) => Bx W B 40 (fcs s f) ∧ Se W s.a1 s.n1 s.c1 f.l ∧ Below B w W) ⟨y2.drew, l2.drew, b2.drew⟩ (fun HS => ?_)
  refine tV 0 (.pointer (some ⟨B, 1, none⟩)) (fun w hSw => ?_) HS ?_
  ·clear hSw HS
   go_simp
  refine tV 1 (.slice s.a1 s.n1 s.c1) (fun w hSw => ?_) HS ?_
  ·have cc := Bx.cell (hSw.1) 1 (v := .slice s.a1 s.n1 s.c1) rfl
   clear hSw HS
   go_simp
  refine tV 2 (.int .i64 (s.n1 : Int)) (fun w hSw => ?_) HS ?_
  ·clear hSw HS
   go_simp
  refine tV 3 (.bool false) (fun w hSw => ?_) HS ?_
  ·clear hSw HS
   go_simp
  refine tV 4 (.bool false) (fun w hSw => ?_) HS ?_
  ·clear hSw HS
   go_simp
  refine tV 5 (.pointer (some ⟨B, 2, none⟩)) (fun w hSw => ?_) HS ?_
  ·clear hSw HS
   go_simp
  refine tV 6 (.int .i64 f.next) (fun w hSw => ?_) HS ?_
  ·have cc := Bx.cell (hSw.1) 2 (v := .int .i64 f.next) rfl
   clear hSw HS
   go_simp
  refine tV 7 (.pointer (some ⟨B, 1, none⟩)) (fun w hSw => ?_) HS ?_
  ·clear hSw HS
   go_simp
  refine tV 8 (.slice s.a1 s.n1 s.c1) (fun w hSw => ?_) HS ?_
  ·have cc := Bx.cell (hSw.1) 1 (v := .slice s.a1 s.n1 s.c1) rfl
   clear hSw HS
   go_simp
  refine tO 9 (fun K hK => ?_)
  go_simp
  refine (stspan_any _ _ _ _ _ HS.2.1).mono ?_
  rintro e w3 ⟨rfl, hb3⟩
  refine kK hK ⟨HS.1.kept hb3, HS.2.1.keep hb3, HS.2.2.trans (hb3.mono (Zl HS.1.lt))⟩ (fun HS => ?_)
  clear hK K
  refine tV 10 (.int .i64 (spanR f.l).2) (fun w hSw => ?_) HS ?_
  ·clear hSw HS
   go_simp
  refine tV 11 (.bool false) (fun w hSw => ?_) HS ?_
  ·clear hSw HS
   go_simp
  refine tV 12 (.bool false) (fun w hSw => ?_) HS ?_
  ·clear hSw HS
   go_simp
  refine ⟨by kernel_rfl, ?_⟩
  simp only [List.drop_succ_cons, List.drop_zero]
  go_wp2_with fail
  go_ret
  exact ⟨rfl, HS.2.2⟩
theorem flmay_any (p : Nat → Prop) (s : Fs) (f : Fv) (c : Cf) (w : World) (h : FlM w p s f) (hc : CfW c) : Calls Tryz.prog 18 #[.agg (fcs s f).toArray, .agg (ccs c).toArray] w fun e w' => e = .returned (.bool (fmayB f c)) ∧ Below w.heap.size w w' := by
 obtain ⟨B, hB⟩ : ∃ B, w.heap.size = B := ⟨_, rfl⟩
 have y0 := (Bx.new w 40 (fcs s f)).alloc (.cells (ccs c).toArray 42)
 have k0 := Bx.new (w.alloc (.cells (fcs s f).toArray 40)) 42 (ccs c)
 rw [World.size_alloc] at k0
 rw [hB] at y0 k0 ⊢
 have b0 : Below B w ((w.alloc (.cells (fcs s f).toArray 40)).alloc (.cells (ccs c).toArray 42)) := by rw [← hB]; exact ((Zb).alloc Zr _).alloc (by simp) _
 have f0 := (h.alloc (.cells (fcs s f).toArray 40)).alloc (.cells (ccs c).toArray 42)
 obtain ⟨q0, hq0⟩ : ∃ q, rtB f.r = q := ⟨_, rfl⟩
 have M0 := Zh (show ∀ W, FlM W p s f → Calls Tryz.prog 40 #[.agg #[f.r.has, f.r.srtt, f.r.vr, f.r.rto, f.r.shift]] W fun e w' => e = .returned (.bool q0) ∧ Below W.heap.size W w' from fun W hf => by rw [← hq0]; exact rtmay_any _ _ _ _ _ W)
 obtain ⟨q1, hq1⟩ : ∃ q, lmay f.b = q := ⟨_, rfl⟩
 have M1 := Zh (show ∀ W, FlM W p s f → Calls Tryz.prog 41 #[.agg #[f.b.span, .slice s.a2 s.n2 s.c2, f.b.high]] W fun e w' => e = .returned (.bool q1) ∧ Below W.heap.size W w' from fun W hf => by rw [← hq1]; exact lemay_any _ _ _ _ _ _ W hf.b)
 obtain ⟨q2, hq2⟩ : ∃ q, mmay f.m = q := ⟨_, rfl⟩
 have M2 := Zh (show ∀ W, FlM W p s f → Calls Tryz.prog 42 #[.agg #[f.m.pk, f.m.bt, f.m.ca, f.m.md, f.m.pt]] W fun e w' => e = .returned (.bool q2) ∧ Below W.heap.size W w' from fun W hf => by rw [← hq2]; exact mkmay_any _ _ _ _ _ W)
 obtain ⟨q3, hq3⟩ : ∃ q, ramay f.d = q := ⟨_, rfl⟩
 have M3 := Zh (show ∀ W, FlM W p s f → Calls Tryz.prog 43 #[.agg #[f.d.total, f.d.last, .slice s.a3 s.n3 s.c3]] W fun e w' => e = .returned (.bool q3) ∧ Below W.heap.size W w' from fun W hf => by rw [← hq3]; exact ratmay_any _ _ _ _ _ _ W hf.d)
 obtain ⟨q4, hq4⟩ : ∃ q, mayG f.dl = q := ⟨_, rfl⟩
 have M4 := Zh (show ∀ W, FlM W p s f → Calls Tryz.prog 44 #[.slice s.a4 s.n4 s.c4] W fun e w' => e = .returned (.bool q4) ∧ Below W.heap.size W w' from fun W hf => by rw [← hq4]; exact ggmay_any _ _ _ _ W hf.g)
 obtain ⟨q5, hq5⟩ : ∃ q, rkmay f.k = q := ⟨_, rfl⟩
 have M5 := Zh (show ∀ W, FlM W p s f → Calls Tryz.prog 45 #[.agg #[f.k.at_, f.k.end_, f.k.took, f.k.far, f.k.mixed, f.k.quarters]] W fun e w' => e = .returned (.bool q5) ∧ Below W.heap.size W w' from fun W hf => by rw [← hq5]; exact rakmay_any f.k W)
 obtain ⟨q6, hq6⟩ : ∃ q, xmB f.cw f.th c.mss c.most = q := ⟨_, rfl⟩
 have M6 := Zh (show ∀ W, FlM W p s f → Calls Tryz.prog 46 #[.agg #[f.cw, f.th], c.mss, c.most] W fun e w' => e = .returned (.bool q6) ∧ Below W.heap.size W w' from fun W hf => by rw [← hq6]; exact xwmay_any _ _ _ _ W)
 obtain ⟨q7, hq7⟩ : ∃ q, tmB f.tm = q := ⟨_, rfl⟩
 have M7 := Zh (show ∀ W, FlM W p s f → Calls Tryz.prog 47 #[.agg #[f.tm.kd, f.tm.at_]] W fun e w' => e = .returned (.bool q7) ∧ Below W.heap.size W w' from fun W hf => by rw [← hq7]; exact timay_any f.tm W)
 obtain ⟨q8, hq8⟩ : ∃ q, fineB c = q := ⟨_, rfl⟩
 have M8 := Zh (show ∀ W, Calls Tryz.prog 16 #[.agg (ccs c).toArray] W fun e w' => e = .returned (.bool q8) ∧ Below W.heap.size W w' from fun W => by rw [← hq8]; exact flfine_any c W hc)
 obtain ⟨q9, hq9⟩ : ∃ q, placedB f = q := ⟨_, rfl⟩
 have M9 := Zh (show ∀ W, FlM W p s f → Calls Tryz.prog 48 #[.agg (fcs s f).toArray] W fun e w' => e = .returned (.bool q9) ∧ Below W.heap.size W w' from fun W hf => by rw [← hq9]; exact flplaced_any p s f W hf)
 obtain ⟨q, hq⟩ : ∃ q, fmayB f c = q := ⟨_, rfl⟩
 rw [hq]
 have hqq : q = (q8 && ((q0 && (q1 && (q2 && (q3 && q4)))) && ((q5 && (q6 && q7)) && q9))) := by
  rw [← hq, ← hq0, ← hq1, ← hq2, ← hq3, ← hq4, ← hq5, ← hq6, ← hq7, ← hq8, ← hq9]
  unfold fmayB placedB
  rw [Bool.eq_iff_iff]
  simp only [Bool.and_eq_true]
  exact ⟨fun ⟨a, b, c, d, e, f, g, h, i, j, k, l, m⟩ => ⟨a, ⟨c, d, e, f, j⟩, ⟨g, h, i⟩, b, k, l, m⟩, fun ⟨a, ⟨c, d, e, f, j⟩, ⟨g, h, i⟩, b, k, l, m⟩ => ⟨a, b, c, d, e, f, g, h, i, j, k, l, m⟩⟩
 have HQ := Zh hqq
 clear hq hqq hq0 hq1 hq2 hq3 hq4 hq5 hq6 hq7 hq8 hq9 h hc
 go_enter Tryz.func18, Tryz.ntmps18
 go_upto_region 1 with fail
 change Code.wp _ _ _ _ ((w.alloc (.cells (fcs s f).toArray 40)).alloc (.cells (ccs c).toArray 42))
 generalize (w.alloc (.cells (fcs s f).toArray 40)).alloc (.cells (ccs c).toArray 42) = w1 at y0 k0 b0 f0 ⊢
 have zB : B ≤ w1.heap.size := Zl y0.lt
 clear hB
 go_upto_region 1 with fail
 go_cut [5] (fun sv wx => sv = .bool (q0 && (q1 && (q2 && (q3 && q4)))) ∧ Hid (Bx wx B 40 (fcs s f) ∧ Bx wx (B + 1) 42 (ccs c) ∧ FlM wx p s f ∧ Below B w wx ∧ B ≤ wx.heap.size))
 case first =>
  cases q0 with
  | false =>
   have c29 := y0.cell 29 rfl
   go_wp2_with (first | (refine sub_load (vs := [f.r.has, f.r.srtt, f.r.vr, f.r.rto, f.r.shift]) is_rtt rfl (.tmp 7) rfl rfl y0 rfl rfl ?_) | (refine sub_loadg (vs := [f.b.span, .slice s.a2 s.n2 s.c2, f.b.high]) is_least (by rfl) (.tmp 11) rfl rfl y0 rfl rfl ?_) | (refine sub_loadg (vs := [f.m.pk, f.m.bt, f.m.ca, f.m.md, f.m.pt]) is_marks (by rfl) (.tmp 16) rfl rfl y0 rfl rfl ?_) | (refine sub_loadg (vs := [f.d.total, f.d.last, .slice s.a3 s.n3 s.c3]) is_rate (by rfl) (.tmp 21) rfl rfl y0 rfl rfl ?_) | (go_at_call 40; refine (M0.out _ f0).mono ?_; rintro e wz ⟨rfl, hb⟩; replace y0 := y0.kept hb; replace k0 := k0.kept hb; replace f0 := f0.keep hb; replace b0 := b0.trans (hb.mono zB); replace zB := Zn zB hb.size; clear hb; replace c29 := y0.cell 29 rfl) | (go_at_call 41; refine (M1.out _ f0).mono ?_; rintro e wz ⟨rfl, hb⟩; replace y0 := y0.kept hb; replace k0 := k0.kept hb; replace f0 := f0.keep hb; replace b0 := b0.trans (hb.mono zB); replace zB := Zn zB hb.size; clear hb; replace c29 := y0.cell 29 rfl) | (go_at_call 42; refine (M2.out _ f0).mono ?_; rintro e wz ⟨rfl, hb⟩; replace y0 := y0.kept hb; replace k0 := k0.kept hb; replace f0 := f0.keep hb; replace b0 := b0.trans (hb.mono zB); replace zB := Zn zB hb.size; clear hb; replace c29 := y0.cell 29 rfl) | (go_at_call 43; refine (M3.out _ f0).mono ?_; rintro e wz ⟨rfl, hb⟩; replace y0 := y0.kept hb; replace k0 := k0.kept hb; replace f0 := f0.keep hb; replace b0 := b0.trans (hb.mono zB); replace zB := Zn zB hb.size; clear hb; replace c29 := y0.cell 29 rfl) | (go_at_call 44; refine (M4.out _ f0).mono ?_; rintro e wz ⟨rfl, hb⟩; replace y0 := y0.kept hb; replace k0 := k0.kept hb; replace f0 := f0.keep hb; replace b0 := b0.trans (hb.mono zB); replace zB := Zn zB hb.size; clear hb; replace c29 := y0.cell 29 rfl))
   go_meet
   case rel => exact ⟨by simp, Zh ⟨y0, k0, f0, b0, zB⟩⟩
  | true =>
  cases q1 with
  | false =>
   have c29 := y0.cell 29 rfl
   go_wp2_with (first | (refine sub_load (vs := [f.r.has, f.r.srtt, f.r.vr, f.r.rto, f.r.shift]) is_rtt rfl (.tmp 7) rfl rfl y0 rfl rfl ?_) | (refine sub_loadg (vs := [f.b.span, .slice s.a2 s.n2 s.c2, f.b.high]) is_least (by rfl) (.tmp 11) rfl rfl y0 rfl rfl ?_) | (refine sub_loadg (vs := [f.m.pk, f.m.bt, f.m.ca, f.m.md, f.m.pt]) is_marks (by rfl) (.tmp 16) rfl rfl y0 rfl rfl ?_) | (refine sub_loadg (vs := [f.d.total, f.d.last, .slice s.a3 s.n3 s.c3]) is_rate (by rfl) (.tmp 21) rfl rfl y0 rfl rfl ?_) | (go_at_call 40; refine (M0.out _ f0).mono ?_; rintro e wz ⟨rfl, hb⟩; replace y0 := y0.kept hb; replace k0 := k0.kept hb; replace f0 := f0.keep hb; replace b0 := b0.trans (hb.mono zB); replace zB := Zn zB hb.size; clear hb; replace c29 := y0.cell 29 rfl) | (go_at_call 41; refine (M1.out _ f0).mono ?_; rintro e wz ⟨rfl, hb⟩; replace y0 := y0.kept hb; replace k0 := k0.kept hb; replace f0 := f0.keep hb; replace b0 := b0.trans (hb.mono zB); replace zB := Zn zB hb.size; clear hb; replace c29 := y0.cell 29 rfl) | (go_at_call 42; refine (M2.out _ f0).mono ?_; rintro e wz ⟨rfl, hb⟩; replace y0 := y0.kept hb; replace k0 := k0.kept hb; replace f0 := f0.keep hb; replace b0 := b0.trans (hb.mono zB); replace zB := Zn zB hb.size; clear hb; replace c29 := y0.cell 29 rfl) | (go_at_call 43; refine (M3.out _ f0).mono ?_; rintro e wz ⟨rfl, hb⟩; replace y0 := y0.kept hb; replace k0 := k0.kept hb; replace f0 := f0.keep hb; replace b0 := b0.trans (hb.mono zB); replace zB := Zn zB hb.size; clear hb; replace c29 := y0.cell 29 rfl) | (go_at_call 44; refine (M4.out _ f0).mono ?_; rintro e wz ⟨rfl, hb⟩; replace y0 := y0.kept hb; replace k0 := k0.kept hb; replace f0 := f0.keep hb; replace b0 := b0.trans (hb.mono zB); replace zB := Zn zB hb.size; clear hb; replace c29 := y0.cell 29 rfl))
   go_meet
   case rel => exact ⟨by simp, Zh ⟨y0, k0, f0, b0, zB⟩⟩
  | true =>
  cases q2 with
  | false =>
   have c29 := y0.cell 29 rfl
   go_wp2_with (first | (refine sub_load (vs := [f.r.has, f.r.srtt, f.r.vr, f.r.rto, f.r.shift]) is_rtt rfl (.tmp 7) rfl rfl y0 rfl rfl ?_) | (refine sub_loadg (vs := [f.b.span, .slice s.a2 s.n2 s.c2, f.b.high]) is_least (by rfl) (.tmp 11) rfl rfl y0 rfl rfl ?_) | (refine sub_loadg (vs := [f.m.pk, f.m.bt, f.m.ca, f.m.md, f.m.pt]) is_marks (by rfl) (.tmp 16) rfl rfl y0 rfl rfl ?_) | (refine sub_loadg (vs := [f.d.total, f.d.last, .slice s.a3 s.n3 s.c3]) is_rate (by rfl) (.tmp 21) rfl rfl y0 rfl rfl ?_) | (go_at_call 40; refine (M0.out _ f0).mono ?_; rintro e wz ⟨rfl, hb⟩; replace y0 := y0.kept hb; replace k0 := k0.kept hb; replace f0 := f0.keep hb; replace b0 := b0.trans (hb.mono zB); replace zB := Zn zB hb.size; clear hb; replace c29 := y0.cell 29 rfl) | (go_at_call 41; refine (M1.out _ f0).mono ?_; rintro e wz ⟨rfl, hb⟩; replace y0 := y0.kept hb; replace k0 := k0.kept hb; replace f0 := f0.keep hb; replace b0 := b0.trans (hb.mono zB); replace zB := Zn zB hb.size; clear hb; replace c29 := y0.cell 29 rfl) | (go_at_call 42; refine (M2.out _ f0).mono ?_; rintro e wz ⟨rfl, hb⟩; replace y0 := y0.kept hb; replace k0 := k0.kept hb; replace f0 := f0.keep hb; replace b0 := b0.trans (hb.mono zB); replace zB := Zn zB hb.size; clear hb; replace c29 := y0.cell 29 rfl) | (go_at_call 43; refine (M3.out _ f0).mono ?_; rintro e wz ⟨rfl, hb⟩; replace y0 := y0.kept hb; replace k0 := k0.kept hb; replace f0 := f0.keep hb; replace b0 := b0.trans (hb.mono zB); replace zB := Zn zB hb.size; clear hb; replace c29 := y0.cell 29 rfl) | (go_at_call 44; refine (M4.out _ f0).mono ?_; rintro e wz ⟨rfl, hb⟩; replace y0 := y0.kept hb; replace k0 := k0.kept hb; replace f0 := f0.keep hb; replace b0 := b0.trans (hb.mono zB); replace zB := Zn zB hb.size; clear hb; replace c29 := y0.cell 29 rfl))
   go_meet
   case rel => exact ⟨by simp, Zh ⟨y0, k0, f0, b0, zB⟩⟩
  | true =>
  cases q3 with
  | false =>
   have c29 := y0.cell 29 rfl
   go_wp2_with (first | (refine sub_load (vs := [f.r.has, f.r.srtt, f.r.vr, f.r.rto, f.r.shift]) is_rtt rfl (.tmp 7) rfl rfl y0 rfl rfl ?_) | (refine sub_loadg (vs := [f.b.span, .slice s.a2 s.n2 s.c2, f.b.high]) is_least (by rfl) (.tmp 11) rfl rfl y0 rfl rfl ?_) | (refine sub_loadg (vs := [f.m.pk, f.m.bt, f.m.ca, f.m.md, f.m.pt]) is_marks (by rfl) (.tmp 16) rfl rfl y0 rfl rfl ?_) | (refine sub_loadg (vs := [f.d.total, f.d.last, .slice s.a3 s.n3 s.c3]) is_rate (by rfl) (.tmp 21) rfl rfl y0 rfl rfl ?_) | (go_at_call 40; refine (M0.out _ f0).mono ?_; rintro e wz ⟨rfl, hb⟩; replace y0 := y0.kept hb; replace k0 := k0.kept hb; replace f0 := f0.keep hb; replace b0 := b0.trans (hb.mono zB); replace zB := Zn zB hb.size; clear hb; replace c29 := y0.cell 29 rfl) | (go_at_call 41; refine (M1.out _ f0).mono ?_; rintro e wz ⟨rfl, hb⟩; replace y0 := y0.kept hb; replace k0 := k0.kept hb; replace f0 := f0.keep hb; replace b0 := b0.trans (hb.mono zB); replace zB := Zn zB hb.size; clear hb; replace c29 := y0.cell 29 rfl) | (go_at_call 42; refine (M2.out _ f0).mono ?_; rintro e wz ⟨rfl, hb⟩; replace y0 := y0.kept hb; replace k0 := k0.kept hb; replace f0 := f0.keep hb; replace b0 := b0.trans (hb.mono zB); replace zB := Zn zB hb.size; clear hb; replace c29 := y0.cell 29 rfl) | (go_at_call 43; refine (M3.out _ f0).mono ?_; rintro e wz ⟨rfl, hb⟩; replace y0 := y0.kept hb; replace k0 := k0.kept hb; replace f0 := f0.keep hb; replace b0 := b0.trans (hb.mono zB); replace zB := Zn zB hb.size; clear hb; replace c29 := y0.cell 29 rfl) | (go_at_call 44; refine (M4.out _ f0).mono ?_; rintro e wz ⟨rfl, hb⟩; replace y0 := y0.kept hb; replace k0 := k0.kept hb; replace f0 := f0.keep hb; replace b0 := b0.trans (hb.mono zB); replace zB := Zn zB hb.size; clear hb; replace c29 := y0.cell 29 rfl))
   go_meet
   case rel => exact ⟨by simp, Zh ⟨y0, k0, f0, b0, zB⟩⟩
  | true =>
  have c29 := y0.cell 29 rfl
  go_wp2_with (first | (refine sub_load (vs := [f.r.has, f.r.srtt, f.r.vr, f.r.rto, f.r.shift]) is_rtt rfl (.tmp 7) rfl rfl y0 rfl rfl ?_) | (refine sub_loadg (vs := [f.b.span, .slice s.a2 s.n2 s.c2, f.b.high]) is_least (by rfl) (.tmp 11) rfl rfl y0 rfl rfl ?_) | (refine sub_loadg (vs := [f.m.pk, f.m.bt, f.m.ca, f.m.md, f.m.pt]) is_marks (by rfl) (.tmp 16) rfl rfl y0 rfl rfl ?_) | (refine sub_loadg (vs := [f.d.total, f.d.last, .slice s.a3 s.n3 s.c3]) is_rate (by rfl) (.tmp 21) rfl rfl y0 rfl rfl ?_) | (go_at_call 40; refine (M0.out _ f0).mono ?_; rintro e wz ⟨rfl, hb⟩; replace y0 := y0.kept hb; replace k0 := k0.kept hb; replace f0 := f0.keep hb; replace b0 := b0.trans (hb.mono zB); replace zB := Zn zB hb.size; clear hb; replace c29 := y0.cell 29 rfl) | (go_at_call 41; refine (M1.out _ f0).mono ?_; rintro e wz ⟨rfl, hb⟩; replace y0 := y0.kept hb; replace k0 := k0.kept hb; replace f0 := f0.keep hb; replace b0 := b0.trans (hb.mono zB); replace zB := Zn zB hb.size; clear hb; replace c29 := y0.cell 29 rfl) | (go_at_call 42; refine (M2.out _ f0).mono ?_; rintro e wz ⟨rfl, hb⟩; replace y0 := y0.kept hb; replace k0 := k0.kept hb; replace f0 := f0.keep hb; replace b0 := b0.trans (hb.mono zB); replace zB := Zn zB hb.size; clear hb; replace c29 := y0.cell 29 rfl) | (go_at_call 43; refine (M3.out _ f0).mono ?_; rintro e wz ⟨rfl, hb⟩; replace y0 := y0.kept hb; replace k0 := k0.kept hb; replace f0 := f0.keep hb; replace b0 := b0.trans (hb.mono zB); replace zB := Zn zB hb.size; clear hb; replace c29 := y0.cell 29 rfl) | (go_at_call 44; refine (M4.out _ f0).mono ?_; rintro e wz ⟨rfl, hb⟩; replace y0 := y0.kept hb; replace k0 := k0.kept hb; replace f0 := f0.keep hb; replace b0 := b0.trans (hb.mono zB); replace zB := Zn zB hb.size; clear hb; replace c29 := y0.cell 29 rfl))
  go_meet
  case rel => exact ⟨by simp, Zh ⟨y0, k0, f0, b0, zB⟩⟩
 case rest =>
 obtain ⟨rfl, HC⟩ := hcut
 obtain ⟨y0, k0, f0, b0, zB⟩ := HC.out
 clear HC
 go_upto_region 2 with fail
 go_cut [6] (fun sv wx => sv = .bool (q5 && (q6 && q7)) ∧ Hid (Bx wx B 40 (fcs s f) ∧ Bx wx (B + 1) 42 (ccs c) ∧ FlM wx p s f ∧ Below B w wx ∧ B ≤ wx.heap.size))
 case first =>
  cases q5 with
  | false =>
   have d0 := k0.cell 0 rfl; have d1 := k0.cell 1 rfl
   go_wp2_with (first | (refine sub_load (vs := [f.k.at_, f.k.end_, f.k.took, f.k.far, f.k.mixed, f.k.quarters]) is_rack rfl (.tmp 30) rfl rfl y0 rfl rfl ?_) | (refine sub_loadg (vs := [f.cw, f.th]) is_win (by rfl) (.tmp 34) rfl rfl y0 rfl rfl ?_) | (refine sub_loadg (vs := [f.tm.kd, f.tm.at_]) is_timer (by rfl) (.tmp 43) rfl rfl y0 rfl rfl ?_) | (go_at_call 45; refine (M5.out _ f0).mono ?_; rintro e wz ⟨rfl, hb⟩; replace y0 := y0.kept hb; replace k0 := k0.kept hb; replace f0 := f0.keep hb; replace b0 := b0.trans (hb.mono zB); replace zB := Zn zB hb.size; clear hb; replace d0 := k0.cell 0 rfl; replace d1 := k0.cell 1 rfl) | (go_at_call 46; refine (M6.out _ f0).mono ?_; rintro e wz ⟨rfl, hb⟩; replace y0 := y0.kept hb; replace k0 := k0.kept hb; replace f0 := f0.keep hb; replace b0 := b0.trans (hb.mono zB); replace zB := Zn zB hb.size; clear hb; replace d0 := k0.cell 0 rfl; replace d1 := k0.cell 1 rfl) | (go_at_call 47; refine (M7.out _ f0).mono ?_; rintro e wz ⟨rfl, hb⟩; replace y0 := y0.kept hb; replace k0 := k0.kept hb; replace f0 := f0.keep hb; replace b0 := b0.trans (hb.mono zB); replace zB := Zn zB hb.size; clear hb; replace d0 := k0.cell 0 rfl; replace d1 := k0.cell 1 rfl))
   go_meet
   case rel => exact ⟨by simp, Zh ⟨y0, k0, f0, b0, zB⟩⟩
  | true =>
  cases q6 with
  | false =>
   have d0 := k0.cell 0 rfl; have d1 := k0.cell 1 rfl
   go_wp2_with (first | (refine sub_load (vs := [f.k.at_, f.k.end_, f.k.took, f.k.far, f.k.mixed, f.k.quarters]) is_rack rfl (.tmp 30) rfl rfl y0 rfl rfl ?_) | (refine sub_loadg (vs := [f.cw, f.th]) is_win (by rfl) (.tmp 34) rfl rfl y0 rfl rfl ?_) | (refine sub_loadg (vs := [f.tm.kd, f.tm.at_]) is_timer (by rfl) (.tmp 43) rfl rfl y0 rfl rfl ?_) | (go_at_call 45; refine (M5.out _ f0).mono ?_; rintro e wz ⟨rfl, hb⟩; replace y0 := y0.kept hb; replace k0 := k0.kept hb; replace f0 := f0.keep hb; replace b0 := b0.trans (hb.mono zB); replace zB := Zn zB hb.size; clear hb; replace d0 := k0.cell 0 rfl; replace d1 := k0.cell 1 rfl) | (go_at_call 46; refine (M6.out _ f0).mono ?_; rintro e wz ⟨rfl, hb⟩; replace y0 := y0.kept hb; replace k0 := k0.kept hb; replace f0 := f0.keep hb; replace b0 := b0.trans (hb.mono zB); replace zB := Zn zB hb.size; clear hb; replace d0 := k0.cell 0 rfl; replace d1 := k0.cell 1 rfl) | (go_at_call 47; refine (M7.out _ f0).mono ?_; rintro e wz ⟨rfl, hb⟩; replace y0 := y0.kept hb; replace k0 := k0.kept hb; replace f0 := f0.keep hb; replace b0 := b0.trans (hb.mono zB); replace zB := Zn zB hb.size; clear hb; replace d0 := k0.cell 0 rfl; replace d1 := k0.cell 1 rfl))
   go_meet
   case rel => exact ⟨by simp, Zh ⟨y0, k0, f0, b0, zB⟩⟩
  | true =>
  have d0 := k0.cell 0 rfl; have d1 := k0.cell 1 rfl
  go_wp2_with (first | (refine sub_load (vs := [f.k.at_, f.k.end_, f.k.took, f.k.far, f.k.mixed, f.k.quarters]) is_rack rfl (.tmp 30) rfl rfl y0 rfl rfl ?_) | (refine sub_loadg (vs := [f.cw, f.th]) is_win (by rfl) (.tmp 34) rfl rfl y0 rfl rfl ?_) | (refine sub_loadg (vs := [f.tm.kd, f.tm.at_]) is_timer (by rfl) (.tmp 43) rfl rfl y0 rfl rfl ?_) | (go_at_call 45; refine (M5.out _ f0).mono ?_; rintro e wz ⟨rfl, hb⟩; replace y0 := y0.kept hb; replace k0 := k0.kept hb; replace f0 := f0.keep hb; replace b0 := b0.trans (hb.mono zB); replace zB := Zn zB hb.size; clear hb; replace d0 := k0.cell 0 rfl; replace d1 := k0.cell 1 rfl) | (go_at_call 46; refine (M6.out _ f0).mono ?_; rintro e wz ⟨rfl, hb⟩; replace y0 := y0.kept hb; replace k0 := k0.kept hb; replace f0 := f0.keep hb; replace b0 := b0.trans (hb.mono zB); replace zB := Zn zB hb.size; clear hb; replace d0 := k0.cell 0 rfl; replace d1 := k0.cell 1 rfl) | (go_at_call 47; refine (M7.out _ f0).mono ?_; rintro e wz ⟨rfl, hb⟩; replace y0 := y0.kept hb; replace k0 := k0.kept hb; replace f0 := f0.keep hb; replace b0 := b0.trans (hb.mono zB); replace zB := Zn zB hb.size; clear hb; replace d0 := k0.cell 0 rfl; replace d1 := k0.cell 1 rfl))
  go_meet
  case rel => exact ⟨by simp, Zh ⟨y0, k0, f0, b0, zB⟩⟩
 case rest =>
 obtain ⟨rfl, HC⟩ := hcut
 obtain ⟨y0, k0, f0, b0, zB⟩ := HC.out
 clear HC
 have hqq := HQ.out
 clear HQ
 obtain ⟨r1, h1⟩ : ∃ r, (q0 && (q1 && (q2 && (q3 && q4)))) = r := ⟨_, rfl⟩
 obtain ⟨r2, h2⟩ : ∃ r, (q5 && (q6 && q7)) = r := ⟨_, rfl⟩
 rw [h1, h2] at hqq ⊢
 subst hqq
 clear h1 h2
 cases q8 with
 | false =>
  go_wp2_with (first | (refine cf_load rfl (.tmp 3) rfl rfl k0 rfl ?_) | (refine fl_loadg (by rfl) (.tmp 2) rfl rfl y0 rfl ?_) | (go_at_call 16; refine (M8.out _).mono ?_; rintro e wz ⟨rfl, hb⟩; replace y0 := y0.kept hb; replace k0 := k0.kept hb; replace f0 := f0.keep hb; replace b0 := b0.trans (hb.mono zB); replace zB := Zn zB hb.size; clear hb) | (go_at_call 48; refine (M9.out _ f0).mono ?_; rintro e wz ⟨rfl, hb⟩; replace y0 := y0.kept hb; replace k0 := k0.kept hb; replace f0 := f0.keep hb; replace b0 := b0.trans (hb.mono zB); replace zB := Zn zB hb.size; clear hb))
  go_ret
  exact ⟨by simp, b0⟩
 | true =>
 cases r1 with
 | false =>
  go_wp2_with (first | (refine cf_load rfl (.tmp 3) rfl rfl k0 rfl ?_) | (refine fl_loadg (by rfl) (.tmp 2) rfl rfl y0 rfl ?_) | (go_at_call 16; refine (M8.out _).mono ?_; rintro e wz ⟨rfl, hb⟩; replace y0 := y0.kept hb; replace k0 := k0.kept hb; replace f0 := f0.keep hb; replace b0 := b0.trans (hb.mono zB); replace zB := Zn zB hb.size; clear hb) | (go_at_call 48; refine (M9.out _ f0).mono ?_; rintro e wz ⟨rfl, hb⟩; replace y0 := y0.kept hb; replace k0 := k0.kept hb; replace f0 := f0.keep hb; replace b0 := b0.trans (hb.mono zB); replace zB := Zn zB hb.size; clear hb))
  go_ret
  exact ⟨by simp, b0⟩
 | true =>
 cases r2 with
 | false =>
  go_wp2_with (first | (refine cf_load rfl (.tmp 3) rfl rfl k0 rfl ?_) | (refine fl_loadg (by rfl) (.tmp 2) rfl rfl y0 rfl ?_) | (go_at_call 16; refine (M8.out _).mono ?_; rintro e wz ⟨rfl, hb⟩; replace y0 := y0.kept hb; replace k0 := k0.kept hb; replace f0 := f0.keep hb; replace b0 := b0.trans (hb.mono zB); replace zB := Zn zB hb.size; clear hb) | (go_at_call 48; refine (M9.out _ f0).mono ?_; rintro e wz ⟨rfl, hb⟩; replace y0 := y0.kept hb; replace k0 := k0.kept hb; replace f0 := f0.keep hb; replace b0 := b0.trans (hb.mono zB); replace zB := Zn zB hb.size; clear hb))
  go_ret
  exact ⟨by simp, b0⟩
 | true =>
 go_wp2_with (first | (refine cf_load rfl (.tmp 3) rfl rfl k0 rfl ?_) | (refine fl_loadg (by rfl) (.tmp 2) rfl rfl y0 rfl ?_) | (go_at_call 16; refine (M8.out _).mono ?_; rintro e wz ⟨rfl, hb⟩; replace y0 := y0.kept hb; replace k0 := k0.kept hb; replace f0 := f0.keep hb; replace b0 := b0.trans (hb.mono zB); replace zB := Zn zB hb.size; clear hb) | (go_at_call 48; refine (M9.out _ f0).mono ?_; rintro e wz ⟨rfl, hb⟩; replace y0 := y0.kept hb; replace k0 := k0.kept hb; replace f0 := f0.keep hb; replace b0 := b0.trans (hb.mono zB); replace zB := Zn zB hb.size; clear hb))
 go_ret
 exact ⟨by simp, b0⟩
end Go.Proofs.YtbijhkhkigdddaaGreat
