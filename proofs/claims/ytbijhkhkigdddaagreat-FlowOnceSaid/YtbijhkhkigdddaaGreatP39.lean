/- FoDone. -/
import Derived.Test.YtbijhkhkigdddaaGreatP37
import Derived.Deep.CutBlock
set_option linter.all false
set_option maxRecDepth 100000
set_option maxHeartbeats 32000000
namespace Go.Proofs.YtbijhkhkigdddaaGreat
open Go.RowKit
theorem FlM.both {w : World} {p : Nat → Prop} {s : Fs} {f : Fv} (h : FlM w p s f) {l : List Nat} (hl : ∀ P ∈ l, w.heap.size ≤ P) : FlM w (fun b => p b ∧ Off l b) s f := by
 have k : ∀ {A : Option Addr} {n : Nat}, In1 p A n → (0 < n → ∀ b o q, A = some ⟨b, o, q⟩ → b < w.heap.size) → In1 (fun b => p b ∧ Off l b) A n := fun hi hk h0 b o q e => by
  refine ⟨hi h0 b o q e, fun hx => ?_⟩
  have h2 := hk h0 b o q e
  have := hl b hx
  omega
 refine ⟨h.l, h.b, h.d, h.g, h.wide, k h.p1 (fun h0 b o q e => ?_), k h.p2 (fun h0 b o q e => ?_), k h.p3 (fun h0 b o q e => ?_), k h.p4 (fun h0 b o q e => ?_)⟩
 ·obtain ⟨b', o', e', hlt, _⟩ := h.l.rd.at_ h0; rw [e] at e'; cases e'; exact hlt
 ·obtain ⟨b', o', e', hlt, _⟩ := h.b.rd.at_ h0; rw [e] at e'; cases e'; exact hlt
 ·obtain ⟨b', o', e', hlt, _⟩ := h.d.rd.at_ h0; rw [e] at e'; cases e'; exact hlt
 ·obtain ⟨b', o', e', hlt, _⟩ := h.g.rd.at_ h0; rw [e] at e'; cases e'; exact hlt
theorem both_row {p : Nat → Prop} {l : List Nat} {P : Nat} (h : P ∈ l) : ∀ b, (p b ∧ Off l b) → (some P : Option Nat) ≠ some b := fun b hb e => by cases e; exact hb.2 h
theorem both_new {w : World} {p : Nat → Prop} (hp : NewP w p) {w' : World} (hw : w.heap.size ≤ w'.heap.size) {l : List Nat} (h : ∀ x ∈ l, x < w'.heap.size) : NewP w' (fun b => p b ∧ Off l b) := fun b hb => ⟨hp b (by omega), fun hx => by have := h b hx; omega⟩
theorem fldone_any (p : Nat → Prop) (s : Fs) (f : Fv) (c : Cf) (d : Dd) (w : World) (hp : NewP w p) (h : FlM w p s f) (hc : CfW c) (hd : DdW d) (hs : Ss w d.A d.m d.k d.t.sk) (hm : d.m ≤ 1000) :
  Calls Tryz.prog 29 #[.agg (fcs s f).toArray, .agg (ccs c).toArray, .agg (dcs d).toArray] w fun e w' => ∃ s', e = .returned (.agg (fcs s' (doneF f c d)).toArray) ∧ FlM w' p s' (doneF f c d) ∧ Below w.heap.size w w' := by
 obtain ⟨B, hB⟩ : ∃ B, w.heap.size = B := ⟨_, rfl⟩
 have g0 := h.both (l := [B + 3, B + 4]) (fun P hP => by rcases List.mem_cons.1 hP with rfl | hP; omega; rw [List.mem_singleton.1 hP]; omega)
 have e1 := (((Bx.new w 40 (fcs s f)).alloc (.cells (ccs c).toArray 42)).alloc (.cells (dcs d).toArray 69)).alloc (.cells (fcs zfs zfv).toArray 40)
 have y1 := ((Bx.new (w.alloc (.cells (fcs s f).toArray 40)) 42 (ccs c)).alloc (.cells (dcs d).toArray 69)).alloc (.cells (fcs zfs zfv).toArray 40)
 have u1 := (Bx.new ((w.alloc (.cells (fcs s f).toArray 40)).alloc (.cells (ccs c).toArray 42)) 69 (dcs d)).alloc (.cells (fcs zfs zfv).toArray 40)
 have x1 := Bx.new (((w.alloc (.cells (fcs s f).toArray 40)).alloc (.cells (ccs c).toArray 42)).alloc (.cells (dcs d).toArray 69)) 40 (fcs zfs zfv)
 simp only [World.size_alloc] at y1 u1 x1
 rw [hB] at e1 y1 u1 x1 ⊢
 have b1 : Below B w ((((w.alloc (.cells (fcs s f).toArray 40)).alloc (.cells (ccs c).toArray 42)).alloc (.cells (dcs d).toArray 69)).alloc (.cells (fcs zfs zfv).toArray 40)) := by rw [← hB]; exact ((((Zb).alloc Zr _).alloc (by simp) _).alloc (by simp; omega) _).alloc (by simp; omega) _
 have zz : ((((w.alloc (.cells (fcs s f).toArray 40)).alloc (.cells (ccs c).toArray 42)).alloc (.cells (dcs d).toArray 69)).alloc (.cells (fcs zfs zfv).toArray 40)).heap.size = B + 4 := by simp only [World.size_alloc]; omega
 have f1 := g0.keep (show Below w.heap.size w _ by rw [hB]; exact b1)
 have r1 := hs.keep (show Below w.heap.size w _ by rw [hB]; exact b1)
 have HC := Zh hc; have HD := Zh hd; have HM := Zh hm
 clear hc h hd hs g0 hm
 go_enter Tryz.func29, Tryz.ntmps29
 go_upto_region 1 with fail
 change Code.wp _ _ _ _ ((((w.alloc (.cells (fcs s f).toArray 40)).alloc (.cells (ccs c).toArray 42)).alloc (.cells (dcs d).toArray 69)).alloc (.cells (fcs zfs zfv).toArray 40))
 generalize (((w.alloc (.cells (fcs s f).toArray 40)).alloc (.cells (ccs c).toArray 42)).alloc (.cells (dcs d).toArray 69)).alloc (.cells (fcs zfs zfv).toArray 40) = w1 at e1 y1 u1 x1 b1 f1 r1 zz ⊢
 have ZZ := Zh zz; clear zz
 have v2 := fw1_box w1 (fcs s f)
 have hb := fw1_below w1 (fcs s f)
 go_upto_region 2 with (first | (refine fl_load rfl (.tmp 3) rfl rfl e1 rfl ?_) | (refine fl_store rfl (.tmp 7) (.tmp 9) rfl rfl (fcs s f) rfl (fz1 w1) rfl rfl rfl ?_))
 change Code.wp _ _ _ _ (fw1 w1 (fcs s f))
 simp only [Act.put]
 generalize fw1 w1 (fcs s f) = w5 at v2 hb ⊢
 have e5 := e1.kept hb; have y5 := y1.kept hb; have u5 := u1.kept hb; have x5 := x1.kept hb; have f5 := f1.keep hb; have r5 := r1.keep hb
 have b5 := b1.trans (hb.mono (by have := ZZ.out; omega))
 rw [ZZ.out] at v2 ⊢
 have v5 := v2
 have HZ := Zh hB
 clear e1 y1 u1 x1 f1 r1 b1 v2 hb ZZ
 have k0 : w5.cell? ⟨B + 2, 0, none⟩ = some (.int .i64 d.kd) := u5.cell 0 rfl
 go_upto_block 0 with fail
 clear k0
 go_cut [8] (fun s8 wx => Hid (∃ s', s8 = .int .i64 (deedF f c d).2 ∧ Bx wx B 40 (fcs s f) ∧ Bx wx (B + 3) 40 (fcs zfs zfv) ∧ Bx wx (B + 4) 40 (fcs s' (deedF f c d).1) ∧ FlM wx (fun b => p b ∧ Off [B + 3, B + 4] b) s f ∧ FlM wx (fun b => p b ∧ Off [B + 3, B + 4] b) s' (deedF f c d).1 ∧ Below B w wx))
 case first =>
  have hNEW : NewP w5 (fun b => p b ∧ Off [B + 3, B + 4] b) := (both_new hp (by rw [hB]; exact Zl e5.lt) (fun x hx => by rcases List.mem_cons.1 hx with rfl | hx; exact x5.lt; rw [List.mem_singleton.1 hx]; exact v5.lt))
  clear hB
  have k2 : w5.cell? ⟨B, 2, none⟩ = some (.int .i64 f.next) := e5.cell 2 rfl
  have n1 : w5.cell? ⟨B + 2, 1, none⟩ = some (.int .i64 d.n) := u5.cell 1 rfl
  have n2 : w5.cell? ⟨B + 2, 2, none⟩ = some (.int .i64 d.t.got) := u5.cell 2 rfl
  have n3 : w5.cell? ⟨B + 2, 3, none⟩ = some (.slice d.A d.m d.k) := u5.cell 3 rfl
  have n4 : w5.cell? ⟨B + 2, 4, none⟩ = some (.int .i64 d.t.ace) := u5.cell 4 rfl
  have n5 : w5.cell? ⟨B + 2, 5, none⟩ = some (.int .u32 d.t.ce) := u5.cell 5 rfl
  have n6 : w5.cell? ⟨B + 2, 6, none⟩ = some (.int .i64 d.t.now) := u5.cell 6 rfl
  have n7 : w5.cell? ⟨B + 2, 7, none⟩ = some (.int .i64 d.t.growth) := u5.cell 7 rfl
  have hq : ∀ P, P ∈ [B + 3, B + 4] → ∀ b, (p b ∧ Off [B + 3, B + 4] b) → (some P : Option Nat) ≠ some b := fun P hP => both_row hP
  by_cases kk0 : d.kd = 0
  case pos =>
   have dk0 : (d.kd == 0) = true := by simpa using kk0
   have hde : deedF f c d = ((sendF f c f.next d.n d.t.now).1, (sendF f c f.next d.n d.t.now).2.2) := by unfold deedF; rw [if_pos kk0]
   obtain ⟨r, hr⟩ : ∃ r, sendF f c f.next d.n d.t.now = r := ⟨_, rfl⟩
   rw [hr] at hde
   have HK := Zh kk0; have HDE := Zh hde; have HR := Zh hr; clear kk0 hde hr
   go_wp2_with (first | (refine fl_load rfl (.tmp 3) rfl rfl e5 rfl ?_) | (refine cf_load rfl (.tmp 4) rfl rfl y5 rfl ?_))
   refine (flsend_any (fun b => p b ∧ Off [B + 3, B + 4] b) s f c f.next d.n d.t.now _ hNEW f5 HC.out f5.wide.next HD.out.n HD.out.t.now).mono ?_
   rw [HR.out]
   rintro e w6 ⟨s6, he, g6, hb⟩
   subst he
   have e6 := e5.kept hb; have x6 := x5.kept hb; have v6 := v5.kept hb; have f6 := f5.keep hb; have b6 := b5.trans (hb.mono (Zl e5.lt))
   go_wp2_with (refine fl_store rfl (.tmp 7) (.tmp 25) rfl rfl (fcs s6 r.1) rfl v6 rfl rfl rfl ?_)
   go_meet
   case rel => rw [HDE.out]; exact Zh ⟨s6, rfl, e6.grown (fl_grown _ _ _) (by simp), x6.grown (fl_grown _ _ _) (by simp), fl_put v6 _, f6.grown (fl_grown _ _ _) (hq _ (by simp)), g6.grown (fl_grown _ _ _) (hq _ (by simp)), b6.grown (fl_grown _ _ _) (by have := e6.lt; omega) (fun k hk => by cases hk; omega)⟩
  have dk0 : (d.kd == 0) = false := by simpa using kk0
  by_cases kk1 : d.kd = 1
  case pos =>
   have dk1 : (d.kd == 1) = true := by simpa using kk1
   have hde : deedF f c d = ((againF f c d.t.now).1, (againF f c d.t.now).2.2) := by unfold deedF; rw [if_neg (by omega)]; rw [if_pos kk1]
   obtain ⟨r, hr⟩ : ∃ r, againF f c d.t.now = r := ⟨_, rfl⟩
   rw [hr] at hde
   have HK := Zh kk1; have HDE := Zh hde; have HR := Zh hr; clear kk1 hde hr
   go_wp2_with (first | (refine fl_load rfl (.tmp 3) rfl rfl e5 rfl ?_) | (refine cf_load rfl (.tmp 4) rfl rfl y5 rfl ?_))
   refine (flagain_any (fun b => p b ∧ Off [B + 3, B + 4] b) s f c d.t.now _ hNEW f5 HC.out HD.out.t.now).mono ?_
   rw [HR.out]
   rintro e w6 ⟨s6, he, g6, hb⟩
   subst he
   have e6 := e5.kept hb; have x6 := x5.kept hb; have v6 := v5.kept hb; have f6 := f5.keep hb; have b6 := b5.trans (hb.mono (Zl e5.lt))
   go_wp2_with (refine fl_store rfl (.tmp 7) (.tmp 37) rfl rfl (fcs s6 r.1) rfl v6 rfl rfl rfl ?_)
   go_meet
   case rel => rw [HDE.out]; exact Zh ⟨s6, rfl, e6.grown (fl_grown _ _ _) (by simp), x6.grown (fl_grown _ _ _) (by simp), fl_put v6 _, f6.grown (fl_grown _ _ _) (hq _ (by simp)), g6.grown (fl_grown _ _ _) (hq _ (by simp)), b6.grown (fl_grown _ _ _) (by have := e6.lt; omega) (fun k hk => by cases hk; omega)⟩
  have dk1 : (d.kd == 1) = false := by simpa using kk1
  by_cases kk2 : d.kd = 2
  case pos =>
   have dk2 : (d.kd == 2) = true := by simpa using kk2
   have hde : deedF f c d = ((heardF f c d.t).1, (heardF f c d.t).2.2) := by unfold deedF; rw [if_neg (by omega)]; rw [if_neg (by omega)]; rw [if_pos kk2]
   obtain ⟨r, hr⟩ : ∃ r, heardF f c d.t = r := ⟨_, rfl⟩
   rw [hr] at hde
   have HK := Zh kk2; have HDE := Zh hde; have HR := Zh hr; clear kk2 hde hr
   go_wp2_with (first | (refine fl_load rfl (.tmp 3) rfl rfl e5 rfl ?_) | (refine cf_load rfl (.tmp 4) rfl rfl y5 rfl ?_))
   refine (flheard_any (fun b => p b ∧ Off [B + 3, B + 4] b) s f c d.A d.m d.k d.t _ hNEW f5 HC.out HD.out.t r5 HM.out).mono ?_
   rw [HR.out]
   rintro e w6 ⟨s6, A6, m6, q6, he, g6, _, _, hb⟩
   subst he
   have e6 := e5.kept hb; have x6 := x5.kept hb; have v6 := v5.kept hb; have f6 := f5.keep hb; have b6 := b5.trans (hb.mono (Zl e5.lt))
   go_wp2_with (refine fl_store rfl (.tmp 7) (.tmp 48) rfl rfl (fcs s6 r.1) rfl v6 rfl rfl rfl ?_)
   go_meet
   case rel => rw [HDE.out]; exact Zh ⟨s6, rfl, e6.grown (fl_grown _ _ _) (by simp), x6.grown (fl_grown _ _ _) (by simp), fl_put v6 _, f6.grown (fl_grown _ _ _) (hq _ (by simp)), g6.grown (fl_grown _ _ _) (hq _ (by simp)), b6.grown (fl_grown _ _ _) (by have := e6.lt; omega) (fun k hk => by cases hk; omega)⟩
  have dk2 : (d.kd == 2) = false := by simpa using kk2
  by_cases kk3 : d.kd = 3
  case pos =>
   have dk3 : (d.kd == 3) = true := by simpa using kk3
   have hde : deedF f c d = ((tickF f c d.t.now).1, (tickF f c d.t.now).2.2) := by unfold deedF; rw [if_neg (by omega)]; rw [if_neg (by omega)]; rw [if_neg (by omega)]; rw [if_pos kk3]
   obtain ⟨r, hr⟩ : ∃ r, tickF f c d.t.now = r := ⟨_, rfl⟩
   rw [hr] at hde
   have HK := Zh kk3; have HDE := Zh hde; have HR := Zh hr; clear kk3 hde hr
   go_wp2_with (first | (refine fl_load rfl (.tmp 3) rfl rfl e5 rfl ?_) | (refine cf_load rfl (.tmp 4) rfl rfl y5 rfl ?_))
   refine (fltick_any (fun b => p b ∧ Off [B + 3, B + 4] b) s f c d.t.now _ hNEW f5 HC.out HD.out.t.now).mono ?_
   rw [HR.out]
   rintro e w6 ⟨s6, he, g6, hb⟩
   subst he
   have e6 := e5.kept hb; have x6 := x5.kept hb; have v6 := v5.kept hb; have f6 := f5.keep hb; have b6 := b5.trans (hb.mono (Zl e5.lt))
   go_wp2_with (refine fl_store rfl (.tmp 7) (.tmp 60) rfl rfl (fcs s6 r.1) rfl v6 rfl rfl rfl ?_)
   go_meet
   case rel => rw [HDE.out]; exact Zh ⟨s6, rfl, e6.grown (fl_grown _ _ _) (by simp), x6.grown (fl_grown _ _ _) (by simp), fl_put v6 _, f6.grown (fl_grown _ _ _) (hq _ (by simp)), g6.grown (fl_grown _ _ _) (hq _ (by simp)), b6.grown (fl_grown _ _ _) (by have := e6.lt; omega) (fun k hk => by cases hk; omega)⟩
  have dk3 : (d.kd == 3) = false := by simpa using kk3
  have hde : deedF f c d = (f, 0) := by unfold deedF; rw [if_neg kk0, if_neg kk1, if_neg kk2, if_neg kk3]
  have HK := Zh (And.intro kk0 (And.intro kk1 (And.intro kk2 kk3))); have HDE := Zh hde; clear kk0 kk1 kk2 kk3 hde
  go_wp2_with fail
  go_meet
  case rel => rw [HDE.out]; exact Zh ⟨s, rfl, e5, x5, v5, f5, f5, b5⟩
 case rest =>
  obtain ⟨s', rfl, e6, x6, v6, f6, g6, b6⟩ := hcut.out
  clear hcut e5 y5 u5 x5 v5 f5 r5 b5
  by_cases h0 : (deedF f c d).2 = 0
  ·have hdn : doneF f c d = (deedF f c d).1 := if_pos h0
   have d0 : ((deedF f c d).2 != 0) = false := by rw [h0]; rfl
   obtain ⟨r, hr⟩ : ∃ r, deedF f c d = r := ⟨_, rfl⟩
   rw [hr] at d0 v6 g6 hdn ⊢
   have HN := Zh hdn; clear hdn h0 hr
   go_wp2_with (first | (refine fl_load rfl (.tmp 7) rfl rfl v6 rfl ?_) | (refine fl_store rfl (.tmp 6) (.tmp 66) rfl rfl (fcs s' r.1) rfl x6 rfl rfl rfl ?_))
   refine fl_end1 rfl rfl (fl_put x6 (fcs s' r.1)) rfl rfl ?_
   rw [HN.out]
   exact ⟨s', rfl, (g6.grown (fl_grown _ _ _) (both_row (by simp))).imp (fun _ hx => hx.1), b6.grown (fl_grown _ _ _) (by have := x6.lt; omega) (fun k hk => by cases hk; omega)⟩
  ·have hdn : doneF f c d = f := if_neg h0
   have d0 : ((deedF f c d).2 != 0) = true := by simpa using h0
   obtain ⟨r, hr⟩ : ∃ r, deedF f c d = r := ⟨_, rfl⟩
   rw [hr] at d0 v6 g6 ⊢
   have HN := Zh hdn; clear hdn h0 hr
   go_wp2_with (first | (refine fl_load rfl (.tmp 3) rfl rfl e6 rfl ?_) | (refine fl_store rfl (.tmp 6) (.tmp 65) rfl rfl (fcs s f) rfl x6 rfl rfl rfl ?_))
   refine fl_end1 rfl rfl (fl_put x6 (fcs s f)) rfl rfl ?_
   rw [HN.out]
   exact ⟨s, rfl, (f6.grown (fl_grown _ _ _) (both_row (by simp))).imp (fun _ hx => hx.1), b6.grown (fl_grown _ _ _) (by have := x6.lt; omega) (fun k hk => by cases hk; omega)⟩
end Go.Proofs.YtbijhkhkigdddaaGreat
