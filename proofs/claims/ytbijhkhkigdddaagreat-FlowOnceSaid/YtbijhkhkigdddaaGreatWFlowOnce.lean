/- FoOnce FlowOnceWalk. -/
import Derived.Test.YtbijhkhkigdddaaGreatP38
import Derived.Test.YtbijhkhkigdddaaGreatP39
set_option linter.all false
set_option maxRecDepth 100000
set_option maxHeartbeats 32000000
namespace Go.Proofs.YtbijhkhkigdddaaGreat
open Go.RowKit
theorem once_ne {f : Fv} {c : Cf} {came : List Int} {t : Tv} {td : List Prt} {k : Nat} (h : FvOk f c) (hd : DoneIn f came) (htd : td = toldL t.got t.sk f.l) (hk : k < td.length) {x : Int} (hx : x ∈ came ++ (td.take k).map Prt.seq) : x ≠ (ge td k).seq := by
 intro e
 have hm : ge td k ∈ toldL t.got t.sk f.l := by rw [← htd]; exact ge_mem hk
 rcases List.mem_append.1 hx with hx | hx
 ·rw [e] at hx; exact told_new h hd hm hx
 ·obtain ⟨y, hy, hye⟩ := List.mem_map.1 hx
  have hp := told_pw (got := t.got) (sk := t.sk) h.l
  rw [← htd] at hp
  obtain ⟨i, hi, rfl⟩ := List.mem_iff_getElem.1 hy
  rw [List.length_take] at hi
  have := (List.pairwise_iff_getElem.1 hp) i k (by omega) hk (by omega)
  rw [List.getElem_take] at hye
  rw [ge_eq hk] at e
  omega
theorem once_next {f : Fv} {c : Cf} {t : Tv} {td : List Prt} {k : Nat} (h : FvOk f c) (htd : td = toldL t.got t.sk f.l) (hk : k < td.length) : (ge td k).seq + (ge td k).len ≤ f.next :=
 told_next h (by rw [← htd]; exact ge_mem hk)
theorem once_bd {f : Fv} {c : Cf} {t : Tv} {td : List Prt} {k : Nat} (h : FvOk f c) (htd : td = toldL t.got t.sk f.l) (hk : k < td.length) : 0 ≤ (ge td k).seq ∧ 0 ≤ (ge td k).len ∧ f.next ≤ 1152921504606846976 := by
 have hx : ge td k ∈ toldL t.got t.sk f.l := by rw [← htd]; exact ge_mem hk
 obtain ⟨x, e⟩ : ∃ x, ge td k = x := ⟨_, rfl⟩
 rw [e] at hx ⊢
 obtain ⟨_, hm, _⟩ := told_ok h.l hx
 obtain ⟨i, hi, rfl⟩ := mem_ge hm
 have hp := (((smay_iff _).1 h.l).2 i hi).1
 have h1 := hp.seq
 have h2 := hp.l1
 have h3 := (t60_iff _).1 h.next
 exact ⟨by first | exact h1.1 | exact ((t60_iff _).1 h1).1 | omega, by omega, h3.2⟩
theorem told_few {f : Fv} {c : Cf} {t : Tv} {td : List Prt} (h : FvOk f c) (htd : td = toldL t.got t.sk f.l) : td.length ≤ 500 := by
 have h1 := ((smay_iff _).1 h.l).1
 have h2 := List.length_filter_le (toldC t.got t.sk) f.l
 rw [htd]
 unfold toldL
 omega
section
variable {w w' : World} {p q : Nat → Prop} {A : Option Addr} {n c : Nat} {td : List Prt}
structure TrM (w : World) (p : Nat → Prop) (A : Option Addr) (n c : Nat) (td : List Prt) : Prop where
 se : Se w A n c td
 in1 : In1 p A n
theorem TrM.keep (h : TrM w p A n c td) (hb : Below w.heap.size w w') : TrM w' p A n c td := ⟨h.se.keep hb, h.in1⟩
theorem TrM.alloc (h : TrM w p A n c td) (o : Obj) : TrM (w.alloc o) p A n c td := ⟨h.se.alloc o, h.in1⟩
theorem TrM.imp (h : TrM w p A n c td) (hp : ∀ b, p b → q b) : TrM w q A n c td := ⟨h.se, h.in1.imp hp⟩
theorem TrM.grown {row : Option Nat} (h : TrM w p A n c td) (hg : w.grownBy w' row) (hne : ∀ b, p b → row ≠ some b) : TrM w' p A n c td := ⟨se_grown h.se h.in1 hg hne, h.in1⟩
theorem TrM.later {l : List Nat} (h : TrM w (Off l) A n c td) {P : Nat} (hP : w.heap.size ≤ P) : TrM w (Off (P :: l)) A n c td := by
 refine ⟨h.se, fun h0 b o q e => ?_⟩
 have h1 := h.in1 h0 b o q e
 obtain ⟨b', o', e', hlt, _⟩ := h.se.rd.at_ h0
 rw [e] at e'; cases e'
 intro hx
 rcases List.mem_cons.1 hx with hx | hx
 ·omega
 ·exact h1 hx
end
section
variable {w w' : World} {base e n : Nat} {v v' : Value} {l : List Int}
theorem goti_below (h : Goti w base e v n l) (hb : Below w.heap.size w w') : Goti w' base e v n l := by
 refine ⟨?_, h.wide⟩
 have hr := h.row
 refine ⟨hr.1, ?_⟩
 rcases hr.2 with k | ⟨g, cap, cur, e1, e2, e3, e4⟩
 ·exact .inl k
 ·have hlt := (Array.getElem?_eq_some_iff.1 e3).1
  exact .inr ⟨g, cap, cur, e1, e2, (hb.block g hlt).trans e3, e4⟩
theorem Goti.keep (h : Goti w base e v n l) (hb : Below w.heap.size w w') : Goti w' base e v n l := goti_below h hb
theorem goti_grown {row : Option Nat} (h : Goti w base e v n l) (hg : w.grownBy w' row) (hne : v.ownBlock = none ∨ v.ownBlock ≠ row) : Goti w' base e v n l := ⟨h.row.kept hg hne, h.wide⟩
theorem Goti.lt (h : Goti w base e v n l) : ∀ k, v.ownBlock = some k → k < w.heap.size := fun k hk => (h.row.lt k hk).2
theorem Goti.from (h : Goti w base e v n l) : ∀ k, v.ownBlock = some k → base ≤ k := fun k hk => (h.row.lt k hk).1
def OwnL (P : Nat) (v : Value) : List Nat := P :: v.ownBlock.toList
theorem own_mem {P k : Nat} (h : v.ownBlock = some k) : k ∈ OwnL P v := by unfold OwnL; rw [h]; simp
theorem own_lt {P : Nat} (h : Goti w base e v n l) (hP : P < w.heap.size) : ∀ x ∈ OwnL P v, x < w.heap.size := by
 intro x hx
 unfold OwnL at hx
 rcases List.mem_cons.1 hx with rfl | hx
 ·exact hP
 ·have : v.ownBlock = some x := by simpa using hx
  exact h.lt x this
theorem own_sub {P : Nat} {x : Nat} (hv : v'.ownBlock = v.ownBlock ∨ v'.ownBlock = some x) : ∀ y ∈ OwnL P v', y ∈ x :: OwnL P v := by
 intro y hy
 unfold OwnL at hy ⊢
 rcases List.mem_cons.1 hy with rfl | hy
 ·simp
 ·have hy : v'.ownBlock = some y := by simpa using hy
  rcases hv with h | h
  ·rw [h] at hy; simp [hy]
  ·rw [h] at hy; cases hy; simp
theorem own2_row {P x : Nat} (hx : ∀ k, v.ownBlock = some k → k < x) : ∀ b, Off (x :: OwnL P v) b → v.ownBlock ≠ some b := fun b hb e => hb (List.mem_cons_of_mem _ (own_mem e))
theorem FlM.own {P : Nat} {s : Fs} {f : Fv} (h : FlM w (Off (OwnL P v)) s f) (hl : ∀ k, v.ownBlock = some k → k < w.heap.size) (hg : w.grownBy w' v.ownBlock) (hv : v'.ownBlock = v.ownBlock ∨ v'.ownBlock = some w.heap.size) : FlM w' (Off (OwnL P v')) s f :=
 ((h.later Zr).grown hg (own2_row hl)).imp (Off.imp (own_sub hv))
theorem TrM.own {P : Nat} {A : Option Addr} {m c : Nat} {td : List Prt} (h : TrM w (Off (OwnL P v)) A m c td) (hl : ∀ k, v.ownBlock = some k → k < w.heap.size) (hg : w.grownBy w' v.ownBlock) (hv : v'.ownBlock = v.ownBlock ∨ v'.ownBlock = some w.heap.size) : TrM w' (Off (OwnL P v')) A m c td :=
 ((h.later Zr).grown hg (own2_row hl)).imp (Off.imp (own_sub hv))
end
end Go.Proofs.YtbijhkhkigdddaaGreat
namespace Go.Proofs.YtbijhkhkigdddaaGreat.flowOnce
open Go.RowKit
theorem walk (c : Cf) (A : Option Addr) (n k : Nat) (l : List Dd) (w : World) (hc : CfW c) (hs : @Se (DdIn w) _ w A n k l) :
  Calls Tryz.prog 5 #[.agg (ccs c).toArray, .slice A n k] w fun e w' => e = .returned (.bool true) ∧ Below w.heap.size w w' := by
 obtain ⟨B, hB⟩ : ∃ B, w.heap.size = B := ⟨_, rfl⟩
 have HB := Zh hB
 have y1 := Bx.new w 42 (ccs c)
 rw [hB] at y1 ⊢
 have b1 : Below B w (w.alloc (.cells (ccs c).toArray 42)) := by rw [← hB]; exact (Zb).alloc Zr _
 have HC := Zh hc; have HS0 := Zh hs
 clear hc hs
 go_enter Tryz.func5, Tryz.ntmps5
 go_upto_region 1 with fail
 generalize w.alloc (.cells (ccs c).toArray 42) = w1 at y1 b1 ⊢
 clear hB
 have z1 : B ≤ w1.heap.size := Zl y1.lt
 go_wp2_with fail
 refine (flawake_any _).mono ?_
 rintro e w2 ⟨rfl, hb⟩
 have y2 := y1.kept hb
 have b2 := b1.trans (hb.mono z1); have z2 := Zn z1 hb.size
 clear y1 b1 z1 hb
 by_cases hm : 60 < n
 ·have d1 : decide ((60 : Int) < (n : Int)) = true := Zt (by omega)
  clear hm
  go_wp2_with fail
  go_ret
  exact ⟨rfl, b2⟩
 have d1 : decide ((60 : Int) < (n : Int)) = false := Zf (by omega)
 go_upto_region 4 with fail
 go_wp2_with (refine cf_load rfl (.tmp 2) rfl rfl y2 rfl ?_)
 refine (flnew_any (fun _ => True) c _ (fun _ _ => trivial) HC.out).mono ?_
 rintro e w3 ⟨s, he, f3, hb⟩
 clear d1
 have y3 := y2.kept hb
 have b3 := b2.trans (hb.mono z2); have z3 := Zn z2 hb.size
 clear y2 b2 z2 hb
 cases hk : fineB c with
 | false =>
  rw [new_err hk] at he f3
  dsimp only at he f3
  subst he
  have hb := fw1_below w3 (fcs s zfv)
  go_upto_region 5 with (refine fl_store rfl (.tmp 6) (.tmp 27) rfl rfl (fcs s zfv) rfl (fz1 w3) rfl rfl rfl ?_)
  change Code.wp _ _ _ _ (fw1 w3 (fcs s zfv))
  generalize fw1 w3 (fcs s zfv) = w4 at hb ⊢
  have y4 := y3.kept hb
  have b4 := b3.trans (hb.mono z3); have z4 := Zn z3 hb.size
  clear y3 b3 z3 hb
  go_wp2_with fail
  go_ret
  exact ⟨rfl, b4⟩
 | true =>
 have hok := (fineB_iff c).1 hk
 rw [new_yes hk] at he f3
 dsimp only at he f3
 subst he
 have x4 := fw1_box w3 (fcs s (newFv c))
 have hb := fw1_below w3 (fcs s (newFv c))
 have f4 := (f3.off Zr).keep hb
 go_upto_region 5 with (refine fl_store rfl (.tmp 6) (.tmp 27) rfl rfl (fcs s (newFv c)) rfl (fz1 w3) rfl rfl rfl ?_)
 change Code.wp _ _ _ _ (fw1 w3 (fcs s (newFv c)))
 generalize fw1 w3 (fcs s (newFv c)) = w4 at x4 f4 hb ⊢
 have zP : B < w3.heap.size := y3.lt
 have y4 := y3.kept hb
 have b4 := b3.trans (hb.mono z3); have z4 := Zn z3 hb.size
 clear y3 b3 z3 hb
 obtain ⟨P, hP⟩ : ∃ P, w3.heap.size = P := ⟨_, rfl⟩
 rw [hP] at x4 f4 zP ⊢
 have HOK := Zh hok
 have HNF := Zh (new_ok hok)
 have HNM := Zh hm
 clear hP f3 hk hok hm
 go_wp2_with fail
 go_loopw [8, 9] (fun s8 i wr => ∃ (j : Nat) (s : Fs) (f : Fv) (v : Value) (nc : Nat) (cm : List Int), j ≤ n ∧ i = .int .i64 (j : Int) ∧ v = s8 ∧ Bx wr P 40 (fcs s f) ∧ Bx wr B 42 (ccs c) ∧ Hid (FlM wr (Off (OwnL P v)) s f ∧ Goti wr (P + 1) 3 v nc cm ∧ FvOk f c ∧ DoneIn f cm ∧ nc ≤ 500 * j) ∧ Below B w wr) (fun _ i _ => n - (intOf i).toNat)
 case atStart => exact ⟨0, s, newFv c, _, 0, [], Nat.zero_le _, rfl, rfl, x4, y4, Zh ⟨f4, Goti.nil _ _ _, HNF.out, done_new c, Nat.zero_le _⟩, b4⟩
 clear x4 f4 y4 b4 z4 HNF
 case round =>
  obtain ⟨j, s, f, v, nc, cm, hj, rfl, rfl, er, yr, HH, br⟩ := hrel
  obtain ⟨fr, cr, hfo, hdi, hnc⟩ := HH.out
  by_cases hlt : j < n
  case neg =>
   obtain rfl : j = n := by omega
   have dlt : decide (j < j) = false := Zf (by omega)
   have dlt' : decide ((j : Int) < (j : Int)) = false := Zf (by omega)
   clear fr cr hfo hdi hnc
   go_wp2_with fail
   go_ret
   exact ⟨rfl, br⟩
  case pos =>
  have dlt : decide (j < n) = true := Zt hlt
  have dlt' : decide ((j : Int) < (n : Int)) = true := Zt (by omega)
  have hbr0 : Below w.heap.size w wr := by rw [HB.out]; exact br
  have rr := HS0.out.keep hbr0
  have hkn := rr.le; have hkm := rr.max
  unfold maxLen at hkm
  obtain ⟨d, hd⟩ : ∃ d : Dd, @ge (DdIn w) _ l j = d := ⟨_, rfl⟩
  have hdok : DdW d ∧ Ss w d.A d.m d.k d.t.sk := by rw [← hd]; exact rr.rd.ok _ (ge_mem (by rw [rr.rd.len]; exact hlt))
  obtain ⟨bb, o, hA, hbl, _⟩ := rr.rd.at_ (by omega)
  subst hA
  have HGE := Zh hd; have HDW := Zh hdok.1; have HSS := Zh hdok.2
  have sr := hdok.2.keep hbr0
  have hc3 := (dd_cells rr hlt hd).2.2.2.1
  have hc0 := (dd_cells rr hlt hd).1
  have i2 : IntKind.i64.wrap ((j : Int) + 1) = (j : Int) + 1 := IntWalk.i64_in _ (by omega)
  have HFO := Zh hfo; have HDI := Zh hdi; have HNC := Zh hnc
  clear hd hdok hbl hbr0 HH hfo hdi hnc
  go_upto_region 11 with fail
  by_cases h20 : 20 < d.m
  ·have d2 : decide ((20 : Int) < (d.m : Int)) = true := Zt (by omega)
   go_wp2_with fail
   go_ret
   exact ⟨rfl, br⟩
  have d2 : decide ((20 : Int) < (d.m : Int)) = false := Zf (by omega)
  go_upto_if 50 with fail
  have HM5 : Hid (d.m ≤ 1000) := Zh (by omega)
  clear d2 hc3 h20
  go_cut [8] (fun s8 wx => ∃ (v' : Value) (nc' : Nat) (cm' : List Int), v' = s8 ∧ Hid (Bx wx P 40 (fcs s f) ∧ Bx wx B 42 (ccs c) ∧ FlM wx (Off (OwnL P v')) s f ∧ Goti wx (P + 1) 3 v' nc' cm' ∧ DoneIn (doneF f c d) cm' ∧ nc' ≤ 500 * (j + 1) ∧ Below B w wx))
  case first =>
   by_cases hk2 : d.kd = 2
   case neg =>
    have d50 : (d.kd == 2) = false := by simpa using hk2
    go_wp2_with fail
    go_meet
    case rel => exact ⟨v, nc, cm, rfl, Zh ⟨er, yr, fr, cr, done_came d HFO.out HDI.out hk2, by have := HNC.out; omega, br⟩⟩
   case pos =>
   have d50 : (d.kd == 2) = true := by simpa using hk2
   have HK2 := Zh hk2; clear hk2
   obtain ⟨⟨g1, td, er2⟩, hr⟩ : ∃ r, heardF f c d.t = r := ⟨_, rfl⟩
   have HR := Zh hr; clear hr
   go_upto_region 14 with fail
   clear hc0
   go_cut [10, 11, 12] (fun s10 s11 s12 wx => ∃ (P2 : Nat) (A5 : Option Addr) (n5 c5 : Nat), s10 = .pointer (some ⟨P2, 0, none⟩) ∧ s11 = .slice A5 n5 c5 ∧ s12 = .int .i64 er2 ∧ Hid (Bx wx P 40 (fcs s f) ∧ Bx wx B 42 (ccs c) ∧ FlM wx (Off (OwnL P v)) s f ∧ TrM wx (Off (OwnL P v)) A5 n5 c5 td ∧ Goti wx (P + 1) 3 v nc cm ∧ Below B w wx))
   case first =>
    have zB := Zl zP
    refine tB 15 16 (fun (W : World) => Bx W P 40 (fcs s f) ∧ Bx W B 42 (ccs c) ∧ W.cell? ⟨bb, o + j * 8, none⟩ = some (.int .i64 d.kd) ∧ W.cell? ⟨bb, o + j * 8 + 1, none⟩ = some (.int .i64 d.n) ∧ W.cell? ⟨bb, o + j * 8 + 2, none⟩ = some (.int .i64 d.t.got) ∧ W.cell? ⟨bb, o + j * 8 + 3, none⟩ = some (.slice d.A d.m d.k) ∧ W.cell? ⟨bb, o + j * 8 + 4, none⟩ = some (.int .i64 d.t.ace) ∧ W.cell? ⟨bb, o + j * 8 + 5, none⟩ = some (.int .u32 d.t.ce) ∧ W.cell? ⟨bb, o + j * 8 + 6, none⟩ = some (.int .i64 d.t.now) ∧ W.cell? ⟨bb, o + j * 8 + 7, none⟩ = some (.int .i64 d.t.growth)) ⟨er.drew, yr.drew, dd_cells (rr.keep (Zb).drew) hlt HGE.out⟩ (fun HS => ?_)
    have e_0 := er.drew; have y_0 := yr.drew; have f_0 := fr.drew; have b_0 := br.drew; have r_0 := rr.keep (Below.refl _ wr).drew; have k_0 := sr.keep (Below.refl _ wr).drew; have c_0 := cr.keep (Below.refl _ wr).drew
    generalize wr.drew = wd at HS e_0 y_0 f_0 b_0 r_0 k_0 c_0 ⊢
    refine tS 0 rfl (fl_yields (by rfl) (.tmp 6) rfl rfl (fcs s f) rfl 40 (fun W hW => hW.1)) HS ?_
    refine tS 1 rfl (cf_yields (by rfl) (.tmp 2) rfl rfl (ccs c) rfl 42 (fun W hW => hW.2.1)) HS ?_
    refine tU 2 HS ?_
    refine tU 3 HS ?_
    refine tU 4 HS ?_
    refine tU 5 HS ?_
    refine wpAnyT_take (i := 6) (v := .agg (tcs d.A d.m d.k d.t).toArray) rfl (by kernel_rfl) (fun _ _ _ h => h) (Or.inl ⟨by rfl, fun w hSw => by obtain ⟨_, _, c0, c1, c2, c3, c4, c5, c6, c7⟩ := hSw; go_simp; rfl⟩) HS ?_
    try simp only [Act.put, List.setIfInBounds_toArray, List.set_cons_zero, List.set_cons_succ]
    refine wpAnyT_two (k1 := 7) (k2 := 12) rfl rfl (by kernel_rfl) (by decide) (by decide) (fun K hK => ?_) (fun K hK => ?_)
    ·go_simp
     refine (flheard_any (Off (OwnL P v)) s f c d.A d.m d.k d.t _ (off_new (own_lt c_0 e_0.lt)) f_0 HC.out HDW.out.t k_0 HM5.out).mono ?_
     rintro e wt ⟨s2, RA, rn, rc, he, hf2, hts, hti, hbt⟩
     rw [HR.out] at he hf2 hts
     dsimp only at he hf2 hts
     subst he
     have htr : TrM wt (Off (OwnL P v)) RA rn rc td := ⟨hts, hti⟩
     clear hts hti
     have E_1 := e_0.kept hbt
     have Y_1 := y_0.kept hbt
     have FM_1 := f_0.keep hbt
     have BL_1 := b_0.trans (hbt.mono (Zn zB (Zl e_0.lt)))
     have RS_1 := r_0.keep hbt
     have SK_1 := k_0.keep hbt
     have CM_1 := c_0.keep hbt
     have G_1 := hf2
     have TR_1 := htr
     have HS : (fun (W : World) => Bx W P 40 (fcs s f) ∧ Bx W B 42 (ccs c) ∧ W.cell? ⟨bb, o + j * 8, none⟩ = some (.int .i64 d.kd) ∧ W.cell? ⟨bb, o + j * 8 + 1, none⟩ = some (.int .i64 d.n) ∧ W.cell? ⟨bb, o + j * 8 + 2, none⟩ = some (.int .i64 d.t.got) ∧ W.cell? ⟨bb, o + j * 8 + 3, none⟩ = some (.slice d.A d.m d.k) ∧ W.cell? ⟨bb, o + j * 8 + 4, none⟩ = some (.int .i64 d.t.ace) ∧ W.cell? ⟨bb, o + j * 8 + 5, none⟩ = some (.int .u32 d.t.ce) ∧ W.cell? ⟨bb, o + j * 8 + 6, none⟩ = some (.int .i64 d.t.now) ∧ W.cell? ⟨bb, o + j * 8 + 7, none⟩ = some (.int .i64 d.t.growth)) _ := ⟨E_1, Y_1, dd_cells RS_1 hlt HGE.out⟩
     refine kP hK HS ?_
     clear hK K
     clear e_0 y_0 f_0 b_0 r_0 k_0 c_0 hbt
     refine tU 8 HS ?_
     refine tU 9 HS ?_
     refine tU 10 HS ?_
     refine tU 11 HS ?_
     refine tO 12 (fun K hK => ?_)
     go_simp
     have E_2 := E_1.alloc (.cells (fcs zfs zfv).toArray 40)
     have Y_2 := Y_1.alloc (.cells (fcs zfs zfv).toArray 40)
     have FM_2 := (FM_1.later Zr).alloc (.cells (fcs zfs zfv).toArray 40)
     have BL_2 := BL_1.alloc (Zn zB (Zl E_1.lt)) (.cells (fcs zfs zfv).toArray 40)
     have RS_2 := RS_1.alloc (.cells (fcs zfs zfv).toArray 40)
     have SK_2 := SK_1.alloc (.cells (fcs zfs zfv).toArray 40)
     have CM_2 := CM_1.alloc (.cells (fcs zfs zfv).toArray 40)
     have G_2 := (G_1.later Zr).alloc (.cells (fcs zfs zfv).toArray 40)
     have TR_2 := (TR_1.later Zr).alloc (.cells (fcs zfs zfv).toArray 40)
     have N1_2 := Bx.new wt 40 (fcs zfs zfv)
     have nP2e_2 := E_1.lt
     have nP2c_2 := CM_1.lt
     have HS : (fun (W : World) => Bx W P 40 (fcs s f) ∧ Bx W B 42 (ccs c) ∧ W.cell? ⟨bb, o + j * 8, none⟩ = some (.int .i64 d.kd) ∧ W.cell? ⟨bb, o + j * 8 + 1, none⟩ = some (.int .i64 d.n) ∧ W.cell? ⟨bb, o + j * 8 + 2, none⟩ = some (.int .i64 d.t.got) ∧ W.cell? ⟨bb, o + j * 8 + 3, none⟩ = some (.slice d.A d.m d.k) ∧ W.cell? ⟨bb, o + j * 8 + 4, none⟩ = some (.int .i64 d.t.ace) ∧ W.cell? ⟨bb, o + j * 8 + 5, none⟩ = some (.int .u32 d.t.ce) ∧ W.cell? ⟨bb, o + j * 8 + 6, none⟩ = some (.int .i64 d.t.now) ∧ W.cell? ⟨bb, o + j * 8 + 7, none⟩ = some (.int .i64 d.t.growth)) _ := ⟨E_2, Y_2, dd_cells RS_2 hlt HGE.out⟩
     refine kW hK (wt.alloc (.cells (fcs zfs zfv).toArray 40)) HS ?_
     clear hK K HS
     clear E_1 Y_1 FM_1 BL_1 RS_1 SK_1 CM_1 G_1 TR_1
     obtain ⟨P2, hP2⟩ : ∃ P, wt.heap.size = P := ⟨_, rfl⟩
     rw [hP2] at N1_2 nP2e_2 nP2c_2 FM_2 G_2 TR_2 ⊢
     generalize wt.alloc (.cells (fcs zfs zfv).toArray 40) = wz2 at E_2 Y_2 FM_2 BL_2 RS_2 SK_2 CM_2 G_2 TR_2 N1_2 ⊢
     clear hP2
     have nP2e := nP2e_2
     have nP2c := nP2c_2
     have HS : (fun (W : World) => Bx W P 40 (fcs s f) ∧ Bx W B 42 (ccs c) ∧ W.cell? ⟨bb, o + j * 8, none⟩ = some (.int .i64 d.kd) ∧ W.cell? ⟨bb, o + j * 8 + 1, none⟩ = some (.int .i64 d.n) ∧ W.cell? ⟨bb, o + j * 8 + 2, none⟩ = some (.int .i64 d.t.got) ∧ W.cell? ⟨bb, o + j * 8 + 3, none⟩ = some (.slice d.A d.m d.k) ∧ W.cell? ⟨bb, o + j * 8 + 4, none⟩ = some (.int .i64 d.t.ace) ∧ W.cell? ⟨bb, o + j * 8 + 5, none⟩ = some (.int .u32 d.t.ce) ∧ W.cell? ⟨bb, o + j * 8 + 6, none⟩ = some (.int .i64 d.t.now) ∧ W.cell? ⟨bb, o + j * 8 + 7, none⟩ = some (.int .i64 d.t.growth)) _ := ⟨E_2, Y_2, dd_cells RS_2 hlt HGE.out⟩
     refine tO 13 (fun K hK => ?_)
     rw [if_pos (by rfl)]
     refine wp_store_row 40 (.tmp 10) (.tmp 60) rfl P2 (fcs s2 g1).toArray (by rfl) (by rfl) 40 _ N1_2 (by rw [info_fl]; rfl) (by rfl) (by have h : (fcs s2 g1).all (·.oneCell') = true := rfl; simpa using h) ?_
     have g1' := fl_grown wz2 P2 (fcs s2 g1).toArray
     have E1 := E_2.grown g1' (fun e => by cases e; omega)
     have Y1 := Y_2.grown g1' (fun e => by cases e; omega)
     have F1 := (FM_2.grown g1' (off_row (by simp))).imp (Off.imp (fun x hx => List.mem_cons_of_mem P2 hx))
     have T1 := (TR_2.grown g1' (off_row (by simp))).imp (Off.imp (fun x hx => List.mem_cons_of_mem P2 hx))
     have C1 := goti_grown CM_2 g1' (by cases hv : v.ownBlock with
      | none => exact .inl rfl
      | some q => exact .inr (fun e => by cases e; have := nP2c _ hv; omega))
     have L1 := BL_2.grown g1' (by have := E_2.lt; omega) (fun k hk => by cases hk; omega)
     have R1 := HS0.out.keep (show Below w.heap.size w _ by rw [HB.out]; exact L1)
     have HS : (fun (W : World) => Bx W P 40 (fcs s f) ∧ Bx W B 42 (ccs c) ∧ W.cell? ⟨bb, o + j * 8, none⟩ = some (.int .i64 d.kd) ∧ W.cell? ⟨bb, o + j * 8 + 1, none⟩ = some (.int .i64 d.n) ∧ W.cell? ⟨bb, o + j * 8 + 2, none⟩ = some (.int .i64 d.t.got) ∧ W.cell? ⟨bb, o + j * 8 + 3, none⟩ = some (.slice d.A d.m d.k) ∧ W.cell? ⟨bb, o + j * 8 + 4, none⟩ = some (.int .i64 d.t.ace) ∧ W.cell? ⟨bb, o + j * 8 + 5, none⟩ = some (.int .u32 d.t.ce) ∧ W.cell? ⟨bb, o + j * 8 + 6, none⟩ = some (.int .i64 d.t.now) ∧ W.cell? ⟨bb, o + j * 8 + 7, none⟩ = some (.int .i64 d.t.growth)) _ := ⟨E1, Y1, dd_cells R1 hlt HGE.out⟩
     refine kP hK HS ?_
     clear hK K
     generalize wz2.setRow P2 (fcs s2 g1).toArray = wu at E1 Y1 F1 T1 C1 L1 R1 HS ⊢
     refine tO 14 (fun K hK => ?_)
     go_simp
     refine kP hK HS ?_
     clear hK K HS
     refine ⟨by kernel_rfl, ?_⟩
     simp only [List.drop_succ_cons, List.drop_zero]
     go_wp2_with fail
     go_meet
     case rel => exact ⟨P2, RA, rn, rc, rfl, rfl, rfl, Zh ⟨E1, Y1, F1, T1, C1, L1⟩⟩
    ·go_simp
     have E_3 := e_0.alloc (.cells (fcs zfs zfv).toArray 40)
     have Y_3 := y_0.alloc (.cells (fcs zfs zfv).toArray 40)
     have FM_3 := (f_0.later Zr).alloc (.cells (fcs zfs zfv).toArray 40)
     have BL_3 := b_0.alloc (Zn zB (Zl e_0.lt)) (.cells (fcs zfs zfv).toArray 40)
     have RS_3 := r_0.alloc (.cells (fcs zfs zfv).toArray 40)
     have SK_3 := k_0.alloc (.cells (fcs zfs zfv).toArray 40)
     have CM_3 := c_0.alloc (.cells (fcs zfs zfv).toArray 40)
     have N1_3 := Bx.new wd 40 (fcs zfs zfv)
     have nP2e_3 := e_0.lt
     have nP2c_3 := c_0.lt
     have HS : (fun (W : World) => Bx W P 40 (fcs s f) ∧ Bx W B 42 (ccs c) ∧ W.cell? ⟨bb, o + j * 8, none⟩ = some (.int .i64 d.kd) ∧ W.cell? ⟨bb, o + j * 8 + 1, none⟩ = some (.int .i64 d.n) ∧ W.cell? ⟨bb, o + j * 8 + 2, none⟩ = some (.int .i64 d.t.got) ∧ W.cell? ⟨bb, o + j * 8 + 3, none⟩ = some (.slice d.A d.m d.k) ∧ W.cell? ⟨bb, o + j * 8 + 4, none⟩ = some (.int .i64 d.t.ace) ∧ W.cell? ⟨bb, o + j * 8 + 5, none⟩ = some (.int .u32 d.t.ce) ∧ W.cell? ⟨bb, o + j * 8 + 6, none⟩ = some (.int .i64 d.t.now) ∧ W.cell? ⟨bb, o + j * 8 + 7, none⟩ = some (.int .i64 d.t.growth)) _ := ⟨E_3, Y_3, dd_cells RS_3 hlt HGE.out⟩
     refine kW hK (wd.alloc (.cells (fcs zfs zfv).toArray 40)) HS ?_
     clear hK K HS
     clear e_0 y_0 f_0 b_0 r_0 k_0 c_0
     obtain ⟨P2, hP2⟩ : ∃ P, wd.heap.size = P := ⟨_, rfl⟩
     rw [hP2] at N1_3 nP2e_3 nP2c_3 FM_3 ⊢
     generalize wd.alloc (.cells (fcs zfs zfv).toArray 40) = wz3 at E_3 Y_3 FM_3 BL_3 RS_3 SK_3 CM_3 N1_3 ⊢
     clear hP2
     have nP2e := nP2e_3
     have nP2c := nP2c_3
     have HS : (fun (W : World) => Bx W P 40 (fcs s f) ∧ Bx W B 42 (ccs c) ∧ W.cell? ⟨bb, o + j * 8, none⟩ = some (.int .i64 d.kd) ∧ W.cell? ⟨bb, o + j * 8 + 1, none⟩ = some (.int .i64 d.n) ∧ W.cell? ⟨bb, o + j * 8 + 2, none⟩ = some (.int .i64 d.t.got) ∧ W.cell? ⟨bb, o + j * 8 + 3, none⟩ = some (.slice d.A d.m d.k) ∧ W.cell? ⟨bb, o + j * 8 + 4, none⟩ = some (.int .i64 d.t.ace) ∧ W.cell? ⟨bb, o + j * 8 + 5, none⟩ = some (.int .u32 d.t.ce) ∧ W.cell? ⟨bb, o + j * 8 + 6, none⟩ = some (.int .i64 d.t.now) ∧ W.cell? ⟨bb, o + j * 8 + 7, none⟩ = some (.int .i64 d.t.growth)) _ := ⟨E_3, Y_3, dd_cells RS_3 hlt HGE.out⟩
     refine tO 7 (fun K hK => ?_)
     go_simp
     refine (flheard_any (Off (P2 :: OwnL P v)) s f c d.A d.m d.k d.t _ (off_new (fun x hx => by rcases List.mem_cons.1 hx with rfl | hx; exact N1_3.lt; exact (own_lt CM_3 E_3.lt) x hx)) FM_3 HC.out HDW.out.t SK_3 HM5.out).mono ?_
     rintro e wt ⟨s2, RA, rn, rc, he, hf2, hts, hti, hbt⟩
     rw [HR.out] at he hf2 hts
     dsimp only at he hf2 hts
     subst he
     have htr : TrM wt (Off (P2 :: OwnL P v)) RA rn rc td := ⟨hts, hti⟩
     clear hts hti
     have E_4 := E_3.kept hbt
     have Y_4 := Y_3.kept hbt
     have FM_4 := FM_3.keep hbt
     have BL_4 := BL_3.trans (hbt.mono (Zn zB (Zl E_3.lt)))
     have RS_4 := RS_3.keep hbt
     have SK_4 := SK_3.keep hbt
     have CM_4 := CM_3.keep hbt
     have N1_4 := N1_3.kept hbt
     have G_4 := hf2
     have TR_4 := htr
     have HS : (fun (W : World) => Bx W P 40 (fcs s f) ∧ Bx W B 42 (ccs c) ∧ W.cell? ⟨bb, o + j * 8, none⟩ = some (.int .i64 d.kd) ∧ W.cell? ⟨bb, o + j * 8 + 1, none⟩ = some (.int .i64 d.n) ∧ W.cell? ⟨bb, o + j * 8 + 2, none⟩ = some (.int .i64 d.t.got) ∧ W.cell? ⟨bb, o + j * 8 + 3, none⟩ = some (.slice d.A d.m d.k) ∧ W.cell? ⟨bb, o + j * 8 + 4, none⟩ = some (.int .i64 d.t.ace) ∧ W.cell? ⟨bb, o + j * 8 + 5, none⟩ = some (.int .u32 d.t.ce) ∧ W.cell? ⟨bb, o + j * 8 + 6, none⟩ = some (.int .i64 d.t.now) ∧ W.cell? ⟨bb, o + j * 8 + 7, none⟩ = some (.int .i64 d.t.growth)) _ := ⟨E_4, Y_4, dd_cells RS_4 hlt HGE.out⟩
     refine kP hK HS ?_
     clear hK K
     clear E_3 Y_3 FM_3 BL_3 RS_3 SK_3 CM_3 N1_3 hbt
     refine tU 8 HS ?_
     refine tU 9 HS ?_
     refine tU 10 HS ?_
     refine tU 11 HS ?_
     refine tO 13 (fun K hK => ?_)
     rw [if_pos (by rfl)]
     refine wp_store_row 40 (.tmp 10) (.tmp 60) rfl P2 (fcs s2 g1).toArray (by rfl) (by rfl) 40 _ N1_4 (by rw [info_fl]; rfl) (by rfl) (by have h : (fcs s2 g1).all (·.oneCell') = true := rfl; simpa using h) ?_
     have g1' := fl_grown wt P2 (fcs s2 g1).toArray
     have E1 := E_4.grown g1' (fun e => by cases e; omega)
     have Y1 := Y_4.grown g1' (fun e => by cases e; omega)
     have F1 := (FM_4.grown g1' (off_row (by simp))).imp (Off.imp (fun x hx => List.mem_cons_of_mem P2 hx))
     have T1 := (TR_4.grown g1' (off_row (by simp))).imp (Off.imp (fun x hx => List.mem_cons_of_mem P2 hx))
     have C1 := goti_grown CM_4 g1' (by cases hv : v.ownBlock with
      | none => exact .inl rfl
      | some q => exact .inr (fun e => by cases e; have := nP2c _ hv; omega))
     have L1 := BL_4.grown g1' (by have := E_4.lt; omega) (fun k hk => by cases hk; omega)
     have R1 := HS0.out.keep (show Below w.heap.size w _ by rw [HB.out]; exact L1)
     have HS : (fun (W : World) => Bx W P 40 (fcs s f) ∧ Bx W B 42 (ccs c) ∧ W.cell? ⟨bb, o + j * 8, none⟩ = some (.int .i64 d.kd) ∧ W.cell? ⟨bb, o + j * 8 + 1, none⟩ = some (.int .i64 d.n) ∧ W.cell? ⟨bb, o + j * 8 + 2, none⟩ = some (.int .i64 d.t.got) ∧ W.cell? ⟨bb, o + j * 8 + 3, none⟩ = some (.slice d.A d.m d.k) ∧ W.cell? ⟨bb, o + j * 8 + 4, none⟩ = some (.int .i64 d.t.ace) ∧ W.cell? ⟨bb, o + j * 8 + 5, none⟩ = some (.int .u32 d.t.ce) ∧ W.cell? ⟨bb, o + j * 8 + 6, none⟩ = some (.int .i64 d.t.now) ∧ W.cell? ⟨bb, o + j * 8 + 7, none⟩ = some (.int .i64 d.t.growth)) _ := ⟨E1, Y1, dd_cells R1 hlt HGE.out⟩
     refine kP hK HS ?_
     clear hK K
     generalize wt.setRow P2 (fcs s2 g1).toArray = wu at E1 Y1 F1 T1 C1 L1 R1 HS ⊢
     refine tO 14 (fun K hK => ?_)
     go_simp
     refine kP hK HS ?_
     clear hK K HS
     refine ⟨by kernel_rfl, ?_⟩
     simp only [List.drop_succ_cons, List.drop_zero]
     go_wp2_with fail
     go_meet
     case rel => exact ⟨P2, RA, rn, rc, rfl, rfl, rfl, Zh ⟨E1, Y1, F1, T1, C1, L1⟩⟩
   case rest =>
   obtain ⟨P2, A5, n5, c5, rfl, rfl, rfl, HH⟩ := hcut
   obtain ⟨e5, y5, f5, t5, c5', b5⟩ := HH.out
   clear HH er yr fr rr sr cr br
   have htd : er2 = 0 → td = toldL d.t.got d.t.sk f.l := fun h => by
    have := (heard_yes (f := f) (c := c) (t := d.t) (by rw [HR.out]; exact h)).2.2.told
    rw [HR.out] at this; exact this
   have htn : er2 ≠ 0 → td = [] := fun h => by
    have := heard_err (f := f) (c := c) (t := d.t) (e := er2) (by rw [HR.out]) h
    rw [HR.out] at this; exact (Prod.mk.inj (Prod.mk.inj this).2).1
   have hlen := t5.se.rd.len
   have hdn : DoneIn (doneF f c d) (cm ++ td.map Prt.seq) := by
    by_cases h0 : er2 = 0
    ·have := done_hear d HFO.out HDI.out HK2.out (by rw [HR.out]; exact h0)
     rw [HR.out] at this; exact this
    ·rw [htn h0, done_deaf d HK2.out (by rw [HR.out]; exact h0)]; simpa using HDI.out
   have h5 : n5 ≤ 500 := by
    by_cases h0 : er2 = 0
    ·have := told_few HFO.out (htd h0); omega
    ·have := htn h0; rw [this] at hlen; simp at hlen; omega
   have HTD := Zh htd; have HTN := Zh htn; have HLEN := Zh hlen; have HDN := Zh hdn; have H5 := Zh h5
   clear htd htn hlen hdn h5
   go_upto_region 15 with fail
   go_wp2_with fail
   go_loopw [8, 13, 14] (fun s8 s13 s14 wr => ∃ (q : Nat) (v1 : Value), q ≤ n5 ∧ s13 = .int .i64 (q : Int) ∧ v1 = s8 ∧ Hid (Bx wr P 40 (fcs s f) ∧ Bx wr B 42 (ccs c) ∧ FlM wr (Off (OwnL P v1)) s f ∧ TrM wr (Off (OwnL P v1)) A5 n5 c5 td ∧ Goti wr (P + 1) 3 v1 (nc + q) (cm ++ (td.take q).map Prt.seq) ∧ Below B w wr)) (fun _ i _ _ => n5 - (intOf i).toNat)
   case atStart => exact ⟨0, v, Nat.zero_le _, rfl, rfl, Zh ⟨e5, y5, f5, t5, by simpa using c5', b5⟩⟩
   clear e5 y5 f5 t5 c5' b5
   case round =>
    obtain ⟨q, v1, hq, rfl, rfl, HH⟩ := hrel
    obtain ⟨e6, y6, f6, t6, c6, b6⟩ := HH.out
    clear HH
    have z6 : B ≤ wr.heap.size := Zl y6.lt
    have hnk : nc + q ≤ 500 * (j + 1) := by have := HNC.out; have := H5.out; omega
    by_cases hlt2 : q < n5
    case neg =>
     obtain rfl : q = n5 := by omega
     have dlt2 : decide (q < q) = false := Zf (by omega)
     have dlt2' : decide ((q : Int) < (q : Int)) = false := Zf (by omega)
     have htk : td.take q = td := by rw [← HLEN.out]; exact List.take_length
     rw [htk] at c6
     clear htk
     go_wp2_with fail
     go_meet
     case rel => exact ⟨v1, nc + q, _, rfl, Zh ⟨e6, y6, f6, c6, HDN.out, hnk, b6⟩⟩
    case pos =>
    have dlt2 : decide (q < n5) = true := Zt hlt2
    have dlt2' : decide ((q : Int) < (n5 : Int)) = true := Zt (by omega)
    have her : er2 = 0 := Decidable.byContradiction fun h => by have h1 := HTN.out h; have h2 := HLEN.out; rw [h1] at h2; simp at h2; omega
    have der : (er2 == 0) = true := by rw [her]; rfl
    have htd' := HTD.out her
    have hqt : q < td.length := by rw [HLEN.out]; exact hlt2
    have hne := fun x (hx : x ∈ cm ++ (td.take q).map Prt.seq) => once_ne HFO.out HDI.out htd' hqt hx
    have hnx := once_next HFO.out htd' hqt
    obtain ⟨hb0, hb1, hb2⟩ := once_bd HFO.out htd' hqt
    have HNE := Zh hne; have HER := Zh her; have HQT := Zh hqt
    have i5 : IntKind.i64.wrap ((q : Int) + 1) = (q : Int) + 1 := IntWalk.i64_in _ (by have := H5.out; omega)
    have i6 : IntKind.i64.wrap ((ge td q).seq + (ge td q).len) = (ge td q).seq + (ge td q).len := IntWalk.i64_in _ (by omega)
    have dnx : decide (f.next < (ge td q).seq + (ge td q).len) = false := Zf (by omega)
    have hw64 : W64 (ge td q).seq := by unfold W64; omega
    have HW := Zh hw64
    obtain ⟨A8, c8, hv, hsi⟩ := c6.si
    subst hv
    have hlc : (cm ++ (td.take q).map Prt.seq).length = nc + q := hsi.rd.len
    have HLC := Zh hlc
    have hn60 := HNM.out
    have hnk2 : nc + q ≤ 30000 := by omega
    obtain ⟨w6, hw6⟩ : ∃ x, wr = x := ⟨_, rfl⟩
    rw [hw6] at e6 y6 f6 t6 c6 b6 z6 hsi ⊢
    clear hw6 her htd' hqt hne hnx hb0 hb1 hb2 hw64 hlc hn60
    obtain ⟨M, hM⟩ : ∃ M, w6.heap.size = M := ⟨_, rfl⟩
    have HMM := Zh hM; clear hM
    go_wp2_with fail
    go_loopw [14] (fun s14 wr => ∃ i : Nat, i ≤ nc + q ∧ s14 = .int .i64 (i : Int) ∧ Below M w6 wr) (fun i _ => nc + q - (intOf i).toNat)
    case atStart => exact ⟨0, Nat.zero_le _, rfl, Below.refl _ _⟩
    case round =>
     obtain ⟨i, hi, rfl, bi⟩ := hrel
     have bi' : Below w6.heap.size w6 wr := by rw [HMM.out]; exact bi
     by_cases hlt3 : i < nc + q
     ·have dlt3 : decide (i < nc + q) = true := Zt hlt3
      have dlt3' : decide ((i : Int) < ((nc + q : Nat) : Int)) = true := Zt (by omega)
      have dlt3'' : decide ((i : Int) < (nc : Int) + (q : Int)) = true := Zt (by omega)
      have hs9 := hsi.keep bi'
      have t9 := t6.keep bi'
      obtain ⟨b8, o8, hA8, hb8, hc8⟩ := hs9.rd.at_ (by omega)
      obtain ⟨b7, o7, hA7, hb7, hc7⟩ := t9.se.rd.at_ (by omega)
      have X := prt_at hc7 hlt2
      have C := hc8 i hlt3
      obtain ⟨x0, _, _, _, _, _, _, _, _⟩ := X
      have hqe : (it (cm ++ (td.take q).map Prt.seq) i == (ge td q).seq) = false := by
       have := HNE.out _ (it_mem (by rw [HLC.out]; exact hlt3)); simpa using this
      obtain ⟨y, hy⟩ : ∃ y, it (cm ++ (td.take q).map Prt.seq) i = y := ⟨_, rfl⟩
      rw [hy] at C hqe
      have i7 : IntKind.i64.wrap ((i : Int) + 1) = (i : Int) + 1 := IntWalk.i64_in _ (by omega)
      have hc8l := hsi.le; have hc8m := hsi.max; have hc5l := t6.se.le; have hc5m := t6.se.max
      unfold maxLen at hc8m hc5m
      subst hA8 hA7
      clear hc8 hc7 hb8 hb7 hs9 t9 hy bi' e6 y6 f6 t6 c6 b6 z6
      go_upto_region 21 with fail
      go_quiet (fail)
      go_wp2_with fail
      go_roundw
      case rel => exact ⟨i + 1, by omega, by go_num, below_drewN bi _⟩
      case measure => simp [intOf]; omega
     ·obtain rfl : i = nc + q := by omega
      have dlt3 : decide (nc + q < nc + q) = false := Zf (by omega)
      have dlt3' : decide (((nc + q : Nat) : Int) < ((nc + q : Nat) : Int)) = false := Zf (by omega)
      have e9 := e6.kept bi'; have y9 := y6.kept bi'; have f9 := f6.keep bi'; have t9 := t6.keep bi'; have c9 := c6.keep bi'
      have b9 := b6.trans (bi'.mono z6)
      have z9 : B ≤ wr.heap.size := Zl y9.lt
      obtain ⟨b7, o7, hA7, hb7, hc7⟩ := t9.se.rd.at_ (by omega)
      have X := prt_at hc7 hlt2
      obtain ⟨x0, x1, _, _, _, _, _, _, _⟩ := X
      have k2 : wr.cell? ⟨P, 2, none⟩ = some (.int .i64 f.next) := e9.cell 2 rfl
      have hc5l := t6.se.le; have hc5m := t6.se.max
      unfold maxLen at hc5m
      subst hA7
      clear hc7 hb7 bi bi' e6 y6 f6 t6 c6 b6 z6 hsi
      go_upto_region 23 with fail
      go_quiet (fail)
      go_upto_region 25 with fail
      generalize hW : wr.drewN nq = w10
      have bd : Below wr.heap.size wr w10 := by rw [← hW]; exact below_drewN (Zb) _
      have e10 := e9.kept bd; have y10 := y9.kept bd; have f10 := f9.keep bd; have t10 := t9.keep bd; have c10 := c9.keep bd
      have b10 := b9.trans (bd.mono z9)
      have z10 : B ≤ w10.heap.size := Zl y10.lt
      have x0' : w10.cell? ⟨b7, o7 + q * 9, none⟩ = some (.int .i64 (ge td q).seq) := by rw [← hW]; exact x0
      clear hW bd e9 y9 f9 t9 c9 b9 z9 x0 x1 k2
      go_wp2_with (at_builtin; (refine wpList_appi _ rfl (.tmp 103) (.tmp 109) 30 rfl (P + 1) 3 Tryz.underlying30 info_int _ _ _ rfl (c10.alloc (.cells #[.int .i64 (ge td q).seq] 3)) rfl (fun h => by cases h) (ri_one w10 HW.out 3) (by omega) (by have := e10.lt; simp; omega) ?_; intro v2 w11 hg3 hgr3 hv3))
      have hown := (c10.alloc (.cells #[.int .i64 (ge td q).seq] 3)).lt
      have e11 := (e10.alloc (.cells #[.int .i64 (ge td q).seq] 3)).grown hgr3 (fun e => by have := c10.from _ e.symm; omega)
      have y11 := (y10.alloc (.cells #[.int .i64 (ge td q).seq] 3)).grown hgr3 (fun e => by have := c10.from _ e.symm; omega)
      have f11 := (f10.alloc (.cells #[.int .i64 (ge td q).seq] 3)).own hown hgr3 hv3
      have t11 := (t10.alloc (.cells #[.int .i64 (ge td q).seq] 3)).own hown hgr3 hv3
      have b11 := (b10.alloc z10 (.cells #[.int .i64 (ge td q).seq] 3)).grown hgr3 (by simp; omega) (fun k h => by have := c10.from _ h; omega)
      have hls : cm ++ (td.take q).map Prt.seq ++ [(ge td q).seq] = cm ++ (td.take (q + 1)).map Prt.seq := by rw [take_ge HQT.out]; simp
      rw [hls] at hg3
      clear hls
      go_wp2_with fail
      go_roundw
      case rel => exact ⟨q + 1, v2, by omega, by go_num, rfl, Zh ⟨e11, y11, f11, t11, hg3, b11⟩⟩
      case measure => simp [intOf]; omega
  case rest =>
  obtain ⟨v', nc', cm', rfl, HH⟩ := hcut
  obtain ⟨e5, y5, f5, c5, hdn, hnc, b5⟩ := HH.out
  clear HH er yr fr rr sr br cr
  have HDN := Zh hdn; have HNC2 := Zh hnc
  have hbr0 : Below w.heap.size w wc := by rw [HB.out]; exact b5
  have rr := HS0.out.keep hbr0
  have sr := HSS.out.keep hbr0
  clear hdn hnc hbr0
  go_upto_region 26 with fail
  have zB := Zl zP
  refine tB 7 8 (fun (W : World) => Bx W P 40 (fcs s f) ∧ Bx W B 42 (ccs c) ∧ W.cell? ⟨bb, o + j * 8, none⟩ = some (.int .i64 d.kd) ∧ W.cell? ⟨bb, o + j * 8 + 1, none⟩ = some (.int .i64 d.n) ∧ W.cell? ⟨bb, o + j * 8 + 2, none⟩ = some (.int .i64 d.t.got) ∧ W.cell? ⟨bb, o + j * 8 + 3, none⟩ = some (.slice d.A d.m d.k) ∧ W.cell? ⟨bb, o + j * 8 + 4, none⟩ = some (.int .i64 d.t.ace) ∧ W.cell? ⟨bb, o + j * 8 + 5, none⟩ = some (.int .u32 d.t.ce) ∧ W.cell? ⟨bb, o + j * 8 + 6, none⟩ = some (.int .i64 d.t.now) ∧ W.cell? ⟨bb, o + j * 8 + 7, none⟩ = some (.int .i64 d.t.growth)) ⟨e5.drew, y5.drew, dd_cells (rr.keep (Zb).drew) hlt HGE.out⟩ (fun HS => ?_)
  have e_0 := e5.drew; have y_0 := y5.drew; have f_0 := f5.drew; have b_0 := b5.drew; have r_0 := rr.keep (Below.refl _ wc).drew; have k_0 := sr.keep (Below.refl _ wc).drew; have c_0 := c5.keep (Below.refl _ wc).drew
  generalize wc.drew = wd at HS e_0 y_0 f_0 b_0 r_0 k_0 c_0 ⊢
  clear e5 y5 f5 b5 rr sr c5
  refine tS 0 rfl (fl_yields (by rfl) (.tmp 6) rfl rfl (fcs s f) rfl 40 (fun W hW => hW.1)) HS ?_
  refine tS 1 rfl (cf_yields (by rfl) (.tmp 2) rfl rfl (ccs c) rfl 42 (fun W hW => hW.2.1)) HS ?_
  refine tU 2 HS ?_
  refine tU 3 HS ?_
  refine tU 4 HS ?_
  refine wpAnyT_take (i := 5) (v := .agg (dcs d).toArray) rfl (by kernel_rfl) (fun _ _ _ h => h) (Or.inl ⟨by rfl, fun w hSw => by obtain ⟨_, _, c0, c1, c2, c3, c4, c5, c6, c7⟩ := hSw; go_simp; rfl⟩) HS ?_
  try simp only [Act.put, List.setIfInBounds_toArray, List.set_cons_zero, List.set_cons_succ]
  refine tO 6 (fun K hK => ?_)
  go_simp
  refine (fldone_any (Off (OwnL P v')) s f c d _ (off_new (own_lt c_0 e_0.lt)) f_0 HC.out HDW.out k_0 HM5.out).mono ?_
  rintro e wt ⟨s2, he, hf2, hbt⟩
  subst he
  have E_1 := e_0.kept hbt
  have Y_1 := y_0.kept hbt
  have FM_1 := f_0.keep hbt
  have BL_1 := b_0.trans (hbt.mono (Zn zB (Zl e_0.lt)))
  have RS_1 := r_0.keep hbt
  have SK_1 := k_0.keep hbt
  have CM_1 := c_0.keep hbt
  have G_1 := hf2
  have HS : (fun (W : World) => Bx W P 40 (fcs s f) ∧ Bx W B 42 (ccs c) ∧ W.cell? ⟨bb, o + j * 8, none⟩ = some (.int .i64 d.kd) ∧ W.cell? ⟨bb, o + j * 8 + 1, none⟩ = some (.int .i64 d.n) ∧ W.cell? ⟨bb, o + j * 8 + 2, none⟩ = some (.int .i64 d.t.got) ∧ W.cell? ⟨bb, o + j * 8 + 3, none⟩ = some (.slice d.A d.m d.k) ∧ W.cell? ⟨bb, o + j * 8 + 4, none⟩ = some (.int .i64 d.t.ace) ∧ W.cell? ⟨bb, o + j * 8 + 5, none⟩ = some (.int .u32 d.t.ce) ∧ W.cell? ⟨bb, o + j * 8 + 6, none⟩ = some (.int .i64 d.t.now) ∧ W.cell? ⟨bb, o + j * 8 + 7, none⟩ = some (.int .i64 d.t.growth)) _ := ⟨E_1, Y_1, dd_cells RS_1 hlt HGE.out⟩
  refine kP hK HS ?_
  clear hK K
  clear e_0 y_0 f_0 b_0 r_0 k_0 c_0 hbt
  refine ⟨by kernel_rfl, ?_⟩
  simp only [List.drop_succ_cons, List.drop_zero]
  go_wp2_with (refine fl_store rfl (.tmp 6) (.tmp 117) rfl rfl (fcs s2 (doneF f c d)) rfl E_1 rfl rfl rfl ?_)
  have g1 := fl_grown wt P (fcs s2 (doneF f c d)).toArray
  go_roundw
  case rel => exact ⟨j + 1, s2, doneF f c d, v', nc', cm', by omega, by go_num, rfl, fl_put E_1 _, Y_1.grown g1 (fun e => by cases e; omega), Zh ⟨G_1.grown g1 (off_row (by unfold OwnL; simp)), goti_grown CM_1 g1 (by cases hv : v'.ownBlock with
   | none => exact .inl rfl
   | some q => exact .inr (fun e => by cases e; have := CM_1.from _ hv; omega)), (done_bd d HFO.out).ok, HDN.out, HNC2.out⟩, BL_1.grown g1 (by have := E_1.lt; omega) (fun k hk => by cases hk; omega)⟩
  case measure => simp [intOf]; omega
end Go.Proofs.YtbijhkhkigdddaaGreat.flowOnce
