/- LeL3 FoHear. -/
import Derived.Test.YtbijhkhkigdddaaGreatP10
set_option linter.all false
set_option maxRecDepth 100000
set_option maxHeartbeats 32000000
namespace Go.Proofs.YtbijhkhkigdddaaGreat
open Go.RowKit Go.Shelf
attribute [local go_sem] Oper.semAt_some
theorem bxs_own {β : Type} (B : Nat) (t : TypeId) (f : β → List Value) : Own (fun s W => Bx W B t (f s)) := fun s X Y row hs hg hrow =>
 hs.grown hg (fun e => by obtain ⟨o, ho, hc⟩ := hrow B e.symm; rw [show X.heap[B]? = _ from hs] at ho; cases ho; cases hc)
theorem lfresh_of {w : World} {A : Option Addr} {len cap : Nat} {l : List Sp} (hs : Ss w A len cap l) : ∀ b o, A = some ⟨b, o, none⟩ → 0 < len → b < w.heap.size :=
 fun b o e h0 => by obtain ⟨b', o', e', hl, _⟩ := hs.rd.at_ h0; rw [e] at e'; cases e'; exact hl
theorem find_filter (l : List Sp) (f : Sp → Bool) {x : Sp} {rest : List Sp} (h : l.filter f = [x] ++ rest) : l.find? f = some x := by
 rw [← List.head?_filter, h]; rfl
theorem find_filter0 (l : List Sp) (f : Sp → Bool) (h : l.filter f = []) : l.find? f = none := by
 rw [← List.head?_filter, h]; rfl
theorem leof_any (span : Int) (A : Option Addr) (n c : Nat) (high : Int) (l : List Sp) (at_ : Int) (w : World) (hs : Ss w A n c l) :
  Calls Tryz.prog 177 #[.agg #[span, .slice A n c, high], at_] w fun e w' => e = .returned (.tuple #[.int .i64 (ofR ⟨span, l, high⟩ at_).1, .bool (ofR ⟨span, l, high⟩ at_).2]) ∧ Below w.heap.size w w' := by
 refine (callsIn_wide (n := 4)).1 ?_
 have h1 : 1 ≤ 4 := by omega
 have hlen := hs.rd.len
 refine callsIn_of_wp_marks Tryz.func177 rfl trivial ?_ rfl
 simp only [Tryz.ntmps177, List.size_toArray, List.length_cons, List.length_nil, Nat.reduceAdd, Nat.reduceSub, Array.replicate_succ, Array.replicate_zero, List.push_toArray, List.append_toArray, List.nil_append, List.cons_append]
 have e0 := Bx.new w 27 [span, .slice A n c, high]
 have a2 := Bx.new (w.alloc (.cells #[span, .slice A n c, high] 27)) 3 [.int .i64 0]
 have a3 := Bx.new ((w.alloc (.cells #[span, .slice A n c, high] 27)).alloc (.cells #[.int .i64 0] 3)) 4 [.bool false]
 simp only [World.size_alloc] at a2 a3
 have e1 := (e0.alloc (.cells #[.int .i64 0] 3)).alloc (.cells #[.bool false] 4)
 have a2' := a2.alloc (.cells #[.bool false] 4)
 have hb0 : Below w.heap.size w (((w.alloc (.cells #[span, .slice A n c, high] 27)).alloc (.cells #[.int .i64 0] 3)).alloc (.cells #[.bool false] 4)) := (((Below.refl _ w).alloc Zr _).alloc (by simp) _).alloc (by simp; omega) _
 have hs0 := ((hs.alloc (.cells #[span, .slice A n c, high] 27)).alloc (.cells #[.int .i64 0] 3)).alloc (.cells #[.bool false] 4)
 have hmay := lemay_any span A n c high l _ hs0
 obtain ⟨B, hB⟩ : ∃ B, w.heap.size = B := ⟨_, rfl⟩
 rw [hB] at e1 a2' a3 hb0 ⊢
 obtain ⟨x, hx⟩ : ∃ x, ofR ⟨span, l, high⟩ at_ = x := ⟨_, rfl⟩
 rw [hx]
 have HX := Zh hx
 clear e0 a2 hx
 refine wpIn_wide.2 ?_
 go_upto_region 1 with fail
 generalize ((w.alloc (.cells #[span, .slice A n c, high] 27)).alloc (.cells #[.int .i64 0] 3)).alloc (.cells #[.bool false] 4) = w0 at hmay e1 a2' a3 hb0 hs0 ⊢
 by_cases hm : lmay ⟨span, l, high⟩ = true
 case neg =>
  have hm' : lmay ⟨span, l, high⟩ = false := by simpa using hm
  have hz := of_no (v := ⟨span, l, high⟩) (a := at_) (fun h => hm h.1)
  have hx := HX.out
  rw [hz] at hx; subst hx
  rw [hm'] at hmay
  clear hz HX
  go_wp2_with (refine le_load rfl (.tmp 2) rfl rfl e1 rfl ?_)
  refine hmay.mono ?_; rintro e w1 ⟨rfl, hb1⟩; have q1 := e1.kept hb1; have a4 := a2'.kept hb1; have a5 := a3.kept hb1; have hs1 := hs0.keep hb1; have k1 := hb0.trans (hb1.mono (Zl e1.lt)); have hc4 := a4.cell 0 rfl; have hf4 := a4.free 0; have hc5 := a5.cell 0 rfl; have hf5 := a5.free 0
  go_wp2_with fail
  refine ⟨.tuple #[.int .i64 0, .bool false], ?_, rfl, ?_⟩
  ·have hc6 := World.cell?_setCell_same' (w1.setCell ⟨B + 1, 0, none⟩ (.int .i64 0)) ⟨B + 1 + 1, 0, none⟩ (.bool false) (by rw [(a5.far (by simp) _).cell 0 rfl]; rfl)
   have hc7 := (((a4.set 0 (.int .i64 0)).far (p := ⟨B + 1 + 1, 0, none⟩) (by simp) (.bool false))).cell 0 rfl
   simp [results, Tryz.f177, go_sem, hc6, hc7]
  ·exact (k1.setCell (p := ⟨B + 1, 0, none⟩) (by simp) _).setCell (p := ⟨B + 1 + 1, 0, none⟩) (by simp; omega) _
 case pos =>
 have HM := Zh hm
 rw [hm] at hmay
 cases ht : ltmB at_ with
 | false =>
  have hz := of_no (v := ⟨span, l, high⟩) (a := at_) (fun h => by have := (ltmB_iff at_).2 h.2; rw [ht] at this; cases this)
  have hx := HX.out
  rw [hz] at hx; subst hx
  clear hz HX hm
  go_wp2_with (refine le_load rfl (.tmp 2) rfl rfl e1 rfl ?_)
  refine hmay.mono ?_; rintro e w1 ⟨rfl, hb1⟩; have q1 := e1.kept hb1; have a4 := a2'.kept hb1; have a5 := a3.kept hb1; have hs1 := hs0.keep hb1; have k1 := hb0.trans (hb1.mono (Zl e1.lt)); have hc4 := a4.cell 0 rfl; have hf4 := a4.free 0; have hc5 := a5.cell 0 rfl; have hf5 := a5.free 0
  go_wp2_with (go_at_call 158; refine (rec_any _ _).mono ?_; rintro e wx ⟨rfl, rfl⟩)
  refine ⟨.tuple #[.int .i64 0, .bool false], ?_, rfl, ?_⟩
  ·have hc6 := World.cell?_setCell_same' (w1.setCell ⟨B + 1, 0, none⟩ (.int .i64 0)) ⟨B + 1 + 1, 0, none⟩ (.bool false) (by rw [(a5.far (by simp) _).cell 0 rfl]; rfl)
   have hc7 := (((a4.set 0 (.int .i64 0)).far (p := ⟨B + 1 + 1, 0, none⟩) (by simp) (.bool false))).cell 0 rfl
   simp [results, Tryz.f177, go_sem, hc6, hc7]
  ·exact (k1.setCell (p := ⟨B + 1, 0, none⟩) (by simp) _).setCell (p := ⟨B + 1 + 1, 0, none⟩) (by simp; omega) _
 | true =>
 have hok := (lmay_iff _).1 hm
 have htm := (ltmB_iff at_).1 ht
 have hz := of_yes (v := ⟨span, l, high⟩) (a := at_) ⟨hm, htm⟩
 have hx := HX.out
 rw [hz] at hx
 have HZ := Zh hx
 have HT := Zh htm
 have hn : n ≤ 100 := by have := hok.len; dsimp only at this; omega
 have HO := Zh hok
 clear hz HX hm hx hok htm
 go_wp2_with (refine le_load rfl (.tmp 2) rfl rfl e1 rfl ?_)
 refine hmay.mono ?_; rintro e w1 ⟨rfl, hb1⟩; have q1 := e1.kept hb1; have a4 := a2'.kept hb1; have a5 := a3.kept hb1; have hs1 := hs0.keep hb1; have k1 := hb0.trans (hb1.mono (Zl e1.lt)); have hc4 := a4.cell 0 rfl; have hf4 := a4.free 0; have hc5 := a5.cell 0 rfl; have hf5 := a5.free 0
 go_upto_region 3 with (go_at_call 158; refine (rec_any _ _).mono ?_; rintro e wx ⟨rfl, rfl⟩)
 go_wp2_with (first | (refine le_load rfl (.tmp 2) rfl rfl q1 rfl ?_) | (go_at_call 207; refine (callsIn_wide.1 (count_in Fence.wide 4 trivial rfl span high at_ A n c _)).mono ?_; rintro e w' ⟨rfl, rfl⟩))
 refine (wpIn_wide (n := 4)).1 ?_
 obtain ⟨LB, hLB⟩ : ∃ LB, w1.heap.size = LB := ⟨_, rfl⟩
 have hBL : B + 2 < LB := by rw [← hLB]; have := a5.lt; omega
 have bL := (Bx.new w1 27 [span, .slice A n c, high]).alloc (.cells #[at_] 3)
 have bT := Bx.new (w1.alloc (.cells #[span, .slice A n c, high] 27)) 3 [at_]
 rw [World.size_alloc] at bT
 have r4 := (a4.alloc (.cells #[span, .slice A n c, high] 27)).alloc (.cells #[at_] 3)
 have r5 := (a5.alloc (.cells #[span, .slice A n c, high] 27)).alloc (.cells #[at_] 3)
 have k2 := (k1.alloc (by omega) (.cells #[span, .slice A n c, high] 27)).alloc (by simp; omega) (.cells #[at_] 3)
 have hsz : ((w1.alloc (.cells #[span, .slice A n c, high] 27)).alloc (.cells #[at_] 3)).heap.size = LB + 2 := by simp [hLB]
 rw [hLB] at bL bT ⊢
 generalize (w1.alloc (.cells #[span, .slice A n c, high] 27)).alloc (.cells #[at_] 3) = w2 at bL bT r4 r5 k2 hsz ⊢
 have hBw : B ≤ w.heap.size := by omega
 have k2' : Below w.heap.size w w2 := by rw [hB]; exact k2
 refine wpIn_rangeFunc_ownH rfl h1 (gf := 224) (lb := #[.pointer (some ⟨LB, 0, none⟩), .pointer (some ⟨LB + 1, 0, none⟩)]) rfl trivial (enters_of Tryz.func224 (by kernel_rfl) rfl)
  (count_stops Fence.wide (4 - 1) trivial rfl (by omega) LB (LB + 1) B A n c l span high at_ (by omega) w2 HT.out.1 HT.out.2 (fun i hi => ⟨(HO.out.pts i (by dsimp only; omega)).a0, (HO.out.pts i (by dsimp only; omega)).a1⟩) (by omega) bL bT (hs.rd.keep k2') (fun b o e h0 => by have := lfresh_of hs b o e h0; omega)) Kept.trans (keptK_b (by omega) (by omega) (by omega)) (Zb) (fun _ => rfl)
  (fun pre W => ((pre = [] ∧ Bx W (B + 1) 3 [.int .i64 0] ∧ Bx W (B + 1 + 1) 4 [.bool false]) ∧ Below B w W) ∧ LB + 2 ≤ W.heap.size)
  (fun c pre W => ((c = .ret ∧ ∃ x, pre = [x] ∧ Bx W (B + 1) 3 [x.2] ∧ Bx W (B + 1 + 1) 4 [.bool true]) ∧ Below B w W) ∧ LB + 2 ≤ W.heap.size)
  (OwnFrom.and (OwnFrom.and (Own.from (fun s X Y row hs hg hr => ⟨hs.1, bxs_own _ _ (fun _ => [.int .i64 0]) s X Y row hs.2.1 hg hr, bxs_own _ _ (fun _ => [.bool false]) s X Y row hs.2.2 hg hr⟩) _) (ownFrom_below hBw (by omega))) (fun s X Y row hs hg _ => Zn hs hg.size))
  (fun c => OwnFrom.and (OwnFrom.and (Own.from (fun s X Y row hs hg hr => by obtain ⟨hc, x, e1, e2, e3⟩ := hs; exact ⟨hc, x, e1, bxs_own _ _ (fun _ => [x.2]) s X Y row e2 hg hr, bxs_own _ _ (fun _ => [.bool true]) s X Y row e3 hg hr⟩) _) (ownFrom_below hBw (by omega))) (fun s X Y row hs hg _ => Zn hs hg.size))
  ⟨⟨⟨rfl, r4, r5⟩, k2⟩, by omega⟩
  (fun x a' W => ∃ P, LB + 2 ≤ P ∧ Bx W P 134 [x.1, x.2] ∧ a' = { tmps := #[.agg #[span, .slice A n c, high], at_, .pointer (some ⟨B, 0, none⟩), undef, .pointer (some ⟨B + 1, 0, none⟩), .pointer (some ⟨B + 1 + 1, 0, none⟩), .pointer (some ⟨P, 0, none⟩), .agg #[span, .slice A n c, high], .bool true, .bool false, .bool false, at_, .bool true, .bool false, .bool false, .agg #[span, .slice A n c, high], at_, .func (.func 224) #[] #[.pointer (some ⟨LB, 0, none⟩), .pointer (some ⟨LB + 1, 0, none⟩)], .agg #[x.1, x.2], undef, undef], defers := [] })
  (fun x a' _ X Y row hs hg hr => by obtain ⟨P, e1, e2, e3⟩ := hs; exact ⟨P, e1, bxs_own P _ (fun (_ : Unit) => [x.1, x.2]) () X Y row e2 hg (fun r e => (hr r e).2), e3⟩)
  ?assign ?body ?done ?stop
 case assign =>
  rintro r pre x W K ⟨⟨⟨hp, bI, bO⟩, hB1⟩, hSz⟩ hK
  gi_wp2
  exact hK _ _ ((KeepsOthers.alloc _ _).from _) (Kept.alloc (by omega) (by omega) (by omega) _) ⟨⟨⟨hp, bI.alloc _, bO.alloc _⟩, hB1.alloc (by omega) _⟩, by simp; omega⟩ ⟨W.heap.size, hSz, Bx.new W _ [x.1, x.2], rfl⟩
 case body =>
  rintro r pre x a' W hl hr ⟨⟨⟨rfl, bI, bO⟩, hB1⟩, hSz⟩ ⟨P, hP, bP, rfl⟩ hlt
  have cP := bP.cell 1 rfl
  have cI := bI.cell 0 rfl; have fI := bI.free 0
  have cO := bO.cell 0 rfl; have fO := bO.free 0
  gi_wp2
  exact ⟨((KeepsOthers.setCell _ _ _).trans (KeepsOthers.setCell _ _ _)).from _, ⟨⟨rfl, x, rfl, (bI.set 0 (.int .i64 x.2)).far (by simp) _, (bO.far (by simp) _).set 0 (.bool true)⟩, (hB1.setCell (p := ⟨B + 1, 0, none⟩) (by simp) _).setCell (p := ⟨B + 1 + 1, 0, none⟩) (by simp; omega) _⟩, by simp; omega⟩
 case done =>
  rintro D ys W hD rfl ⟨⟨⟨hp, bI, bO⟩, hB1⟩, hSz⟩ hK
  have hx := HZ.out
  rw [find_filter0 _ _ hp] at hx
  replace hx : ((0 : Int), false) = x := hx
  subst hx
  clear hp HZ
  have cI := bI.cell 0 rfl; have fI := bI.free 0
  have cO := bO.cell 0 rfl; have fO := bO.free 0
  go_wp2_with fail
  have hK' := ((KeepsOthers.setCell W ⟨B + 1, 0, none⟩ (.int .i64 0)).trans (KeepsOthers.setCell _ ⟨B + 1 + 1, 0, none⟩ (.bool false))).same D _ hK rfl
  have r4 := (bI.set 0 (.int .i64 0)).far (p := ⟨B + 1 + 1, 0, none⟩) (by simp) (.bool false)
  have r5 := (bO.far (p := ⟨B + 1, 0, none⟩) (by simp) (.int .i64 0)).set 0 (.bool false)
  have rB := (hB1.setCell (p := ⟨B + 1, 0, none⟩) (by simp) (.int .i64 0)).setCell (p := ⟨B + 1 + 1, 0, none⟩) (by simp; omega) (.bool false)
  refine ⟨by simp, .inl ⟨_, _, rfl, run_takeDeferred hK', ?_⟩⟩
  have q4 := cell_kept (r4.cell 0 rfl) (grownBy_putObj' _ D (.deferred none)) (fun r e => by cases e; exact ⟨_, hK', rfl⟩)
  have q5 := cell_kept (r5.cell 0 rfl) (grownBy_putObj' _ D (.deferred none)) (fun r e => by cases e; exact ⟨_, hK', rfl⟩)
  exact ⟨.tuple #[.int .i64 0, .bool false], by simp [results, Tryz.f177, go_sem, q4, q5], rfl, rB.trans (belowK_b (w := w2) (by omega) _ D _ _ hD hK' rfl rfl)⟩
 case stop =>
  rintro D c pre W hD ⟨rest, hk⟩ ⟨⟨⟨rfl, x_1, rfl, bI, bO⟩, hB1⟩, hSz⟩ hK
  have hx := HZ.out
  rw [find_filter _ _ hk] at hx
  replace hx : (x_1.2, true) = x := hx
  subst hx
  clear hk HZ
  refine wpIn_wide.2 ?_
  go_wp2_with fail
  refine ⟨by simp, .inl ⟨_, _, rfl, run_takeDeferred hK, ?_⟩⟩
  have q4 := cell_kept (bI.cell 0 rfl) (grownBy_putObj' _ D (.deferred none)) (fun r e => by cases e; exact ⟨_, hK, rfl⟩)
  have q5 := cell_kept (bO.cell 0 rfl) (grownBy_putObj' _ D (.deferred none)) (fun r e => by cases e; exact ⟨_, hK, rfl⟩)
  exact ⟨.tuple #[x_1.2, .bool true], by simp [results, Tryz.f177, go_sem, q4, q5], rfl, hB1.trans (belowK_b (w := w2) (by omega) _ D _ _ hD hK rfl rfl)⟩
end Go.Proofs.YtbijhkhkigdddaaGreat
namespace Go.Proofs.YtbijhkhkigdddaaGreat
open Go.RowKit
theorem left_link {l : List Prt} {got : Int} {sk : List Sp} (h : smayB l = true) (h0 : 0 < (leftL got sk l).length) : (spanR (leftL got sk l)).2 = (spanR l).2 := by
 obtain ⟨h1, h2⟩ := (smay_iff l).1 h
 have hm := left_may (got := got) (sk := sk) h
 obtain ⟨j, hj, e⟩ := stay_drop got l (chain_pw h2)
 have hL : leftL got sk l = (l.drop j).map (comeP sk) := by unfold leftL; rw [e]
 have hlen : (leftL got sk l).length = l.length - j := by rw [hL, List.length_map, List.length_drop]
 rw [span_last hm h0, span_last h (by omega), hlen, hL, ge_map _ (by rw [List.length_drop]; omega), ge_drop, comeP_end, show j + (l.length - j - 1) = l.length - 1 by omega]
theorem told_ok {l : List Prt} {got : Int} {sk : List Sp} (hm : smayB l = true) {x : Prt} (hx : x ∈ toldL got sk l) : POk x ∧ x ∈ l ∧ x.came = false := by
 have h2 := List.mem_filter.1 (show x ∈ l.filter (toldC got sk) from hx)
 refine ⟨(mem_in hm h2.1).1, h2.1, ?_⟩
 have h3 := h2.2
 unfold toldC at h3
 simp only [Bool.and_eq_true, Bool.not_eq_true'] at h3
 exact h3.2
theorem left_flight {l : List Prt} (got : Int) (sk : List Sp) (h : smayB l = true) : flightR (leftL got sk l) ≤ flightR l := by
 have h1 := left_fly got sk l l.length Zr
 rw [List.take_length] at h1
 have h2 := tellSum_bd (t := toldL got sk l) (fun i hi => (told_ok h (ge_mem hi)).1) (toldL got sk l).length Zr
 rw [List.take_length] at h2
 rw [flight_eq h, flight_eq (left_may h)]
 omega
theorem lenSum_snoc (l : List Prt) (x : Prt) : lenSum (l ++ [x]) = lenSum l + x.len := by unfold lenSum; rw [List.foldl_append]; rfl
theorem lenSum_bd {l : List Prt} (h : ∀ x ∈ l, POk x) : ∀ k, k ≤ l.length → 0 ≤ lenSum (l.take k) ∧ lenSum (l.take k) ≤ 1460 * (k : Int) := by
 intro k
 induction k with
 | zero => intro _; exact ⟨Int.le_refl _, by simp [lenSum]⟩
 | succ k ih =>
  intro hk
  have h1 := ih (by omega)
  have h2 := h _ (ge_mem (show k < l.length by omega))
  have := h2.l1; have := h2.l2
  rw [take_ge (by omega), lenSum_snoc]
  omega
theorem told_sum {l : List Prt} {got : Int} {sk : List Sp} (hm : smayB l = true) : 0 ≤ lenSum (toldL got sk l) ∧ lenSum (toldL got sk l) ≤ 730000 ∧ (toldL got sk l).length ≤ 500 := by
 have h1 := lenSum_bd (l := toldL got sk l) (fun x hx => (told_ok hm hx).1) _ Zr
 rw [List.take_length] at h1
 have h2 := told_len got sk l
 have h3 := ((smay_iff l).1 hm).1
 omega
theorem withL_ok {f : Fv} {c : Cf} {l : List Prt} (h : FvOk f c) (hl : smayB l = true) (hs : 0 < l.length → (spanR l).2 = f.next) : FvOk { f with l := l } c :=
 ⟨h.fine, hl, h.r, h.b, h.m, h.d, h.k, h.w, h.t, h.g, h.next, h.rd, hs⟩
theorem leftF_ok {f : Fv} {c : Cf} (got : Int) (sk : List Sp) (h : FvOk f c) : FvOk { f with l := leftL got sk f.l } c :=
 withL_ok h (left_may h.l) (fun h0 => by
  have hn : 0 < f.l.length := Nat.lt_of_lt_of_le h0 (left_lenP got sk f.l)
  rw [left_link h.l h0]; exact h.link hn)
theorem metOr_ok {b : Lv} {now n : Int} (h : lmay b = true) : lmay (metOr b now n) = true := by
 unfold metOr
 by_cases k : MetOk b now n
 ·obtain ⟨h1, h2⟩ := met_valid k
  rw [if_pos h2]
  exact (lmay_iff _).2 h1
 ·rw [met_no k, if_neg (by decide)]; exact h
theorem push_ok {l : List Int} {d : Int} (h : mayG l = true) (h0 : 0 ≤ d) (h1 : d ≤ 262144) : mayG (pushG l d) = true := by
 have hl := ((mayG_iff l).1 h).2
 have ha : ∀ x ∈ l ++ [d], d18 x = true := fun x hx => by
  rcases List.mem_append.1 hx with hx | hx
  ·unfold mayG allD at h
   rw [Bool.and_eq_true, List.all_eq_true] at h
   exact h.1 x hx
  ·rw [List.mem_singleton] at hx; subst hx; exact (d18_iff _).2 ⟨h0, h1⟩
 unfold mayG allD
 rw [Bool.and_eq_true, List.all_eq_true, decide_eq_true_eq]
 unfold pushG
 split
 ·exact ⟨fun x hx => ha x (List.mem_of_mem_drop hx), by rw [List.length_drop, List.length_append, List.length_singleton]; omega⟩
 ·exact ⟨ha, by rw [List.length_append, List.length_singleton]; omega⟩
theorem over_bd (n bs : Int) : 0 ≤ overF n bs ∧ overF n bs ≤ 262144 := by unfold overF; omega
theorem tookX_ok {f : Fv} {c : Cf} {x : Prt} {now : Int} (h : FvOk f c) (hx : x.at_ ≤ now) : FvOk (tookX f c x now) c := by
 have hb := over_bd (b40 (now - x.at_)) (ofR (metOr f.b now (b40 (now - x.at_))) now).1
 have ha : ArgOk (b40 (now - x.at_)) c.least c.longest := by
  have := h.fine.l0; have := h.fine.l1; have := h.fine.l2
  unfold ArgOk b40
  omega
 refine ⟨h.fine, h.l, ?_, metOr_ok h.b, h.m, h.d, h.k, h.w, h.t, ?_, h.next, h.rd, h.link⟩
 ·show rtB (smp f.r (b40 (now - x.at_)) c.least c.longest).1 = true
  rw [smp_ok h.r ha]
  exact (rtB_iff _).2 (smp_valid ((rtB_iff _).1 h.r) ha)
 ·show mayG (addG f.dl _).1 = true
  rw [add_ok ⟨h.g, hb⟩]
  exact push_ok h.g hb.1 hb.2
theorem tookF_ok {f : Fv} {c : Cf} {told : List Prt} {now : Int} (h : FvOk f c) : FvOk (tookF f c told now) c := by
 unfold tookF
 split
 ·exact h
 ·split
  ·exact h
  ·exact tookX_ok h (by omega)
theorem rkcame_may {v : Rkv} {x : Prt} {now bs : Int} (h : RkCameOk v x now bs) : rkmay (newR v x now bs) = true := by
 obtain ⟨h1, h2, h3, h4, h5⟩ := h
 have hv := (rkmay_iff v).1 h1
 have hp := pok_end ((oneB_iff x).1 h2)
 have ha := (t60_iff _).1 ((oneB_iff x).1 h2).at_
 have hn := (t60_iff _).1 h4
 have hf : 0 ≤ farR v x ∧ farR v x ≤ 2305843009213693952 := by
  have := hv.f0; have := hv.f1
  unfold farR; split <;> omega
 unfold newR
 split
 ·exact (rkmay_iff _).2 ⟨hv.a0, hv.a1, hv.k0, hv.k1, hv.e0, hf.1, hv.e1, hf.2, hv.q0, hv.q1⟩
 ·split
  ·exact (rkmay_iff _).2 ⟨ha.1, ha.2, by dsimp only; omega, by dsimp only; omega, by dsimp only; omega, hf.1, by dsimp only; omega, hf.2, hv.q0, hv.q1⟩
  ·exact (rkmay_iff _).2 ⟨hv.a0, hv.a1, hv.k0, hv.k1, hv.e0, hf.1, hv.e1, hf.2, hv.q0, hv.q1⟩
theorem cameK_ok {k : Rkv} {x : Prt} {now bs : Int} (h : rkmay k = true) : rkmay (cameK now bs k x) = true := by
 unfold cameK rkcameR
 by_cases g : RkCameOk k x now bs
 ·rw [if_pos g, if_pos rfl]; exact rkcame_may g
 ·rw [if_neg g, if_neg (by decide)]; exact h
theorem cameKs_ok {now bs : Int} : ∀ (l : List Prt) {k : Rkv}, rkmay k = true → rkmay (l.foldl (cameK now bs) k) = true
 | [], _, h => h
 | x :: t, _, h => cameKs_ok t (cameK_ok h)
theorem cameF_ok {f : Fv} {c : Cf} {told : List Prt} {now : Int} (h : FvOk f c) : FvOk (cameF f told now) c :=
 ⟨h.fine, h.l, h.r, h.b, h.m, h.d, cameKs_ok told h.k, h.w, h.t, h.g, h.next, h.rd, h.link⟩
structure Stay (f g : Fv) : Prop where
 up : g.up = f.up
 l : g.l = f.l
 next : g.next = f.next
 cw : g.cw = f.cw
 th : g.th = f.th
 rd : g.rd = f.rd
 cut : g.cut = f.cut
 m : g.m = f.m
 d : g.d = f.d
theorem took_stay (f : Fv) (c : Cf) (told : List Prt) (now : Int) : Stay f (tookF f c told now) := by
 unfold tookF
 split
 ·exact ⟨rfl, rfl, rfl, rfl, rfl, rfl, rfl, rfl, rfl⟩
 ·split <;> exact ⟨rfl, rfl, rfl, rfl, rfl, rfl, rfl, rfl, rfl⟩
theorem step2_stay (f : Fv) (c : Cf) (t : Tv) : Stay { f with l := leftL t.got t.sk f.l } (step2 f c t) := by
 have := took_stay { f with l := leftL t.got t.sk f.l } c (toldL t.got t.sk f.l) t.now
 exact ⟨this.up, this.l, this.next, this.cw, this.th, this.rd, this.cut, this.m, this.d⟩
theorem step2_ok {f : Fv} {c : Cf} (t : Tv) (h : FvOk f c) : FvOk (step2 f c t) c := cameF_ok (tookF_ok (leftF_ok _ _ h))
theorem sampF_ok {f : Fv} {c : Cf} (told : List Prt) (h : FvOk f c) : FvOk (sampF f told) c := by
 unfold sampF
 split
 ·refine ⟨h.fine, h.l, h.r, h.b, h.m, ?_, h.k, h.w, h.t, h.g, h.next, h.rd, h.link⟩
  show ramay (if _ then _ else _) = true
  split
  ·next e =>
   by_cases k : SampOk f.d (ge told (told.length - 1)).total (ge told (told.length - 1)).last
   ·exact (ramay_iff _).2 (samp_valid k)
   ·rw [samp_no k] at e; cases e
  ·exact h.d
 ·exact h
theorem samp_stay (f : Fv) (told : List Prt) : (sampF f told).l = f.l ∧ (sampF f told).next = f.next ∧ (sampF f told).cw = f.cw ∧ (sampF f told).th = f.th ∧ (sampF f told).cut = f.cut ∧ (sampF f told).up = f.up ∧ (sampF f told).rd = f.rd := by
 unfold sampF; split <;> exact ⟨rfl, rfl, rfl, rfl, rfl, rfl, rfl⟩
structure WinOk (f g : Fv) (c : Cf) : Prop where
 w : xmB g.cw g.th c.mss c.most = true
 less : f.th ≤ f.cw → g.cw ≤ f.cw ∨ (g.cut = true ∧ g.cw ≤ f.cw + c.mss)
 cut : f.cut = true → g.cut = true
theorem markF_win {f : Fv} {c : Cf} {n bytes : Int} (h : FvOk f c) (b0 : 0 ≤ bytes) (b1 : bytes ≤ 1099511627776) : WinOk f (markF f c n bytes) c ∧ (f.th ≤ f.cw → (markF f c n bytes).cw ≤ f.cw) := by
 unfold markF
 split
 ·have hm := (mmay_iff _).1 h.m
  have hp : 0 ≤ cutPart f.m ∧ cutPart f.m ≤ 1024 := by have := hm.t0; have := hm.t1; unfold cutPart; split <;> omega
  obtain ⟨z, hz, h1, _, _, h4, _⟩ := cut_facts h.w hp.1 hp.2
  rw [hz]
  exact ⟨⟨h4, fun _ => .inl h1, fun _ => rfl⟩, fun _ => h1⟩
 ·split
  ·obtain ⟨a, ha, h1, h2, h3⟩ := slow_facts h.w b0 b1
   rw [ha]
   have hle : f.th ≤ f.cw → a ≤ f.cw := fun hh => by rcases h2 with h2 | h2 <;> omega
   exact ⟨⟨h3, fun hh => .inl (hle hh), fun e => e⟩, hle⟩
  ·exact ⟨⟨h.w, fun _ => .inl (Int.le_refl _), fun e => e⟩, fun _ => Int.le_refl _⟩
theorem mark_stay (f : Fv) (c : Cf) (n bytes : Int) : (markF f c n bytes).l = f.l ∧ (markF f c n bytes).next = f.next ∧ (markF f c n bytes).up = f.up ∧ (markF f c n bytes).rd = f.rd := by
 unfold markF
 split
 ·exact ⟨rfl, rfl, rfl, rfl⟩
 ·split <;> exact ⟨rfl, rfl, rfl, rfl⟩
theorem markF_ok {f : Fv} {c : Cf} {n bytes : Int} (h : FvOk f c) (b0 : 0 ≤ bytes) (b1 : bytes ≤ 1099511627776) : FvOk (markF f c n bytes) c := by
 have hw := (markF_win (n := n) h b0 b1).1.w
 revert hw
 unfold markF
 split
 ·exact fun hw => ⟨h.fine, h.l, h.r, h.b, h.m, h.d, h.k, hw, h.t, h.g, h.next, h.rd, h.link⟩
 ·split
  ·exact fun hw => ⟨h.fine, h.l, h.r, h.b, h.m, h.d, h.k, hw, h.t, h.g, h.next, h.rd, h.link⟩
  ·exact fun _ => h
theorem b40_bd {n : Int} (h : 0 ≤ n) : 0 ≤ b40 n ∧ b40 n ≤ 1099511627776 := by unfold b40; omega
theorem slackF_bd {f : Fv} {c : Cf} (h : FvOk f c) (now : Int) : 0 ≤ slackF f now ∧ slackF f now ≤ 1099511627776 := by
 have hr := ((rtB_iff _).1 h.r).s0
 have hb := b40_bd hr
 have := slack_bd (v := f.k) (a := b40 (ofR f.b now).1) hb.1
 unfold slackF
 omega
theorem lostOk_of {f : Fv} {c : Cf} {now : Int} (h : FvOk f c) (hn : t60 now = true) : LostOk f.k f.l now (slackF f now) := ⟨h.k, h.l, hn, (brief_iff _).2 (slackF_bd h now)⟩
theorem lostL_ok {f : Fv} {c : Cf} {now : Int} (h : FvOk f c) (hn : t60 now = true) : (lostR f.k f.l now (slackF f now)).1 = lostL f.k now (slackF f now) f.l ∧ smayB (lostL f.k now (slackF f now) f.l) = true ∧ (0 < (lostL f.k now (slackF f now) f.l).length → (spanR (lostL f.k now (slackF f now) f.l)).2 = f.next) ∧ flightR (lostL f.k now (slackF f now) f.l) ≤ flightR f.l := by
 refine ⟨by unfold lostR; rw [if_pos (lostOk_of h hn)], lost_may h.l, fun h0 => ?_, lost_flight h.l⟩
 rw [lostL_len] at h0
 rw [← h.link h0]
 exact (map_may (lostP f.k now (slackF f now)) (fun x => lostP_seq) (fun x => lostP_end) (fun x hx => lostP_ok hx) h.l).2 h0
theorem lostF_ok {f : Fv} {c : Cf} {now : Int} (h : FvOk f c) (hn : t60 now = true) : FvOk (lostF f c now) c := by
 obtain ⟨e1, e2, e3, _⟩ := lostL_ok h hn
 unfold lostF
 split
 ·obtain ⟨z, m, hz, h1, _, h4⟩ := loss_facts (all := false) h.w
  rw [e1, hz]
  exact ⟨h.fine, e2, h.r, h.b, h.m, h.d, h.k, h4, h.t, h.g, h.next, h.rd, e3⟩
 ·rw [e1]
  exact withL_ok h e2 e3
theorem lostF_stay {f : Fv} {c : Cf} {now : Int} (h : FvOk f c) (hn : t60 now = true) : (lostF f c now).l = lostL f.k now (slackF f now) f.l ∧ (lostF f c now).next = f.next ∧ (lostF f c now).up = f.up ∧ (lostF f c now).rd = f.rd := by
 obtain ⟨e1, _⟩ := lostL_ok h hn
 unfold lostF
 split <;> exact ⟨e1, rfl, rfl, rfl⟩
theorem lostF_win {f : Fv} {c : Cf} {now : Int} (h : FvOk f c) (hn : t60 now = true) : (lostF f c now).cw ≤ f.cw ∧ (lostF f c now).cut = f.cut ∨ ((lostF f c now).cut = true ∧ f.cut = false ∧ (lostF f c now).cw ≤ f.cw + c.mss) := by
 unfold lostF
 split
 ·next hh =>
  right
  have hv := (xmB_iff _ _ _ _).1 h.w
  rw [loss_ok h.w]
  refine ⟨rfl, hh.2, ?_⟩
  show (if (false : Bool) = true then c.mss else lossN f.cw c.mss c.most) ≤ _
  rw [if_neg (by simp)]
  unfold lossN
  omega
 ·exact .inl ⟨Int.le_refl _, rfl⟩
theorem turnF_ok {f : Fv} {c : Cf} {told : List Prt} {n bytes now : Int} (h : FvOk f c) (b0 : 0 ≤ bytes) (b1 : bytes ≤ 1099511627776) (hn : t60 now = true) : FvOk (turnF f c told n bytes now) c := by
 unfold turnF
 split
 ·exact lostF_ok (markF_ok h b0 b1) hn
 ·exact markF_ok h b0 b1
theorem turnF_win {f : Fv} {c : Cf} {told : List Prt} {n bytes now : Int} (h : FvOk f c) (b0 : 0 ≤ bytes) (b1 : bytes ≤ 1099511627776) (hn : t60 now = true) : WinOk f (turnF f c told n bytes now) c := by
 have h1 := markF_win (n := n) h b0 b1
 have h2 := markF_ok (n := n) h b0 b1
 unfold turnF
 split
 ·have h3 := lostF_win h2 hn
  have h4 := lostF_ok h2 hn
  refine ⟨h4.w, fun hh => ?_, fun e => ?_⟩
  ·have := h1.2 hh
   rcases h3 with h3 | h3
   ·left; omega
   ·right; exact ⟨h3.1, by omega⟩
  ·have := h1.1.cut e
   rcases h3 with h3 | h3
   ·rw [h3.2]; exact this
   ·exact h3.1
 ·exact h1.1
theorem turnF_stay {f : Fv} {c : Cf} {told : List Prt} {n bytes now : Int} (h : FvOk f c) (b0 : 0 ≤ bytes) (b1 : bytes ≤ 1099511627776) (hn : t60 now = true) : (turnF f c told n bytes now).next = f.next ∧ (turnF f c told n bytes now).up = f.up ∧ (turnF f c told n bytes now).rd = f.rd ∧ flightR (turnF f c told n bytes now).l ≤ flightR f.l ∧ ((turnF f c told n bytes now).l = f.l ∨ ∃ k s, (turnF f c told n bytes now).l = lostL k now s f.l) := by
 obtain ⟨a1, a2, a3, a4⟩ := mark_stay f c n bytes
 have h2 := markF_ok (n := n) h b0 b1
 unfold turnF
 split
 ·obtain ⟨c1, c2, c3, c4⟩ := lostF_stay h2 hn
  have c5 := (lostL_ok h2 hn).2.2.2
  rw [c1, c2, c3, c4]
  refine ⟨a2, a3, a4, by rw [← a1]; exact c5, .inr ⟨(markF f c n bytes).k, slackF (markF f c n bytes) now, by rw [a1]⟩⟩
 ·exact ⟨a2, a3, a4, by rw [a1]; exact Int.le_refl _, .inl a1⟩
theorem queue_bd {cwnd srtt base mss : Int} : 0 ≤ queueR cwnd srtt base mss ∧ queueR cwnd srtt base mss ≤ 1073741824 := by
 by_cases h : QuOk cwnd srtt base mss
 ·have hb := qb_bd h
  obtain ⟨a, b, c, d, e, f, g, i⟩ := h
  rw [queue_ok ⟨a, b, c, d, e, f, g, i⟩]
  have h2 : (srtt - base) * cwnd / srtt / mss ≤ (srtt - base) * cwnd / srtt := Int.ediv_le_self _ hb.1
  exact ⟨Int.ediv_nonneg hb.1 (by omega), by omega⟩
 ·rw [queue_no h]; omega
theorem growF_ok {f : Fv} {c : Cf} {growth now : Int} (h : FvOk f c) (g0 : 0 ≤ growth) (g1 : growth ≤ 1048576) : xmB (growF f c growth now).1 (growF f c growth now).2.1 c.mss c.most = true ∧ (growF f c growth now).1 ≤ f.cw + c.mss := by
 have := h.fine.m0
 unfold growF
 split
 ·have hq := queue_bd (cwnd := f.cw) (srtt := f.r.srtt) (base := (ofR f.b now).1) (mss := c.mss)
  obtain ⟨a, t, e, h1, h2, _⟩ := vrnd_facts (c := f.cw) (t := f.th) (q := queueR f.cw f.r.srtt (ofR f.b now).1 c.mss) (a := growth) (mss := c.mss) (most := c.most) ⟨h.w, hq.1, hq.2, g0, by omega⟩
  rw [e]
  exact ⟨h1, by show a ≤ _; omega⟩
 ·obtain ⟨a, e, h1, h2, h3⟩ := rnd_facts (b := min growth c.mss) h.w (by omega) (by omega)
  rw [e]
  exact ⟨h3, by show a ≤ _; omega⟩
theorem roundF_ok {f : Fv} {c : Cf} {growth now : Int} (h : FvOk f c) (g0 : 0 ≤ growth) (g1 : growth ≤ 1048576) : FvOk (roundF f c growth now) c := by
 have hg := growF_ok (now := now) h g0 g1
 refine ⟨h.fine, h.l, h.r, h.b, ?_, h.d, h.k, ?_, h.t, h.g, h.next, h.next, h.link⟩
 ·show mmay (roundR f.m).1 = true
  unfold roundR
  rw [if_pos h.m]
  exact (mmay_iff _).2 (round_valid ((mmay_iff _).1 h.m))
 ·show xmB (if f.cut = true then f.cw else _) (if f.cut = true then f.th else _) c.mss c.most = true
  split
  ·exact h.w
  ·exact hg.1
theorem roundF_win {f : Fv} {c : Cf} {growth now : Int} (h : FvOk f c) (g0 : 0 ≤ growth) (g1 : growth ≤ 1048576) : (f.cut = true → (roundF f c growth now).cw = f.cw) ∧ (roundF f c growth now).cw ≤ f.cw + c.mss := by
 have hg := growF_ok (now := now) h g0 g1
 have := h.fine.m0
 show (f.cut = true → (if f.cut = true then f.cw else _) = f.cw) ∧ (if f.cut = true then f.cw else _) ≤ _
 refine ⟨fun e => if_pos e, ?_⟩
 split
 ·omega
 ·exact hg.2
structure HearOk (f : Fv) (c : Cf) (t : Tv) (g : Fv) (told : List Prt) : Prop where
 ok : FvOk g c
 told : told = toldL t.got t.sk f.l
 up : f.up = true
 may : mayB t.sk = true
 next : g.next = f.next
 fly : flightR g.l ≤ flightR f.l
 win : f.th ≤ f.cw → g.cw ≤ f.cw + c.mss
 l : g.l = leftL t.got t.sk f.l ∨ ∃ k s, g.l = lostL k t.now s (leftL t.got t.sk f.l)
 gup : g.up = true
theorem heard_valid {f : Fv} {c : Cf} {t : Tv} (hh : HrOk f c t) (hu : f.up = true) (h0 : (heardR f.l t.got t.sk).2.2 = 0) (h1 : (markH (step2 f c t) t (toldL t.got t.sk f.l)).2.2 = 0) (h2 : (rateH (step2 f c t) t (toldL t.got t.sk f.l)).2 = 0) :
  HearOk f c t (step7 (step2 f c t) c t (toldL t.got t.sk f.l)) (toldL t.got t.sk f.l) := by
 obtain ⟨hm, hn, g0, g1, a0, a1, ce⟩ := hh
 have hf := (fmay_iff f c).1 hm
 have hmay : mayB t.sk = true := by
  cases hk : mayB t.sk with
  | true => rfl
  | false => rw [heard_no (fun k => by rw [hk] at k; cases k.2)] at h0; cases h0
 have s2 := step2_ok t hf
 have st := step2_stay f c t
 obtain ⟨b0, b1, b2⟩ := told_sum (got := t.got) (sk := t.sk) hf.l
 obtain ⟨told, htold⟩ : ∃ x, toldL t.got t.sk f.l = x := ⟨_, rfl⟩
 rw [htold] at b0 b1 b2 h1 h2 ⊢
 obtain ⟨g, hg⟩ : ∃ x, step2 f c t = x := ⟨_, rfl⟩
 rw [hg] at s2 st h1 h2 ⊢
 have mk : mmay (markH g t told).1 = true := by
  unfold markH at h1 ⊢
  by_cases k : mmay g.m = true ∧ HeardOk t.ace t.ce (told.length : Int) (lenSum told)
  ·by_cases k2 : Fits g.m t.ace t.ce (told.length : Int) (lenSum told)
   ·exact (mmay_iff _).2 (mheard_valid k k2)
   ·rw [mheard_over k k2] at h1; cases h1
  ·rw [mheard_no k] at h1; cases h1
 have rt : ramay (rateH g t told).1 = true := by
  unfold rateH at h2 ⊢
  by_cases k : CameOk g.d (max t.now g.d.last) (lenSum told)
  ·by_cases k2 : g.d.total + lenSum told ≤ 1152921504606846976
   ·rw [came_ok k k2]; exact (ramay_iff _).2 (came_valid k k2)
   ·rw [came_over k k2] at h2; cases h2
  ·rw [came_no k] at h2; cases h2
 have s3 : FvOk { g with m := (markH g t told).1, d := (rateH g t told).1 } c := ⟨s2.fine, s2.l, s2.r, s2.b, mk, rt, s2.k, s2.w, s2.t, s2.g, s2.next, s2.rd, s2.link⟩
 have s4 := sampF_ok told s3
 obtain ⟨p1, p2, p3, p4, p5, p6, p7⟩ := samp_stay { g with m := (markH g t told).1, d := (rateH g t told).1 } told
 have s5 : FvOk (step5 g c t told) c := turnF_ok s4 b0 (by omega) hn
 have w5 : WinOk (sampF { g with m := (markH g t told).1, d := (rateH g t told).1 } told) (step5 g c t told) c := turnF_win s4 b0 (by omega) hn
 obtain ⟨q1, q2, q3, q4, q5⟩ : (step5 g c t told).next = _ ∧ (step5 g c t told).up = _ ∧ (step5 g c t told).rd = _ ∧ flightR (step5 g c t told).l ≤ _ ∧ ((step5 g c t told).l = _ ∨ ∃ k s, (step5 g c t told).l = lostL k t.now s _) := turnF_stay (told := told) (n := (markH g t told).2.1) s4 b0 (by omega) hn
 obtain ⟨h5, hh5⟩ : ∃ x, step5 g c t told = x := ⟨_, rfl⟩
 rw [hh5] at s5 w5 q1 q2 q3 q4 q5
 rw [p1] at q4 q5
 rw [p2] at q1
 rw [p6] at q2
 dsimp only at q1 q2 q4 q5
 rw [st.next] at q1
 rw [st.up] at q2
 rw [st.l] at q4 q5
 have fl := left_flight t.got t.sk hf.l
 have wl : f.th ≤ f.cw → h5.cw ≤ f.cw ∨ (h5.cut = true ∧ h5.cw ≤ f.cw + c.mss) := fun e => by
  have := w5.less (by rw [p3, p4]; show g.th ≤ g.cw; rw [st.th, st.cw]; exact e)
  rw [p3] at this
  have e2 : ({ g with m := (markH g t told).1, d := (rateH g t told).1 } : Fv).cw = f.cw := st.cw
  rw [e2] at this
  exact this
 unfold step7
 rw [hh5]
 have hm0 := hf.fine.m0
 split
 ·have s6 := roundF_ok (now := t.now) s5 g0 g1
  have w6 := roundF_win (now := t.now) s5 g0 g1
  refine ⟨setF_ok s6 hn, htold.symm, hu, hmay, q1, by show flightR h5.l ≤ _; exact Int.le_trans q4 fl, fun e => ?_, q5, by show h5.up = true; rw [q2]; exact hu⟩
  show (roundF h5 c t.growth t.now).cw ≤ _
  rcases wl e with k | k
  ·have := w6.2; omega
  ·rw [w6.1 k.1]; exact k.2
 ·refine ⟨setF_ok s5 hn, htold.symm, hu, hmay, q1, by show flightR h5.l ≤ _; exact Int.le_trans q4 fl, fun e => ?_, q5, by show h5.up = true; rw [q2]; exact hu⟩
  show h5.cw ≤ _
  rcases wl e with k | k
  ·omega
  ·exact k.2
end Go.Proofs.YtbijhkhkigdddaaGreat
