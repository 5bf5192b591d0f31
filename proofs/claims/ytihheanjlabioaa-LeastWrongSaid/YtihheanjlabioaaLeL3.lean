/- Package least as it landed: Of as a contract of the call. -/
import Derived.Test.YtihheanjlabioaaLeL2
namespace Go.Proofs.Ytihheanjlabioaa
open Go.RowKit Go.Shelf
set_option linter.unusedVariables false
set_option linter.unusedSimpArgs false

attribute [local go_sem] Oper.semAt_some

theorem bxs_own {β : Type} (B : Nat) (t : TypeId) (f : β → List Value) : Own (fun s W => Bx W B t (f s)) := fun s X Y row hs hg hrow =>
  hs.grown hg (fun e => by obtain ⟨o, ho, hc⟩ := hrow B e.symm; rw [show X.heap[B]? = _ from hs] at ho; cases ho; cases hc)
theorem lfresh_of {w : World} {A : Option Addr} {len cap : Nat} {l : List Sp} (hs : Ss w A len cap l) : ∀ b o, A = some ⟨b, o, none⟩ → 0 < len → b < w.heap.size :=
  fun b o e h0 => by obtain ⟨b', o', e', hl, _⟩ := hs.rd.at_ h0; rw [e] at e'; cases e'; exact hl
theorem find_filter (l : List Sp) (f : Sp → Bool) {x : Sp} {rest : List Sp} (h : l.filter f = [x] ++ rest) : l.find? f = some x := by
  rw [← List.head?_filter, h]; rfl
theorem find_filter0 (l : List Sp) (f : Sp → Bool) (h : l.filter f = []) : l.find? f = none := by
  rw [← List.head?_filter, h]; rfl

set_option maxRecDepth 100000 in
set_option maxHeartbeats 4000000 in
theorem leof_any (span : Int) (A : Option Addr) (n c : Nat) (high : Int) (l : List Sp) (at_ : Int) (w : World) (hs : Ss w A n c l) :
    Calls Try.prog 13 #[.agg #[.int .i64 span, .slice A n c, .int .i64 high], .int .i64 at_] w fun e w' => e = .returned (.tuple #[.int .i64 (ofR ⟨span, l, high⟩ at_).1, .bool (ofR ⟨span, l, high⟩ at_).2]) ∧ Below w.heap.size w w' := by
  refine (callsIn_wide (n := 4)).1 ?_
  have h1 : 1 ≤ 4 := by omega
  have hlen := hs.rd.len
  refine callsIn_of_wp_marks Try.func13 rfl trivial ?_ rfl
  simp only [Try.ntmps13, List.size_toArray, List.length_cons, List.length_nil, Nat.reduceAdd, Nat.reduceSub, Array.replicate_succ, Array.replicate_zero, List.push_toArray, List.append_toArray, List.nil_append, List.cons_append]
  have e0 := Bx.new w 24 [.int .i64 span, .slice A n c, .int .i64 high]
  have a2 := Bx.new (w.alloc (.cells #[.int .i64 span, .slice A n c, .int .i64 high] 24)) 3 [.int .i64 0]
  have a3 := Bx.new ((w.alloc (.cells #[.int .i64 span, .slice A n c, .int .i64 high] 24)).alloc (.cells #[.int .i64 0] 3)) 4 [.bool false]
  simp only [World.size_alloc] at a2 a3
  have e1 := (e0.alloc (.cells #[.int .i64 0] 3)).alloc (.cells #[.bool false] 4)
  have a2' := a2.alloc (.cells #[.bool false] 4)
  have hb0 : Below w.heap.size w (((w.alloc (.cells #[.int .i64 span, .slice A n c, .int .i64 high] 24)).alloc (.cells #[.int .i64 0] 3)).alloc (.cells #[.bool false] 4)) := (((Below.refl _ w).alloc (Nat.le_refl _) _).alloc (by simp) _).alloc (by simp; omega) _
  have hs0 := ((hs.alloc (.cells #[.int .i64 span, .slice A n c, .int .i64 high] 24)).alloc (.cells #[.int .i64 0] 3)).alloc (.cells #[.bool false] 4)
  have hmay := lemay_any span A n c high l _ hs0
  obtain ⟨B, hB⟩ : ∃ B, w.heap.size = B := ⟨_, rfl⟩
  rw [hB] at e1 a2' a3 hb0 ⊢
  obtain ⟨x, hx⟩ : ∃ x, ofR ⟨span, l, high⟩ at_ = x := ⟨_, rfl⟩
  rw [hx]
  have HX := Lib.hid hx
  clear e0 a2 hx
  refine wpIn_wide.2 ?_
  go_upto_region 1 with fail
  generalize ((w.alloc (.cells #[.int .i64 span, .slice A n c, .int .i64 high] 24)).alloc (.cells #[.int .i64 0] 3)).alloc (.cells #[.bool false] 4) = w0 at hmay e1 a2' a3 hb0 hs0 ⊢
  by_cases hm : lmay ⟨span, l, high⟩ = true
  case neg =>
    have hm' : lmay ⟨span, l, high⟩ = false := by simpa using hm
    have hz := of_no (v := ⟨span, l, high⟩) (a := at_) (fun h => hm h.1)
    have hx := HX.out
    rw [hz] at hx; subst hx
    rw [hm'] at hmay
    clear hz HX
    go_wp2_with (refine le_load rfl (.tmp 2) rfl rfl e1 rfl ?_)
    refine hmay.mono ?_; rintro e w1 ⟨rfl, hb1⟩; have q1 := e1.kept hb1; have a4 := a2'.kept hb1; have a5 := a3.kept hb1; have hs1 := hs0.keep hb1; have k1 := hb0.trans (hb1.mono (Nat.le_of_lt e1.lt)); have hc4 := a4.cell 0 rfl; have hf4 := a4.free 0; have hc5 := a5.cell 0 rfl; have hf5 := a5.free 0
    go_wp2_with fail
    refine ⟨.tuple #[.int .i64 0, .bool false], ?_, rfl, ?_⟩
    · have hc6 := World.cell?_setCell_same' (w1.setCell ⟨B + 1, 0, none⟩ (.int .i64 0)) ⟨B + 1 + 1, 0, none⟩ (.bool false) (by rw [(a5.far (by simp) _).cell 0 rfl]; rfl)
      have hc7 := (((a4.set 0 (.int .i64 0)).far (p := ⟨B + 1 + 1, 0, none⟩) (by simp) (.bool false))).cell 0 rfl
      simp [results, Try.f13, go_sem, hc6, hc7]
    · exact (k1.setCell (p := ⟨B + 1, 0, none⟩) (by simp) _).setCell (p := ⟨B + 1 + 1, 0, none⟩) (by simp; omega) _

  case pos =>
  have HM := Lib.hid hm
  rw [hm] at hmay
  cases ht : tmB at_ with
  | false =>
    have hz := of_no (v := ⟨span, l, high⟩) (a := at_) (fun h => by have := (tmB_iff at_).2 h.2; rw [ht] at this; cases this)
    have hx := HX.out
    rw [hz] at hx; subst hx
    clear hz HX hm
    go_wp2_with (refine le_load rfl (.tmp 2) rfl rfl e1 rfl ?_)
    refine hmay.mono ?_; rintro e w1 ⟨rfl, hb1⟩; have q1 := e1.kept hb1; have a4 := a2'.kept hb1; have a5 := a3.kept hb1; have hs1 := hs0.keep hb1; have k1 := hb0.trans (hb1.mono (Nat.le_of_lt e1.lt)); have hc4 := a4.cell 0 rfl; have hf4 := a4.free 0; have hc5 := a5.cell 0 rfl; have hf5 := a5.free 0
    go_wp2_with (go_at_call 17; refine (rec_any _ _).mono ?_; rintro e wx ⟨rfl, rfl⟩)
    refine ⟨.tuple #[.int .i64 0, .bool false], ?_, rfl, ?_⟩
    · have hc6 := World.cell?_setCell_same' (w1.setCell ⟨B + 1, 0, none⟩ (.int .i64 0)) ⟨B + 1 + 1, 0, none⟩ (.bool false) (by rw [(a5.far (by simp) _).cell 0 rfl]; rfl)
      have hc7 := (((a4.set 0 (.int .i64 0)).far (p := ⟨B + 1 + 1, 0, none⟩) (by simp) (.bool false))).cell 0 rfl
      simp [results, Try.f13, go_sem, hc6, hc7]
    · exact (k1.setCell (p := ⟨B + 1, 0, none⟩) (by simp) _).setCell (p := ⟨B + 1 + 1, 0, none⟩) (by simp; omega) _

  | true =>
  have hok := (lmay_iff _).1 hm
  have htm := (tmB_iff at_).1 ht
  have hz := of_yes (v := ⟨span, l, high⟩) (a := at_) ⟨hm, htm⟩
  have hx := HX.out
  rw [hz] at hx
  have HZ := Lib.hid hx
  have HT := Lib.hid htm
  have hn : n ≤ 100 := by have := hok.len; dsimp only at this; omega
  have HO := Lib.hid hok
  clear hz HX hm hx hok htm
  go_wp2_with (refine le_load rfl (.tmp 2) rfl rfl e1 rfl ?_)
  refine hmay.mono ?_; rintro e w1 ⟨rfl, hb1⟩; have q1 := e1.kept hb1; have a4 := a2'.kept hb1; have a5 := a3.kept hb1; have hs1 := hs0.keep hb1; have k1 := hb0.trans (hb1.mono (Nat.le_of_lt e1.lt)); have hc4 := a4.cell 0 rfl; have hf4 := a4.free 0; have hc5 := a5.cell 0 rfl; have hf5 := a5.free 0
  go_upto_region 3 with (go_at_call 17; refine (rec_any _ _).mono ?_; rintro e wx ⟨rfl, rfl⟩)
  go_wp2_with (first | (refine le_load rfl (.tmp 2) rfl rfl q1 rfl ?_) | (go_at_call 21; refine (callsIn_wide.1 (count_in Fence.wide 4 trivial rfl span high at_ A n c _)).mono ?_; rintro e w' ⟨rfl, rfl⟩))
  refine (wpIn_wide (n := 4)).1 ?_
  obtain ⟨LB, hLB⟩ : ∃ LB, w1.heap.size = LB := ⟨_, rfl⟩
  have hBL : B + 2 < LB := by rw [← hLB]; have := a5.lt; omega
  have bL := (Bx.new w1 24 [.int .i64 span, .slice A n c, .int .i64 high]).alloc (.cells #[.int .i64 at_] 3)
  have bT := Bx.new (w1.alloc (.cells #[.int .i64 span, .slice A n c, .int .i64 high] 24)) 3 [.int .i64 at_]
  rw [World.size_alloc] at bT
  have r4 := (a4.alloc (.cells #[.int .i64 span, .slice A n c, .int .i64 high] 24)).alloc (.cells #[.int .i64 at_] 3)
  have r5 := (a5.alloc (.cells #[.int .i64 span, .slice A n c, .int .i64 high] 24)).alloc (.cells #[.int .i64 at_] 3)
  have k2 := (k1.alloc (by omega) (.cells #[.int .i64 span, .slice A n c, .int .i64 high] 24)).alloc (by simp; omega) (.cells #[.int .i64 at_] 3)
  have hsz : ((w1.alloc (.cells #[.int .i64 span, .slice A n c, .int .i64 high] 24)).alloc (.cells #[.int .i64 at_] 3)).heap.size = LB + 2 := by simp [hLB]
  rw [hLB] at bL bT ⊢
  generalize (w1.alloc (.cells #[.int .i64 span, .slice A n c, .int .i64 high] 24)).alloc (.cells #[.int .i64 at_] 3) = w2 at bL bT r4 r5 k2 hsz ⊢
  have hBw : B ≤ w.heap.size := by omega
  have k2' : Below w.heap.size w w2 := by rw [hB]; exact k2
  refine wpIn_rangeFunc_ownH rfl h1 (gf := 23) (lb := #[.pointer (some ⟨LB, 0, none⟩), .pointer (some ⟨LB + 1, 0, none⟩)]) rfl trivial (enters_of Try.func23 (by kernel_rfl) rfl)
    (count_stops Fence.wide (4 - 1) trivial rfl (by omega) LB (LB + 1) B A n c l span high at_ (by omega) w2 HT.out.1 HT.out.2 (fun i hi => ⟨(HO.out.pts i (by dsimp only; omega)).a0, (HO.out.pts i (by dsimp only; omega)).a1⟩) (by omega) bL bT (hs.rd.keep k2') (fun b o e h0 => by have := lfresh_of hs b o e h0; omega)) Kept.trans (keptK_b (by omega) (by omega) (by omega)) (Below.refl _ _) (fun _ => rfl)
    (fun pre W => ((pre = [] ∧ Bx W (B + 1) 3 [.int .i64 0] ∧ Bx W (B + 1 + 1) 4 [.bool false]) ∧ Below B w W) ∧ LB + 2 ≤ W.heap.size)
    (fun c pre W => ((c = .ret ∧ ∃ x, pre = [x] ∧ Bx W (B + 1) 3 [.int .i64 x.2] ∧ Bx W (B + 1 + 1) 4 [.bool true]) ∧ Below B w W) ∧ LB + 2 ≤ W.heap.size)
    (OwnFrom.and (OwnFrom.and (Own.from (fun s X Y row hs hg hr => ⟨hs.1, bxs_own _ _ (fun _ => [.int .i64 0]) s X Y row hs.2.1 hg hr, bxs_own _ _ (fun _ => [.bool false]) s X Y row hs.2.2 hg hr⟩) _) (ownFrom_below hBw (by omega))) (fun s X Y row hs hg _ => Nat.le_trans hs hg.size))
    (fun c => OwnFrom.and (OwnFrom.and (Own.from (fun s X Y row hs hg hr => by obtain ⟨hc, x, e1, e2, e3⟩ := hs; exact ⟨hc, x, e1, bxs_own _ _ (fun _ => [.int .i64 x.2]) s X Y row e2 hg hr, bxs_own _ _ (fun _ => [.bool true]) s X Y row e3 hg hr⟩) _) (ownFrom_below hBw (by omega))) (fun s X Y row hs hg _ => Nat.le_trans hs hg.size))
    ⟨⟨⟨rfl, r4, r5⟩, k2⟩, by omega⟩
    (fun x a' W => ∃ P, LB + 2 ≤ P ∧ Bx W P 38 [.int .i64 x.1, .int .i64 x.2] ∧ a' = { tmps := #[.agg #[.int .i64 span, .slice A n c, .int .i64 high], .int .i64 at_, .pointer (some ⟨B, 0, none⟩), undef, .pointer (some ⟨B + 1, 0, none⟩), .pointer (some ⟨B + 1 + 1, 0, none⟩), .pointer (some ⟨P, 0, none⟩), .agg #[.int .i64 span, .slice A n c, .int .i64 high], .bool true, .bool false, .bool false, .int .i64 at_, .bool true, .bool false, .bool false, .agg #[.int .i64 span, .slice A n c, .int .i64 high], .int .i64 at_, .func (.func 23) #[] #[.pointer (some ⟨LB, 0, none⟩), .pointer (some ⟨LB + 1, 0, none⟩)], .agg #[.int .i64 x.1, .int .i64 x.2], undef, undef], defers := [] })
    (fun x a' _ X Y row hs hg hr => by obtain ⟨P, e1, e2, e3⟩ := hs; exact ⟨P, e1, bxs_own P _ (fun (_ : Unit) => [.int .i64 x.1, .int .i64 x.2]) () X Y row e2 hg (fun r e => (hr r e).2), e3⟩)
    ?assign ?body ?done ?stop
  case assign =>
    rintro r pre x W K ⟨⟨⟨hp, bI, bO⟩, hB1⟩, hSz⟩ hK
    gi_wp2
    exact hK _ _ ((KeepsOthers.alloc _ _).from _) (Kept.alloc (by omega) (by omega) (by omega) _) ⟨⟨⟨hp, bI.alloc _, bO.alloc _⟩, hB1.alloc (by omega) _⟩, by simp; omega⟩ ⟨W.heap.size, hSz, Bx.new W _ [.int .i64 x.1, .int .i64 x.2], rfl⟩
  case body =>
    rintro r pre x a' W hl hr ⟨⟨⟨rfl, bI, bO⟩, hB1⟩, hSz⟩ ⟨P, hP, bP, rfl⟩ hlt
    have cP := bP.cell 1 rfl
    have cI := bI.cell 0 rfl; have fI := bI.free 0
    have cO := bO.cell 0 rfl; have fO := bO.free 0
    gi_wp2
    exact ⟨((KeepsOthers.setCell _ _ _).trans (KeepsOthers.setCell _ _ _)).from _, ⟨⟨rfl, x, rfl, (bI.set 0 (.int .i64 x.2)).far (by simp) _, (bO.far (by simp) _).set 0 (.bool true)⟩, (hB1.setCell (p := ⟨B + 1, 0, none⟩) (by simp) _).setCell (p := ⟨B + 1 + 1, 0, none⟩) (by simp; omega) _⟩, by simp; omega⟩
  case done =>
    rintro D ys W hD rfl ⟨⟨⟨hp, bI, bO⟩, hB1⟩, hSz⟩ hK
    have hx := HZ.out
    rw [find_filter0 _ _ hp] at hx
    replace hx : ((0 : Int), false) = x := hx
    subst hx
    clear hp HZ
    have cI := bI.cell 0 rfl; have fI := bI.free 0
    have cO := bO.cell 0 rfl; have fO := bO.free 0
    go_wp2_with fail
    have hK' := ((KeepsOthers.setCell W ⟨B + 1, 0, none⟩ (.int .i64 0)).trans (KeepsOthers.setCell _ ⟨B + 1 + 1, 0, none⟩ (.bool false))).same D _ hK rfl
    have r4 := (bI.set 0 (.int .i64 0)).far (p := ⟨B + 1 + 1, 0, none⟩) (by simp) (.bool false)
    have r5 := (bO.far (p := ⟨B + 1, 0, none⟩) (by simp) (.int .i64 0)).set 0 (.bool false)
    have rB := (hB1.setCell (p := ⟨B + 1, 0, none⟩) (by simp) (.int .i64 0)).setCell (p := ⟨B + 1 + 1, 0, none⟩) (by simp; omega) (.bool false)
    refine ⟨by simp, .inl ⟨_, _, rfl, run_takeDeferred hK', ?_⟩⟩
    have q4 := cell_kept (r4.cell 0 rfl) (grownBy_putObj' _ D (.deferred none)) (fun r e => by cases e; exact ⟨_, hK', rfl⟩)
    have q5 := cell_kept (r5.cell 0 rfl) (grownBy_putObj' _ D (.deferred none)) (fun r e => by cases e; exact ⟨_, hK', rfl⟩)
    exact ⟨.tuple #[.int .i64 0, .bool false], by simp [results, Try.f13, go_sem, q4, q5], rfl, rB.trans (belowK_b (w := w2) (by omega) _ D _ _ hD hK' rfl rfl)⟩
  case stop =>
    rintro D c pre W hD ⟨rest, hk⟩ ⟨⟨⟨rfl, x_1, rfl, bI, bO⟩, hB1⟩, hSz⟩ hK
    have hx := HZ.out
    rw [find_filter _ _ hk] at hx
    replace hx : (x_1.2, true) = x := hx
    subst hx
    clear hk HZ
    refine wpIn_wide.2 ?_
    go_wp2_with fail
    refine ⟨by simp, .inl ⟨_, _, rfl, run_takeDeferred hK, ?_⟩⟩
    have q4 := cell_kept (bI.cell 0 rfl) (grownBy_putObj' _ D (.deferred none)) (fun r e => by cases e; exact ⟨_, hK, rfl⟩)
    have q5 := cell_kept (bO.cell 0 rfl) (grownBy_putObj' _ D (.deferred none)) (fun r e => by cases e; exact ⟨_, hK, rfl⟩)
    exact ⟨.tuple #[.int .i64 x_1.2, .bool true], by simp [results, Try.f13, go_sem, q4, q5], rfl, hB1.trans (belowK_b (w := w2) (by omega) _ D _ _ hD hK rfl rfl)⟩
end Go.Proofs.Ytihheanjlabioaa
