/- Package least as it landed: joined as a contract of the call. -/
import Derived.Test.YtihheanjlabioaaLeL3
import Derived.Scope
import Derived.OwnWalk
namespace Go.Proofs.Ytihheanjlabioaa
open Go.RowKit Go.Shelf
set_option linter.unusedVariables false
set_option linter.unusedSimpArgs false

attribute [local go_sem] Oper.semAt_some

theorem Bx.not_row {W : World} {B : Nat} {t e : TypeId} {cs : List Value} (h : Bx W B t cs) (hte : t ≠ e) {base size k : Nat} {v : Value} {xs : List Value} (hr : W.ownsRow base e size v k xs) : some B ≠ v.ownBlock := by
  rcases hr.2 with ⟨rfl, _⟩ | ⟨g, cap, cur, rfl, _, hgb, _⟩
  · simp [Value.ownBlock]
  · intro e'
    obtain rfl : B = g := by simpa [Value.ownBlock] using e'
    have := (show W.heap[B]? = _ from h).symm.trans hgb
    simp at this
    exact hte this.2
/-- what remains, where the list of those that count is at its end -/
theorem left_all {span at_ nn high : Int} {l : List Sp} (h : ∀ p ∈ l.filter (cnt span at_), p.2 < nn) : leftR ⟨span, l, high⟩ at_ nn = l.filter (cnt span at_) := by
  unfold leftR
  refine List.filter_congr (fun p hp => ?_)
  dsimp only
  unfold stay
  cases hc : cnt span at_ p with
  | false => rfl
  | true => rw [Bool.true_and, decide_eq_true (h p (List.mem_filter.2 ⟨hp, hc⟩))]
theorem left_filter (span at_ nn high : Int) (l : List Sp) : leftR ⟨span, l, high⟩ at_ nn = (l.filter (cnt span at_)).filter (fun p => decide (p.2 < nn)) := by
  unfold leftR
  rw [List.filter_filter]
  refine List.filter_congr (fun p _ => ?_)
  unfold stay
  rw [Bool.and_comm]
/-- .. and where it was left at x -/
theorem left_cut {span at_ nn high : Int} {l ini rest : List Sp} {x : Sp} (hpw : l.Pairwise Rel) (hk : l.filter (cnt span at_) = (ini ++ [x]) ++ rest) (h : ∀ p ∈ ini, p.2 < nn) (hx : ¬ x.2 < nn) : leftR ⟨span, l, high⟩ at_ nn = ini := by
  have hp2 : ((ini ++ [x]) ++ rest).Pairwise Rel := by rw [← hk]; exact hpw.filter _
  rw [left_filter, hk, List.filter_append, List.filter_append, List.filter_eq_self.2 (fun p hp => decide_eq_true (h p hp))]
  have e1 : [x].filter (fun p => decide (p.2 < nn)) = [] := by simp; omega
  have e2 : rest.filter (fun p => decide (p.2 < nn)) = [] := by
    rw [List.filter_eq_nil_iff]
    intro p hp
    have := (List.pairwise_append.1 hp2).2.2 x (by simp) p hp
    have := this.2
    simp; omega
  rw [e1, e2, List.append_nil, List.append_nil]
theorem own_take {l : List Sp} {a n : Int} (h : l.length ≤ 100) : (l ++ [(a, n)]).take (min (l.length + 1) 100) = ownR l a n := by
  unfold ownR
  split
  · rw [show min (l.length + 1) 100 = l.length + 1 by omega, List.take_of_length_le (by simp)]
  · rw [show min (l.length + 1) 100 = l.length by omega, List.take_append_of_le_length (Nat.le_refl _), List.take_length]

def AllLt (nn : Int) (l : List Sp) : Prop := ∀ p ∈ l, p.2 < nn
theorem allLt_nil (nn : Int) : AllLt nn [] := fun p hp => by cases hp
theorem allLt_snoc {nn : Int} {l : List Sp} {x : Sp} (h : AllLt nn l) (k : x.2 < nn) : AllLt nn (l ++ [x]) := fun p hp => (List.mem_append.1 hp).elim (h p) (fun e => by rw [List.mem_singleton] at e; subst e; exact k)
/-- the loop was left at the one behind ini -/
def CutPre (nn : Int) (pre ini : List Sp) : Prop := ∃ x, pre = ini ++ [x] ∧ AllLt nn ini ∧ ¬ x.2 < nn
theorem left_cutP {span at_ nn high : Int} {l pre ini rest : List Sp} (hpw : l.Pairwise Rel) (hk : l.filter (cnt span at_) = pre ++ rest) (h : CutPre nn pre ini) : leftR ⟨span, l, high⟩ at_ nn = ini := by
  obtain ⟨x, rfl, h1, h2⟩ := h
  exact left_cut hpw hk h1 h2
theorem cell_pt_new (w : World) (x y : Int) (t : TypeId) : ∀ j u, (vals [(x, y)])[j]? = some u → (w.alloc (.cells #[.int .i64 x, .int .i64 y] t)).cell? ((⟨w.heap.size, 0, none⟩ : Addr).add j) = some u :=
  news_of_rs (n := 1) rfl (fun i hi => by
    obtain rfl : i = 0 := by omega
    have h := Bx.new w t [.int .i64 x, .int .i64 y]
    exact ⟨h.cell 0 rfl, h.cell 1 rfl⟩)
theorem Ss.putDl {w : World} {A : Option Addr} {n c : Nat} {l : List Sp} (h : Ss w A n c l) {D : Nat} {o : Obj} {o' : Obj} (hD : w.heap[D]? = some o) (ho : o.isCells = false) : Ss (w.putObj D o') A n c l :=
  ⟨h.le, h.max, h.nil, h.rd.len, h.rd.wide, fun hn => by
    obtain ⟨b, q, e, hlt, hc⟩ := h.rd.at_ hn
    refine ⟨b, q, e, Nat.lt_of_lt_of_le hlt (grownBy_putObj' w D o').size, fun i hi => ?_⟩
    exact ⟨cell_kept (hc i hi).1 (grownBy_putObj' w D o') (fun r e => by cases e; exact ⟨_, hD, ho⟩), cell_kept (hc i hi).2 (grownBy_putObj' w D o') (fun r e => by cases e; exact ⟨_, hD, ho⟩)⟩⟩
theorem Sn.putDl {w : World} {base : Nat} {A : Option Addr} {n c : Nat} {l : List Sp} (h : Sn w base A n c l) {D : Nat} {o : Obj} {o' : Obj} (hD : w.heap[D]? = some o) (ho : o.isCells = false) : Sn (w.putObj D o') base A n c l := ⟨h.ss.putDl hD ho, h.at_⟩
theorem Sn.head {w : World} {base : Nat} {A : Option Addr} {n k c : Nat} {l : List Sp} (h : Sn w base A n c l) (hk : k ≤ n) : Sn w base A k c (l.take k) := ⟨h.ss.head hk, h.at_⟩
theorem row_own (n₀ B : Nat) (t e : TypeId) : Own (fun (s : List Sp) W => ∃ v, Boxed W B t v ∧ W.ownsRow n₀ e 2 v s.length (vals s)) := by
  have := holdsRow_own n₀ B t e 2 (fun (s : List Sp) => s.length) (fun s => vals s) (fun _ _ => True)
  intro s X Y row hs hg hr
  obtain ⟨v, h1, h2⟩ := hs
  obtain ⟨v', h1', h2', _⟩ := this s X Y row ⟨v, h1, h2, trivial⟩ hg hr
  exact ⟨v', h1', h2'⟩

set_option maxRecDepth 100000 in
set_option maxHeartbeats 8000000 in
theorem joined_any (span : Int) (A : Option Addr) (n c : Nat) (high : Int) (l : List Sp) (at_ nn : Int) (w : World) (hs : Ss w A n c l) (hok : Lok ⟨span, l, high⟩) (ha0 : 0 ≤ at_) (ha1 : at_ ≤ 1152921504606846976) (hn0 : 0 ≤ nn) (hn1 : nn ≤ 1152921504606846976) :
    Calls Try.prog 20 #[.agg #[.int .i64 span, .slice A n c, .int .i64 high], .int .i64 at_, .int .i64 nn] w fun e w' => ∃ R m d, e = .returned (.slice R m d) ∧ Sn w' w.heap.size R m d (ownR (leftR ⟨span, l, high⟩ at_ nn) at_ nn) ∧ Below w.heap.size w w' := by
  refine (callsIn_wide (n := 4)).1 ?_
  have h1 : 1 ≤ 4 := by omega
  have hlen := hs.rd.len
  obtain ⟨i0, hi, hz0, hz1, hz2⟩ := info_parts info_pt
  refine callsIn_of_wp_marks Try.func20 rfl trivial ?_ rfl
  simp only [Try.ntmps20, List.size_toArray, List.length_cons, List.length_nil, Nat.reduceAdd, Nat.reduceSub, Array.replicate_succ, Array.replicate_zero, List.push_toArray, List.append_toArray, List.nil_append, List.cons_append]
  have e0 := Bx.new w 24 [.int .i64 span, .slice A n c, .int .i64 high]
  have a2 := Bx.new (w.alloc (.cells #[.int .i64 span, .slice A n c, .int .i64 high] 24)) 3 [.int .i64 nn]
  rw [World.size_alloc] at a2
  have e1 := e0.alloc (.cells #[.int .i64 nn] 3)
  have hb0 : Below w.heap.size w ((w.alloc (.cells #[.int .i64 span, .slice A n c, .int .i64 high] 24)).alloc (.cells #[.int .i64 nn] 3)) := ((Below.refl _ w).alloc (Nat.le_refl _) _).alloc (by simp) _
  have hs0 := (hs.alloc (.cells #[.int .i64 span, .slice A n c, .int .i64 high] 24)).alloc (.cells #[.int .i64 nn] 3)
  have hn : n ≤ 100 := by have := hok.len; dsimp only at this; omega
  obtain ⟨B, hB⟩ : ∃ B, w.heap.size = B := ⟨_, rfl⟩
  rw [hB] at e1 a2 hb0 ⊢
  clear e0
  refine wpIn_wide.2 ?_
  go_upto_region 1 with fail
  generalize (w.alloc (.cells #[.int .i64 span, .slice A n c, .int .i64 high] 24)).alloc (.cells #[.int .i64 nn] 3) = w0 at e1 a2 hb0 hs0 ⊢
  have x1 := e1.cell 1 rfl
  have hB0 : B + 2 ≤ w0.heap.size := a2.lt
  refine wp_scope_straight ?_
  go_wp2_with (at_make; refine wpList_make_own _ rfl _ _ 22 rfl B 38 i0 (.agg #[.int .i64 0, .int .i64 0]) 2 Try.underlying22 hi hz0 hz1 _ _ _ (n + 1) rfl rfl (by omega) (by rw [hz2]; omega) (by unfold maxLen; omega) (by omega) ?_; intro w2 hown2 hgrow2)
  refine wp_label ?_
  go_upto_region 2 with fail
  have hsz2 : w0.heap.size ≤ w2.heap.size := hgrow2.size
  have b2 : Below B w w2 := hb0.grown hgrow2 (by omega) (fun k hk => by cases hk)
  have l2 := e1.grown hgrow2 (by simp)
  have t2 := a2.grown hgrow2 (by simp)
  have vX := Boxed.new w2 22 (.slice (some ⟨w0.heap.size, 0, none⟩) 0 (n + 1))
  have l3 := l2.alloc (.cells #[.slice (some ⟨w0.heap.size, 0, none⟩) 0 (n + 1)] 22)
  have t3 := t2.alloc (.cells #[.slice (some ⟨w0.heap.size, 0, none⟩) 0 (n + 1)] 22)
  have o3 := hown2.alloc (.cells #[.slice (some ⟨w0.heap.size, 0, none⟩) 0 (n + 1)] 22)
  have b3 := b2.alloc (by omega) (.cells #[.slice (some ⟨w0.heap.size, 0, none⟩) 0 (n + 1)] 22)
  obtain ⟨X, hX⟩ : ∃ X, w2.heap.size = X := ⟨_, rfl⟩
  have hsz3 : (w2.alloc (.cells #[.slice (some ⟨w0.heap.size, 0, none⟩) 0 (n + 1)] 22)).heap.size = X + 1 := by simp [hX]
  rw [hX] at vX ⊢
  clear x1
  generalize w2.alloc (.cells #[.slice (some ⟨w0.heap.size, 0, none⟩) 0 (n + 1)] 22) = w3 at vX l3 t3 o3 b3 hsz3 ⊢
  go_wp2_with (first | (refine le_load rfl (.tmp 3) rfl rfl l3 rfl ?_) | (go_at_call 21; refine (callsIn_wide.1 (count_in Fence.wide 4 trivial rfl span high at_ A n c _)).mono ?_; rintro e w' ⟨rfl, rfl⟩))
  have hBX : B + 2 ≤ X := by omega
  have bL := (Bx.new w3 24 [.int .i64 span, .slice A n c, .int .i64 high]).alloc (.cells #[.int .i64 at_] 3)
  have bT := Bx.new (w3.alloc (.cells #[.int .i64 span, .slice A n c, .int .i64 high] 24)) 3 [.int .i64 at_]
  rw [World.size_alloc] at bT
  rw [hsz3] at bL bT
  have vX4 := (vX.alloc (.cells #[.int .i64 span, .slice A n c, .int .i64 high] 24)).alloc (.cells #[.int .i64 at_] 3)
  have t4 := (t3.alloc (.cells #[.int .i64 span, .slice A n c, .int .i64 high] 24)).alloc (.cells #[.int .i64 at_] 3)
  have o4 := (o3.alloc (.cells #[.int .i64 span, .slice A n c, .int .i64 high] 24)).alloc (.cells #[.int .i64 at_] 3)
  have b4 := (b3.alloc (by omega) (.cells #[.int .i64 span, .slice A n c, .int .i64 high] 24)).alloc (by simp; omega) (.cells #[.int .i64 at_] 3)
  have hsz : ((w3.alloc (.cells #[.int .i64 span, .slice A n c, .int .i64 high] 24)).alloc (.cells #[.int .i64 at_] 3)).heap.size = X + 3 := by simp [hsz3]
  generalize (w3.alloc (.cells #[.int .i64 span, .slice A n c, .int .i64 high] 24)).alloc (.cells #[.int .i64 at_] 3) = w4 at bL bT vX4 t4 o4 b4 hsz ⊢
  clear vX l3 t3 o3 b3 hsz3 l2 t2 hown2 b2 hgrow2 e1 a2 hs0
  have hBw : B ≤ w.heap.size := by omega
  have k4 : Below w.heap.size w w4 := by rw [hB]; exact b4
  refine (wpIn_wide (n := 4)).1 ?_
  refine wpIn_rangeFunc_ownH rfl h1 (gf := 23) (lb := #[.pointer (some ⟨X + 1, 0, none⟩), .pointer (some ⟨X + 1 + 1, 0, none⟩)]) rfl trivial (enters_of Try.func23 (by kernel_rfl) rfl)
    (count_stops Fence.wide (4 - 1) trivial rfl (by omega) (X + 1) (X + 1 + 1) B A n c l span high at_ (by omega) w4 ha0 ha1 (fun i hi => ⟨(hok.pts i (by dsimp only; omega)).a0, (hok.pts i (by dsimp only; omega)).a1⟩) (by omega) bL bT (hs.rd.keep k4) (fun b o e h0 => by have := lfresh_of hs b o e h0; omega)) Kept.trans (keptK_b (by omega) (by omega) (by omega)) (Below.refl _ _) (fun _ => rfl)
    (fun pre W => (((∃ v, Boxed W X 22 v ∧ W.ownsRow B 38 2 v pre.length (vals pre)) ∧ AllLt nn pre ∧ Bx W (B + 1) 3 [.int .i64 nn] ∧ Bx W (X + 1) 24 [.int .i64 span, .slice A n c, .int .i64 high] ∧ Bx W (X + 1 + 1) 3 [.int .i64 at_]) ∧ Below B w W) ∧ X + 3 ≤ W.heap.size)
    (fun c pre W => ((c = .exit 0 ∧ ∃ ini, CutPre nn pre ini ∧ (∃ v, Boxed W X 22 v ∧ W.ownsRow B 38 2 v ini.length (vals ini)) ∧ Bx W (B + 1) 3 [.int .i64 nn]) ∧ Below B w W) ∧ X + 3 ≤ W.heap.size)
    (OwnFrom.and (OwnFrom.and (Own.from (fun s X' Y row hs hg hr => ⟨row_own _ _ _ _ s X' Y row hs.1 hg hr, hs.2.1, bxs_own _ _ (fun _ => [.int .i64 nn]) s X' Y row hs.2.2.1 hg hr, bxs_own _ _ (fun _ => [.int .i64 span, .slice A n c, .int .i64 high]) s X' Y row hs.2.2.2.1 hg hr, bxs_own _ _ (fun _ => [.int .i64 at_]) s X' Y row hs.2.2.2.2 hg hr⟩) _) (ownFrom_below hBw (by omega))) (fun s X' Y row hs hg _ => Nat.le_trans hs hg.size))
    (fun c => OwnFrom.and (OwnFrom.and (Own.from (fun s X' Y row hs hg hr => by obtain ⟨hc, ini, e1, e4, e5⟩ := hs; exact ⟨hc, ini, e1, row_own _ _ _ _ ini X' Y row e4 hg hr, bxs_own _ _ (fun _ => [.int .i64 nn]) s X' Y row e5 hg hr⟩) _) (ownFrom_below hBw (by omega))) (fun s X' Y row hs hg _ => Nat.le_trans hs hg.size))
    ⟨⟨⟨⟨_, vX4, o4⟩, allLt_nil nn, t4, bL, bT⟩, b4⟩, by omega⟩
    (fun x a' W => ∃ P, X + 3 ≤ P ∧ Bx W P 38 [.int .i64 x.1, .int .i64 x.2] ∧ a' = { tmps := #[.agg #[.int .i64 span, .slice A n c, .int .i64 high], .int .i64 at_, .int .i64 nn, .pointer (some ⟨B, 0, none⟩), undef, .pointer (some ⟨B + 1, 0, none⟩), .slice none 0 0, .pointer (some ⟨X, 0, none⟩), .pointer (some ⟨P, 0, none⟩), .pointer (some ⟨B, 1, none⟩), .slice A n c, .int .i64 (n : Int), .int .i64 ((n : Int) + 1), .slice (some ⟨w0.heap.size, 0, none⟩) 0 (n + 1), .agg #[.int .i64 span, .slice A n c, .int .i64 high], .int .i64 at_, .func (.func 23) #[] #[.pointer (some ⟨X + 1, 0, none⟩), .pointer (some ⟨X + 1 + 1, 0, none⟩)], .agg #[.int .i64 x.1, .int .i64 x.2], undef, undef, undef, undef, undef, undef, undef, undef, undef, undef, undef, undef, undef, undef, undef, undef, undef, undef, undef, undef], defers := [] })
    (fun x a' _ X' Y row hs hg hr => by obtain ⟨P, e1, e2, e3⟩ := hs; exact ⟨P, e1, bxs_own P _ (fun (_ : Unit) => [.int .i64 x.1, .int .i64 x.2]) () X' Y row e2 hg (fun r e => (hr r e).2), e3⟩)
    ?assign ?body ?done ?stop
  case assign =>
    rintro r pre x W K ⟨⟨⟨⟨v, hv, hrow⟩, hlt, bN, bL', bT'⟩, hB1⟩, hSz⟩ hK
    gi_wp2
    exact hK _ _ ((KeepsOthers.alloc _ _).from _) (Kept.alloc (by omega) (by omega) (by omega) _) ⟨⟨⟨⟨v, hv.alloc _, hrow.alloc _⟩, hlt, bN.alloc _, bL'.alloc _, bT'.alloc _⟩, hB1.alloc (by omega) _⟩, by simp; omega⟩ ⟨W.heap.size, hSz, Bx.new W _ [.int .i64 x.1, .int .i64 x.2], rfl⟩
  case body =>
    rintro r pre x a' W hl hr ⟨⟨⟨⟨v, hv, hrow⟩, hlt, bN, bL', bT'⟩, hB1⟩, hSz⟩ ⟨P, hP, bP, rfl⟩ hpl
    have cP := bP.cell 0 rfl; have cP1 := bP.cell 1 rfl
    have cN := bN.cell 0 rfl
    have cv := hv.cell
    by_cases g : x.2 < nn
    · have d : decide (x.2 < nn) = true := decide_eq_true g
      gi_wp2_with (gi_at_builtin; refine wpListIn_append_own _ rfl (.tmp 23) (.tmp 25) 22 rfl B 38 i0 (.agg #[.int .i64 0, .int .i64 0]) 2 16 Try.underlying22 hi hz0 hz1 hz2 rfl (by decide) _ _ _ rfl (hrow.alloc _) ⟨W.heap.size, 0, none⟩ 1 1 (vals [(x.1, x.2)]) rfl rfl (cell_pt_new _ _ _ _) (vals_cell _) ?_ ?_ ?_ ?_; (unfold maxLen; omega); omega; (simp; omega); intro v1 y1 hown1 hgrow1 _; obtain ⟨g1, cap1, rfl⟩ := ownsRow_succ hown1; obtain ⟨hv11, hv21, hr21, hk21, hb21⟩ := Boxed.appended hv (by decide) hrow (by omega) (by omega) hown1 hgrow1; have hc11 := hv11.cell; have hf11 := hv11.frozen)
      have bN1 := ((bN.alloc (.cells #[.int .i64 x.1, .int .i64 x.2] 38)).grown hgrow1 (bN.not_row (by decide) hrow)).far (p := ⟨X, 0, none⟩) (by simp; omega) (.slice (some ⟨g1, 0, none⟩) (pre.length + 1) cap1)
      have bL1 := ((bL'.alloc (.cells #[.int .i64 x.1, .int .i64 x.2] 38)).grown hgrow1 (bL'.not_row (by decide) hrow)).far (p := ⟨X, 0, none⟩) (by simp) (.slice (some ⟨g1, 0, none⟩) (pre.length + 1) cap1)
      have bT1 := ((bT'.alloc (.cells #[.int .i64 x.1, .int .i64 x.2] 38)).grown hgrow1 (bT'.not_row (by decide) hrow)).far (p := ⟨X, 0, none⟩) (by simp; omega) (.slice (some ⟨g1, 0, none⟩) (pre.length + 1) cap1)
      exact ⟨hk21.from _, ⟨hb21, Eq.trans bL1 (Eq.symm bL'), Eq.trans bT1 (Eq.symm bT'), hb21.size⟩, ⟨⟨⟨_, hv21, by rw [vals_app, List.length_append]; exact hr21⟩, allLt_snoc hlt g, bN1, bL1, bT1⟩, hB1.trans hb21⟩, Nat.le_trans hSz hb21.size⟩
    · have d : decide (x.2 < nn) = false := decide_eq_false g
      gi_wp2
      exact ⟨KeepsFrom.refl _ _, ⟨⟨rfl, pre, ⟨x, rfl, hlt, (by omega)⟩, ⟨v, hv, hrow⟩, bN⟩, hB1⟩, hSz⟩
  case done =>
    rintro D ys W hD rfl ⟨⟨⟨⟨v, hv, hrow⟩, hlt, bN, bL', bT'⟩, hB1⟩, hSz⟩ hK
    have hLeft : leftR ⟨span, l, high⟩ at_ nn = l.filter (cnt span at_) := left_all hlt
    have hlL : (l.filter (cnt span at_)).length ≤ 100 := by rw [← hLeft]; exact Nat.le_trans (left_len _ _ _) hok.len
    have hwL : Wide (l.filter (cnt span at_)) := by rw [← hLeft]; exact fun p hp => hs.rd.wide p (List.mem_filter.1 hp).1
    have hcN := bN.cell 0 rfl
    have hcv := hv.cell
    have HG := Lib.hid (⟨hrow, hwL⟩ : Gots W B 38 v (l.filter (cnt span at_)).length (l.filter (cnt span at_)))
    obtain ⟨M, hM⟩ : ∃ M, (l.filter (cnt span at_)).length = M := ⟨_, rfl⟩
    rw [hM] at HG hlL hrow
    have hwa : W64 at_ := by unfold W64; omega
    have hwn : W64 nn := by unfold W64; omega
    have HK := Lib.hid hK; clear hK
    have HWA := Lib.hid hwa; have HWN := Lib.hid hwn
    have HOW := Lib.hid (own_take (a := at_) (n := nn) (by rw [hM]; exact hlL : (l.filter (cnt span at_)).length ≤ 100)); 
    rw [hM] at HOW
    have HLF := Lib.hid hLeft
    clear hwL hLeft hwa hwn hM
    go_upto_region 6 with fail
    go_wp2_with (at_builtin; refine wpList_apps _ rfl (.tmp 27) (.tmp 31) 22 rfl B 38 Try.underlying22 info_pt _ _ _ rfl ⟨HG.out.row.alloc (.cells #[.int .i64 at_, .int .i64 nn] 38), HG.out.wide⟩ rfl (fun h => by cases h) (sn_one W HWA.out HWN.out 38).rd (by omega) (by simp; omega) ?_; intro v1 y1 hown1 hgrow1 _; obtain ⟨g1, cap1, rfl⟩ := ownsRow_succ hown1.row; have hcle : M + 1 ≤ cap1 := (by obtain ⟨A', c', e', h'⟩ := hown1.ss; cases e'; exact h'.le); obtain ⟨hv11, hv21, hr21, hk21, hb21⟩ := Boxed.appended hv (by decide) hrow (by omega) (by omega) hown1.row hgrow1; have hc11 := hv11.cell; have hf11 := hv11.frozen)
    all_goals (
      have hKD := hk21.same D _ HK.out rfl
      have hgo : Gots (y1.setCell ⟨X, 0, none⟩ (.slice (some ⟨g1, 0, none⟩) (M + 1) cap1)) B 38 (.slice (some ⟨g1, 0, none⟩) (M + 1) cap1) (M + 1) _ := ⟨hr21, hown1.wide⟩
      obtain ⟨R', d', e', hsn⟩ := hgo.sn
      cases e'
      have hB2 := (hB1.trans hb21).trans (belowK_b (w := w4) (by omega) _ D _ (.deferred none) (by omega) hKD rfl rfl)
      refine ⟨by simp, .inl ⟨_, _, rfl, run_takeDeferred hKD, ?_⟩⟩
      first
        | (have hmn : min (M + 1) 100 = M + 1 := by omega
           refine ⟨.slice (some ⟨g1, 0, none⟩) (M + 1) cap1, by simp [results, Try.f20, go_sem], _, _, _, rfl, ?_, hB2⟩
           rw [HLF.out, ← HOW.out, hmn]
           exact (hsn.head (Nat.le_refl _)).putDl hKD rfl)
        | (have hmn : min (M + 1) 100 = 100 := by omega
           refine ⟨.slice (some ⟨g1, 0, none⟩) 100 cap1, by simp [results, Try.f20, go_sem], _, _, _, rfl, ?_, hB2⟩
           rw [HLF.out, ← HOW.out, hmn]
           exact (hsn.head (by omega)).putDl hKD rfl))
  case stop =>
    rintro D c pre W hD ⟨rest, hk⟩ ⟨⟨⟨rfl, ini, hcut, ⟨v, hv, hrow⟩, bN⟩, hB1⟩, hSz⟩ hK
    have hLeft : leftR ⟨span, l, high⟩ at_ nn = ini := left_cutP ((pts_iff _).1 hok.pts).2 hk hcut
    have hlL : (ini).length ≤ 100 := by rw [← hLeft]; exact Nat.le_trans (left_len _ _ _) hok.len
    have hwL : Wide (ini) := by rw [← hLeft]; exact fun p hp => hs.rd.wide p (List.mem_filter.1 hp).1
    have hcN := bN.cell 0 rfl
    have hcv := hv.cell
    have HG := Lib.hid (⟨hrow, hwL⟩ : Gots W B 38 v (ini).length (ini))
    obtain ⟨M, hM⟩ : ∃ M, (ini).length = M := ⟨_, rfl⟩
    rw [hM] at HG hlL hrow
    have hwa : W64 at_ := by unfold W64; omega
    have hwn : W64 nn := by unfold W64; omega
    have HK := Lib.hid hK; clear hK
    have HWA := Lib.hid hwa; have HWN := Lib.hid hwn
    have HOW := Lib.hid (own_take (a := at_) (n := nn) (by rw [hM]; exact hlL : (ini).length ≤ 100)); 
    rw [hM] at HOW
    have HLF := Lib.hid hLeft
    clear hwL hLeft hwa hwn hM
    refine wpIn_wide.2 ?_
    go_upto_region 6 with fail
    go_wp2_with (at_builtin; refine wpList_apps _ rfl (.tmp 27) (.tmp 31) 22 rfl B 38 Try.underlying22 info_pt _ _ _ rfl ⟨HG.out.row.alloc (.cells #[.int .i64 at_, .int .i64 nn] 38), HG.out.wide⟩ rfl (fun h => by cases h) (sn_one W HWA.out HWN.out 38).rd (by omega) (by simp; omega) ?_; intro v1 y1 hown1 hgrow1 _; obtain ⟨g1, cap1, rfl⟩ := ownsRow_succ hown1.row; have hcle : M + 1 ≤ cap1 := (by obtain ⟨A', c', e', h'⟩ := hown1.ss; cases e'; exact h'.le); obtain ⟨hv11, hv21, hr21, hk21, hb21⟩ := Boxed.appended hv (by decide) hrow (by omega) (by omega) hown1.row hgrow1; have hc11 := hv11.cell; have hf11 := hv11.frozen)
    all_goals (
      have hKD := hk21.same D _ HK.out rfl
      have hgo : Gots (y1.setCell ⟨X, 0, none⟩ (.slice (some ⟨g1, 0, none⟩) (M + 1) cap1)) B 38 (.slice (some ⟨g1, 0, none⟩) (M + 1) cap1) (M + 1) _ := ⟨hr21, hown1.wide⟩
      obtain ⟨R', d', e', hsn⟩ := hgo.sn
      cases e'
      have hB2 := (hB1.trans hb21).trans (belowK_b (w := w4) (by omega) _ D _ (.deferred none) (by omega) hKD rfl rfl)
      refine ⟨by simp, .inl ⟨_, _, rfl, run_takeDeferred hKD, ?_⟩⟩
      first
        | (have hmn : min (M + 1) 100 = M + 1 := by omega
           refine ⟨.slice (some ⟨g1, 0, none⟩) (M + 1) cap1, by simp [results, Try.f20, go_sem], _, _, _, rfl, ?_, hB2⟩
           rw [HLF.out, ← HOW.out, hmn]
           exact (hsn.head (Nat.le_refl _)).putDl hKD rfl)
        | (have hmn : min (M + 1) 100 = 100 := by omega
           refine ⟨.slice (some ⟨g1, 0, none⟩) 100 cap1, by simp [results, Try.f20, go_sem], _, _, _, rfl, ?_, hB2⟩
           rw [HLF.out, ← HOW.out, hmn]
           exact (hsn.head (by omega)).putDl hKD rfl))
end Go.Proofs.Ytihheanjlabioaa
