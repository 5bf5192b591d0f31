/- The texts SpCut. -/
import Derived.Test.YtggnhccpncgfiaaProg
import Derived.Test.YtggnhccpncgfiaaM05
set_option linter.all false
set_option maxRecDepth 100000
namespace Go.Proofs.Ytggnhccpncgfiaa
open Go.RowKit Go.Shelf
attribute [local go_sem] Oper.semAt_some
theorem cell_two_new (w : World) (x y : Int) (t : TypeId) : ∀ j u, (vals [(x, y)])[j]? = some u → (w.alloc (.cells #[.int .i64 x, .int .i64 y] t)).cell? ((⟨w.heap.size, 0, none⟩ : Addr).add j) = some u :=
  news_of_rs (n := 1) rfl (fun i hi => by
    obtain rfl : i = 0 := by omega
    have h := Boxed2.new w t (.int .i64 x) (.int .i64 y)
    exact ⟨h.fst, h.snd⟩)
theorem lft_len (s x : Sp) : (lft s x).length ≤ 2 := by unfold lft; split <;> split <;> simp
theorem cutL_len (l : List Sp) (s : Sp) : (cutL l s).length ≤ 2 * l.length := by
  induction l with
  | nil => simp [cutL]
  | cons p t ih =>
    have h := lft_len s p
    have e : cutL (p :: t) s = lft s p ++ cutL t s := rfl
    rw [e, List.length_append, List.length_cons]; omega
theorem lft_wide {s x : Sp} (hs : W64 s.1 ∧ W64 s.2) (hx : W64 x.1 ∧ W64 x.2) : Wide (lft s x) := by
  intro p hp
  unfold W64 at *
  unfold lft at hp
  rcases List.mem_append.1 hp with h | h
  · split at h
    · rw [List.mem_singleton] at h; subst h; simp only; omega
    · cases h
  · split at h
    · rw [List.mem_singleton] at h; subst h; simp only; omega
    · cases h
theorem cutL_wide {l : List Sp} (hl : Wide l) {s : Sp} (hs : W64 s.1 ∧ W64 s.2) : Wide (cutL l s) := by
  intro p hp
  unfold cutL at hp
  obtain ⟨x, hx, hp⟩ := List.mem_flatMap.1 hp
  exact lft_wide hs (hl x hx) p hp
theorem lft_none {s x : Sp} {M X : Int} (hM : min x.2 s.1 = M) (hX : max x.1 s.2 = X) (h1 : ¬ x.1 < M) (h2 : ¬ X < x.2) : lft s x = [] := by unfold lft; rw [hM, hX, if_neg h1, if_neg h2]; rfl
theorem lft_fst {s x : Sp} {M X : Int} (hM : min x.2 s.1 = M) (hX : max x.1 s.2 = X) (h1 : x.1 < M) (h2 : ¬ X < x.2) : lft s x = [(x.1, M)] := by unfold lft; rw [hM, hX, if_pos h1, if_neg h2]; rfl
theorem lft_snd {s x : Sp} {M X : Int} (hM : min x.2 s.1 = M) (hX : max x.1 s.2 = X) (h1 : ¬ x.1 < M) (h2 : X < x.2) : lft s x = [(X, x.2)] := by unfold lft; rw [hM, hX, if_neg h1, if_pos h2]; rfl
theorem lft_both {s x : Sp} {M X : Int} (hM : min x.2 s.1 = M) (hX : max x.1 s.2 = X) (h1 : x.1 < M) (h2 : X < x.2) : lft s x = [(x.1, M), (X, x.2)] := by unfold lft; rw [hM, hX, if_pos h1, if_pos h2]; rfl
theorem Ss.putD {w : World} {A : Option Addr} {n c : Nat} {l : List Sp} (h : Ss w A n c l) {D : Nat} {o : Obj} {o' : Obj} (hD : w.heap[D]? = some o) (ho : o.isCells = false) : Ss (w.putObj D o') A n c l :=
  ⟨h.le, h.max, h.nil, h.rd.len, h.rd.wide, fun hn => by
    obtain ⟨b, q, e, hlt, hc⟩ := h.rd.at_ hn
    refine ⟨b, q, e, Nat.lt_of_lt_of_le hlt (grownBy_putObj' w D o').size, fun i hi => ?_⟩
    exact ⟨cell_kept (hc i hi).1 (grownBy_putObj' w D o') (fun r e => by cases e; exact ⟨_, hD, ho⟩), cell_kept (hc i hi).2 (grownBy_putObj' w D o') (fun r e => by cases e; exact ⟨_, hD, ho⟩)⟩⟩
theorem Sq.putD {w : World} {base : Nat} {A : Option Addr} {n c : Nat} {l : List Sp} (h : Sq w base A n c l) {D : Nat} {o : Obj} {o' : Obj} (hD : w.heap[D]? = some o) (ho : o.isCells = false) : Sq (w.putObj D o') base A n c l := ⟨h.ss.putD hD ho, h.at_⟩
theorem rest_own (n₀ B : Nat) (t e : TypeId) (f : List Sp → List Sp) : Own (fun s W => ∃ v, Boxed W B t v ∧ W.ownsRow n₀ e 2 v (f s).length (vals (f s))) := by
  have := holdsRow_own n₀ B t e 2 (fun s => (f s).length) (fun s => vals (f s)) (fun _ _ => True)
  intro s X Y row hs hg hr
  obtain ⟨v, h1, h2⟩ := hs
  obtain ⟨v', h1', h2', _⟩ := this s X Y row ⟨v, h1, h2, trivial⟩ hg hr
  exact ⟨v', h1', h2'⟩
set_option maxRecDepth 100000 in
set_option maxHeartbeats 8000000 in
theorem cut_own (A : Option Addr) (len cap : Nat) (l : List Sp) (a b : Int) (w : World) (hs : Ss w A len cap l) (ha : W64 a) (hb : W64 b) :
    Calls Try.prog 77 #[.slice A len cap, .agg #[.int .i64 a, .int .i64 b]] w fun e w' => ∃ R n d, e = .returned (.tuple #[.slice R n d, .int .i64 (cutR l (a, b)).2]) ∧ Sq w' w.heap.size R n d (cutR l (a, b)).1 ∧ Below w.heap.size w w' := by
  have s0 := Boxed2.new w 60 (.int .i64 a) (.int .i64 b)
  have hb0 : Below w.heap.size w (w.alloc (.cells #[.int .i64 a, .int .i64 b] 60)) := (Below.refl _ w).alloc (Nat.le_refl _) _
  have hs0 := hs.alloc (.cells #[.int .i64 a, .int .i64 b] 60)
  have hmay := may_any A len cap l _ hs0
  obtain ⟨w0, hw0⟩ : ∃ w0, w.alloc (.cells #[.int .i64 a, .int .i64 b] 60) = w0 := ⟨_, rfl⟩
  rw [hw0] at hmay s0 hb0 hs0
  have hlen := hs.rd.len
  obtain ⟨i0, hi, hz0, hz1, hz2⟩ := info_parts info_sp
  refine (callsIn_wide (n := 4)).1 ?_
  have h1 : 1 ≤ 4 := by omega
  refine callsIn_of_wp_marks Try.func77 rfl trivial ?_ rfl
  simp only [Try.ntmps77, List.size_toArray, List.length_cons, List.length_nil, Nat.reduceAdd, Nat.reduceSub, Array.replicate_succ, Array.replicate_zero, List.push_toArray, List.append_toArray, List.nil_append, List.cons_append]
  by_cases hm : mayB l = true
  case neg =>
    have hm' : mayB l = false := by simpa using hm
    have e0 : cutR l (a, b) = ([], 1) := by unfold cutR told; rw [hm']; rfl
    rw [hm'] at hmay
    rw [e0]
    gi_wp2_with (first
      | (refine ⟨trivial, ?_⟩; gi_at_call 52; refine (callsIn_wide.2 hmay).mono ?_; rintro e w1 ⟨rfl, hb1⟩)
      | (refine (And.intro trivial ?_ : Fence.wide.fn 81 ∧ _)))
    exact ⟨.tuple #[.slice none 0 0, .int .i64 1], by simp [results, Try.f77, go_sem], none, 0, 0, rfl, Sq.none _ _, hb0.trans (hb1.mono hb0.size)⟩
  case pos =>
  have hle := (mayB_parts hm).1
  rw [hm] at hmay
  by_cases hv : vld a b = true
  case neg =>
    have hv' : vld a b = false := by simpa using hv
    clear hv
    have e0 : cutR l (a, b) = ([], 1) := by unfold cutR told; rw [hm, hv']; rfl
    rw [e0]
    gi_wp2_with (first
      | (refine ⟨trivial, ?_⟩; gi_at_call 52; refine (callsIn_wide.2 hmay).mono ?_; rintro e w1 ⟨rfl, hb1⟩; have a4 := s0.below hb1 s0.lt; have hc4 := a4.fst; have hc5 := a4.snd)
      | (refine ⟨trivial, ?_⟩; gi_at_call 81; refine (callsIn_wide.2 (valid_any _ _ _)).mono ?_; rintro e w' ⟨rfl, rfl⟩))
    exact ⟨.tuple #[.slice none 0 0, .int .i64 1], by simp [results, Try.f77, go_sem], none, 0, 0, rfl, Sq.none _ _, hb0.trans (hb1.mono hb0.size)⟩
  case pos =>
  have e0 : cutR l (a, b) = told true (cutL l (a, b)) := by unfold cutR; rw [hm, hv]; rfl
  rw [e0]
  clear e0
  gi_wp2_with (first
    | (refine ⟨trivial, ?_⟩; gi_at_call 52; refine (callsIn_wide.2 hmay).mono ?_; rintro e w1 ⟨rfl, hb1⟩; have a4 := s0.below hb1 s0.lt; have hc4 := a4.fst; have hc5 := a4.snd; have b1 := hb0.trans (hb1.mono hb0.size))
    | (refine ⟨trivial, ?_⟩; gi_at_call 81; refine (callsIn_wide.2 (valid_any _ _ _)).mono ?_; rintro e w' ⟨rfl, rfl⟩)
    | (gi_at_make; refine wpListIn_make_own _ rfl _ _ 23 rfl w0.heap.size 60 i0 (.agg #[.int .i64 0, .int .i64 0]) 2 Try.underlying23 hi hz0 hz1 _ _ _ (len + 1) rfl rfl (by omega) (by rw [hz2]; omega) (by unfold maxLen; omega) hb1.size ?_; intro w2 hown2 hgrow2; have b2 : Below w0.heap.size w0 w2 := hb1.grown hgrow2 hb1.size (fun k hk => by cases hk))
    | (refine ⟨trivial, ?_⟩; gi_at_call 80; refine (ends_in Fence.wide _ trivial rfl _ _ _ _).mono ?_; rintro e w' ⟨rfl, rfl⟩))
  have bX := Boxed.new w2 23 (.slice (some ⟨w1.heap.size, 0, none⟩) 0 (len + 1))
  have hX0 := hown2.alloc (.cells #[.slice (some ⟨w1.heap.size, 0, none⟩) 0 (len + 1)] 23)
  have b3 : Below w0.heap.size w0 (w2.alloc (.cells #[.slice (some ⟨w1.heap.size, 0, none⟩) 0 (len + 1)] 23)) := b2.alloc b2.size _
  have bN := Boxed.new (w2.alloc (.cells #[.slice (some ⟨w1.heap.size, 0, none⟩) 0 (len + 1)] 23)) 23 (.slice A len cap)
  have hsz3 : (w2.alloc (.cells #[.slice (some ⟨w1.heap.size, 0, none⟩) 0 (len + 1)] 23)).heap.size = w2.heap.size + 1 := by simp
  obtain ⟨w3, hw3⟩ : ∃ w3, w2.alloc (.cells #[.slice (some ⟨w1.heap.size, 0, none⟩) 0 (len + 1)] 23) = w3 := ⟨_, rfl⟩
  rw [hw3] at bX hX0 b3 bN hsz3 ⊢
  rw [hsz3] at bN
  have k2 : Below w0.heap.size w0 (w3.alloc (.cells #[.slice A len cap] 23)) := b3.alloc b3.size _
  have kk : Below w.heap.size w (w3.alloc (.cells #[.slice A len cap] 23)) := hb0.trans (k2.mono hb0.size)
  have hsz4 : (w3.alloc (.cells #[.slice A len cap] 23)).heap.size = w2.heap.size + 1 + 1 := by rw [World.size_alloc, hsz3]
  have hne : w.heap.size < w2.heap.size := Nat.lt_of_lt_of_le s0.lt b2.size
  have hBX : w0.heap.size ≤ w2.heap.size := b2.size
  refine wpIn_rangeFunc_ownG rfl h1 (gf := 100) (lb := #[.pointer (some ⟨w2.heap.size + 1, 0, none⟩)]) rfl trivial (enters_of Try.func100 (by kernel_rfl) rfl)
    (ends_stops Fence.wide (4 - 1) trivial rfl (by omega) (w2.heap.size + 1) w0.heap.size A len cap l (by omega) _ (by omega) k2.size bN.cell (hs.rd.keep kk) (fun b o e h0 => Nat.lt_of_lt_of_le (fresh_of hs b o e h0) hb0.size)) belowK_t (belowK_b k2.size) (Below.refl _ _) (fun _ => rfl)
    (fun pre W => (∃ v, Boxed W w2.heap.size 23 v ∧ W.ownsRow w0.heap.size 60 2 v (cutL pre (a, b)).length (vals (cutL pre (a, b)))) ∧ Below w0.heap.size w0 W)
    (fun _ _ _ => False)
    (OwnFrom.and (Own.from (rest_own _ _ _ _ (fun pre => cutL pre (a, b))) _) (ownFrom_below (Nat.le_refl _) k2.size))
    (fun _ _ _ _ _ hs _ _ => hs)
    ⟨⟨_, bX.alloc _, hX0.alloc _⟩, k2⟩
    (fun x => { tmps := #[.slice A len cap, .agg #[.int .i64 a, .int .i64 b], undef, .pointer (some ⟨w.heap.size, 0, none⟩), .slice none 0 0, .int .i64 0, .pointer (some ⟨w2.heap.size, 0, none⟩), .int .i64 x.1, .int .i64 x.2, undef, undef, .slice A len cap, .bool true, .bool false, .bool false, .pointer (some ⟨w.heap.size, 0, none⟩), .int .i64 a, .pointer (some ⟨w.heap.size, 1, none⟩), .int .i64 b, .bool true, .bool false, .bool false, .slice A len cap, .int .i64 (len : Int), .int .i64 ((len : Int) + 1), .slice (some ⟨w1.heap.size, 0, none⟩) 0 (len + 1), .slice A len cap, .func (.func 100) #[] #[.pointer (some ⟨w2.heap.size + 1, 0, none⟩)], .int .i64 x.1, .int .i64 x.2, undef, undef, undef, undef, undef, undef, undef, undef, undef, undef, undef, undef, undef, undef, undef, undef, undef, undef, undef, undef, undef, undef, undef, undef, undef, undef, undef, undef, undef, undef], defers := [] }) ?assign ?body ?done ?stop
  case assign =>
    intro l x W K hK
    gi_wp2
    exact hK
  case body =>
    rintro r pre x W ⟨⟨v, hv, hrow⟩, hB⟩ hlt
    have hS := s0.below hB s0.lt
    have hsa := hS.fst
    have hsb := hS.snd
    have hc := hv.cell
    have hnx := hB.size
    have hcl := cutL_len pre (a, b)
    have hsnoc := cutL_snoc pre (a, b) x
    rcases Int.lt_or_le a x.2 with q1 | q1
    · rcases Int.lt_or_le x.1 b with q2 | q2
      · rcases Int.lt_or_le x.1 a with q3 | q3
        · rcases Int.lt_or_le b x.2 with q4 | q4
          · have hl : lft (a, b) x = _ := lft_both (s := (a, b)) (x := x) (M := a) (X := b) (by simp only; omega) (by simp only; omega) (by omega) (by omega)
            rw [hl] at hsnoc
            clear hl
            have HS := Lib.hid hsnoc; clear hsnoc
            gi_wp2_with (first | (gi_at_builtin; refine wpListIn_append_own _ rfl (.tmp 37) (.tmp 41) 23 rfl w0.heap.size 60 i0 (.agg #[.int .i64 0, .int .i64 0]) 2 16 Try.underlying23 hi hz0 hz1 hz2 rfl (by decide) _ _ _ rfl (hrow.alloc _) ⟨W.heap.size, 0, none⟩ 1 1 (vals [(x.1, a)]) rfl rfl (cell_two_new _ _ _ _) (vals_cell _) ?_ ?_ ?_ ?_; (unfold maxLen; omega); omega; (simp; omega); intro v1 y1 hown1 hgrow1 _; obtain ⟨g1, cap1, rfl⟩ := ownsRow_succ hown1; obtain ⟨hv11, hv21, hr21, hk21, hb21⟩ := Boxed.appended hv (by decide) hrow hB.size hBX hown1 hgrow1; have hc11 := hv11.cell; have hf11 := hv11.frozen; have hS1 := (hS.alloc (.cells #[.int .i64 x.1, .int .i64 a] 60)).kept hgrow1 (fun e => by have := (hrow.lt _ e.symm).1; have := s0.lt; omega); have hsa1 := hS1.fst; have hsb1 := hS1.snd; have hB1 := hB.trans hb21; obtain ⟨W2, hW2⟩ : ∃ W2, y1.setCell ⟨w2.heap.size, 0, none⟩ (.slice (some ⟨g1, 0, none⟩) ((cutL pre (a, b)).length + 1) cap1) = W2 := ⟨_, rfl⟩; rw [hW2] at hv21 hr21 hk21 hb21 hB1; have hnx1 := hB1.size; have hS2 := hS.below hb21 s0.lt; have hsa2 := hS2.fst; have hsb2 := hS2.snd; have hc21 := hv21.cell) | (gi_at_builtin; refine wpListIn_append_own _ rfl (.tmp 50) (.tmp 54) 23 rfl w0.heap.size 60 i0 (.agg #[.int .i64 0, .int .i64 0]) 2 16 Try.underlying23 hi hz0 hz1 hz2 rfl (by decide) _ _ _ rfl (hr21.alloc _) ⟨W2.heap.size, 0, none⟩ 1 1 (vals [(b, x.2)]) rfl rfl (cell_two_new _ _ _ _) (vals_cell _) ?_ ?_ ?_ ?_; (unfold maxLen; omega); omega; (simp; omega); intro v2 y2 hown2 hgrow2 _; obtain ⟨g2, cap2, rfl⟩ := ownsRow_succ hown2; obtain ⟨hv12, hv22, hr22, hk22, hb22⟩ := Boxed.appended hv21 (by decide) hr21 hB1.size hBX hown2 hgrow2; have hc12 := hv12.cell; have hf12 := hv12.frozen; skip))
            exact ⟨(hk21.trans hk22).from _, hb21.trans hb22, ⟨_, hv22, by rw [HS.out, vals_app]; simpa [vals, List.append_assoc] using hr22⟩, hB1.trans hb22⟩
          · have hl : lft (a, b) x = _ := lft_fst (s := (a, b)) (x := x) (M := a) (X := b) (by simp only; omega) (by simp only; omega) (by omega) (by omega)
            rw [hl] at hsnoc
            clear hl
            have HS := Lib.hid hsnoc; clear hsnoc
            gi_wp2_with (first | (gi_at_builtin; refine wpListIn_append_own _ rfl (.tmp 37) (.tmp 41) 23 rfl w0.heap.size 60 i0 (.agg #[.int .i64 0, .int .i64 0]) 2 16 Try.underlying23 hi hz0 hz1 hz2 rfl (by decide) _ _ _ rfl (hrow.alloc _) ⟨W.heap.size, 0, none⟩ 1 1 (vals [(x.1, a)]) rfl rfl (cell_two_new _ _ _ _) (vals_cell _) ?_ ?_ ?_ ?_; (unfold maxLen; omega); omega; (simp; omega); intro v1 y1 hown1 hgrow1 _; obtain ⟨g1, cap1, rfl⟩ := ownsRow_succ hown1; obtain ⟨hv11, hv21, hr21, hk21, hb21⟩ := Boxed.appended hv (by decide) hrow hB.size hBX hown1 hgrow1; have hc11 := hv11.cell; have hf11 := hv11.frozen; have hS1 := (hS.alloc (.cells #[.int .i64 x.1, .int .i64 a] 60)).kept hgrow1 (fun e => by have := (hrow.lt _ e.symm).1; have := s0.lt; omega); have hsa1 := hS1.fst; have hsb1 := hS1.snd; have hB1 := hB.trans hb21; obtain ⟨W2, hW2⟩ : ∃ W2, y1.setCell ⟨w2.heap.size, 0, none⟩ (.slice (some ⟨g1, 0, none⟩) ((cutL pre (a, b)).length + 1) cap1) = W2 := ⟨_, rfl⟩; rw [hW2] at hv21 hr21 hk21 hb21 hB1; have hnx1 := hB1.size; have hS2 := hS.below hb21 s0.lt; have hsa2 := hS2.fst; have hsb2 := hS2.snd; have hc21 := hv21.cell))
            exact ⟨hk21.from _, hb21, ⟨_, hv21, by rw [HS.out, vals_app]; simpa using hr21⟩, hB.trans hb21⟩
        · rcases Int.lt_or_le b x.2 with q4 | q4
          · have hl : lft (a, b) x = _ := lft_snd (s := (a, b)) (x := x) (M := a) (X := b) (by simp only; omega) (by simp only; omega) (by omega) (by omega)
            rw [hl] at hsnoc
            clear hl
            have HS := Lib.hid hsnoc; clear hsnoc
            gi_wp2_with (first | (gi_at_builtin; refine wpListIn_append_own _ rfl (.tmp 50) (.tmp 54) 23 rfl w0.heap.size 60 i0 (.agg #[.int .i64 0, .int .i64 0]) 2 16 Try.underlying23 hi hz0 hz1 hz2 rfl (by decide) _ _ _ rfl (hrow.alloc _) ⟨W.heap.size, 0, none⟩ 1 1 (vals [(b, x.2)]) rfl rfl (cell_two_new _ _ _ _) (vals_cell _) ?_ ?_ ?_ ?_; (unfold maxLen; omega); omega; (simp; omega); intro v2 y2 hown2 hgrow2 _; obtain ⟨g2, cap2, rfl⟩ := ownsRow_succ hown2; obtain ⟨hv12, hv22, hr22, hk22, hb22⟩ := Boxed.appended hv (by decide) hrow hB.size hBX hown2 hgrow2; have hc12 := hv12.cell; have hf12 := hv12.frozen; skip))
            exact ⟨hk22.from _, hb22, ⟨_, hv22, by rw [HS.out, vals_app]; simpa using hr22⟩, hB.trans hb22⟩
          · have hl : lft (a, b) x = _ := lft_none (s := (a, b)) (x := x) (M := a) (X := b) (by simp only; omega) (by simp only; omega) (by omega) (by omega)
            rw [hl] at hsnoc
            clear hl
            have HS := Lib.hid hsnoc; clear hsnoc
            gi_wp2_with fail
            exact ⟨KeepsFrom.refl _ _, Below.refl _ _, ⟨v, hv, by rw [HS.out, List.append_nil]; exact hrow⟩, hB⟩
      · rcases Int.lt_or_le x.1 a with q3 | q3
        · rcases Int.lt_or_le x.1 x.2 with q4 | q4
          · have hl : lft (a, b) x = _ := lft_both (s := (a, b)) (x := x) (M := a) (X := x.1) (by simp only; omega) (by simp only; omega) (by omega) (by omega)
            rw [hl] at hsnoc
            clear hl
            have HS := Lib.hid hsnoc; clear hsnoc
            gi_wp2_with (first | (gi_at_builtin; refine wpListIn_append_own _ rfl (.tmp 37) (.tmp 41) 23 rfl w0.heap.size 60 i0 (.agg #[.int .i64 0, .int .i64 0]) 2 16 Try.underlying23 hi hz0 hz1 hz2 rfl (by decide) _ _ _ rfl (hrow.alloc _) ⟨W.heap.size, 0, none⟩ 1 1 (vals [(x.1, a)]) rfl rfl (cell_two_new _ _ _ _) (vals_cell _) ?_ ?_ ?_ ?_; (unfold maxLen; omega); omega; (simp; omega); intro v1 y1 hown1 hgrow1 _; obtain ⟨g1, cap1, rfl⟩ := ownsRow_succ hown1; obtain ⟨hv11, hv21, hr21, hk21, hb21⟩ := Boxed.appended hv (by decide) hrow hB.size hBX hown1 hgrow1; have hc11 := hv11.cell; have hf11 := hv11.frozen; have hS1 := (hS.alloc (.cells #[.int .i64 x.1, .int .i64 a] 60)).kept hgrow1 (fun e => by have := (hrow.lt _ e.symm).1; have := s0.lt; omega); have hsa1 := hS1.fst; have hsb1 := hS1.snd; have hB1 := hB.trans hb21; obtain ⟨W2, hW2⟩ : ∃ W2, y1.setCell ⟨w2.heap.size, 0, none⟩ (.slice (some ⟨g1, 0, none⟩) ((cutL pre (a, b)).length + 1) cap1) = W2 := ⟨_, rfl⟩; rw [hW2] at hv21 hr21 hk21 hb21 hB1; have hnx1 := hB1.size; have hS2 := hS.below hb21 s0.lt; have hsa2 := hS2.fst; have hsb2 := hS2.snd; have hc21 := hv21.cell) | (gi_at_builtin; refine wpListIn_append_own _ rfl (.tmp 50) (.tmp 54) 23 rfl w0.heap.size 60 i0 (.agg #[.int .i64 0, .int .i64 0]) 2 16 Try.underlying23 hi hz0 hz1 hz2 rfl (by decide) _ _ _ rfl (hr21.alloc _) ⟨W2.heap.size, 0, none⟩ 1 1 (vals [(x.1, x.2)]) rfl rfl (cell_two_new _ _ _ _) (vals_cell _) ?_ ?_ ?_ ?_; (unfold maxLen; omega); omega; (simp; omega); intro v2 y2 hown2 hgrow2 _; obtain ⟨g2, cap2, rfl⟩ := ownsRow_succ hown2; obtain ⟨hv12, hv22, hr22, hk22, hb22⟩ := Boxed.appended hv21 (by decide) hr21 hB1.size hBX hown2 hgrow2; have hc12 := hv12.cell; have hf12 := hv12.frozen; skip))
            exact ⟨(hk21.trans hk22).from _, hb21.trans hb22, ⟨_, hv22, by rw [HS.out, vals_app]; simpa [vals, List.append_assoc] using hr22⟩, hB1.trans hb22⟩
          · exfalso; omega
        · rcases Int.lt_or_le x.1 x.2 with q4 | q4
          · have hl : lft (a, b) x = _ := lft_snd (s := (a, b)) (x := x) (M := a) (X := x.1) (by simp only; omega) (by simp only; omega) (by omega) (by omega)
            rw [hl] at hsnoc
            clear hl
            have HS := Lib.hid hsnoc; clear hsnoc
            gi_wp2_with (first | (gi_at_builtin; refine wpListIn_append_own _ rfl (.tmp 50) (.tmp 54) 23 rfl w0.heap.size 60 i0 (.agg #[.int .i64 0, .int .i64 0]) 2 16 Try.underlying23 hi hz0 hz1 hz2 rfl (by decide) _ _ _ rfl (hrow.alloc _) ⟨W.heap.size, 0, none⟩ 1 1 (vals [(x.1, x.2)]) rfl rfl (cell_two_new _ _ _ _) (vals_cell _) ?_ ?_ ?_ ?_; (unfold maxLen; omega); omega; (simp; omega); intro v2 y2 hown2 hgrow2 _; obtain ⟨g2, cap2, rfl⟩ := ownsRow_succ hown2; obtain ⟨hv12, hv22, hr22, hk22, hb22⟩ := Boxed.appended hv (by decide) hrow hB.size hBX hown2 hgrow2; have hc12 := hv12.cell; have hf12 := hv12.frozen; skip))
            exact ⟨hk22.from _, hb22, ⟨_, hv22, by rw [HS.out, vals_app]; simpa using hr22⟩, hB.trans hb22⟩
          · have hl : lft (a, b) x = _ := lft_none (s := (a, b)) (x := x) (M := a) (X := x.1) (by simp only; omega) (by simp only; omega) (by omega) (by omega)
            rw [hl] at hsnoc
            clear hl
            have HS := Lib.hid hsnoc; clear hsnoc
            gi_wp2_with fail
            exact ⟨KeepsFrom.refl _ _, Below.refl _ _, ⟨v, hv, by rw [HS.out, List.append_nil]; exact hrow⟩, hB⟩
    · rcases Int.lt_or_le x.1 b with q2 | q2
      · rcases Int.lt_or_le x.1 x.2 with q3 | q3
        · rcases Int.lt_or_le b x.2 with q4 | q4
          · have hl : lft (a, b) x = _ := lft_both (s := (a, b)) (x := x) (M := x.2) (X := b) (by simp only; omega) (by simp only; omega) (by omega) (by omega)
            rw [hl] at hsnoc
            clear hl
            have HS := Lib.hid hsnoc; clear hsnoc
            gi_wp2_with (first | (gi_at_builtin; refine wpListIn_append_own _ rfl (.tmp 37) (.tmp 41) 23 rfl w0.heap.size 60 i0 (.agg #[.int .i64 0, .int .i64 0]) 2 16 Try.underlying23 hi hz0 hz1 hz2 rfl (by decide) _ _ _ rfl (hrow.alloc _) ⟨W.heap.size, 0, none⟩ 1 1 (vals [(x.1, x.2)]) rfl rfl (cell_two_new _ _ _ _) (vals_cell _) ?_ ?_ ?_ ?_; (unfold maxLen; omega); omega; (simp; omega); intro v1 y1 hown1 hgrow1 _; obtain ⟨g1, cap1, rfl⟩ := ownsRow_succ hown1; obtain ⟨hv11, hv21, hr21, hk21, hb21⟩ := Boxed.appended hv (by decide) hrow hB.size hBX hown1 hgrow1; have hc11 := hv11.cell; have hf11 := hv11.frozen; have hS1 := (hS.alloc (.cells #[.int .i64 x.1, .int .i64 x.2] 60)).kept hgrow1 (fun e => by have := (hrow.lt _ e.symm).1; have := s0.lt; omega); have hsa1 := hS1.fst; have hsb1 := hS1.snd; have hB1 := hB.trans hb21; obtain ⟨W2, hW2⟩ : ∃ W2, y1.setCell ⟨w2.heap.size, 0, none⟩ (.slice (some ⟨g1, 0, none⟩) ((cutL pre (a, b)).length + 1) cap1) = W2 := ⟨_, rfl⟩; rw [hW2] at hv21 hr21 hk21 hb21 hB1; have hnx1 := hB1.size; have hS2 := hS.below hb21 s0.lt; have hsa2 := hS2.fst; have hsb2 := hS2.snd; have hc21 := hv21.cell) | (gi_at_builtin; refine wpListIn_append_own _ rfl (.tmp 50) (.tmp 54) 23 rfl w0.heap.size 60 i0 (.agg #[.int .i64 0, .int .i64 0]) 2 16 Try.underlying23 hi hz0 hz1 hz2 rfl (by decide) _ _ _ rfl (hr21.alloc _) ⟨W2.heap.size, 0, none⟩ 1 1 (vals [(b, x.2)]) rfl rfl (cell_two_new _ _ _ _) (vals_cell _) ?_ ?_ ?_ ?_; (unfold maxLen; omega); omega; (simp; omega); intro v2 y2 hown2 hgrow2 _; obtain ⟨g2, cap2, rfl⟩ := ownsRow_succ hown2; obtain ⟨hv12, hv22, hr22, hk22, hb22⟩ := Boxed.appended hv21 (by decide) hr21 hB1.size hBX hown2 hgrow2; have hc12 := hv12.cell; have hf12 := hv12.frozen; skip))
            exact ⟨(hk21.trans hk22).from _, hb21.trans hb22, ⟨_, hv22, by rw [HS.out, vals_app]; simpa [vals, List.append_assoc] using hr22⟩, hB1.trans hb22⟩
          · have hl : lft (a, b) x = _ := lft_fst (s := (a, b)) (x := x) (M := x.2) (X := b) (by simp only; omega) (by simp only; omega) (by omega) (by omega)
            rw [hl] at hsnoc
            clear hl
            have HS := Lib.hid hsnoc; clear hsnoc
            gi_wp2_with (first | (gi_at_builtin; refine wpListIn_append_own _ rfl (.tmp 37) (.tmp 41) 23 rfl w0.heap.size 60 i0 (.agg #[.int .i64 0, .int .i64 0]) 2 16 Try.underlying23 hi hz0 hz1 hz2 rfl (by decide) _ _ _ rfl (hrow.alloc _) ⟨W.heap.size, 0, none⟩ 1 1 (vals [(x.1, x.2)]) rfl rfl (cell_two_new _ _ _ _) (vals_cell _) ?_ ?_ ?_ ?_; (unfold maxLen; omega); omega; (simp; omega); intro v1 y1 hown1 hgrow1 _; obtain ⟨g1, cap1, rfl⟩ := ownsRow_succ hown1; obtain ⟨hv11, hv21, hr21, hk21, hb21⟩ := Boxed.appended hv (by decide) hrow hB.size hBX hown1 hgrow1; have hc11 := hv11.cell; have hf11 := hv11.frozen; have hS1 := (hS.alloc (.cells #[.int .i64 x.1, .int .i64 x.2] 60)).kept hgrow1 (fun e => by have := (hrow.lt _ e.symm).1; have := s0.lt; omega); have hsa1 := hS1.fst; have hsb1 := hS1.snd; have hB1 := hB.trans hb21; obtain ⟨W2, hW2⟩ : ∃ W2, y1.setCell ⟨w2.heap.size, 0, none⟩ (.slice (some ⟨g1, 0, none⟩) ((cutL pre (a, b)).length + 1) cap1) = W2 := ⟨_, rfl⟩; rw [hW2] at hv21 hr21 hk21 hb21 hB1; have hnx1 := hB1.size; have hS2 := hS.below hb21 s0.lt; have hsa2 := hS2.fst; have hsb2 := hS2.snd; have hc21 := hv21.cell))
            exact ⟨hk21.from _, hb21, ⟨_, hv21, by rw [HS.out, vals_app]; simpa using hr21⟩, hB.trans hb21⟩
        · rcases Int.lt_or_le b x.2 with q4 | q4
          · exfalso; omega
          · have hl : lft (a, b) x = _ := lft_none (s := (a, b)) (x := x) (M := x.2) (X := b) (by simp only; omega) (by simp only; omega) (by omega) (by omega)
            rw [hl] at hsnoc
            clear hl
            have HS := Lib.hid hsnoc; clear hsnoc
            gi_wp2_with fail
            exact ⟨KeepsFrom.refl _ _, Below.refl _ _, ⟨v, hv, by rw [HS.out, List.append_nil]; exact hrow⟩, hB⟩
      · rcases Int.lt_or_le x.1 x.2 with q3 | q3
        · rcases Int.lt_or_le x.1 x.2 with q4 | q4
          · have hl : lft (a, b) x = _ := lft_both (s := (a, b)) (x := x) (M := x.2) (X := x.1) (by simp only; omega) (by simp only; omega) (by omega) (by omega)
            rw [hl] at hsnoc
            clear hl
            have HS := Lib.hid hsnoc; clear hsnoc
            gi_wp2_with (first | (gi_at_builtin; refine wpListIn_append_own _ rfl (.tmp 37) (.tmp 41) 23 rfl w0.heap.size 60 i0 (.agg #[.int .i64 0, .int .i64 0]) 2 16 Try.underlying23 hi hz0 hz1 hz2 rfl (by decide) _ _ _ rfl (hrow.alloc _) ⟨W.heap.size, 0, none⟩ 1 1 (vals [(x.1, x.2)]) rfl rfl (cell_two_new _ _ _ _) (vals_cell _) ?_ ?_ ?_ ?_; (unfold maxLen; omega); omega; (simp; omega); intro v1 y1 hown1 hgrow1 _; obtain ⟨g1, cap1, rfl⟩ := ownsRow_succ hown1; obtain ⟨hv11, hv21, hr21, hk21, hb21⟩ := Boxed.appended hv (by decide) hrow hB.size hBX hown1 hgrow1; have hc11 := hv11.cell; have hf11 := hv11.frozen; have hS1 := (hS.alloc (.cells #[.int .i64 x.1, .int .i64 x.2] 60)).kept hgrow1 (fun e => by have := (hrow.lt _ e.symm).1; have := s0.lt; omega); have hsa1 := hS1.fst; have hsb1 := hS1.snd; have hB1 := hB.trans hb21; obtain ⟨W2, hW2⟩ : ∃ W2, y1.setCell ⟨w2.heap.size, 0, none⟩ (.slice (some ⟨g1, 0, none⟩) ((cutL pre (a, b)).length + 1) cap1) = W2 := ⟨_, rfl⟩; rw [hW2] at hv21 hr21 hk21 hb21 hB1; have hnx1 := hB1.size; have hS2 := hS.below hb21 s0.lt; have hsa2 := hS2.fst; have hsb2 := hS2.snd; have hc21 := hv21.cell) | (gi_at_builtin; refine wpListIn_append_own _ rfl (.tmp 50) (.tmp 54) 23 rfl w0.heap.size 60 i0 (.agg #[.int .i64 0, .int .i64 0]) 2 16 Try.underlying23 hi hz0 hz1 hz2 rfl (by decide) _ _ _ rfl (hr21.alloc _) ⟨W2.heap.size, 0, none⟩ 1 1 (vals [(x.1, x.2)]) rfl rfl (cell_two_new _ _ _ _) (vals_cell _) ?_ ?_ ?_ ?_; (unfold maxLen; omega); omega; (simp; omega); intro v2 y2 hown2 hgrow2 _; obtain ⟨g2, cap2, rfl⟩ := ownsRow_succ hown2; obtain ⟨hv12, hv22, hr22, hk22, hb22⟩ := Boxed.appended hv21 (by decide) hr21 hB1.size hBX hown2 hgrow2; have hc12 := hv12.cell; have hf12 := hv12.frozen; skip))
            exact ⟨(hk21.trans hk22).from _, hb21.trans hb22, ⟨_, hv22, by rw [HS.out, vals_app]; simpa [vals, List.append_assoc] using hr22⟩, hB1.trans hb22⟩
          · exfalso; omega
        · rcases Int.lt_or_le x.1 x.2 with q4 | q4
          · exfalso; omega
          · have hl : lft (a, b) x = _ := lft_none (s := (a, b)) (x := x) (M := x.2) (X := x.1) (by simp only; omega) (by simp only; omega) (by omega) (by omega)
            rw [hl] at hsnoc
            clear hl
            have HS := Lib.hid hsnoc; clear hsnoc
            gi_wp2_with fail
            exact ⟨KeepsFrom.refl _ _, Below.refl _ _, ⟨v, hv, by rw [HS.out, List.append_nil]; exact hrow⟩, hB⟩
  case done =>
    rintro D ys W hD rfl ⟨⟨v, hv, hrow⟩, hB⟩ hK
    have hc := hv.cell
    have hcl := cutL_len ys (a, b)
    have hgot : Gots W w0.heap.size 60 v (cutL ys (a, b)).length (cutL ys (a, b)) := ⟨hrow, cutL_wide hs.rd.wide ⟨ha, hb⟩⟩
    obtain ⟨R, e5, rfl, s5'⟩ := hgot.sq
    have s5 := s5'.mono hb0.size
    obtain ⟨N, hN⟩ : ∃ N, (cutL ys (a, b)).length = N := ⟨_, rfl⟩
    rw [hN] at hc s5 hv hgot hrow
    by_cases hle2 : N ≤ 1000
    · have et : told true (cutL ys (a, b)) = (cutL ys (a, b), 0) := by unfold told; rw [if_pos rfl, hN, if_pos hle2]
      gi_wp2_with (refine ⟨trivial, ?_⟩; gi_at_call 92; refine (callsIn_wide.2 (limited_ok _ _ _ _ hle2)).mono ?_; rintro e w' ⟨rfl, rfl⟩)
      refine ⟨by simp, .inl ⟨_, _, rfl, run_takeDeferred hK, ?_⟩⟩
      refine ⟨.tuple #[.slice R N e5, .int .i64 0], by simp [results, Try.f77, go_sem], ?_⟩
      rw [et]
      exact ⟨R, N, e5, rfl, s5.putD hK rfl, hb0.trans ((hB.trans (belowK_b (w := w0) (Nat.le_refl _) W D _ _ (by have := k2.size; omega) hK rfl rfl)).mono hb0.size)⟩
    · have et : told true (cutL ys (a, b)) = ([], 4) := by unfold told; rw [if_pos rfl, hN, if_neg hle2]
      gi_wp2_with (refine ⟨trivial, ?_⟩; gi_at_call 92; refine (callsIn_wide.2 (limited_full _ _ _ _ hle2)).mono ?_; rintro e w' ⟨rfl, rfl⟩)
      refine ⟨by simp, .inl ⟨_, _, rfl, run_takeDeferred hK, ?_⟩⟩
      refine ⟨.tuple #[.slice none 0 0, .int .i64 4], by simp [results, Try.f77, go_sem], ?_⟩
      rw [et]
      exact ⟨none, 0, 0, rfl, Sq.none _ _, hb0.trans ((hB.trans (belowK_b (w := w0) (Nat.le_refl _) W D _ _ (by have := k2.size; omega) hK rfl rfl)).mono hb0.size)⟩
  case stop =>
    rintro D c pre W _ _ h _
    exact h.elim
end Go.Proofs.Ytggnhccpncgfiaa
