/- Package spans: grown, every list of at most 1000 spans. -/
import Derived.Test.YtgiknfmagmfniaaSpAsk
import Derived.Scope
namespace Go.Proofs.Ytgiknfmagmfniaa
open Go.RowKit Go.Shelf

attribute [local go_sem] Oper.semAt_some

/-- how far grown has come when pre has been seen: the span, how many lie before -/
def GrnAt (s : Sp) (pre : List Sp) (c : Sp) (f : Nat) : Prop := f ≤ pre.length ∧ ∀ rest, grn s 0 0 (pre ++ rest) = grn c f pre.length rest
theorem grnAt_nil (s : Sp) : GrnAt s [] s 0 := ⟨Nat.le_refl _, fun _ => rfl⟩
theorem grnAt_len {s : Sp} {pre : List Sp} {c : Sp} {f : Nat} (h : GrnAt s pre c f) : f ≤ pre.length := h.1
theorem grnAt_before {s : Sp} {pre : List Sp} {c x : Sp} {f : Nat} (h : GrnAt s pre c f) (k : x.2 < c.1) : GrnAt s (pre ++ [x]) c (f + 1) :=
  ⟨by rw [List.length_append]; have := h.1; simp; omega, fun rest => by
    rw [List.append_assoc, h.2, List.length_append]
    show grn c f pre.length (x :: rest) = _
    rw [grn, if_pos k]; rfl⟩
theorem grnAt_meets {s : Sp} {pre : List Sp} {c x d : Sp} {f : Nat} (h : GrnAt s pre c f) (k : ¬ x.2 < c.1) (k' : ¬ c.2 < x.1) (hd : d = (min x.1 c.1, max x.2 c.2)) : GrnAt s (pre ++ [x]) d f :=
  ⟨by rw [List.length_append]; have := h.1; omega, fun rest => by
    rw [List.append_assoc, h.2, List.length_append, hd]
    show grn c f pre.length (x :: rest) = _
    rw [grn, if_neg k, if_neg k']; rfl⟩
/-- .. and where it has left the loop -/
def GrnOut (s : Sp) (pre : List Sp) (c : Sp) (f b : Nat) : Prop := ∀ rest, grn s 0 0 (pre ++ rest) = (c, f, b)
theorem grnOut_of {s : Sp} {pre : List Sp} {c x : Sp} {f : Nat} (h : GrnAt s pre c f) (k : ¬ x.2 < c.1) (k' : c.2 < x.1) : GrnOut s (pre ++ [x]) c f pre.length := fun rest => by
  rw [List.append_assoc, h.2]
  show grn c f pre.length (x :: rest) = _
  rw [grn, if_neg k, if_pos k']

theorem grownBy_set (W : World) (b o : Nat) (v : Value) : W.grownBy (W.setCell ⟨b, o, none⟩ v) (some b) :=
  ⟨rfl, rfl, rfl, (KeepsWalks.setCell W _ v).size, fun k _ hk => Below.heap_setCell _ _ _ k (fun e => hk (by rw [e]))⟩
theorem bx_other {W : World} {B B' : Nat} {t : TypeId} {v : Value} (h : Boxed W B t v) (hne : B ≠ B') (o : Nat) (u : Value) : Boxed (W.setCell ⟨B', o, none⟩ u) B t v := h.kept (grownBy_set W B' o u) (fun e => hne (by cases e; rfl))
theorem bx2_other {W : World} {B B' : Nat} {t : TypeId} {v v' : Value} (h : Boxed2 W B t v v') (hne : B ≠ B') (o : Nat) (u : Value) : Boxed2 (W.setCell ⟨B', o, none⟩ u) B t v v' := h.kept (grownBy_set W B' o u) (fun e => hne (by cases e; rfl))

theorem wpIn_scope_wide {n : Nat} {P : Program} {c : Code} {Q : Exit → Act → World → Prop} {a : Act} {w : World} (h : c.wpIn Fence.wide n P (Exit.noGoto Q) a w) : (Code.scope c).wpIn Fence.wide n P Q a w :=
  wpIn_wide.2 (wp_scope_straight (wpIn_wide.1 h))

set_option maxRecDepth 100000 in
set_option maxHeartbeats 4000000 in
theorem grown_any (A : Option Addr) (len cap : Nat) (l : List Sp) (a b : Int) (w : World) (hs : Ss w A len cap l) (hle : len ≤ 1000) :
    Calls Try.prog 51 #[.slice A len cap, .agg #[.int .i64 a, .int .i64 b]] w fun e W' => e = .returned (.tuple #[.agg #[.int .i64 (grn (a, b) 0 0 l).1.1, .int .i64 (grn (a, b) 0 0 l).1.2], .int .i64 ((grn (a, b) 0 0 l).2.1 : Int), .int .i64 ((grn (a, b) 0 0 l).2.2 : Int)]) ∧ Below w.heap.size w W' := by
  refine (callsIn_wide (n := 4)).1 ?_
  have h1 : 1 ≤ 4 := by omega
  have hlen := hs.rd.len
  refine callsIn_of_wp_marks Try.func51 rfl trivial ?_ rfl
  simp only [Try.ntmps51, List.size_toArray, List.length_cons, List.length_nil, Nat.reduceAdd, Nat.reduceSub, Array.replicate_succ, Array.replicate_zero, List.push_toArray, List.append_toArray, List.nil_append, List.cons_append]
  have s0 := Boxed2.new w 52 (.int .i64 a) (.int .i64 b)
  have s1 := Boxed2.new (w.alloc (.cells #[.int .i64 a, .int .i64 b] 52)) 52 (.int .i64 0) (.int .i64 0)
  have s2 := Boxed.new ((w.alloc (.cells #[.int .i64 a, .int .i64 b] 52)).alloc (.cells #[.int .i64 0, .int .i64 0] 52)) 3 (.int .i64 0)
  have s3 := Boxed.new (((w.alloc (.cells #[.int .i64 a, .int .i64 b] 52)).alloc (.cells #[.int .i64 0, .int .i64 0] 52)).alloc (.cells #[.int .i64 0] 3)) 3 (.int .i64 0)
  simp only [World.size_alloc] at s1 s2 s3
  have t0 := ((s0.alloc (.cells #[.int .i64 0, .int .i64 0] 52)).alloc (.cells #[.int .i64 0] 3)).alloc (.cells #[.int .i64 0] 3)
  have t1 := (s1.alloc (.cells #[.int .i64 0] 3)).alloc (.cells #[.int .i64 0] 3)
  have t2 := s2.alloc (.cells #[.int .i64 0] 3)
  have hb0 : Below w.heap.size w ((((w.alloc (.cells #[.int .i64 a, .int .i64 b] 52)).alloc (.cells #[.int .i64 0, .int .i64 0] 52)).alloc (.cells #[.int .i64 0] 3)).alloc (.cells #[.int .i64 0] 3)) :=
    ((((Below.refl _ w).alloc (Nat.le_refl _) _).alloc (by simp) _).alloc (by simp; omega) _).alloc (by simp; omega) _
  clear s0 s1 s2
  obtain ⟨w0, hw0⟩ : ∃ w0, (((w.alloc (.cells #[.int .i64 a, .int .i64 b] 52)).alloc (.cells #[.int .i64 0, .int .i64 0] 52)).alloc (.cells #[.int .i64 0] 3)).alloc (.cells #[.int .i64 0] 3) = w0 := ⟨_, rfl⟩
  rw [hw0] at t0 t1 t2 s3 hb0
  gi_wp2
  refine wpIn_scope_wide ?_
  gi_wp2
  refine wpIn_label ?_
  gi_wp2_with (refine ⟨trivial, ?_⟩; gi_at_call 54; refine (ends_in Fence.wide _ trivial rfl _ _ _ _).mono ?_; rintro e w' ⟨rfl, rfl⟩)
  have k2 : Below w.heap.size w (w0.alloc (.cells #[.slice A len cap] 23)) := hb0.alloc hb0.size _
  have bN := Boxed.new w0 23 (.slice A len cap)
  refine wpIn_rangeFunc_ownG rfl h1 (gf := 58) (lb := #[.pointer (some ⟨w0.heap.size, 0, none⟩)]) rfl trivial (enters_of Try.func58 (by kernel_rfl) rfl)
    (ends_stops Fence.wide (4 - 1) trivial rfl (by omega) w0.heap.size w.heap.size A len cap l (by omega) _ (by simp) k2.size bN.cell (hs.rd.keep k2) (fresh_of hs)) belowK_t (belowK_b k2.size) (Below.refl _ _) (fun _ => rfl)
    (fun pre W => (∃ c f, GrnAt (a, b) pre c f ∧ Boxed2 W w.heap.size 52 (.int .i64 c.1) (.int .i64 c.2) ∧ Boxed2 W (w.heap.size + 1) 52 (.int .i64 0) (.int .i64 0) ∧ Boxed W (w.heap.size + 1 + 1) 3 (.int .i64 (f : Int)) ∧ Boxed W (w.heap.size + 1 + 1 + 1) 3 (.int .i64 (pre.length : Int))) ∧ Below w.heap.size w W)
    (fun j pre W => (j = .exit 0 ∧ ∃ c f d, GrnOut (a, b) pre c f d ∧ f ≤ d ∧ d ≤ 1000 ∧ Boxed2 W w.heap.size 52 (.int .i64 c.1) (.int .i64 c.2) ∧ Boxed2 W (w.heap.size + 1) 52 (.int .i64 0) (.int .i64 0) ∧ Boxed W (w.heap.size + 1 + 1) 3 (.int .i64 (f : Int)) ∧ Boxed W (w.heap.size + 1 + 1 + 1) 3 (.int .i64 (d : Int))) ∧ Below w.heap.size w W)
    (OwnFrom.and (Own.from (fun s A B row hs hg hr => by
      obtain ⟨c, f, e1, e2, e3, e4, e5⟩ := hs
      exact ⟨c, f, e1, boxed2_own _ _ (fun _ => .int .i64 c.1) (fun _ => .int .i64 c.2) s A B row e2 hg hr, boxed2_own _ _ (fun _ => .int .i64 0) (fun _ => .int .i64 0) s A B row e3 hg hr, boxed_own _ _ (fun _ => .int .i64 (f : Int)) s A B row e4 hg hr, boxed_own _ _ (fun s => .int .i64 (s.length : Int)) s A B row e5 hg hr⟩) _) (ownFrom_below (Nat.le_refl _) k2.size))
    (fun j => OwnFrom.and (Own.from (fun s A B row hs hg hr => by
      obtain ⟨ej, c, f, d, e1, e6, e7, e2, e3, e4, e5⟩ := hs
      exact ⟨ej, c, f, d, e1, e6, e7, boxed2_own _ _ (fun _ => .int .i64 c.1) (fun _ => .int .i64 c.2) s A B row e2 hg hr, boxed2_own _ _ (fun _ => .int .i64 0) (fun _ => .int .i64 0) s A B row e3 hg hr, boxed_own _ _ (fun _ => .int .i64 (f : Int)) s A B row e4 hg hr, boxed_own _ _ (fun _ => .int .i64 (d : Int)) s A B row e5 hg hr⟩) _) (ownFrom_below (Nat.le_refl _) k2.size))
    ⟨⟨(a, b), 0, grnAt_nil _, t0.alloc _, t1.alloc _, t2.alloc _, s3.alloc _⟩, k2⟩
    (fun x => { tmps := #[.slice A len cap, .agg #[.int .i64 a, .int .i64 b], undef, .pointer (some ⟨w.heap.size, 0, none⟩), .pointer (some ⟨w.heap.size + 1, 0, none⟩), .pointer (some ⟨w.heap.size + 1 + 1, 0, none⟩), .pointer (some ⟨w.heap.size + 1 + 1 + 1, 0, none⟩), .int .i64 x.1, .int .i64 x.2, .slice A len cap, .func (.func 58) #[] #[.pointer (some ⟨w0.heap.size, 0, none⟩)], .int .i64 x.1, .int .i64 x.2, undef, undef, undef, undef, undef, undef, undef, undef, undef, undef, undef, undef, undef, undef, undef, undef, undef, undef, undef, undef, undef, undef, undef, undef, undef, undef], defers := [] }) ?assign ?body ?done ?stop
  case assign =>
    intro l x W K hK
    gi_wp2
    exact hK
  case body =>
    rintro r pre x W ⟨⟨c, f, hG, hS, hZ, hF, hD⟩, hB⟩ hlt
    obtain ⟨c1, c2⟩ := c
    have hfl := grnAt_len hG
    have hc1 := hS.fst
    have hc2 := hS.snd
    have hz1 := hS.frz
    have hz2 := hS.frz1
    have hcf := hF.cell
    have hzf := hF.frozen
    have hcd := hD.cell
    have hzd := hD.frozen
    by_cases h3 : x.2 < c1
    · gi_wp2
      exact ⟨((KeepsOthers.setCell _ _ _).trans (KeepsOthers.setCell _ _ _)).from _, ((Below.refl _ _).setCell (p := ⟨w.heap.size + 1 + 1, 0, none⟩) (by simp; omega) _).setCell (p := ⟨w.heap.size + 1 + 1 + 1, 0, none⟩) (by simp; omega) _,
        ⟨c1, c2, f + 1, grnAt_before hG h3, bx2_other (bx2_other hS (by omega) _ _) (by omega) _ _, bx2_other (bx2_other hZ (by omega) _ _) (by omega) _ _, bx_other (hF.set _) (by omega) _ _, by rw [List.length_append]; exact (bx_other hD (by omega) _ _).set _⟩,
        (hB.setCell (p := ⟨w.heap.size + 1 + 1, 0, none⟩) (by simp; omega) _).setCell (p := ⟨w.heap.size + 1 + 1 + 1, 0, none⟩) (by simp; omega) _⟩
    · have h3' : c1 ≤ x.2 := by omega
      by_cases h4 : c2 < x.1
      · gi_wp2
        exact ⟨KeepsFrom.refl _ _, ⟨rfl, c1, c2, f, pre.length, grnOut_of hG (by omega) h4, hfl, by omega, hS, hZ, hF, hD⟩, hB⟩
      · have h4' : x.1 ≤ c2 := by omega
        gi_wp2
        all_goals refine ⟨(((KeepsOthers.setCell _ _ _).trans (KeepsOthers.setCell _ _ _)).trans (KeepsOthers.setCell _ _ _)).from _, (((Below.refl _ _).setCell (p := ⟨w.heap.size, 0, none⟩) (by simp) _).setCell (p := ⟨w.heap.size, 1, none⟩) (by simp) _).setCell (p := ⟨w.heap.size + 1 + 1 + 1, 0, none⟩) (by simp; omega) _,
          ⟨_, _, f, ?_, bx2_other hS.set (by omega) _ _, bx2_other (bx2_other (bx2_other hZ (by omega) _ _) (by omega) _ _) (by omega) _ _, bx_other (bx_other (bx_other hF (by omega) _ _) (by omega) _ _) (by omega) _ _, by rw [List.length_append]; exact (bx_other (bx_other hD (by omega) _ _) (by omega) _ _).set _⟩,
          ((hB.setCell (p := ⟨w.heap.size, 0, none⟩) (by simp) _).setCell (p := ⟨w.heap.size, 1, none⟩) (by simp) _).setCell (p := ⟨w.heap.size + 1 + 1 + 1, 0, none⟩) (by simp; omega) _⟩
        all_goals exact grnAt_meets hG (by simp only; omega) (by simp only; omega) (Prod.ext (by simp only; omega) (by simp only; omega))
  case done =>
    rintro D ys W hD rfl ⟨⟨c, f, hG, hS, hZ, hF, hD'⟩, hB⟩ hK
    rw [hlen] at hD'
    obtain ⟨c1, c2⟩ := c
    have e0 : grn (a, b) 0 0 ys = ((c1, c2), f, len) := by have := hG.2 []; rw [List.append_nil, hlen] at this; exact this
    have hc1 := hS.fst
    have hc2 := hS.snd
    have hy1 := hZ.fst
    have hy2 := hZ.snd
    have hz1 := hZ.frz
    have hz2 := hZ.frz1
    have hcf := hF.cell
    have hzf := hF.frozen
    have hcd := hD'.cell
    have hzd := hD'.frozen
    gi_wp2
    gi_region
    gi_wp2
    have hK' := (((((KeepsOthers.setCell W ⟨w.heap.size + 1, 0, none⟩ (.int .i64 c1)).trans (KeepsOthers.setCell _ ⟨w.heap.size + 1, 1, none⟩ (.int .i64 c2))).trans (KeepsOthers.setCell _ ⟨w.heap.size + 1 + 1, 0, none⟩ (.int .i64 (f : Int)))).trans (KeepsOthers.setCell _ ⟨w.heap.size + 1 + 1 + 1, 0, none⟩ (.int .i64 (len : Int)))).trans (KeepsOthers.drew _)).same D _ hK rfl
    have r1 : Boxed2 ((((W.setCell ⟨w.heap.size + 1, 0, none⟩ (.int .i64 c1)).setCell ⟨w.heap.size + 1, 1, none⟩ (.int .i64 c2)).setCell ⟨w.heap.size + 1 + 1, 0, none⟩ (.int .i64 (f : Int))).setCell ⟨w.heap.size + 1 + 1 + 1, 0, none⟩ (.int .i64 (len : Int))).drew (w.heap.size + 1) 52 (.int .i64 c1) (.int .i64 c2) := bx2_other (bx2_other hZ.set (by omega) _ _) (by omega) _ _
    have r2 : Boxed ((((W.setCell ⟨w.heap.size + 1, 0, none⟩ (.int .i64 c1)).setCell ⟨w.heap.size + 1, 1, none⟩ (.int .i64 c2)).setCell ⟨w.heap.size + 1 + 1, 0, none⟩ (.int .i64 (f : Int))).setCell ⟨w.heap.size + 1 + 1 + 1, 0, none⟩ (.int .i64 (len : Int))).drew (w.heap.size + 1 + 1) 3 (.int .i64 (f : Int)) := bx_other ((bx_other (bx_other hF (by omega) _ _) (by omega) _ _).set _) (by omega) _ _
    have r3 : Boxed ((((W.setCell ⟨w.heap.size + 1, 0, none⟩ (.int .i64 c1)).setCell ⟨w.heap.size + 1, 1, none⟩ (.int .i64 c2)).setCell ⟨w.heap.size + 1 + 1, 0, none⟩ (.int .i64 (f : Int))).setCell ⟨w.heap.size + 1 + 1 + 1, 0, none⟩ (.int .i64 (len : Int))).drew (w.heap.size + 1 + 1 + 1) 3 (.int .i64 (len : Int)) := (bx_other (bx_other (bx_other hD' (by omega) _ _) (by omega) _ _) (by omega) _ _).set _
    have rB : Below w.heap.size w ((((W.setCell ⟨w.heap.size + 1, 0, none⟩ (.int .i64 c1)).setCell ⟨w.heap.size + 1, 1, none⟩ (.int .i64 c2)).setCell ⟨w.heap.size + 1 + 1, 0, none⟩ (.int .i64 (f : Int))).setCell ⟨w.heap.size + 1 + 1 + 1, 0, none⟩ (.int .i64 (len : Int))).drew :=
      ((((hB.setCell (p := ⟨w.heap.size + 1, 0, none⟩) (by simp) _).setCell (p := ⟨w.heap.size + 1, 1, none⟩) (by simp) _).setCell (p := ⟨w.heap.size + 1 + 1, 0, none⟩) (by simp; omega) _).setCell (p := ⟨w.heap.size + 1 + 1 + 1, 0, none⟩) (by simp; omega) _).drew
    obtain ⟨X, hX⟩ : ∃ X, ((((W.setCell ⟨w.heap.size + 1, 0, none⟩ (.int .i64 c1)).setCell ⟨w.heap.size + 1, 1, none⟩ (.int .i64 c2)).setCell ⟨w.heap.size + 1 + 1, 0, none⟩ (.int .i64 (f : Int))).setCell ⟨w.heap.size + 1 + 1 + 1, 0, none⟩ (.int .i64 (len : Int))).drew = X := ⟨_, rfl⟩
    rw [hX] at hK' r1 r2 r3 rB ⊢
    clear hX
    refine ⟨by simp, .inl ⟨_, _, rfl, run_takeDeferred hK', ?_⟩⟩
    have q1 := cell_kept r1.fst (grownBy_putObj' _ D (.deferred none)) (fun r e => by cases e; exact ⟨_, hK', rfl⟩)
    have q2 := cell_kept r1.snd (grownBy_putObj' _ D (.deferred none)) (fun r e => by cases e; exact ⟨_, hK', rfl⟩)
    have q3 := cell_kept r2.cell (grownBy_putObj' _ D (.deferred none)) (fun r e => by cases e; exact ⟨_, hK', rfl⟩)
    have q4 := cell_kept r3.cell (grownBy_putObj' _ D (.deferred none)) (fun r e => by cases e; exact ⟨_, hK', rfl⟩)
    refine ⟨.tuple #[.agg #[.int .i64 c1, .int .i64 c2], .int .i64 (f : Int), .int .i64 (len : Int)], by simp [results, Try.f51, go_sem, q1, q2, q3, q4], by rw [e0], rB.trans (belowK_b (w := w) (Nat.le_refl _) _ D _ _ (by have := k2.size; omega) hK' rfl rfl)⟩
  case stop =>
    rintro D c pre W hD ⟨k, hk, rfl⟩ ⟨⟨rfl, c, f, d, hG, hfd, hd, hS, hZ, hF, hD'⟩, hB⟩ hK
    obtain ⟨c1, c2⟩ := c
    have e0 : grn (a, b) 0 0 l = ((c1, c2), f, d) := by have := hG (l.drop k); rw [List.take_append_drop] at this; exact this
    have hc1 := hS.fst
    have hc2 := hS.snd
    have hy1 := hZ.fst
    have hy2 := hZ.snd
    have hz1 := hZ.frz
    have hz2 := hZ.frz1
    have hcf := hF.cell
    have hzf := hF.frozen
    have hcd := hD'.cell
    have hzd := hD'.frozen
    gi_wp2
    gi_region
    gi_wp2
    have hK' := (((((KeepsOthers.setCell W ⟨w.heap.size + 1, 0, none⟩ (.int .i64 c1)).trans (KeepsOthers.setCell _ ⟨w.heap.size + 1, 1, none⟩ (.int .i64 c2))).trans (KeepsOthers.setCell _ ⟨w.heap.size + 1 + 1, 0, none⟩ (.int .i64 (f : Int)))).trans (KeepsOthers.setCell _ ⟨w.heap.size + 1 + 1 + 1, 0, none⟩ (.int .i64 (d : Int)))).trans (KeepsOthers.drew _)).same D _ hK rfl
    have r1 : Boxed2 ((((W.setCell ⟨w.heap.size + 1, 0, none⟩ (.int .i64 c1)).setCell ⟨w.heap.size + 1, 1, none⟩ (.int .i64 c2)).setCell ⟨w.heap.size + 1 + 1, 0, none⟩ (.int .i64 (f : Int))).setCell ⟨w.heap.size + 1 + 1 + 1, 0, none⟩ (.int .i64 (d : Int))).drew (w.heap.size + 1) 52 (.int .i64 c1) (.int .i64 c2) := bx2_other (bx2_other hZ.set (by omega) _ _) (by omega) _ _
    have r2 : Boxed ((((W.setCell ⟨w.heap.size + 1, 0, none⟩ (.int .i64 c1)).setCell ⟨w.heap.size + 1, 1, none⟩ (.int .i64 c2)).setCell ⟨w.heap.size + 1 + 1, 0, none⟩ (.int .i64 (f : Int))).setCell ⟨w.heap.size + 1 + 1 + 1, 0, none⟩ (.int .i64 (d : Int))).drew (w.heap.size + 1 + 1) 3 (.int .i64 (f : Int)) := bx_other ((bx_other (bx_other hF (by omega) _ _) (by omega) _ _).set _) (by omega) _ _
    have r3 : Boxed ((((W.setCell ⟨w.heap.size + 1, 0, none⟩ (.int .i64 c1)).setCell ⟨w.heap.size + 1, 1, none⟩ (.int .i64 c2)).setCell ⟨w.heap.size + 1 + 1, 0, none⟩ (.int .i64 (f : Int))).setCell ⟨w.heap.size + 1 + 1 + 1, 0, none⟩ (.int .i64 (d : Int))).drew (w.heap.size + 1 + 1 + 1) 3 (.int .i64 (d : Int)) := (bx_other (bx_other (bx_other hD' (by omega) _ _) (by omega) _ _) (by omega) _ _).set _
    have rB : Below w.heap.size w ((((W.setCell ⟨w.heap.size + 1, 0, none⟩ (.int .i64 c1)).setCell ⟨w.heap.size + 1, 1, none⟩ (.int .i64 c2)).setCell ⟨w.heap.size + 1 + 1, 0, none⟩ (.int .i64 (f : Int))).setCell ⟨w.heap.size + 1 + 1 + 1, 0, none⟩ (.int .i64 (d : Int))).drew :=
      ((((hB.setCell (p := ⟨w.heap.size + 1, 0, none⟩) (by simp) _).setCell (p := ⟨w.heap.size + 1, 1, none⟩) (by simp) _).setCell (p := ⟨w.heap.size + 1 + 1, 0, none⟩) (by simp; omega) _).setCell (p := ⟨w.heap.size + 1 + 1 + 1, 0, none⟩) (by simp; omega) _).drew
    obtain ⟨X, hX⟩ : ∃ X, ((((W.setCell ⟨w.heap.size + 1, 0, none⟩ (.int .i64 c1)).setCell ⟨w.heap.size + 1, 1, none⟩ (.int .i64 c2)).setCell ⟨w.heap.size + 1 + 1, 0, none⟩ (.int .i64 (f : Int))).setCell ⟨w.heap.size + 1 + 1 + 1, 0, none⟩ (.int .i64 (d : Int))).drew = X := ⟨_, rfl⟩
    rw [hX] at hK' r1 r2 r3 rB ⊢
    clear hX
    refine ⟨by simp, .inl ⟨_, _, rfl, run_takeDeferred hK', ?_⟩⟩
    have q1 := cell_kept r1.fst (grownBy_putObj' _ D (.deferred none)) (fun r e => by cases e; exact ⟨_, hK', rfl⟩)
    have q2 := cell_kept r1.snd (grownBy_putObj' _ D (.deferred none)) (fun r e => by cases e; exact ⟨_, hK', rfl⟩)
    have q3 := cell_kept r2.cell (grownBy_putObj' _ D (.deferred none)) (fun r e => by cases e; exact ⟨_, hK', rfl⟩)
    have q4 := cell_kept r3.cell (grownBy_putObj' _ D (.deferred none)) (fun r e => by cases e; exact ⟨_, hK', rfl⟩)
    refine ⟨.tuple #[.agg #[.int .i64 c1, .int .i64 c2], .int .i64 (f : Int), .int .i64 (d : Int)], by simp [results, Try.f51, go_sem, q1, q2, q3, q4], by rw [e0], rB.trans (belowK_b (w := w) (Nat.le_refl _) _ D _ _ (by have := k2.size; omega) hK' rfl rfl)⟩
end Go.Proofs.Ytgiknfmagmfniaa
