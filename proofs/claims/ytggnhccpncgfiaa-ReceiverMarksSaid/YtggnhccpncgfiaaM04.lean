/- The texts ByClone, SpGrown, SpConcat. -/
import Derived.Below
import Derived.BigQuiet
import Derived.Deep.QuietTactic
import Derived.Lib.AppendZeros
import Derived.Lib.Hide
import Derived.Outline
import Derived.Scope
import Derived.Test.YtggnhccpncgfiaaProg
import Derived.WalkKit
import Derived.WalkSmall
import Derived.WalkSpells
import Derived.Test.YtggnhccpncgfiaaM01
import Derived.Test.YtggnhccpncgfiaaM02
import Derived.Test.YtggnhccpncgfiaaM03
set_option linter.all false
namespace Go.Proofs.Ytggnhccpncgfiaa
open Go.RowKit
set_option maxHeartbeats 1000000 in
theorem clone_any (A : Option Addr) (n c : Nat) (l : List Int) (w : World) (hr : Sl w A n c l) (hn : n ≤ 1000000) :
    Calls Try.prog 78 #[.slice A n c] w fun e w' => ∃ R d, e = .returned (.slice R n d) ∧ Sb w' w.heap.size R n d l ∧ Below w.heap.size w w' := by
  have qn := fun (w : World) (a : Option Addr) (n c n' c' : Nat) => Lib.run_eql_slice_nil (P := Try.prog) w _ _ a n c n' c' Try.underlying22
  cases A with
  | none =>
    have hc := hr.nil rfl
    have hle := hr.le
    obtain rfl : n = 0 := by omega
    have hz := hr.rd.len
    obtain rfl : l = [] := List.eq_nil_of_length_eq_zero hz
    clear hc hle hz
    go_enter Try.func78, Try.ntmps78
    go_wp2
    go_ret
    exact ⟨none, 0, rfl, Sb.none _ _, Below.refl _ _⟩
  | some a =>
    have hmade : (w.alloc (.cells #[] 5)).ownsRow w.heap.size 5 1 (.slice (some ⟨w.heap.size, 0, none⟩) 0 0) 0 (List.map (Value.int .u8) []) := World.ownsRow_made w #[] 0 (Nat.le_refl _) (Nat.zero_le _) rfl
    go_enter Try.func78, Try.ntmps78
    go_wp2_with (at_builtin; refine wpList_app _ rfl (.tmp 5) (.tmp 6) 22 rfl w.heap.size 5 Try.underlying22 info_u8 _ 0 [] rfl hmade rfl hr.nil (hr.rd.alloc _) (by omega) (by simp) ?_; intro v1 w1 hown1 hgrow1 hat1)
    have b1 : Below w.heap.size w w1 := ((Below.refl _ _).alloc (Nat.le_refl _) _).grown hgrow1 (by simp) (fun k hk => (hmade.lt k hk).1)
    have hg : Got w1 w.heap.size v1 n l := ⟨by simpa using hown1, hr.rd.small⟩
    obtain ⟨R, d, rfl, hsl⟩ := hg.sb
    go_wp2
    go_ret
    exact ⟨R, d, rfl, hsl, b1⟩
end Go.Proofs.Ytggnhccpncgfiaa
namespace Go.Proofs.Ytggnhccpncgfiaa
open Go.RowKit Go.Shelf
attribute [local go_sem] Oper.semAt_some
/-- how far grown has come when pre has been seen: the span, how many lie before -/
def GrnAt (s : Sp) (pre : List Sp) (c : Sp) (f : Nat) : Prop := f ≤ pre.length ∧ ∀ rest, grn s 0 0 (pre ++ rest) = grn c f pre.length rest
theorem grnAt_nil (s : Sp) : GrnAt s [] s 0 := ⟨Nat.le_refl _, fun _ => rfl⟩
theorem grnAt_len {s : Sp} {pre : List Sp} {c : Sp} {f : Nat} (h : GrnAt s pre c f) : f ≤ pre.length := h.1
theorem grnAt_before {s : Sp} {pre : List Sp} {c x : Sp} {f : Nat} (h : GrnAt s pre c f) (k : x.2 < c.1) : GrnAt s (pre ++ [x]) c (f + 1) :=
  ⟨by rw [List.length_append]; have := h.1; simp; omega, fun rest => by
    rw [List.append_assoc, h.2, List.length_append]
    show grn c f pre.length (x :: rest) = _
    rw [grn, if_pos k]; rfl⟩
theorem grnAt_meets {s : Sp} {pre : List Sp} {c x d : Sp} {f : Nat} (h : GrnAt s pre c f) (k : ¬ x.2 < c.1) (k' : ¬ c.2 < x.1) (hd : d = (min x.1 c.1, max x.2 c.2)) : GrnAt s (pre ++ [x]) d f :=
  ⟨by rw [List.length_append]; have := h.1; omega, fun rest => by
    rw [List.append_assoc, h.2, List.length_append, hd]
    show grn c f pre.length (x :: rest) = _
    rw [grn, if_neg k, if_neg k']; rfl⟩
/-- .. and where it has left the loop -/
def GrnOut (s : Sp) (pre : List Sp) (c : Sp) (f b : Nat) : Prop := ∀ rest, grn s 0 0 (pre ++ rest) = (c, f, b)
theorem grnOut_of {s : Sp} {pre : List Sp} {c x : Sp} {f : Nat} (h : GrnAt s pre c f) (k : ¬ x.2 < c.1) (k' : c.2 < x.1) : GrnOut s (pre ++ [x]) c f pre.length := fun rest => by
  rw [List.append_assoc, h.2]
  show grn c f pre.length (x :: rest) = _
  rw [grn, if_neg k, if_pos k']
theorem grownBy_set (W : World) (b o : Nat) (v : Value) : W.grownBy (W.setCell ⟨b, o, none⟩ v) (some b) :=
  ⟨rfl, rfl, rfl, (KeepsWalks.setCell W _ v).size, fun k _ hk => Below.heap_setCell _ _ _ k (fun e => hk (by rw [e]))⟩
theorem bx_other {W : World} {B B' : Nat} {t : TypeId} {v : Value} (h : Boxed W B t v) (hne : B ≠ B') (o : Nat) (u : Value) : Boxed (W.setCell ⟨B', o, none⟩ u) B t v := h.kept (grownBy_set W B' o u) (fun e => hne (by cases e; rfl))
theorem bx2_other {W : World} {B B' : Nat} {t : TypeId} {v v' : Value} (h : Boxed2 W B t v v') (hne : B ≠ B') (o : Nat) (u : Value) : Boxed2 (W.setCell ⟨B', o, none⟩ u) B t v v' := h.kept (grownBy_set W B' o u) (fun e => hne (by cases e; rfl))
theorem wpIn_scope_wide {n : Nat} {P : Program} {c : Code} {Q : Exit → Act → World → Prop} {a : Act} {w : World} (h : c.wpIn Fence.wide n P (Exit.noGoto Q) a w) : (Code.scope c).wpIn Fence.wide n P Q a w :=
  wpIn_wide.2 (wp_scope_straight (wpIn_wide.1 h))
set_option maxRecDepth 100000 in
set_option maxHeartbeats 4000000 in
theorem grown_any (A : Option Addr) (len cap : Nat) (l : List Sp) (a b : Int) (w : World) (hs : Ss w A len cap l) (hle : len ≤ 1000) :
    Calls Try.prog 91 #[.slice A len cap, .agg #[.int .i64 a, .int .i64 b]] w fun e W' => e = .returned (.tuple #[.agg #[.int .i64 (grn (a, b) 0 0 l).1.1, .int .i64 (grn (a, b) 0 0 l).1.2], .int .i64 ((grn (a, b) 0 0 l).2.1 : Int), .int .i64 ((grn (a, b) 0 0 l).2.2 : Int)]) ∧ Below w.heap.size w W' := by
  refine (callsIn_wide (n := 4)).1 ?_
  have h1 : 1 ≤ 4 := by omega
  have hlen := hs.rd.len
  refine callsIn_of_wp_marks Try.func91 rfl trivial ?_ rfl
  simp only [Try.ntmps91, List.size_toArray, List.length_cons, List.length_nil, Nat.reduceAdd, Nat.reduceSub, Array.replicate_succ, Array.replicate_zero, List.push_toArray, List.append_toArray, List.nil_append, List.cons_append]
  have s0 := Boxed2.new w 60 (.int .i64 a) (.int .i64 b)
  have s1 := Boxed2.new (w.alloc (.cells #[.int .i64 a, .int .i64 b] 60)) 60 (.int .i64 0) (.int .i64 0)
  have s2 := Boxed.new ((w.alloc (.cells #[.int .i64 a, .int .i64 b] 60)).alloc (.cells #[.int .i64 0, .int .i64 0] 60)) 3 (.int .i64 0)
  have s3 := Boxed.new (((w.alloc (.cells #[.int .i64 a, .int .i64 b] 60)).alloc (.cells #[.int .i64 0, .int .i64 0] 60)).alloc (.cells #[.int .i64 0] 3)) 3 (.int .i64 0)
  simp only [World.size_alloc] at s1 s2 s3
  have t0 := ((s0.alloc (.cells #[.int .i64 0, .int .i64 0] 60)).alloc (.cells #[.int .i64 0] 3)).alloc (.cells #[.int .i64 0] 3)
  have t1 := (s1.alloc (.cells #[.int .i64 0] 3)).alloc (.cells #[.int .i64 0] 3)
  have t2 := s2.alloc (.cells #[.int .i64 0] 3)
  have hb0 : Below w.heap.size w ((((w.alloc (.cells #[.int .i64 a, .int .i64 b] 60)).alloc (.cells #[.int .i64 0, .int .i64 0] 60)).alloc (.cells #[.int .i64 0] 3)).alloc (.cells #[.int .i64 0] 3)) :=
    ((((Below.refl _ w).alloc (Nat.le_refl _) _).alloc (by simp) _).alloc (by simp; omega) _).alloc (by simp; omega) _
  clear s0 s1 s2
  obtain ⟨w0, hw0⟩ : ∃ w0, (((w.alloc (.cells #[.int .i64 a, .int .i64 b] 60)).alloc (.cells #[.int .i64 0, .int .i64 0] 60)).alloc (.cells #[.int .i64 0] 3)).alloc (.cells #[.int .i64 0] 3) = w0 := ⟨_, rfl⟩
  rw [hw0] at t0 t1 t2 s3 hb0
  gi_wp2
  refine wpIn_scope_wide ?_
  gi_wp2
  refine wpIn_label ?_
  gi_wp2_with (refine ⟨trivial, ?_⟩; gi_at_call 80; refine (ends_in Fence.wide _ trivial rfl _ _ _ _).mono ?_; rintro e w' ⟨rfl, rfl⟩)
  have k2 : Below w.heap.size w (w0.alloc (.cells #[.slice A len cap] 23)) := hb0.alloc hb0.size _
  have bN := Boxed.new w0 23 (.slice A len cap)
  refine wpIn_rangeFunc_ownG rfl h1 (gf := 100) (lb := #[.pointer (some ⟨w0.heap.size, 0, none⟩)]) rfl trivial (enters_of Try.func100 (by kernel_rfl) rfl)
    (ends_stops Fence.wide (4 - 1) trivial rfl (by omega) w0.heap.size w.heap.size A len cap l (by omega) _ (by simp) k2.size bN.cell (hs.rd.keep k2) (fresh_of hs)) belowK_t (belowK_b k2.size) (Below.refl _ _) (fun _ => rfl)
    (fun pre W => (∃ c f, GrnAt (a, b) pre c f ∧ Boxed2 W w.heap.size 60 (.int .i64 c.1) (.int .i64 c.2) ∧ Boxed2 W (w.heap.size + 1) 60 (.int .i64 0) (.int .i64 0) ∧ Boxed W (w.heap.size + 1 + 1) 3 (.int .i64 (f : Int)) ∧ Boxed W (w.heap.size + 1 + 1 + 1) 3 (.int .i64 (pre.length : Int))) ∧ Below w.heap.size w W)
    (fun j pre W => (j = .exit 0 ∧ ∃ c f d, GrnOut (a, b) pre c f d ∧ f ≤ d ∧ d ≤ 1000 ∧ Boxed2 W w.heap.size 60 (.int .i64 c.1) (.int .i64 c.2) ∧ Boxed2 W (w.heap.size + 1) 60 (.int .i64 0) (.int .i64 0) ∧ Boxed W (w.heap.size + 1 + 1) 3 (.int .i64 (f : Int)) ∧ Boxed W (w.heap.size + 1 + 1 + 1) 3 (.int .i64 (d : Int))) ∧ Below w.heap.size w W)
    (OwnFrom.and (Own.from (fun s A B row hs hg hr => by
      obtain ⟨c, f, e1, e2, e3, e4, e5⟩ := hs
      exact ⟨c, f, e1, boxed2_own _ _ (fun _ => .int .i64 c.1) (fun _ => .int .i64 c.2) s A B row e2 hg hr, boxed2_own _ _ (fun _ => .int .i64 0) (fun _ => .int .i64 0) s A B row e3 hg hr, boxed_own _ _ (fun _ => .int .i64 (f : Int)) s A B row e4 hg hr, boxed_own _ _ (fun s => .int .i64 (s.length : Int)) s A B row e5 hg hr⟩) _) (ownFrom_below (Nat.le_refl _) k2.size))
    (fun j => OwnFrom.and (Own.from (fun s A B row hs hg hr => by
      obtain ⟨ej, c, f, d, e1, e6, e7, e2, e3, e4, e5⟩ := hs
      exact ⟨ej, c, f, d, e1, e6, e7, boxed2_own _ _ (fun _ => .int .i64 c.1) (fun _ => .int .i64 c.2) s A B row e2 hg hr, boxed2_own _ _ (fun _ => .int .i64 0) (fun _ => .int .i64 0) s A B row e3 hg hr, boxed_own _ _ (fun _ => .int .i64 (f : Int)) s A B row e4 hg hr, boxed_own _ _ (fun _ => .int .i64 (d : Int)) s A B row e5 hg hr⟩) _) (ownFrom_below (Nat.le_refl _) k2.size))
    ⟨⟨(a, b), 0, grnAt_nil _, t0.alloc _, t1.alloc _, t2.alloc _, s3.alloc _⟩, k2⟩
    (fun x => { tmps := #[.slice A len cap, .agg #[.int .i64 a, .int .i64 b], undef, .pointer (some ⟨w.heap.size, 0, none⟩), .pointer (some ⟨w.heap.size + 1, 0, none⟩), .pointer (some ⟨w.heap.size + 1 + 1, 0, none⟩), .pointer (some ⟨w.heap.size + 1 + 1 + 1, 0, none⟩), .int .i64 x.1, .int .i64 x.2, .slice A len cap, .func (.func 100) #[] #[.pointer (some ⟨w0.heap.size, 0, none⟩)], .int .i64 x.1, .int .i64 x.2, undef, undef, undef, undef, undef, undef, undef, undef, undef, undef, undef, undef, undef, undef, undef, undef, undef, undef, undef, undef, undef, undef, undef, undef, undef, undef], defers := [] }) ?assign ?body ?done ?stop
  case assign =>
    intro l x W K hK
    gi_wp2
    exact hK
  case body =>
    rintro r pre x W ⟨⟨c, f, hG, hS, hZ, hF, hD⟩, hB⟩ hlt
    obtain ⟨c1, c2⟩ := c
    have hfl := grnAt_len hG
    have hc1 := hS.fst
    have hc2 := hS.snd
    have hz1 := hS.frz
    have hz2 := hS.frz1
    have hcf := hF.cell
    have hzf := hF.frozen
    have hcd := hD.cell
    have hzd := hD.frozen
    by_cases h3 : x.2 < c1
    · gi_wp2
      exact ⟨((KeepsOthers.setCell _ _ _).trans (KeepsOthers.setCell _ _ _)).from _, ((Below.refl _ _).setCell (p := ⟨w.heap.size + 1 + 1, 0, none⟩) (by simp; omega) _).setCell (p := ⟨w.heap.size + 1 + 1 + 1, 0, none⟩) (by simp; omega) _,
        ⟨c1, c2, f + 1, grnAt_before hG h3, bx2_other (bx2_other hS (by omega) _ _) (by omega) _ _, bx2_other (bx2_other hZ (by omega) _ _) (by omega) _ _, bx_other (hF.set _) (by omega) _ _, by rw [List.length_append]; exact (bx_other hD (by omega) _ _).set _⟩,
        (hB.setCell (p := ⟨w.heap.size + 1 + 1, 0, none⟩) (by simp; omega) _).setCell (p := ⟨w.heap.size + 1 + 1 + 1, 0, none⟩) (by simp; omega) _⟩
    · have h3' : c1 ≤ x.2 := by omega
      by_cases h4 : c2 < x.1
      · gi_wp2
        exact ⟨KeepsFrom.refl _ _, ⟨rfl, c1, c2, f, pre.length, grnOut_of hG (by omega) h4, hfl, by omega, hS, hZ, hF, hD⟩, hB⟩
      · have h4' : x.1 ≤ c2 := by omega
        gi_wp2
        all_goals refine ⟨(((KeepsOthers.setCell _ _ _).trans (KeepsOthers.setCell _ _ _)).trans (KeepsOthers.setCell _ _ _)).from _, (((Below.refl _ _).setCell (p := ⟨w.heap.size, 0, none⟩) (by simp) _).setCell (p := ⟨w.heap.size, 1, none⟩) (by simp) _).setCell (p := ⟨w.heap.size + 1 + 1 + 1, 0, none⟩) (by simp; omega) _,
          ⟨_, _, f, ?_, bx2_other hS.set (by omega) _ _, bx2_other (bx2_other (bx2_other hZ (by omega) _ _) (by omega) _ _) (by omega) _ _, bx_other (bx_other (bx_other hF (by omega) _ _) (by omega) _ _) (by omega) _ _, by rw [List.length_append]; exact (bx_other (bx_other hD (by omega) _ _) (by omega) _ _).set _⟩,
          ((hB.setCell (p := ⟨w.heap.size, 0, none⟩) (by simp) _).setCell (p := ⟨w.heap.size, 1, none⟩) (by simp) _).setCell (p := ⟨w.heap.size + 1 + 1 + 1, 0, none⟩) (by simp; omega) _⟩
        all_goals exact grnAt_meets hG (by simp only; omega) (by simp only; omega) (Prod.ext (by simp only; omega) (by simp only; omega))
  case done =>
    rintro D ys W hD rfl ⟨⟨c, f, hG, hS, hZ, hF, hD'⟩, hB⟩ hK
    rw [hlen] at hD'
    obtain ⟨c1, c2⟩ := c
    have e0 : grn (a, b) 0 0 ys = ((c1, c2), f, len) := by have := hG.2 []; rw [List.append_nil, hlen] at this; exact this
    have hc1 := hS.fst
    have hc2 := hS.snd
    have hy1 := hZ.fst
    have hy2 := hZ.snd
    have hz1 := hZ.frz
    have hz2 := hZ.frz1
    have hcf := hF.cell
    have hzf := hF.frozen
    have hcd := hD'.cell
    have hzd := hD'.frozen
    gi_wp2
    gi_region
    gi_wp2
    have hK' := (((((KeepsOthers.setCell W ⟨w.heap.size + 1, 0, none⟩ (.int .i64 c1)).trans (KeepsOthers.setCell _ ⟨w.heap.size + 1, 1, none⟩ (.int .i64 c2))).trans (KeepsOthers.setCell _ ⟨w.heap.size + 1 + 1, 0, none⟩ (.int .i64 (f : Int)))).trans (KeepsOthers.setCell _ ⟨w.heap.size + 1 + 1 + 1, 0, none⟩ (.int .i64 (len : Int)))).trans (KeepsOthers.drew _)).same D _ hK rfl
    have r1 : Boxed2 ((((W.setCell ⟨w.heap.size + 1, 0, none⟩ (.int .i64 c1)).setCell ⟨w.heap.size + 1, 1, none⟩ (.int .i64 c2)).setCell ⟨w.heap.size + 1 + 1, 0, none⟩ (.int .i64 (f : Int))).setCell ⟨w.heap.size + 1 + 1 + 1, 0, none⟩ (.int .i64 (len : Int))).drew (w.heap.size + 1) 60 (.int .i64 c1) (.int .i64 c2) := bx2_other (bx2_other hZ.set (by omega) _ _) (by omega) _ _
    have r2 : Boxed ((((W.setCell ⟨w.heap.size + 1, 0, none⟩ (.int .i64 c1)).setCell ⟨w.heap.size + 1, 1, none⟩ (.int .i64 c2)).setCell ⟨w.heap.size + 1 + 1, 0, none⟩ (.int .i64 (f : Int))).setCell ⟨w.heap.size + 1 + 1 + 1, 0, none⟩ (.int .i64 (len : Int))).drew (w.heap.size + 1 + 1) 3 (.int .i64 (f : Int)) := bx_other ((bx_other (bx_other hF (by omega) _ _) (by omega) _ _).set _) (by omega) _ _
    have r3 : Boxed ((((W.setCell ⟨w.heap.size + 1, 0, none⟩ (.int .i64 c1)).setCell ⟨w.heap.size + 1, 1, none⟩ (.int .i64 c2)).setCell ⟨w.heap.size + 1 + 1, 0, none⟩ (.int .i64 (f : Int))).setCell ⟨w.heap.size + 1 + 1 + 1, 0, none⟩ (.int .i64 (len : Int))).drew (w.heap.size + 1 + 1 + 1) 3 (.int .i64 (len : Int)) := (bx_other (bx_other (bx_other hD' (by omega) _ _) (by omega) _ _) (by omega) _ _).set _
    have rB : Below w.heap.size w ((((W.setCell ⟨w.heap.size + 1, 0, none⟩ (.int .i64 c1)).setCell ⟨w.heap.size + 1, 1, none⟩ (.int .i64 c2)).setCell ⟨w.heap.size + 1 + 1, 0, none⟩ (.int .i64 (f : Int))).setCell ⟨w.heap.size + 1 + 1 + 1, 0, none⟩ (.int .i64 (len : Int))).drew :=
      ((((hB.setCell (p := ⟨w.heap.size + 1, 0, none⟩) (by simp) _).setCell (p := ⟨w.heap.size + 1, 1, none⟩) (by simp) _).setCell (p := ⟨w.heap.size + 1 + 1, 0, none⟩) (by simp; omega) _).setCell (p := ⟨w.heap.size + 1 + 1 + 1, 0, none⟩) (by simp; omega) _).drew
    obtain ⟨X, hX⟩ : ∃ X, ((((W.setCell ⟨w.heap.size + 1, 0, none⟩ (.int .i64 c1)).setCell ⟨w.heap.size + 1, 1, none⟩ (.int .i64 c2)).setCell ⟨w.heap.size + 1 + 1, 0, none⟩ (.int .i64 (f : Int))).setCell ⟨w.heap.size + 1 + 1 + 1, 0, none⟩ (.int .i64 (len : Int))).drew = X := ⟨_, rfl⟩
    rw [hX] at hK' r1 r2 r3 rB ⊢
    clear hX
    refine ⟨by simp, .inl ⟨_, _, rfl, run_takeDeferred hK', ?_⟩⟩
    have q1 := cell_kept r1.fst (grownBy_putObj' _ D (.deferred none)) (fun r e => by cases e; exact ⟨_, hK', rfl⟩)
    have q2 := cell_kept r1.snd (grownBy_putObj' _ D (.deferred none)) (fun r e => by cases e; exact ⟨_, hK', rfl⟩)
    have q3 := cell_kept r2.cell (grownBy_putObj' _ D (.deferred none)) (fun r e => by cases e; exact ⟨_, hK', rfl⟩)
    have q4 := cell_kept r3.cell (grownBy_putObj' _ D (.deferred none)) (fun r e => by cases e; exact ⟨_, hK', rfl⟩)
    refine ⟨.tuple #[.agg #[.int .i64 c1, .int .i64 c2], .int .i64 (f : Int), .int .i64 (len : Int)], by simp [results, Try.f91, go_sem, q1, q2, q3, q4], by rw [e0], rB.trans (belowK_b (w := w) (Nat.le_refl _) _ D _ _ (by have := k2.size; omega) hK' rfl rfl)⟩
  case stop =>
    rintro D c pre W hD ⟨k, hk, rfl⟩ ⟨⟨rfl, c, f, d, hG, hfd, hd, hS, hZ, hF, hD'⟩, hB⟩ hK
    obtain ⟨c1, c2⟩ := c
    have e0 : grn (a, b) 0 0 l = ((c1, c2), f, d) := by have := hG (l.drop k); rw [List.take_append_drop] at this; exact this
    have hc1 := hS.fst
    have hc2 := hS.snd
    have hy1 := hZ.fst
    have hy2 := hZ.snd
    have hz1 := hZ.frz
    have hz2 := hZ.frz1
    have hcf := hF.cell
    have hzf := hF.frozen
    have hcd := hD'.cell
    have hzd := hD'.frozen
    gi_wp2
    gi_region
    gi_wp2
    have hK' := (((((KeepsOthers.setCell W ⟨w.heap.size + 1, 0, none⟩ (.int .i64 c1)).trans (KeepsOthers.setCell _ ⟨w.heap.size + 1, 1, none⟩ (.int .i64 c2))).trans (KeepsOthers.setCell _ ⟨w.heap.size + 1 + 1, 0, none⟩ (.int .i64 (f : Int)))).trans (KeepsOthers.setCell _ ⟨w.heap.size + 1 + 1 + 1, 0, none⟩ (.int .i64 (d : Int)))).trans (KeepsOthers.drew _)).same D _ hK rfl
    have r1 : Boxed2 ((((W.setCell ⟨w.heap.size + 1, 0, none⟩ (.int .i64 c1)).setCell ⟨w.heap.size + 1, 1, none⟩ (.int .i64 c2)).setCell ⟨w.heap.size + 1 + 1, 0, none⟩ (.int .i64 (f : Int))).setCell ⟨w.heap.size + 1 + 1 + 1, 0, none⟩ (.int .i64 (d : Int))).drew (w.heap.size + 1) 60 (.int .i64 c1) (.int .i64 c2) := bx2_other (bx2_other hZ.set (by omega) _ _) (by omega) _ _
    have r2 : Boxed ((((W.setCell ⟨w.heap.size + 1, 0, none⟩ (.int .i64 c1)).setCell ⟨w.heap.size + 1, 1, none⟩ (.int .i64 c2)).setCell ⟨w.heap.size + 1 + 1, 0, none⟩ (.int .i64 (f : Int))).setCell ⟨w.heap.size + 1 + 1 + 1, 0, none⟩ (.int .i64 (d : Int))).drew (w.heap.size + 1 + 1) 3 (.int .i64 (f : Int)) := bx_other ((bx_other (bx_other hF (by omega) _ _) (by omega) _ _).set _) (by omega) _ _
    have r3 : Boxed ((((W.setCell ⟨w.heap.size + 1, 0, none⟩ (.int .i64 c1)).setCell ⟨w.heap.size + 1, 1, none⟩ (.int .i64 c2)).setCell ⟨w.heap.size + 1 + 1, 0, none⟩ (.int .i64 (f : Int))).setCell ⟨w.heap.size + 1 + 1 + 1, 0, none⟩ (.int .i64 (d : Int))).drew (w.heap.size + 1 + 1 + 1) 3 (.int .i64 (d : Int)) := (bx_other (bx_other (bx_other hD' (by omega) _ _) (by omega) _ _) (by omega) _ _).set _
    have rB : Below w.heap.size w ((((W.setCell ⟨w.heap.size + 1, 0, none⟩ (.int .i64 c1)).setCell ⟨w.heap.size + 1, 1, none⟩ (.int .i64 c2)).setCell ⟨w.heap.size + 1 + 1, 0, none⟩ (.int .i64 (f : Int))).setCell ⟨w.heap.size + 1 + 1 + 1, 0, none⟩ (.int .i64 (d : Int))).drew :=
      ((((hB.setCell (p := ⟨w.heap.size + 1, 0, none⟩) (by simp) _).setCell (p := ⟨w.heap.size + 1, 1, none⟩) (by simp) _).setCell (p := ⟨w.heap.size + 1 + 1, 0, none⟩) (by simp; omega) _).setCell (p := ⟨w.heap.size + 1 + 1 + 1, 0, none⟩) (by simp; omega) _).drew
    obtain ⟨X, hX⟩ : ∃ X, ((((W.setCell ⟨w.heap.size + 1, 0, none⟩ (.int .i64 c1)).setCell ⟨w.heap.size + 1, 1, none⟩ (.int .i64 c2)).setCell ⟨w.heap.size + 1 + 1, 0, none⟩ (.int .i64 (f : Int))).setCell ⟨w.heap.size + 1 + 1 + 1, 0, none⟩ (.int .i64 (d : Int))).drew = X := ⟨_, rfl⟩
    rw [hX] at hK' r1 r2 r3 rB ⊢
    clear hX
    refine ⟨by simp, .inl ⟨_, _, rfl, run_takeDeferred hK', ?_⟩⟩
    have q1 := cell_kept r1.fst (grownBy_putObj' _ D (.deferred none)) (fun r e => by cases e; exact ⟨_, hK', rfl⟩)
    have q2 := cell_kept r1.snd (grownBy_putObj' _ D (.deferred none)) (fun r e => by cases e; exact ⟨_, hK', rfl⟩)
    have q3 := cell_kept r2.cell (grownBy_putObj' _ D (.deferred none)) (fun r e => by cases e; exact ⟨_, hK', rfl⟩)
    have q4 := cell_kept r3.cell (grownBy_putObj' _ D (.deferred none)) (fun r e => by cases e; exact ⟨_, hK', rfl⟩)
    refine ⟨.tuple #[.agg #[.int .i64 c1, .int .i64 c2], .int .i64 (f : Int), .int .i64 (d : Int)], by simp [results, Try.f91, go_sem, q1, q2, q3, q4], by rw [e0], rB.trans (belowK_b (w := w) (Nat.le_refl _) _ D _ _ (by have := k2.size; omega) hK' rfl rfl)⟩
end Go.Proofs.Ytggnhccpncgfiaa
set_option maxRecDepth 100000
namespace Go.Proofs.Ytggnhccpncgfiaa
open Go.RowKit
theorem size_zc (z : Array Value) (n : Nat) : (Builtin.zeroCells z n).size = n * z.size := by simp [Builtin.zeroCells]
set_option maxHeartbeats 1000000 in
theorem grow_any (n : Nat) (w : World) (h0 : 0 < n) (hn : n ≤ 100000000) :
    Calls Try.prog 102 #[.slice none 0 0, .int .i64 (n : Int)] w fun e w' => ∃ v, e = .returned v ∧ Gots w' w.heap.size 60 v 0 [] ∧ Below w.heap.size w w' := by
  obtain ⟨i0, hi, hz0, hz1, hz2⟩ := info_parts info_sp
  have hap := fun (w : World) (ty : TypeId) => Lib.run_append_nil_zeros (P := Try.prog) w 23 3 ty 60 i0 _ .i64 .i64 Try.underlying23 Try.underlying3 hi hz0 n h0 (by rw [hz1]; omega) (by omega) (by rw [hz2]; omega)
  have hcg := grownCap_ge w n 0 60
  have hcm := grownCap_le_maxLen w n 0 60 (by unfold maxLen; omega)
  have hrow := World.ownsRow_made (base := w.heap.size) (e := 60) (size := 2) w (Builtin.zeroCells (Value.cells (.agg #[.int .i64 0, .int .i64 0])) n ++ Builtin.zeroCells (Value.cells (.agg #[.int .i64 0, .int .i64 0])) (grownCap w n 0 60 - n)) (grownCap w n 0 60) (Nat.le_refl _) hcm (by
    rw [Array.size_append, size_zc, size_zc]
    show n * 2 + (grownCap w n 0 60 - n) * 2 = _
    omega)
  obtain ⟨cap, hcap⟩ : ∃ cap, grownCap w n 0 60 = cap := ⟨_, rfl⟩
  rw [hcap] at hrow hcg hcm
  go_enter Try.func102, Try.ntmps102
  go_wp2_with (at_builtin; refine Lib.wpList_append_run _ rfl _ _ _ _ rfl _ _ rfl rfl _ _ (hap _ _) ?_)
  go_ret
  refine ⟨_, rfl, ⟨?_, fun p hp => by simp at hp⟩, ((Below.refl _ _).alloc (Nat.le_refl _) _).drew⟩
  exact hrow
def prt (ls : List (List Sp)) (k : Nat) : List Sp := ls.getD k []
/-- The first n places from A are slices of spans that read as the lists ls. -/
structure Rgs (w : World) (A : Option Addr) (n : Nat) (ls : List (List Sp)) : Prop where
  len : ls.length = n
  at_ : 0 < n → ∃ b o, A = some ⟨b, o, none⟩ ∧ b < w.heap.size ∧ ∀ k, k < n → ∃ R m c, w.cell? ⟨b, o + k, none⟩ = some (.slice R m c) ∧ Ss w R m c (prt ls k)
section
variable {w w' : World} {A : Option Addr} {n : Nat} {ls : List (List Sp)}
theorem Rgs.keep (h : Rgs w A n ls) (hb : Below w.heap.size w w') : Rgs w' A n ls :=
  ⟨h.len, fun hn => by
    obtain ⟨b, o, e, hlt, hc⟩ := h.at_ hn
    refine ⟨b, o, e, Nat.lt_of_lt_of_le hlt hb.size, fun k hk => ?_⟩
    obtain ⟨R, m, c, h1, h2⟩ := hc k hk
    exact ⟨R, m, c, (hb.cell (p := ⟨b, o + k, none⟩) hlt).trans h1, h2.keep hb⟩⟩
theorem Rgs.spot (h : Rgs w A n ls) (hn : 0 < n) : ∃ b o, A = some ⟨b, o, none⟩ ∧ b < w.heap.size ∧ Hid (∀ k, k < n → ∃ R m c, w.cell? ⟨b, o + k, none⟩ = some (.slice R m c) ∧ Ss w R m c (prt ls k)) := h.at_ hn
end
theorem take_prt {ls : List (List Sp)} {k : Nat} (h : k < ls.length) : (ls.take (k + 1)).flatten = (ls.take k).flatten ++ prt ls k := by
  rw [List.take_succ_eq_append_getElem h, List.flatten_append]; unfold prt; rw [List.getD_eq_getElem?_getD, List.getElem?_eq_getElem h]; simp
theorem flat_take_le (ls : List (List Sp)) (k : Nat) : (ls.take k).flatten.length ≤ ls.flatten.length := by
  have e : ls.flatten = (ls.take k).flatten ++ (ls.drop k).flatten := by rw [← List.flatten_append, List.take_append_drop]
  rw [e, List.length_append]; omega
set_option maxHeartbeats 2000000 in
theorem concat_own (A : Option Addr) (n c : Nat) (ls : List (List Sp)) (w : World) (hr : Rgs w A n ls) (hn : n ≤ 1000) (h0 : 0 < ls.flatten.length) (ht : ls.flatten.length ≤ 1000000) :
    Calls Try.prog 93 #[.slice A n c] w fun e w' => ∃ R d, e = .returned (.slice R ls.flatten.length d) ∧ Sq w' w.heap.size R ls.flatten.length d ls.flatten ∧ Below w.heap.size w w' := by
  obtain ⟨T, hT⟩ : ∃ T, ls.flatten.length = T := ⟨_, rfl⟩
  rw [hT] at h0 ht
  have HR := Lib.hid hr; clear hr
  have HT := Lib.hid hT; clear hT
  go_enter Try.func93, Try.ntmps93
  go_wp2
  go_loopw [3, 11] (fun s i wr => ∃ k : Nat, k ≤ n ∧ i = .int .i64 k ∧ s = .int .i64 (((ls.take k).flatten.length : Nat) : Int) ∧ w = wr) (fun _ i _ => n - (intOf i).toNat)
  case atStart => exact ⟨0, Nat.zero_le _, rfl, rfl, rfl⟩
  case round =>
    obtain ⟨k, hk, rfl, rfl, rfl⟩ := hrel
    have hle := flat_take_le ls k
    rw [HT.out] at hle
    by_cases hlt : k < n
    · obtain ⟨b, o, rfl, hbl, hc⟩ := HR.out.spot (by omega)
      obtain ⟨R, m, d, h1, h2⟩ := hc.out k hlt
      have hsn : (ls.take (k + 1)).flatten.length = (ls.take k).flatten.length + m := by rw [take_prt (by rw [HR.out.len]; exact hlt), List.length_append, h2.rd.len]
      have hle2 := flat_take_le ls (k + 1)
      rw [HT.out] at hle2
      obtain ⟨q, hq⟩ : ∃ q, (ls.take k).flatten.length = q := ⟨_, rfl⟩
      rw [hq] at hsn hle ⊢
      rw [hsn] at hle2
      have HS := Lib.hid hsn; clear hsn
      go_wp2
      go_roundw
      case rel => exact ⟨k + 1, by omega, by go_num, by rw [HS.out]; go_num, by simp⟩
      case measure => simp [intOf]; omega
    · have hkn : k = n := by omega
      subst hkn
      have hfull : (ls.take k).flatten.length = T := by rw [← HT.out, ← HR.out.len, List.take_length]
      rw [hfull] at hle ⊢
      go_wp2_with (go_at_call 102; refine (grow_any T _ h0 (by omega)).mono ?_; rintro e w1 ⟨v, rfl, hg0, hb0⟩; have b0 := hb0; clear hb0)
      have HG := Lib.hid hg0; clear hg0
      have hfl2 := hfull
      clear hfull hle
      go_loopw [6, 27] (fun s i wz => ∃ j : Nat, j ≤ k ∧ i = .int .i64 j ∧ Gots wz w.heap.size 60 s (ls.take j).flatten.length (ls.take j).flatten ∧ Below w.heap.size w wz) (fun _ i _ => k - (intOf i).toNat)
      case atStart => exact ⟨0, Nat.zero_le _, rfl, HG.out, b0⟩
      case round =>
        clear HG b0
        obtain ⟨j, hj, rfl, hg1, hb1⟩ := hrel
        have hle := flat_take_le ls j
        rw [HT.out] at hle
        by_cases hlt2 : j < k
        · obtain ⟨b, o, rfl, hbl, hc⟩ := HR.out.spot (by omega)
          obtain ⟨R, m, d, h1, h2⟩ := hc.out j hlt2
          have hcell := (hb1.cell (p := ⟨b, o + j, none⟩) hbl).trans h1
          have h3 : Ss _ R m d (prt ls j) := h2.keep hb1
          have hsn : (ls.take (j + 1)).flatten = (ls.take j).flatten ++ prt ls j := take_prt (by rw [HR.out.len]; exact hlt2)
          have hml : (prt ls j).length = m := h3.rd.len
          have hle2 := flat_take_le ls (j + 1)
          rw [HT.out, hsn, List.length_append, hml] at hle2
          obtain ⟨q, hq⟩ : ∃ q, (ls.take j).flatten = q := ⟨_, rfl⟩
          rw [hq] at hsn hle hg1 hle2
          have HS := Lib.hid hsn; clear hsn h1 h2
          go_wp2_with (at_builtin; go_loud (refine wpList_apps _ rfl (.tmp 31) (.tmp 32) 23 rfl w.heap.size 60 Try.underlying23 info_sp _ _ _ rfl hg1 rfl h3.nil h3.rd (by omega) hb1.size ?_; intro v' w' hg' hgrow' _; have hb2 : Below w.heap.size w w' := hb1.grown hgrow' hb1.size (fun k hk => (hg1.row.lt k hk).1)))
          go_roundw
          case rel => exact ⟨j + 1, by omega, by go_num, by rw [HS.out, List.length_append, hml]; exact hg', hb2⟩
          case measure => simp [intOf]; omega
        · have hjk : j = k := by omega
          subst hjk
          have hfl : (ls.take j).flatten = ls.flatten := by rw [← HR.out.len, List.take_length]
          rw [hfl] at hg1
          obtain ⟨R, d, rfl, hsl⟩ := hg1.sq
          go_wp2
          go_ret
          exact ⟨R, d, by rw [HT.out]; rfl, hsl, hb1⟩
end Go.Proofs.Ytggnhccpncgfiaa
