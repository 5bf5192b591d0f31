/- SpEnds SpMay SpAsk StRef7 StL7. -/
import Derived.Test.YtbijhkhkigdddaaGreatP09
import Derived.Deep.DrawnRows
import Derived.Deep.RegionHeld3
import Derived.LoopIn
import Derived.LoopNIn
import Derived.OwnWalk
import Derived.RangeFuncBound
import Derived.RangeFuncBox
import Derived.RangeFuncCalls
import Derived.RangeFuncLeaves
import Derived.RangeFuncNested
import Derived.Shelf.Abstract
import Derived.Shelf.RegionOpen
import Derived.TacticsInMore
set_option linter.all false
set_option maxRecDepth 100000
set_option maxHeartbeats 32000000
namespace Go.Proofs.YtbijhkhkigdddaaGreat
open Go.RowKit Go.Shelf
attribute [local go_sem] Oper.semAt_some
theorem ends1_in (F : Fence) (n : Nat) (h7 : F.fn 220) (hro : F.round = none) (hn : 1 ≤ n) (r Bs b o len cap : Nat) (l : List Sp) (hl : l.length = len) (n₀ : Nat) (hb : b < n₀) (J Jx : List Sp → World → Prop) (hreach : len ≤ 1000000000)
  (W : World) (hn0 : n₀ ≤ W.heap.size) (hJ : AbidesFrom W.heap.size J)
  (hY : ∀ pre x W, J pre W → pre.length < len → YieldAt F (n - 1) Tryz.prog r #[x.1, x.2] W fun e W' =>
   (e = .returned (.bool true) ∧ J (pre ++ [x]) W' ∧ Below n₀ W W') ∨ (e = .returned (.bool false) ∧ Jx (pre ++ [x]) W'))
  (hBs : W.cell? ⟨Bs, 0, none⟩ = some (.slice (some ⟨b, o, none⟩) len cap))
  (hc : ∀ i, i < len → W.cell? ⟨b, o + i * 2, none⟩ = some (.int .i64 (sp l i).1) ∧ W.cell? ⟨b, o + i * 2 + 1, none⟩ = some (.int .i64 (sp l i).2)) (h0 : J [] W) :
  CallsIn F n Tryz.prog 220 #[.func (.yield r) #[] #[], .pointer (some ⟨Bs, 0, none⟩)] W fun e W' => (∃ v, e = .returned v) ∧
   ((∃ ys, ys = l ∧ J ys W') ∨ (∃ pre, (∃ k, k ≤ len ∧ pre = l.take k) ∧ Jx pre W')) := by
 refine callsIn_of_wp Tryz.func220 rfl h7 ?_ hro
 simp only [Tryz.ntmps220, List.size_toArray, List.length_cons, List.length_nil, Nat.reduceAdd, Nat.reduceSub, Array.replicate_succ, Array.replicate_zero, List.push_toArray, List.append_toArray, List.nil_append, List.cons_append]
 gi_wp2
 gi_loopw [7] (fun i wr => ∃ k : Nat, k ≤ len ∧ i = .int .i64 k ∧ J (l.take k) wr ∧ Below n₀ W wr)
  (fun i _ => len - (intOf i).toNat)
 case atStart => exact ⟨0, Nat.zero_le _, rfl, by simpa using h0, Below.refl _ _⟩
 case round =>
  obtain ⟨k, hk, rfl, hJs, hnx⟩ := hrel
  by_cases hlt : k < len
  ·have c1 : wr.cell? ⟨b, o + k * 2, none⟩ = some (.int .i64 (sp l k).1) := (hnx.cell (p := ⟨b, o + k * 2, none⟩) hb).trans (hc k hlt).1
   have c2 : wr.cell? ⟨b, o + k * 2 + 1, none⟩ = some (.int .i64 (sp l k).2) := (hnx.cell (p := ⟨b, o + k * 2 + 1, none⟩) hb).trans (hc k hlt).2
   have hJa : J (l.take k) (wr.alloc (.cells #[.int .i64 (sp l k).1, .int .i64 (sp l k).2] 74)) := hJ _ wr _ none hJs (World.grownBy_alloc _ _ _) (fun r e => by cases e)
   obtain ⟨fn, tmps, assign, body, hy, hR⟩ := hY _ (sp l k) _ hJa (by rw [List.length_take]; omega)
   gi_wp2
   refine hR.mono ?_
   rintro e W3 (⟨rfl, hJ3, hk3⟩ | ⟨rfl, hJx3⟩)
   ·gi_wp2
    go_roundw
    case rel => exact ⟨k + 1, by omega, by simp, by rw [take_sp (by omega)]; exact hJ3, hnx.trans (((Below.refl n₀ wr).alloc (by have := hnx.size; have := hn0; omega) _).trans hk3)⟩
    case measure => simp [intOf]; omega
   ·gi_wp2
    refine bodyPost_ret (results_none rfl _ _ _) rfl ?_
    exact ⟨⟨_, rfl⟩, .inr ⟨_, ⟨k + 1, by omega, (take_sp (by omega)).symm⟩, hJx3⟩⟩
  ·obtain rfl : k = len := by omega
   gi_wp2
   go_end0
   exact ⟨⟨_, rfl⟩, .inl ⟨_, rfl, by rw [← hl, List.take_length] at hJs; exact hJs⟩⟩
theorem ends10_in (F : Fence) (n : Nat) (h7 : F.fn 220) (hro : F.round = none) (r Bs cap : Nat) (A : Option Addr) (J : List Sp → World → Prop) (W : World) (hBs : W.cell? ⟨Bs, 0, none⟩ = some (.slice A 0 cap)) (h0 : J [] W) :
  CallsIn F n Tryz.prog 220 #[.func (.yield r) #[] #[], .pointer (some ⟨Bs, 0, none⟩)] W fun e W' => (∃ v, e = .returned v) ∧ J [] W' := by
 refine callsIn_of_wp Tryz.func220 rfl h7 ?_ hro
 simp only [Tryz.ntmps220, List.size_toArray, List.length_cons, List.length_nil, Nat.reduceAdd, Nat.reduceSub, Array.replicate_succ, Array.replicate_zero, List.push_toArray, List.append_toArray, List.nil_append, List.cons_append]
 gi_wp2
 gi_loopw [7] (fun i wr => i = .int .i64 0 ∧ J [] wr) (fun _ _ => 0)
 case atStart => exact ⟨rfl, h0⟩
 case round =>
  obtain ⟨rfl, hJs⟩ := hrel
  gi_wp2
  go_end0
  exact ⟨⟨_, rfl⟩, hJs⟩
theorem ends_in (F : Fence) (n : Nat) (h5 : F.fn 196) (hro : F.round = none) (a : Option Addr) (len cap : Nat) (w : World) :
  CallsIn F n Tryz.prog 196 #[.slice a len cap] w fun e w' => e = .returned (.func (.func 220) #[] #[.pointer (some ⟨w.heap.size, 0, none⟩)]) ∧ w' = w.alloc (.cells #[.slice a len cap] 43) := by
 refine callsIn_of_wp Tryz.func196 rfl h5 ?_ hro
 simp only [Tryz.ntmps196, List.size_toArray, List.length_cons, List.length_nil, Nat.reduceAdd, Nat.reduceSub, Array.replicate_succ, Array.replicate_zero, List.push_toArray, List.append_toArray, List.nil_append, List.cons_append]
 gi_wp2
 go_ret
 exact ⟨rfl, rfl⟩
theorem ends_stops (F : Fence) (n : Nat) (h7 : F.fn 220) (hro : F.round = none) (hn : 1 ≤ n) (Bs n₀ : Nat) (A : Option Addr) (len cap : Nat) (l : List Sp) (hreach : len ≤ 1000000000) (w : World) (hBs : Bs < w.heap.size) (hn₀ : n₀ ≤ w.heap.size)
  (hc : w.cell? ⟨Bs, 0, none⟩ = some (.slice A len cap)) (hI : Rs w A len l) (hlt : ∀ b o, A = some ⟨b, o, none⟩ → 0 < len → b < n₀) :
  SeqStopsK F n Tryz.prog 220 #[.pointer (some ⟨Bs, 0, none⟩)] (fun x : Sp => #[Value.int .i64 x.1, Value.int .i64 x.2]) (Below n₀) (fun ys => ys = l)
   (fun pre => ∃ k, k ≤ len ∧ pre = l.take k) len w := fun r J Jx W hW hJ _ hY h0 => by
 have hc' := (hW.cell (p := ⟨Bs, 0, none⟩) hBs).trans hc
 have hI' := hI.keep_of (hW.mono hn₀) hlt
 rcases Nat.eq_zero_or_pos len with hz | hz
 ·subst hz
  have hl0 : l = [] := List.eq_nil_of_length_eq_zero hI.len
  exact (ends10_in F n h7 hro r Bs cap A J W hc' h0).mono fun e W' ⟨he, hj⟩ => ⟨he, .inl ⟨_, hl0.symm, hj⟩⟩
 ·obtain ⟨b, o, rfl, _, hcs⟩ := hI'.at_ hz
  exact ends1_in F n h7 hro hn r Bs b o len cap l hI.len n₀ (hlt b o rfl hz) J Jx hreach W (Zn hn₀ hW.size) hJ hY hc' hcs h0
open Go.RowKit Go.Shelf
theorem valid_any (a b : Int) (w : World) :
  Calls Tryz.prog 197 #[a, b] w fun e w' => e = .returned (.bool (vld a b)) ∧ w = w' := by
 have e : vld a b = (decide (0 ≤ a) && (decide (a < b) && decide (b ≤ 4611686018427387904))) := rfl
 by_cases h1 : 0 ≤ a
 ·by_cases h2 : a < b
  ·by_cases h3 : b ≤ 4611686018427387904
   ·rw [Zt h1, Zt h2, Zt h3] at e
    rw [e]
    go_enter Tryz.func197, Tryz.ntmps197
    go_wp2
    go_ret
    exact ⟨rfl, rfl⟩
   ·rw [Zt h1, Zt h2, Zf h3] at e
    rw [e]
    go_enter Tryz.func197, Tryz.ntmps197
    go_wp2
    go_ret
    exact ⟨rfl, rfl⟩
  ·rw [Zt h1, Zf h2] at e
   rw [e]
   have h2' : b ≤ a := by omega
   go_enter Tryz.func197, Tryz.ntmps197
   go_wp2
   go_ret
   exact ⟨rfl, rfl⟩
 ·rw [Zf h1] at e
  rw [e]
  have h1' : a < 0 := by omega
  go_enter Tryz.func197, Tryz.ntmps197
  go_wp2
  go_ret
  exact ⟨rfl, rfl⟩
attribute [local go_sem] Oper.semAt_some
theorem may_any (A : Option Addr) (len cap : Nat) (l : List Sp) (w : World) (hs : Ss w A len cap l) :
  Calls Tryz.prog 163 #[.slice A len cap] w fun e W' => e = .returned (.bool (mayB l)) ∧ Below w.heap.size w W' := by
 refine (callsIn_wide (n := 4)).1 ?_
 have h1 : 1 ≤ 4 := by omega
 have hlen := hs.rd.len
 refine callsIn_of_wp_marks Tryz.func163 rfl trivial ?_ rfl
 simp only [Tryz.ntmps163, List.size_toArray, List.length_cons, List.length_nil, Nat.reduceAdd, Nat.reduceSub, Array.replicate_succ, Array.replicate_zero, List.push_toArray, List.append_toArray, List.nil_append, List.cons_append]
 by_cases hgt : len ≤ 1000
 case neg =>
  have e0 : mayB l = false := by unfold mayB; rw [hlen, Zf hgt]; rfl
  rw [e0]
  gi_wp2
  have bR := Boxed.new w 4 (.bool false)
  have hcr := bR.cell
  refine ⟨.bool false, by simp [results, Tryz.f163, go_sem, hcr], rfl, (Zb).alloc Zr _⟩
 case pos =>
 have e0 : mayB l = chain (-1) l := by unfold mayB; rw [hlen, Zt hgt]; rfl
 rw [e0]
 gi_wp2_with (refine ⟨trivial, ?_⟩; gi_at_call 196; refine (ends_in Fence.wide _ trivial rfl _ _ _ _).mono ?_; rintro e w' ⟨rfl, rfl⟩)
 have bR := Boxed.new w 4 (.bool false)
 have bL := Boxed.new (w.alloc (.cells #[.bool false] 4)) 3 (.int .i64 (-1))
 have bN := Boxed.new ((w.alloc (.cells #[.bool false] 4)).alloc (.cells #[.int .i64 (-1)] 3)) 43 (.slice A len cap)
 rw [World.size_alloc] at bL
 rw [World.size_alloc, World.size_alloc] at bN
 have hB0 : Below w.heap.size w (((w.alloc (.cells #[.bool false] 4)).alloc (.cells #[.int .i64 (-1)] 3)).alloc (.cells #[.slice A len cap] 43)) := (((Below.refl _ w).alloc Zr _).alloc (by simp) _).alloc (by simp; omega) _
 refine wpIn_rangeFunc_ownG rfl h1 (gf := 220) (lb := #[.pointer (some ⟨w.heap.size + 1 + 1, 0, none⟩)]) rfl trivial (enters_of Tryz.func220 (by kernel_rfl) rfl)
  (ends_stops Fence.wide (4 - 1) trivial rfl (by omega) (w.heap.size + 1 + 1) w.heap.size A len cap l (by omega) _ (by simp) (by simp; omega) bN.cell (hs.rd.keep hB0) (fun b o e h0 => by obtain ⟨b', o', e', hl, _⟩ := hs.rd.at_ h0; rw [e] at e'; cases e'; exact hl)) belowK_t (belowK_b (by simp; omega)) (Zb) (fun _ => rfl)
  (fun pre W => (chain (-1) pre = true ∧ Boxed W w.heap.size 4 (.bool false) ∧ Boxed W (w.heap.size + 1) 3 (.int .i64 (lastOf (-1) pre))) ∧ Below w.heap.size w W)
  (fun c pre W => (c = .ret ∧ chain (-1) pre = false ∧ Boxed W w.heap.size 4 (.bool false)) ∧ Below w.heap.size w W)
  (OwnFrom.and (Own.from (fun s A B row hs hg hr => ⟨hs.1, boxed_own _ _ (fun _ => .bool false) s A B row hs.2.1 hg hr, boxed_own _ _ (fun s => .int .i64 (lastOf (-1) s)) s A B row hs.2.2 hg hr⟩) _) (ownFrom_below Zr (by simp; omega)))
  (fun c => OwnFrom.and (Own.from (fun s A B row hs hg hr => ⟨hs.1, hs.2.1, boxed_own _ _ (fun _ => .bool false) s A B row hs.2.2 hg hr⟩) _) (ownFrom_below Zr (by simp; omega)))
  ⟨⟨rfl, (bR.alloc _).alloc _, bL.alloc _⟩, hB0⟩
  (fun x => { tmps := #[.slice A len cap, undef, .pointer (some ⟨w.heap.size, 0, none⟩), .pointer (some ⟨w.heap.size + 1, 0, none⟩), x.1, x.2, .slice A len cap, .int .i64 (len : Int), .bool (decide (1000 < (len : Int))), .slice A len cap, .func (.func 220) #[] #[.pointer (some ⟨w.heap.size + 1 + 1, 0, none⟩)], x.1, x.2, undef, undef, undef, undef, undef, undef, undef, undef, undef, undef], defers := [] }) ?assign ?body ?done ?stop
 case assign =>
  intro l x W K hK
  gi_wp2
  exact hK
 case body =>
  rintro r pre x W ⟨⟨hch, hR, hL⟩, hB⟩ _
  have hcl := hL.cell
  have hfl := hL.frozen
  have hcr := hR.cell
  have hfr := hR.frozen
  by_cases hle : x.1 ≤ lastOf (-1) pre
  ·gi_wp2_with (refine (And.intro trivial ?_ : Fence.wide.fn 197 ∧ _))
   exact ⟨(KeepsOthers.setCell _ _ _).from _, ⟨rfl, by rw [chain_snoc, Zf (by omega)]; simp, hR.set _⟩, hB.setCell (p := ⟨w.heap.size, 0, none⟩) Zr _⟩
  ·have hd : decide (x.1 ≤ lastOf (-1) pre) = false := Zf hle
   by_cases hv : vld x.1 x.2 = true
   ·gi_wp2_with (refine ⟨trivial, ?_⟩; gi_at_call 197; refine (CallsIn.inRound r (callsIn_wide.2 (valid_any _ _ _))).mono ?_; rintro e w' ⟨rfl, rfl⟩)
    exact ⟨(KeepsOthers.setCell _ _ _).from _, (Zb).setCell (p := ⟨w.heap.size + 1, 0, none⟩) (by simp) _, ⟨by rw [chain_snoc, hch, hv, Zt (by omega)]; rfl, hR.other (by omega) _, by rw [lastOf_snoc]; exact hL.set _⟩, hB.setCell (p := ⟨w.heap.size + 1, 0, none⟩) (by simp) _⟩
   ·have hv' : vld x.1 x.2 = false := by simpa using hv
    clear hv
    gi_wp2_with (refine ⟨trivial, ?_⟩; gi_at_call 197; refine (CallsIn.inRound r (callsIn_wide.2 (valid_any _ _ _))).mono ?_; rintro e w' ⟨rfl, rfl⟩)
    exact ⟨(KeepsOthers.setCell _ _ _).from _, ⟨rfl, by rw [chain_snoc, hv']; simp, hR.set _⟩, hB.setCell (p := ⟨w.heap.size, 0, none⟩) Zr _⟩
 case done =>
  rintro D ys W hD rfl ⟨⟨hch, hR, hL⟩, hB⟩ hK
  have hcr := hR.cell
  have hfr := hR.frozen
  gi_wp2
  have hK' := (KeepsOthers.setCell W ⟨w.heap.size, 0, none⟩ (.bool true)).same D _ hK rfl
  refine ⟨by simp, .inl ⟨_, _, rfl, run_takeDeferred hK', ?_⟩⟩
  have hc5 := cell_kept (World.cell?_setCell_same' W ⟨w.heap.size, 0, none⟩ (.bool true) (by rw [hcr]; rfl)) (grownBy_putObj' _ D (.deferred none)) (fun r e => by cases e; exact ⟨_, hK', rfl⟩)
  refine ⟨.bool true, by simp [results, Tryz.f163, go_sem, hc5], by rw [hch], (hB.setCell (p := ⟨w.heap.size, 0, none⟩) Zr _).trans (belowK_b (w := w) Zr _ D _ _ (by simp at hD; omega) hK' rfl rfl)⟩
 case stop =>
  rintro D c pre W hD ⟨k, hk, rfl⟩ ⟨⟨rfl, hch, hR⟩, hB⟩ hK
  gi_wp2
  refine ⟨by simp, .inl ⟨_, _, rfl, run_takeDeferred hK, ?_⟩⟩
  have hc5 := cell_kept hR.cell (grownBy_putObj' _ D (.deferred none)) (fun r e => by cases e; exact ⟨_, hK, rfl⟩)
  refine ⟨.bool false, by simp [results, Tryz.f163, go_sem, hc5], ?_, hB.trans (belowK_b (w := w) Zr W D _ _ (by simp at hD; omega) hK rfl rfl)⟩
  have : chain (-1) l = false := by
   cases h : chain (-1) l with
   | false => rfl
   | true => rw [chain_take h k] at hch; cases hch
  rw [this]
open Go.RowKit Go.Shelf
attribute [local go_sem] Oper.semAt_some
theorem bx_below {W W' : World} {k n : Nat} {t : TypeId} {v : Value} (h : Boxed W k t v) (hb : Below n W W') (hk : k < n) : Boxed W' k t v := (hb.block k hk).trans h
def Boxed2 (W : World) (B : Nat) (t : TypeId) (u v : Value) : Prop := W.heap[B]? = some (.cells #[u, v] t (0, 0))
section
variable {W W' : World} {B n : Nat} {t : TypeId} {u v : Value}
theorem Boxed2.lt (h : Boxed2 W B t u v) : B < W.heap.size := (Array.getElem?_eq_some_iff.1 h).1
theorem Boxed2.fst (h : Boxed2 W B t u v) : W.cell? ⟨B, 0, none⟩ = some u := by simp [World.cell?, show W.heap[B]? = _ from h]
theorem Boxed2.snd (h : Boxed2 W B t u v) : W.cell? ⟨B, 1, none⟩ = some v := by simp [World.cell?, show W.heap[B]? = _ from h]
theorem Boxed2.new (W : World) (t : TypeId) (u v : Value) : Boxed2 (W.alloc (.cells #[u, v] t)) W.heap.size t u v := World.alloc_heap_new W _
theorem Boxed2.kept {row : Option Nat} (h : Boxed2 W B t u v) (hg : W.grownBy W' row) (hne : some B ≠ row) : Boxed2 W' B t u v := (hg.block B h.lt hne).trans h
theorem Boxed2.alloc (h : Boxed2 W B t u v) (o : Obj) : Boxed2 (W.alloc o) B t u v := h.kept (World.grownBy_alloc W o none) (by simp)
theorem Boxed2.below (h : Boxed2 W B t u v) (hb : Below n W W') (hk : B < n) : Boxed2 W' B t u v := (hb.block B hk).trans h
end
theorem boxed2_own {β : Type} (B : Nat) (t : TypeId) (f g : β → Value) : Own (fun s W => Boxed2 W B t (f s) (g s)) := fun s X Y row hs hg hrow =>
 hs.kept hg (fun e => by obtain ⟨o, ho, hc⟩ := hrow B e.symm; rw [show X.heap[B]? = _ from hs] at ho; cases ho; cases hc)
theorem fresh_of {w : World} {A : Option Addr} {len cap : Nat} {l : List Sp} (hs : Ss w A len cap l) : ∀ b o, A = some ⟨b, o, none⟩ → 0 < len → b < w.heap.size :=
 fun b o e h0 => by obtain ⟨b', o', e', hl, _⟩ := hs.rd.at_ h0; rw [e] at e'; cases e'; exact hl
theorem has_any (A : Option Addr) (len cap : Nat) (l : List Sp) (a b : Int) (w : World) (hs : Ss w A len cap l) :
  Calls Tryz.prog 167 #[.slice A len cap, .agg #[a, b]] w fun e W' => e = .returned (.bool (hasB l a b)) ∧ Below w.heap.size w W' := by
 refine (callsIn_wide (n := 4)).1 ?_
 have h1 : 1 ≤ 4 := by omega
 have hlen := hs.rd.len
 refine callsIn_of_wp_marks Tryz.func167 rfl trivial ?_ rfl
 simp only [Tryz.ntmps167, List.size_toArray, List.length_cons, List.length_nil, Nat.reduceAdd, Nat.reduceSub, Array.replicate_succ, Array.replicate_zero, List.push_toArray, List.append_toArray, List.nil_append, List.cons_append]
 have a1 := Boxed2.new w 74 (.int .i64 a) (.int .i64 b)
 have a2 := Boxed.new (w.alloc (.cells #[a, b] 74)) 4 (.bool false)
 rw [World.size_alloc] at a2
 have hb0 : Below w.heap.size w ((w.alloc (.cells #[a, b] 74)).alloc (.cells #[.bool false] 4)) := ((Below.refl _ w).alloc Zr _).alloc (by simp) _
 have hs0 := (hs.alloc (.cells #[a, b] 74)).alloc (.cells #[.bool false] 4)
 have a1' := a1.alloc (.cells #[.bool false] 4)
 have hmay := may_any A len cap l _ hs0
 obtain ⟨w0, hw0⟩ : ∃ w0, (w.alloc (.cells #[a, b] 74)).alloc (.cells #[.bool false] 4) = w0 := ⟨_, rfl⟩
 rw [hw0] at hmay a1' a2 hb0 hs0
 by_cases hm : mayB l = true
 case neg =>
  have hm' : mayB l = false := by simpa using hm
  have e0 : hasB l a b = false := by unfold hasB; rw [hm']; rfl
  rw [hm'] at hmay
  rw [e0]
  gi_wp2_with (first | (refine ⟨trivial, ?_⟩; gi_at_call 163; refine (callsIn_wide.2 hmay).mono ?_; rintro e w1 ⟨rfl, hb1⟩; have a3 := bx_below a2 hb1 a2.lt; have hc3 := a3.cell; have hf3 := a3.frozen) | (refine (And.intro trivial ?_ : Fence.wide.fn 197 ∧ _)))
  refine ⟨.bool false, ?_, rfl, ?_⟩
  ·have hc4 := World.cell?_setCell_same' w1 ⟨w.heap.size + 1, 0, none⟩ (.bool false) (by rw [hc3]; rfl)
   simp [results, Tryz.f167, go_sem, hc4]
  ·exact (hb0.trans (hb1.mono hb0.size)).setCell (p := ⟨w.heap.size + 1, 0, none⟩) (by simp) _
 case pos =>
 have hle := (mayB_parts hm).1
 rw [hm] at hmay
 by_cases hv : vld a b = true
 case neg =>
  have hv' : vld a b = false := by simpa using hv
  clear hv
  have e0 : hasB l a b = false := by unfold hasB; rw [hm, hv']; rfl
  rw [e0]
  gi_wp2_with (first | (refine ⟨trivial, ?_⟩; gi_at_call 163; refine (callsIn_wide.2 hmay).mono ?_; rintro e w1 ⟨rfl, hb1⟩; have a3 := bx_below a2 hb1 a2.lt; have a4 := Boxed2.below a1' hb1 a1'.lt; have hc3 := a3.cell; have hf3 := a3.frozen; have hc4 := a4.fst; have hc5 := a4.snd) | (refine ⟨trivial, ?_⟩; gi_at_call 197; refine (callsIn_wide.2 (valid_any _ _ _)).mono ?_; rintro e w' ⟨rfl, rfl⟩))
  refine ⟨.bool false, ?_, rfl, ?_⟩
  ·have hc4 := World.cell?_setCell_same' w1 ⟨w.heap.size + 1, 0, none⟩ (.bool false) (by rw [hc3]; rfl)
   simp [results, Tryz.f167, go_sem, hc4]
  ·exact (hb0.trans (hb1.mono hb0.size)).setCell (p := ⟨w.heap.size + 1, 0, none⟩) (by simp) _
 case pos =>
 have e0 : hasB l a b = hasIn l a b := by unfold hasB; rw [hm, hv]; rfl
 rw [e0]
 have hval := valid_any a b
 gi_wp2_with (first | (refine ⟨trivial, ?_⟩; gi_at_call 163; refine (callsIn_wide.2 hmay).mono ?_; rintro e w1 ⟨rfl, hb1⟩; have a3 := bx_below a2 hb1 a2.lt; have a4 := Boxed2.below a1' hb1 a1'.lt; have hc3 := a3.cell; have hf3 := a3.frozen; have hc4 := a4.fst; have hc5 := a4.snd) | (refine ⟨trivial, ?_⟩; gi_at_call 197; refine (callsIn_wide.2 (valid_any _ _ _)).mono ?_; rintro e w' ⟨rfl, rfl⟩) | (refine ⟨trivial, ?_⟩; gi_at_call 196; refine (ends_in Fence.wide _ trivial rfl _ _ _ _).mono ?_; rintro e w' ⟨rfl, rfl⟩))
 have k1 : Below w.heap.size w w1 := hb0.trans (hb1.mono hb0.size)
 have k2 : Below w.heap.size w (w1.alloc (.cells #[.slice A len cap] 43)) := k1.alloc k1.size _
 have bN := Boxed.new w1 43 (.slice A len cap)
 have hsz1 : w.heap.size + 1 < w1.heap.size := a3.lt
 refine wpIn_rangeFunc_ownG rfl h1 (gf := 220) (lb := #[.pointer (some ⟨w1.heap.size, 0, none⟩)]) rfl trivial (enters_of Tryz.func220 (by kernel_rfl) rfl)
  (ends_stops Fence.wide (4 - 1) trivial rfl (by omega) w1.heap.size w.heap.size A len cap l (by omega) _ (by simp) k2.size bN.cell (hs.rd.keep k2) (fresh_of hs)) belowK_t (belowK_b k2.size) (Zb) (fun _ => rfl)
  (fun pre W => (hasIn pre a b = false ∧ Boxed2 W w.heap.size 74 (.int .i64 a) (.int .i64 b) ∧ Boxed W (w.heap.size + 1) 4 (.bool false)) ∧ Below w.heap.size w W)
  (fun c pre W => (c = .ret ∧ hasIn pre a b = true ∧ Boxed W (w.heap.size + 1) 4 (.bool true)) ∧ Below w.heap.size w W)
  (OwnFrom.and (Own.from (fun s A B row hs hg hr => ⟨hs.1, boxed2_own _ _ (fun _ => .int .i64 a) (fun _ => .int .i64 b) s A B row hs.2.1 hg hr, boxed_own _ _ (fun _ => .bool false) s A B row hs.2.2 hg hr⟩) _) (ownFrom_below Zr k2.size))
  (fun c => OwnFrom.and (Own.from (fun s A B row hs hg hr => ⟨hs.1, hs.2.1, boxed_own _ _ (fun _ => .bool true) s A B row hs.2.2 hg hr⟩) _) (ownFrom_below Zr k2.size))
  ⟨⟨rfl, a4.alloc _, a3.alloc _⟩, k2⟩
  (fun x => { tmps := #[.slice A len cap, .agg #[.int .i64 a, .int .i64 b], undef, .pointer (some ⟨w.heap.size, 0, none⟩), .pointer (some ⟨w.heap.size + 1, 0, none⟩), .int .i64 x.1, .int .i64 x.2, .slice A len cap, .bool true, .bool false, .bool false, .pointer (some ⟨w.heap.size, 0, none⟩), .int .i64 a, .pointer (some ⟨w.heap.size, 1, none⟩), .int .i64 b, .bool true, .bool false, .bool false, .slice A len cap, .func (.func 220) #[] #[.pointer (some ⟨w1.heap.size, 0, none⟩)], .int .i64 x.1, .int .i64 x.2, undef, undef, undef, undef, undef, undef, undef, undef, undef, undef], defers := [] }) ?assign ?body ?done ?stop
 case assign =>
  intro l x W K hK
  gi_wp2
  exact hK
 case body =>
  rintro r pre x W ⟨⟨hp, hM, hR⟩, hB⟩ _
  have hcm := hM.fst
  have hcn := hM.snd
  have hcr := hR.cell
  have hfr := hR.frozen
  by_cases h3 : x.1 ≤ a
  ·have hd3 : decide (x.1 ≤ a) = true := Zt h3
   by_cases h4 : b ≤ x.2
   ·have hd4 : decide (b ≤ x.2) = true := Zt h4
    have hx : hasIn (pre ++ [x]) a b = true := by rw [hasIn_snoc, hd3, hd4]; simp
    gi_wp2
    exact ⟨(KeepsOthers.setCell _ _ _).from _, ⟨rfl, hx, hR.set _⟩, hB.setCell (p := ⟨w.heap.size + 1, 0, none⟩) (by simp) _⟩
   ·have hd4 : decide (b ≤ x.2) = false := Zf h4
    have hx : hasIn (pre ++ [x]) a b = false := by rw [hasIn_snoc, hp, hd4]; simp
    gi_wp2
    exact ⟨KeepsFrom.refl _ _, Below.refl _ _, ⟨hx, hM, hR⟩, hB⟩
  ·have hd3 : decide (x.1 ≤ a) = false := Zf h3
   have hx : hasIn (pre ++ [x]) a b = false := by rw [hasIn_snoc, hp, hd3]; simp
   gi_wp2
   exact ⟨KeepsFrom.refl _ _, Below.refl _ _, ⟨hx, hM, hR⟩, hB⟩
 case done =>
  rintro D ys W hD rfl ⟨⟨hp, hM, hR⟩, hB⟩ hK
  have hcr := hR.cell
  have hfr := hR.frozen
  gi_wp2
  have hK' := (KeepsOthers.setCell W ⟨w.heap.size + 1, 0, none⟩ (.bool false)).same D _ hK rfl
  refine ⟨by simp, .inl ⟨_, _, rfl, run_takeDeferred hK', ?_⟩⟩
  have hc5 := cell_kept (World.cell?_setCell_same' W ⟨w.heap.size + 1, 0, none⟩ (.bool false) (by rw [hcr]; rfl)) (grownBy_putObj' _ D (.deferred none)) (fun r e => by cases e; exact ⟨_, hK', rfl⟩)
  refine ⟨.bool false, by simp [results, Tryz.f167, go_sem, hc5], by rw [hp], (hB.setCell (p := ⟨w.heap.size + 1, 0, none⟩) (by simp) _).trans (belowK_b (w := w) Zr _ D _ _ (by have := k2.size; omega) hK' rfl rfl)⟩
 case stop =>
  rintro D c pre W hD ⟨k, hk, rfl⟩ ⟨⟨rfl, hp, hR⟩, hB⟩ hK
  gi_wp2
  refine ⟨by simp, .inl ⟨_, _, rfl, run_takeDeferred hK, ?_⟩⟩
  have hc5 := cell_kept hR.cell (grownBy_putObj' _ D (.deferred none)) (fun r e => by cases e; exact ⟨_, hK, rfl⟩)
  refine ⟨.bool true, by simp [results, Tryz.f167, go_sem, hc5], by rw [hasIn_cut hp], hB.trans (belowK_b (w := w) Zr W D _ _ (by have := k2.size; omega) hK rfl rfl)⟩
end Go.Proofs.YtbijhkhkigdddaaGreat
namespace Go.Proofs.YtbijhkhkigdddaaGreat
open Go.RowKit
def TellHd (w w' : World) (e : Ending) (x : List Prt × List Prt × Int) : Prop := ∃ G m d G' m' d', e = .returned (.tuple #[.slice G m d, .slice G' m' d', x.2.2]) ∧ Sne w' w.heap.size G m d x.1 ∧ Sne w' w.heap.size G' m' d' x.2.1 ∧ Below w.heap.size w w'
def Apart (u v : Value) : Prop := u.ownBlock = none ∨ u.ownBlock ≠ v.ownBlock
theorem Apart.symm {u v : Value} (h : Apart u v) : Apart v u := by
 unfold Apart at *
 rcases h with h | h
 ·by_cases k : v.ownBlock = none
  ·exact .inl k
  ·exact .inr (by rw [h]; exact k)
 ·exact .inr (fun e => h e.symm)
theorem Apart.step {w : World} {base e : Nat} {u v v' : Value} {n : Nat} {l : List Prt} (h : Apart u v) (hu : Goe w base e u n l) (hv : v'.ownBlock = v.ownBlock ∨ v'.ownBlock = some w.heap.size) : Apart u v' := by
 unfold Apart at *
 rcases hv with hv | hv
 ·rw [hv]; exact h
 ·rw [hv]
  cases hb : u.ownBlock with
  | none => exact .inl rfl
  | some k => exact .inr (fun e => by have := (hu.row.lt k hb).2; cases e; omega)
theorem Goe.other {w w' : World} {base e : Nat} {u v : Value} {n : Nat} {l : List Prt} (hu : Goe w base e u n l) (h : Apart u v) (hg : w.grownBy w' v.ownBlock) : Goe w' base e u n l := ⟨hu.row.kept hg h, hu.ok⟩
theorem grown_setQ (W : World) (b o : Nat) (v : Value) : W.grownBy (W.setCell ⟨b, o, none⟩ v) (some b) :=
 ⟨rfl, rfl, rfl, (KeepsWalks.setCell W _ v).size, fun k _ hk => Below.heap_setCell _ _ _ k (fun e => hk (by rw [e]))⟩
def NotIn (P : Nat) (v : Value) : Prop := ∀ k, v.ownBlock = some k → k ≠ P
theorem Goe.setBox {w : World} {base e : Nat} {v : Value} {n : Nat} {l : List Prt} (h : Goe w base e v n l) {P : Nat} (hne : NotIn P v) (i : Nat) (u : Value) : Goe (w.setCell ⟨P, i, .none⟩ u) base e v n l := by
 refine ⟨h.row.kept (grown_setQ w P i u) ?_, h.ok⟩
 cases hb : v.ownBlock with
 | none => exact .inl rfl
 | some k => exact .inr (fun e => by cases e; exact hne _ hb rfl)
theorem step_appe3 {α : Type} [El α] {P : Program} (w : World) {ad : Addr} {m c : Nat} {l : List α} {ops : Array Oper} {o : Oper} {a : Act} {K : Act → World → Prop} {Q : Exit → Act → World → Prop} {E : Prop} (hgd : o.guard = .none) (s x : Operand) (t : TypeId)
  (ho : o.op = .call { callee := .builtin .append, args := #[s, x], argTypes := #[t, t] })
  (base : Nat) (e : TypeId) (ht : P.underlying t = some (.slice e)) (z : Value) (bytes : Nat) (hinfo : (P.info? e).map (fun i => (i.zero, i.size, i.bytes)) = some (some z, El.k α, bytes)) (hzs : z.cells.size = El.k α)
  (v : Value) (n : Nat) (xs : List α) (hs : a.eval s = v) (hx : a.eval x = .slice (some ad) m c) (hown : Goe w base e v n xs) (hr : Re w (some ad) m l) (hmax : n + m ≤ maxLen) (hsum : (n + m) * bytes ≤ 140737488355328) (hbase : base ≤ w.heap.size)
  (h : ∀ v' w', Goe w' base e v' (n + m) (xs ++ l) → w.grownBy w' v.ownBlock → (v'.ownBlock = v.ownBlock ∨ v'.ownBlock = some w.heap.size) → K (a.put o.dst v') w') :
  if Region.wanted o (yielded ops a.tmps) = true then Oper.wp P o a w K Q else E := by
 have hw : Region.wanted o (yielded ops a.tmps) = true := by simp [Region.wanted, hgd]
 rw [if_pos hw]
 obtain ⟨i0, hi, hz0, hz1, hz2⟩ := info_parts hinfo
 have hnews : ∀ j u, (evals l)[j]? = some u → w.cell? (ad.add j) = some u := by
  rcases Nat.eq_zero_or_pos m with h0 | h0
  ·subst h0
   have hl0 : l = [] := List.eq_nil_of_length_eq_zero hr.len
   subst hl0
   intro j u hj; simp [evals] at hj
  ·obtain ⟨b, o', e', _, hc⟩ := hr.at_ h0
   cases e'
   exact news_of_re hr.len hc
 obtain ⟨v', w', hrun, h2, h3, h4, h5⟩ := run_append_own_at (P := P) w base t o.type e i0 z (El.k α) bytes ht hi hz0 hz1 hz2 hzs (El.pos (α := α)) v n _ hown.row ad m c (evals l) (by rw [evals_length, hr.len]) hnews (evals_cell l) hmax hsum hbase
 exact Lib.wp_append_run w s x t t ho v (.slice (some ad) m c) hs hx v' w' hrun (h v' w' ⟨by rw [evals_app]; exact h2, hown.ok.app hr.ok⟩ h3 h5)
theorem Goe.size {w : World} {base e : Nat} {v : Value} {n : Nat} {l : List Prt} (h : Goe w base e v n l) {B : Nat} (hB : B < base) : NotIn B v := fun k hk => by have := (h.row.lt k hk).1; omega
theorem stput_yes (B base : Nat) (hbase : B < base) (x : Prt) (hx : PrtW x) (vy vn : Value) (ny nn : Nat) (ly ln : List Prt) (w : World) (hB : Bx w B 174 [vy, vn]) (hy : Goe w base 57 vy ny ly) (hn : Goe w base 57 vn nn ln) (hap : Apart vy vn) (hbw : base ≤ w.heap.size) (hs1 : ny ≤ 1000) (hs2 : nn ≤ 1000) :
  Calls Tryz.prog 200 #[.pointer (some ⟨B, 0, none⟩), .agg #[x.seq, x.len, x.dsn, x.at_, x.tries, x.came, x.lost, x.total, x.last], .bool true] w fun e w' => e = .returned (.tuple #[]) ∧ ∃ v', Bx w' B 174 [v', vn] ∧ Goe w' base 57 v' (ny + 1) (ly ++ [x]) ∧ Goe w' base 57 vn nn ln ∧ Apart v' vn ∧ Below B w w' := by
 obtain ⟨P, hP⟩ : ∃ P, w.heap.size = P := ⟨_, rfl⟩
 have e0 : Bx (w.alloc (.cells #[x.seq, x.len, x.dsn, x.at_, x.tries, x.came, x.lost, x.total, x.last] 57)) P 57 (El.cells x) := hP ▸ Bx.new w 57 [x.seq, x.len, x.dsn, x.at_, x.tries, x.came, x.lost, x.total, x.last]
 have b0 : Below B w (w.alloc (.cells #[x.seq, x.len, x.dsn, x.at_, x.tries, x.came, x.lost, x.total, x.last] 57)) := (Zb).alloc (by omega) _
 have hB0 := hB.alloc (.cells #[x.seq, x.len, x.dsn, x.at_, x.tries, x.came, x.lost, x.total, x.last] 57)
 have HM := Zh (hy.alloc (.cells #[x.seq, x.len, x.dsn, x.at_, x.tries, x.came, x.lost, x.total, x.last] 57))
 have HO := Zh (hn.alloc (.cells #[x.seq, x.len, x.dsn, x.at_, x.tries, x.came, x.lost, x.total, x.last] 57))
 have HAP := Zh hap
 have HX := Zh hx
 have hBP : B < P := by omega
 have hNP : NotIn P vy := fun k hk => by have := (hy.row.lt k hk).2; omega
 have HNP := Zh hNP
 clear hB hy hn hap hx hNP
 go_enter Tryz.func200, Tryz.ntmps200
 go_upto_region 2 with fail
 change Code.wp _ _ _ _ (w.alloc (.cells #[x.seq, x.len, x.dsn, x.at_, x.tries, x.came, x.lost, x.total, x.last] 57))
 try rw [hP]
 have hbw1 : base ≤ (w.alloc (.cells #[x.seq, x.len, x.dsn, x.at_, x.tries, x.came, x.lost, x.total, x.last] 57)).heap.size := by simp; omega
 generalize w.alloc (.cells #[x.seq, x.len, x.dsn, x.at_, x.tries, x.came, x.lost, x.total, x.last] 57) = w1 at e0 b0 hB0 HM HO hbw1 ⊢
 obtain ⟨w2, hw2⟩ : ∃ w2, w1.drew = w2 := ⟨_, rfl⟩
 have e2 : Bx w2 P 57 (El.cells x) := by rw [← hw2]; exact e0.drew
 have b2 : Below B w w2 := by rw [← hw2]; exact b0.drew
 have hB2 : Bx w2 B 174 [vy, vn] := by rw [← hw2]; exact hB0.drew
 have HM2 : Hid (Goe w2 base 57 vy ny ly) := Zh (by rw [← hw2]; exact HM.out.drew)
 have HO2 : Hid (Goe w2 base 57 vn nn ln) := Zh (by rw [← hw2]; exact HO.out.drew)
 have hbw2 : base ≤ w2.heap.size := by rw [← hw2]; exact hbw1
 clear e0 b0 hB0 HM HO hbw1
 refine wp_region_tail 8 11 (fun (W : World) => Bx W P 57 (El.cells x) ∧ W.cell? ⟨B, 0, none⟩ = some vy ∧ Below B w W) (by kernel_rfl) (by rfl) (by decide) ?_
 rw [hw2]
 have HS : ((fun (W : World) => Bx W P 57 (El.cells x) ∧ W.cell? ⟨B, 0, none⟩ = some vy ∧ Below B w W)) w2 := ⟨e2, hB2.cell 0 rfl, b2⟩
 clear hw2
 refine wpAnyT_take (i := 0) (v := ?vv1) rfl (by kernel_rfl) (fun _ _ _ h => h) (Or.inl ⟨by rfl, fun w hSw => ?yy1⟩) HS ?rr1
 case yy1 =>
  (try dsimp only at hSw); go_simp
  try with_reducible rfl
 try simp only [Act.put, List.setIfInBounds_toArray, List.set_cons_zero, List.set_cons_succ]
 refine wpAnyT_take (i := 1) (v := ?vv2) rfl (by kernel_rfl) (fun _ _ _ h => h) (Or.inl ⟨by rfl, fun w hSw => ?yy2⟩) HS ?rr2
 case yy2 =>
  (try dsimp only at hSw); go_simp
  try with_reducible rfl
 try simp only [Act.put, List.setIfInBounds_toArray, List.set_cons_zero, List.set_cons_succ]
 refine wpAnyT_take (i := 2) (v := ?vv3) rfl (by kernel_rfl) (fun _ _ _ h => h) (Or.inl ⟨by rfl, fun w hSw => ?yy3⟩) HS ?rr3
 case yy3 =>
  (try dsimp only at hSw); go_simp
  try with_reducible rfl
 try simp only [Act.put, List.setIfInBounds_toArray, List.set_cons_zero, List.set_cons_succ]
 refine wpAnyT_take (i := 3) (v := ?vv4) rfl (by kernel_rfl) (fun _ _ _ h => h) (Or.inl ⟨by rfl, fun w hSw => ?yy4⟩) HS ?rr4
 case yy4 =>
  (try dsimp only at hSw); go_simp
  try with_reducible rfl
 try simp only [Act.put, List.setIfInBounds_toArray, List.set_cons_zero, List.set_cons_succ]
 refine wpAnyT_take (i := 4) (v := ?vv5) rfl (by kernel_rfl) (fun _ _ _ h => h) (Or.inl ⟨by rfl, fun w hSw => ?yy5⟩) HS ?rr5
 case yy5 =>
  (try dsimp only at hSw); go_simp
  try with_reducible rfl
 try simp only [Act.put, List.setIfInBounds_toArray, List.set_cons_zero, List.set_cons_succ]
 refine wpAnyT_take (i := 5) (v := .agg #[x.seq, x.len, x.dsn, x.at_, x.tries, x.came, x.lost, x.total, x.last]) rfl (by kernel_rfl) (fun _ _ _ h => h) (st_yields (by rfl) (.tmp 4) rfl rfl (El.cells x) rfl 57 (fun W hW => hW.1)) HS ?_
 try simp only [Act.put, List.setIfInBounds_toArray, List.set_cons_zero, List.set_cons_succ]
 refine wpAnyT_one (k := 6) rfl (by kernel_rfl) (by decide) (fun K hK => ?_)
 go_simp
 have hb3 : Below w2.heap.size w2 (w2.alloc (.cells (El.cells x).toArray 57)) := (Zb).alloc Zr _
 have hB3 := hB2.alloc (.cells (El.cells x).toArray 57)
 have HS : ((fun (W : World) => Bx W P 57 (El.cells x) ∧ W.cell? ⟨B, 0, none⟩ = some vy ∧ Below B w W)) (w2.alloc (.cells (El.cells x).toArray 57)) := ⟨e2.alloc _, hB3.cell 0 rfl, b2.alloc (by omega) _⟩
 have hlit := se_one w2 (x := x) HX.out 57
 have HM3 := Zh (HM2.out.alloc (.cells (El.cells x).toArray 57))
 have HO3 := Zh (HO2.out.alloc (.cells (El.cells x).toArray 57))
 have e3 := e2.alloc (.cells (El.cells x).toArray 57)
 have hbw3 : base ≤ (w2.alloc (.cells (El.cells x).toArray 57)).heap.size := by simp; omega
 have b3 : Below B w (w2.alloc (.cells (El.cells x).toArray 57)) := b2.alloc (by omega) _
 refine hK _ _ HS ?_
 clear hK K HS HM2 HO2 hb3 e2 b2 hB2
 try simp only [Act.put, List.setIfInBounds_toArray, List.set_cons_zero, List.set_cons_succ]
 generalize w2.alloc (.cells (El.cells x).toArray 57) = w3 at hlit HM3 HO3 e3 hB3 hbw3 b3 ⊢
 generalize w2.heap.size = L at hlit hbw2 ⊢
 refine wpAnyT_one (k := 7) rfl (by kernel_rfl) (by decide) (fun K hK => ?_)
 refine step_appe3 w3 (by rfl) (.tmp 11) (.tmp 13) 22 (by rfl) base 57 Tryz.underlying22 (.agg #[.int .i64 0, .int .i64 0, .int .i64 0, .int .i64 0, .int .i64 0, .bool false, .bool false, .int .i64 0, .int .i64 0]) 64 info_prt (by decide) vy ny ly (by rfl) (by rfl) HM3.out hlit.rd (by unfold maxLen; omega) (by omega) hbw3 ?_
 intro v4 w4 hg4 hgr4 hv4
 obtain ⟨R4, d4, ev4, _⟩ := hg4.se
 subst ev4
 have hB4 := hB3.grown hgr4 (fun h => (HM3.out.size hbase) _ h.symm rfl)
 have e4 := e3.grown hgr4 (fun h => HNP.out _ h.symm rfl)
 have b4 : Below B w w4 := b3.grown hgr4 (by omega) (fun k hk => by have := (HM3.out.row.lt k hk).1; omega)
 have HO4 := Zh (HO3.out.other (HAP.out.symm) hgr4)
 have hap4 := (HAP.out.symm).step HO3.out hv4
 have HAP4 := Zh hap4
 have HM4 := Zh hg4
 have HS : ((fun (W : World) => Bx W P 57 (El.cells x) ∧ W.cell? ⟨B, 0, none⟩ = some vy ∧ Below B w W)) w4 := ⟨e4, hB4.cell 0 rfl, b4⟩
 refine hK _ _ HS ?_
 clear hK K HS HM3 HO3 HAP hB3 e3 b3 hlit hg4 hgr4 hv4 hap4
 try simp only [Act.put, List.setIfInBounds_toArray, List.set_cons_zero, List.set_cons_succ]
 refine ⟨by kernel_rfl, ?_⟩
 simp only [List.drop_succ_cons, List.drop_zero]
 have c0 := hB4.cell 0 rfl; have f0 := hB4.free 0
 go_wp2_with fail
 go_end0
 refine ⟨rfl, _, hB4.set 0 _, HM4.out.setBox (HM4.out.size hbase) 0 _, HO4.out.setBox (HO4.out.size hbase) 0 _, HAP4.out.symm, b4.setCell (p := ⟨B, 0, none⟩) Zr _⟩
theorem stput_no (B base : Nat) (hbase : B < base) (x : Prt) (hx : PrtW x) (vy vn : Value) (ny nn : Nat) (ly ln : List Prt) (w : World) (hB : Bx w B 174 [vy, vn]) (hy : Goe w base 57 vy ny ly) (hn : Goe w base 57 vn nn ln) (hap : Apart vy vn) (hbw : base ≤ w.heap.size) (hs1 : ny ≤ 1000) (hs2 : nn ≤ 1000) :
  Calls Tryz.prog 200 #[.pointer (some ⟨B, 0, none⟩), .agg #[x.seq, x.len, x.dsn, x.at_, x.tries, x.came, x.lost, x.total, x.last], .bool false] w fun e w' => e = .returned (.tuple #[]) ∧ ∃ v', Bx w' B 174 [vy, v'] ∧ Goe w' base 57 v' (nn + 1) (ln ++ [x]) ∧ Goe w' base 57 vy ny ly ∧ Apart vy v' ∧ Below B w w' := by
 obtain ⟨P, hP⟩ : ∃ P, w.heap.size = P := ⟨_, rfl⟩
 have e0 : Bx (w.alloc (.cells #[x.seq, x.len, x.dsn, x.at_, x.tries, x.came, x.lost, x.total, x.last] 57)) P 57 (El.cells x) := hP ▸ Bx.new w 57 [x.seq, x.len, x.dsn, x.at_, x.tries, x.came, x.lost, x.total, x.last]
 have b0 : Below B w (w.alloc (.cells #[x.seq, x.len, x.dsn, x.at_, x.tries, x.came, x.lost, x.total, x.last] 57)) := (Zb).alloc (by omega) _
 have hB0 := hB.alloc (.cells #[x.seq, x.len, x.dsn, x.at_, x.tries, x.came, x.lost, x.total, x.last] 57)
 have HM := Zh (hn.alloc (.cells #[x.seq, x.len, x.dsn, x.at_, x.tries, x.came, x.lost, x.total, x.last] 57))
 have HO := Zh (hy.alloc (.cells #[x.seq, x.len, x.dsn, x.at_, x.tries, x.came, x.lost, x.total, x.last] 57))
 have HAP := Zh hap
 have HX := Zh hx
 have hBP : B < P := by omega
 have hNP : NotIn P vn := fun k hk => by have := (hn.row.lt k hk).2; omega
 have HNP := Zh hNP
 clear hB hy hn hap hx hNP
 go_enter Tryz.func200, Tryz.ntmps200
 go_upto_region 3 with fail
 change Code.wp _ _ _ _ (w.alloc (.cells #[x.seq, x.len, x.dsn, x.at_, x.tries, x.came, x.lost, x.total, x.last] 57))
 try rw [hP]
 have hbw1 : base ≤ (w.alloc (.cells #[x.seq, x.len, x.dsn, x.at_, x.tries, x.came, x.lost, x.total, x.last] 57)).heap.size := by simp; omega
 generalize w.alloc (.cells #[x.seq, x.len, x.dsn, x.at_, x.tries, x.came, x.lost, x.total, x.last] 57) = w1 at e0 b0 hB0 HM HO hbw1 ⊢
 obtain ⟨w2, hw2⟩ : ∃ w2, w1.drew = w2 := ⟨_, rfl⟩
 have e2 : Bx w2 P 57 (El.cells x) := by rw [← hw2]; exact e0.drew
 have b2 : Below B w w2 := by rw [← hw2]; exact b0.drew
 have hB2 : Bx w2 B 174 [vy, vn] := by rw [← hw2]; exact hB0.drew
 have HM2 : Hid (Goe w2 base 57 vn nn ln) := Zh (by rw [← hw2]; exact HM.out.drew)
 have HO2 : Hid (Goe w2 base 57 vy ny ly) := Zh (by rw [← hw2]; exact HO.out.drew)
 have hbw2 : base ≤ w2.heap.size := by rw [← hw2]; exact hbw1
 clear e0 b0 hB0 HM HO hbw1
 refine wp_region_tail 8 11 (fun (W : World) => Bx W P 57 (El.cells x) ∧ W.cell? ⟨B, 1, none⟩ = some vn ∧ Below B w W) (by kernel_rfl) (by rfl) (by decide) ?_
 rw [hw2]
 have HS : ((fun (W : World) => Bx W P 57 (El.cells x) ∧ W.cell? ⟨B, 1, none⟩ = some vn ∧ Below B w W)) w2 := ⟨e2, hB2.cell 1 rfl, b2⟩
 clear hw2
 refine wpAnyT_take (i := 0) (v := ?vv6) rfl (by kernel_rfl) (fun _ _ _ h => h) (Or.inl ⟨by rfl, fun w hSw => ?yy6⟩) HS ?rr6
 case yy6 =>
  (try dsimp only at hSw); go_simp
  try with_reducible rfl
 try simp only [Act.put, List.setIfInBounds_toArray, List.set_cons_zero, List.set_cons_succ]
 refine wpAnyT_take (i := 1) (v := ?vv7) rfl (by kernel_rfl) (fun _ _ _ h => h) (Or.inl ⟨by rfl, fun w hSw => ?yy7⟩) HS ?rr7
 case yy7 =>
  (try dsimp only at hSw); go_simp
  try with_reducible rfl
 try simp only [Act.put, List.setIfInBounds_toArray, List.set_cons_zero, List.set_cons_succ]
 refine wpAnyT_take (i := 2) (v := ?vv8) rfl (by kernel_rfl) (fun _ _ _ h => h) (Or.inl ⟨by rfl, fun w hSw => ?yy8⟩) HS ?rr8
 case yy8 =>
  (try dsimp only at hSw); go_simp
  try with_reducible rfl
 try simp only [Act.put, List.setIfInBounds_toArray, List.set_cons_zero, List.set_cons_succ]
 refine wpAnyT_take (i := 3) (v := ?vv9) rfl (by kernel_rfl) (fun _ _ _ h => h) (Or.inl ⟨by rfl, fun w hSw => ?yy9⟩) HS ?rr9
 case yy9 =>
  (try dsimp only at hSw); go_simp
  try with_reducible rfl
 try simp only [Act.put, List.setIfInBounds_toArray, List.set_cons_zero, List.set_cons_succ]
 refine wpAnyT_take (i := 4) (v := ?vv10) rfl (by kernel_rfl) (fun _ _ _ h => h) (Or.inl ⟨by rfl, fun w hSw => ?yy10⟩) HS ?rr10
 case yy10 =>
  (try dsimp only at hSw); go_simp
  try with_reducible rfl
 try simp only [Act.put, List.setIfInBounds_toArray, List.set_cons_zero, List.set_cons_succ]
 refine wpAnyT_take (i := 5) (v := .agg #[x.seq, x.len, x.dsn, x.at_, x.tries, x.came, x.lost, x.total, x.last]) rfl (by kernel_rfl) (fun _ _ _ h => h) (st_yields (by rfl) (.tmp 4) rfl rfl (El.cells x) rfl 57 (fun W hW => hW.1)) HS ?_
 try simp only [Act.put, List.setIfInBounds_toArray, List.set_cons_zero, List.set_cons_succ]
 refine wpAnyT_one (k := 6) rfl (by kernel_rfl) (by decide) (fun K hK => ?_)
 go_simp
 have hb3 : Below w2.heap.size w2 (w2.alloc (.cells (El.cells x).toArray 57)) := (Zb).alloc Zr _
 have hB3 := hB2.alloc (.cells (El.cells x).toArray 57)
 have HS : ((fun (W : World) => Bx W P 57 (El.cells x) ∧ W.cell? ⟨B, 1, none⟩ = some vn ∧ Below B w W)) (w2.alloc (.cells (El.cells x).toArray 57)) := ⟨e2.alloc _, hB3.cell 1 rfl, b2.alloc (by omega) _⟩
 have hlit := se_one w2 (x := x) HX.out 57
 have HM3 := Zh (HM2.out.alloc (.cells (El.cells x).toArray 57))
 have HO3 := Zh (HO2.out.alloc (.cells (El.cells x).toArray 57))
 have e3 := e2.alloc (.cells (El.cells x).toArray 57)
 have hbw3 : base ≤ (w2.alloc (.cells (El.cells x).toArray 57)).heap.size := by simp; omega
 have b3 : Below B w (w2.alloc (.cells (El.cells x).toArray 57)) := b2.alloc (by omega) _
 refine hK _ _ HS ?_
 clear hK K HS HM2 HO2 hb3 e2 b2 hB2
 try simp only [Act.put, List.setIfInBounds_toArray, List.set_cons_zero, List.set_cons_succ]
 generalize w2.alloc (.cells (El.cells x).toArray 57) = w3 at hlit HM3 HO3 e3 hB3 hbw3 b3 ⊢
 generalize w2.heap.size = L at hlit hbw2 ⊢
 refine wpAnyT_one (k := 7) rfl (by kernel_rfl) (by decide) (fun K hK => ?_)
 refine step_appe3 w3 (by rfl) (.tmp 21) (.tmp 23) 22 (by rfl) base 57 Tryz.underlying22 (.agg #[.int .i64 0, .int .i64 0, .int .i64 0, .int .i64 0, .int .i64 0, .bool false, .bool false, .int .i64 0, .int .i64 0]) 64 info_prt (by decide) vn nn ln (by rfl) (by rfl) HM3.out hlit.rd (by unfold maxLen; omega) (by omega) hbw3 ?_
 intro v4 w4 hg4 hgr4 hv4
 obtain ⟨R4, d4, ev4, _⟩ := hg4.se
 subst ev4
 have hB4 := hB3.grown hgr4 (fun h => (HM3.out.size hbase) _ h.symm rfl)
 have e4 := e3.grown hgr4 (fun h => HNP.out _ h.symm rfl)
 have b4 : Below B w w4 := b3.grown hgr4 (by omega) (fun k hk => by have := (HM3.out.row.lt k hk).1; omega)
 have HO4 := Zh (HO3.out.other (HAP.out) hgr4)
 have hap4 := (HAP.out).step HO3.out hv4
 have HAP4 := Zh hap4
 have HM4 := Zh hg4
 have HS : ((fun (W : World) => Bx W P 57 (El.cells x) ∧ W.cell? ⟨B, 1, none⟩ = some vn ∧ Below B w W)) w4 := ⟨e4, hB4.cell 1 rfl, b4⟩
 refine hK _ _ HS ?_
 clear hK K HS HM3 HO3 HAP hB3 e3 b3 hlit hg4 hgr4 hv4 hap4
 try simp only [Act.put, List.setIfInBounds_toArray, List.set_cons_zero, List.set_cons_succ]
 refine ⟨by kernel_rfl, ?_⟩
 simp only [List.drop_succ_cons, List.drop_zero]
 have c0 := hB4.cell 1 rfl; have f0 := hB4.free 1
 go_wp2_with fail
 go_end0
 refine ⟨rfl, _, hB4.set 1 _, HM4.out.setBox (HM4.out.size hbase) 1 _, HO4.out.setBox (HO4.out.size hbase) 1 _, HAP4.out, b4.setCell (p := ⟨B, 1, none⟩) Zr _⟩
end Go.Proofs.YtbijhkhkigdddaaGreat
