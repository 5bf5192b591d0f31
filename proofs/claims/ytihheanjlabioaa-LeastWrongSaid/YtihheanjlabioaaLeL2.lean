/- Package least as it landed: the function that produces the points that count, to range over. -/
import Derived.RangeFuncNested
import Derived.RangeFuncBox
import Derived.RangeFuncBound
import Derived.RangeFuncCalls
import Derived.RangeFuncLeaves
import Derived.Shelf.Abstract
import Derived.Shelf.RegionOpen
import Derived.WalkKit
import Derived.OwnWalkIn
import Derived.TacticsInMore
import Derived.LoopNIn
import Derived.LoopIn
import Derived.Test.YtihheanjlabioaaLeL1
import Derived.Test.YtihheanjlabioaaLeRef3
namespace Go.Proofs.Ytihheanjlabioaa
open Go.RowKit Go.Shelf
set_option linter.unusedVariables false
set_option linter.unusedSimpArgs false

attribute [local go_sem] Oper.semAt_some

/-- what a round must keep: all below n₀, and two blocks -/
structure Kept (n₀ L A : Nat) (W W' : World) : Prop where
  below : Below n₀ W W'
  l : W'.heap[L]? = W.heap[L]?
  a : W'.heap[A]? = W.heap[A]?
  size : W.heap.size ≤ W'.heap.size
section
variable {n₀ L A : Nat} {X Y Z : World}
theorem Kept.refl (n₀ L A : Nat) (X : World) : Kept n₀ L A X X := ⟨Below.refl _ _, rfl, rfl, Nat.le_refl _⟩
theorem Kept.trans (h : Kept n₀ L A X Y) (k : Kept n₀ L A Y Z) : Kept n₀ L A X Z := ⟨h.below.trans k.below, k.l.trans h.l, k.a.trans h.a, Nat.le_trans h.size k.size⟩
theorem Kept.of (h : Below n₀ X Y) (hL : L < n₀) (hA : A < n₀) : Kept n₀ L A X Y := ⟨h, h.block L hL, h.block A hA, h.size⟩
theorem Kept.alloc (hn : n₀ ≤ X.heap.size) (hL : L < X.heap.size) (hA : A < X.heap.size) (o : Obj) : Kept n₀ L A X (X.alloc o) :=
  ⟨(Below.refl _ _).alloc hn _, Below.heap_alloc _ _ _ hL, Below.heap_alloc _ _ _ hA, by simp⟩
theorem Kept.bxl {t : TypeId} {cs : List Value} (h : Kept n₀ L A X Y) (k : Bx X L t cs) : Bx Y L t cs := h.l.trans k
theorem Kept.bxa {t : TypeId} {cs : List Value} (h : Kept n₀ L A X Y) (k : Bx X A t cs) : Bx Y A t cs := h.a.trans k
theorem keptK_b {w : World} (hn : n₀ ≤ w.heap.size) (hL : L < w.heap.size) (hA : A < w.heap.size) (W : World) (l : Nat) (o o' : Obj) (hl : w.heap.size ≤ l) (h : W.heap[l]? = some o) (h1 : o.isCells = false) (h2 : o.isWalk = false) : Kept n₀ L A W (W.putObj l o') :=
  ⟨belowK_b hn W l o o' hl h h1 h2, World.putObj_heap_other (by omega), World.putObj_heap_other (by omega), (grownBy_putObj' W l o').size⟩
end

set_option maxRecDepth 100000 in
set_option maxHeartbeats 4000000 in
theorem count1_in (F : Fence) (n : Nat) (h7 : F.fn 23) (hro : F.round = none) (hn : 1 ≤ n) (r L T b o len cap : Nat) (l : List Sp) (span high at_ : Int) (hl : l.length = len) (n₀ : Nat) (hb : b < n₀) (J Jx : List Sp → World → Prop) (hreach : len ≤ 1000000000)
    (ha0 : 0 ≤ at_) (ha1 : at_ ≤ 1152921504606846976) (hpts : ∀ i, i < len → 0 ≤ (sp l i).1 ∧ (sp l i).1 ≤ 1152921504606846976)
    (W : World) (hn0 : n₀ ≤ W.heap.size) (hJ : AbidesFrom W.heap.size J)
    (hY : ∀ pre x W, J pre W → pre.length < len → YieldAt F (n - 1) Try.prog r #[.agg #[.int .i64 x.1, .int .i64 x.2]] W fun e W' =>
      (e = .returned (.bool true) ∧ J (pre ++ [x]) W' ∧ Kept n₀ L T W W') ∨ (e = .returned (.bool false) ∧ Jx (pre ++ [x]) W'))
    (hL : Bx W L 24 [.int .i64 span, .slice (some ⟨b, o, none⟩) len cap, .int .i64 high]) (hT : Bx W T 3 [.int .i64 at_])
    (hc : ∀ i, i < len → W.cell? ⟨b, o + i * 2, none⟩ = some (.int .i64 (sp l i).1) ∧ W.cell? ⟨b, o + i * 2 + 1, none⟩ = some (.int .i64 (sp l i).2)) (h0 : J [] W) :
    CallsIn F n Try.prog 23 #[.func (.yield r) #[] #[], .pointer (some ⟨L, 0, none⟩), .pointer (some ⟨T, 0, none⟩)] W fun e W' => (∃ v, e = .returned v) ∧
      ((∃ ys, ys = l.filter (cnt span at_) ∧ J ys W') ∨ (∃ pre, (∃ rest, l.filter (cnt span at_) = pre ++ rest) ∧ Jx pre W')) := by
  refine callsIn_of_wp Try.func23 rfl h7 ?_ hro
  simp only [Try.ntmps23, List.size_toArray, List.length_cons, List.length_nil, Nat.reduceAdd, Nat.reduceSub, Array.replicate_succ, Array.replicate_zero, List.push_toArray, List.append_toArray, List.nil_append, List.cons_append]
  have x1 := hL.cell 1 rfl
  gi_wp2
  gi_loopw [9] (fun i wr => ∃ k : Nat, k ≤ len ∧ i = .int .i64 k ∧ J ((l.take k).filter (cnt span at_)) wr ∧ Kept n₀ L T W wr)
    (fun i _ => len - (intOf i).toNat)
  case atStart => exact ⟨0, Nat.zero_le _, rfl, by simpa using h0, Kept.refl _ _ _ _⟩
  case round =>
    obtain ⟨k, hk, rfl, hJs, hnx⟩ := hrel
    by_cases hlt : k < len
    · have c1 : wr.cell? ⟨b, o + k * 2, none⟩ = some (.int .i64 (sp l k).1) := (hnx.below.cell (p := ⟨b, o + k * 2, none⟩) hb).trans (hc k hlt).1
      have c2 : wr.cell? ⟨b, o + k * 2 + 1, none⟩ = some (.int .i64 (sp l k).2) := (hnx.below.cell (p := ⟨b, o + k * 2 + 1, none⟩) hb).trans (hc k hlt).2
      have hJa : J ((l.take k).filter (cnt span at_)) (wr.alloc (.cells #[.int .i64 (sp l k).1, .int .i64 (sp l k).2] 38)) := hJ _ wr _ none hJs (World.grownBy_alloc _ _ _) (fun r e => by cases e)
      have hLr := hnx.bxl hL
      have hTr := hnx.bxa hT
      have z0 := (hLr.alloc (.cells #[.int .i64 (sp l k).1, .int .i64 (sp l k).2] 38)).cell 0 rfl
      have z1 := (hTr.alloc (.cells #[.int .i64 (sp l k).1, .int .i64 (sp l k).2] 38)).cell 0 rfl
      have hp := hpts k hlt
      have hsn := left_snoc (l := l) (f := cnt span at_) (k := k) (by omega)
      have HSN := Lib.hid hsn; clear hsn
      by_cases g : at_ - (sp l k).1 ≤ span
      · have d : decide (at_ - (sp l k).1 ≤ span) = true := decide_eq_true g
        obtain ⟨fn, tmps, assign, body, hy, hR⟩ := hY _ (sp l k) _ hJa (by have := List.length_filter_le (cnt span at_) (l.take k); rw [List.length_take] at this; omega)
        have HF := Lib.hid d
        gi_wp2
        refine hR.mono ?_
        rintro e W3 (⟨rfl, hJ3, hk3⟩ | ⟨rfl, hJx3⟩)
        · gi_wp2
          go_roundw
          case rel => exact ⟨k + 1, by omega, by simp, by rw [HSN.out, if_pos (by unfold cnt; exact HF.out)]; exact hJ3, hnx.trans ((Kept.alloc (by have := hnx.size; omega) hLr.lt hTr.lt (.cells #[.int .i64 (sp l k).1, .int .i64 (sp l k).2] 38)).trans hk3)⟩
          case measure => simp [intOf]; omega
        · gi_wp2
          refine bodyPost_ret (results_none rfl _ _ _) rfl ?_
          refine ⟨⟨_, rfl⟩, .inr ⟨_, ⟨(l.drop (k + 1)).filter (cnt span at_), ?_⟩, hJx3⟩⟩
          have e1 : (l.take (k + 1)).filter (cnt span at_) = _ := HSN.out
          rw [if_pos (by unfold cnt; exact HF.out)] at e1
          rw [← e1, ← List.filter_append, List.take_append_drop]
      · have d : decide (at_ - (sp l k).1 ≤ span) = false := decide_eq_false g
        have HF := Lib.hid d
        gi_wp2
        refine ⟨(fun f e => by cases e), ?_⟩
        gi_wp2
        go_roundw
        case rel => exact ⟨k + 1, by omega, by simp, by rw [HSN.out, if_neg (by unfold cnt; rw [HF.out]; simp), List.append_nil]; exact hJa, hnx.trans (Kept.alloc (by have := hnx.size; omega) hLr.lt hTr.lt (.cells #[.int .i64 (sp l k).1, .int .i64 (sp l k).2] 38))⟩
        case measure => simp [intOf]; omega
    · obtain rfl : k = len := by omega
      gi_wp2
      go_end0
      exact ⟨⟨_, rfl⟩, .inl ⟨_, rfl, by rw [← hl, List.take_length] at hJs; exact hJs⟩⟩

set_option maxRecDepth 100000 in
set_option maxHeartbeats 1000000 in
theorem count10_in (F : Fence) (n : Nat) (h7 : F.fn 23) (hro : F.round = none) (r L T cap : Nat) (A : Option Addr) (span high : Int) (J : List Sp → World → Prop) (W : World) (hL : Bx W L 24 [.int .i64 span, .slice A 0 cap, .int .i64 high]) (h0 : J [] W) :
    CallsIn F n Try.prog 23 #[.func (.yield r) #[] #[], .pointer (some ⟨L, 0, none⟩), .pointer (some ⟨T, 0, none⟩)] W fun e W' => (∃ v, e = .returned v) ∧ J [] W' := by
  refine callsIn_of_wp Try.func23 rfl h7 ?_ hro
  simp only [Try.ntmps23, List.size_toArray, List.length_cons, List.length_nil, Nat.reduceAdd, Nat.reduceSub, Array.replicate_succ, Array.replicate_zero, List.push_toArray, List.append_toArray, List.nil_append, List.cons_append]
  have x1 := hL.cell 1 rfl
  gi_wp2
  gi_loopw [9] (fun i wr => i = .int .i64 0 ∧ J [] wr) (fun _ _ => 0)
  case atStart => exact ⟨rfl, h0⟩
  case round =>
    obtain ⟨rfl, hJs⟩ := hrel
    gi_wp2
    go_end0
    exact ⟨⟨_, rfl⟩, hJs⟩

set_option maxHeartbeats 1000000 in
theorem count_in (F : Fence) (n : Nat) (h5 : F.fn 21) (hro : F.round = none) (span high at_ : Int) (a : Option Addr) (len cap : Nat) (w : World) :
    CallsIn F n Try.prog 21 #[.agg #[.int .i64 span, .slice a len cap, .int .i64 high], .int .i64 at_] w fun e w' => e = .returned (.func (.func 23) #[] #[.pointer (some ⟨w.heap.size, 0, none⟩), .pointer (some ⟨w.heap.size + 1, 0, none⟩)]) ∧ w' = (w.alloc (.cells #[.int .i64 span, .slice a len cap, .int .i64 high] 24)).alloc (.cells #[.int .i64 at_] 3) := by
  refine callsIn_of_wp Try.func21 rfl h5 ?_ hro
  simp only [Try.ntmps21, List.size_toArray, List.length_cons, List.length_nil, Nat.reduceAdd, Nat.reduceSub, Array.replicate_succ, Array.replicate_zero, List.push_toArray, List.append_toArray, List.nil_append, List.cons_append]
  gi_wp2
  go_ret
  exact ⟨rfl, rfl⟩

theorem count_stops (F : Fence) (n : Nat) (h7 : F.fn 23) (hro : F.round = none) (hn : 1 ≤ n) (L T n₀ : Nat) (A : Option Addr) (len cap : Nat) (l : List Sp) (span high at_ : Int) (hreach : len ≤ 1000000000) (w : World)
    (ha0 : 0 ≤ at_) (ha1 : at_ ≤ 1152921504606846976) (hpts : ∀ i, i < len → 0 ≤ (sp l i).1 ∧ (sp l i).1 ≤ 1152921504606846976) (hn₀ : n₀ ≤ w.heap.size)
    (hL : Bx w L 24 [.int .i64 span, .slice A len cap, .int .i64 high]) (hT : Bx w T 3 [.int .i64 at_]) (hI : Rs w A len l) (hlt : ∀ b o, A = some ⟨b, o, none⟩ → 0 < len → b < n₀) :
    SeqStopsK F n Try.prog 23 #[.pointer (some ⟨L, 0, none⟩), .pointer (some ⟨T, 0, none⟩)] (fun x : Sp => #[Value.agg #[.int .i64 x.1, .int .i64 x.2]]) (Kept n₀ L T) (fun ys => ys = l.filter (cnt span at_))
      (fun pre => ∃ rest, l.filter (cnt span at_) = pre ++ rest) len w := fun r J Jx W hW hJ _ hY h0 => by
  have hL' := hL.kept hW
  have hT' := hT.kept hW
  have hI' := hI.keep_of (hW.mono hn₀) hlt
  rcases Nat.eq_zero_or_pos len with hz | hz
  · subst hz
    have hl0 : l = [] := List.eq_nil_of_length_eq_zero hI.len
    exact (count10_in F n h7 hro r L T cap A span high J W hL' h0).mono fun e W' ⟨he, hj⟩ => ⟨he, .inl ⟨_, by rw [hl0]; rfl, hj⟩⟩
  · obtain ⟨b, o, rfl, _, hcs⟩ := hI'.at_ hz
    exact count1_in F n h7 hro hn r L T b o len cap l span high at_ hI.len n₀ (hlt b o rfl hz) J Jx hreach ha0 ha1 hpts W (Nat.le_trans hn₀ hW.size) hJ hY hL' hT' hcs h0
end Go.Proofs.Ytihheanjlabioaa
