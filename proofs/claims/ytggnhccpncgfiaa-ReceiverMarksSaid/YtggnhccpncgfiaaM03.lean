/- The texts SpMay, SpAsk, SpSame, SpAddP, BySame, WeRef1, Tail, WeRef2, WeRef3, WeRef5, WvStep, WeRef6. -/
import Derived.Below
import Derived.BigQuiet
import Derived.Deep.AppendLies
import Derived.Deep.DeepCutAuto
import Derived.Deep.DrawnRows
import Derived.Deep.LoopGhost
import Derived.Deep.QuietTactic
import Derived.Deep.RegionHeld3
import Derived.IntWalk
import Derived.Laws.OwnMore
import Derived.Lib.AppendZeros
import Derived.Lib.Hide
import Derived.OneCell
import Derived.OrdersHeld
import Derived.Outline
import Derived.RegionTactic
import Derived.StillTail
import Derived.Test.YtggnhccpncgfiaaProg
import Derived.WalkKit
import Derived.WalkSmall
import Derived.WalkSpells
import Derived.Test.YtggnhccpncgfiaaM01
import Derived.Test.YtggnhccpncgfiaaM02
set_option linter.all false
namespace Go.Proofs.Ytggnhccpncgfiaa
open Go.RowKit Go.Shelf
theorem valid_any (a b : Int) (w : World) :
    Calls Try.prog 81 #[.int .i64 a, .int .i64 b] w fun e w' => e = .returned (.bool (vld a b)) ∧ w = w' := by
  have e : vld a b = (decide (0 ≤ a) && (decide (a < b) && decide (b ≤ 4611686018427387904))) := rfl
  by_cases h1 : 0 ≤ a
  · by_cases h2 : a < b
    · by_cases h3 : b ≤ 4611686018427387904
      · rw [decide_eq_true h1, decide_eq_true h2, decide_eq_true h3] at e
        rw [e]
        go_enter Try.func81, Try.ntmps81
        go_wp2
        go_ret
        exact ⟨rfl, rfl⟩
      · rw [decide_eq_true h1, decide_eq_true h2, decide_eq_false h3] at e
        rw [e]
        go_enter Try.func81, Try.ntmps81
        go_wp2
        go_ret
        exact ⟨rfl, rfl⟩
    · rw [decide_eq_true h1, decide_eq_false h2] at e
      rw [e]
      have h2' : b ≤ a := by omega
      go_enter Try.func81, Try.ntmps81
      go_wp2
      go_ret
      exact ⟨rfl, rfl⟩
  · rw [decide_eq_false h1] at e
    rw [e]
    have h1' : a < 0 := by omega
    go_enter Try.func81, Try.ntmps81
    go_wp2
    go_ret
    exact ⟨rfl, rfl⟩
theorem limited_any (A : Option Addr) (n c : Nat) (w : World) :
    Calls Try.prog 92 #[.slice A n c] w fun e w' => e = .returned (if n ≤ 1000 then .tuple #[.slice A n c, .int .i64 0] else .tuple #[.slice none 0 0, .int .i64 4]) ∧ w = w' := by
  by_cases h : n ≤ 1000
  · rw [if_pos h]
    go_enter Try.func92, Try.ntmps92
    go_wp2
    go_ret2
    exact ⟨rfl, rfl⟩
  · rw [if_neg h]
    go_enter Try.func92, Try.ntmps92
    go_wp2
    go_ret2
    exact ⟨rfl, rfl⟩
attribute [local go_sem] Oper.semAt_some
set_option maxRecDepth 100000 in
set_option maxHeartbeats 2000000 in
theorem may_any (A : Option Addr) (len cap : Nat) (l : List Sp) (w : World) (hs : Ss w A len cap l) :
    Calls Try.prog 52 #[.slice A len cap] w fun e W' => e = .returned (.bool (mayB l)) ∧ Below w.heap.size w W' := by
  refine (callsIn_wide (n := 4)).1 ?_
  have h1 : 1 ≤ 4 := by omega
  have hlen := hs.rd.len
  refine callsIn_of_wp_marks Try.func52 rfl trivial ?_ rfl
  simp only [Try.ntmps52, List.size_toArray, List.length_cons, List.length_nil, Nat.reduceAdd, Nat.reduceSub, Array.replicate_succ, Array.replicate_zero, List.push_toArray, List.append_toArray, List.nil_append, List.cons_append]
  by_cases hgt : len ≤ 1000
  case neg =>
    have e0 : mayB l = false := by unfold mayB; rw [hlen, decide_eq_false hgt]; rfl
    rw [e0]
    gi_wp2
    have bR := Boxed.new w 4 (.bool false)
    have hcr := bR.cell
    refine ⟨.bool false, by simp [results, Try.f52, go_sem, hcr], rfl, (Below.refl _ _).alloc (Nat.le_refl _) _⟩
  case pos =>
  have e0 : mayB l = chain (-1) l := by unfold mayB; rw [hlen, decide_eq_true hgt]; rfl
  rw [e0]
  gi_wp2_with (refine ⟨trivial, ?_⟩; gi_at_call 80; refine (ends_in Fence.wide _ trivial rfl _ _ _ _).mono ?_; rintro e w' ⟨rfl, rfl⟩)
  have bR := Boxed.new w 4 (.bool false)
  have bL := Boxed.new (w.alloc (.cells #[.bool false] 4)) 3 (.int .i64 (-1))
  have bN := Boxed.new ((w.alloc (.cells #[.bool false] 4)).alloc (.cells #[.int .i64 (-1)] 3)) 23 (.slice A len cap)
  rw [World.size_alloc] at bL
  rw [World.size_alloc, World.size_alloc] at bN
  have hB0 : Below w.heap.size w (((w.alloc (.cells #[.bool false] 4)).alloc (.cells #[.int .i64 (-1)] 3)).alloc (.cells #[.slice A len cap] 23)) := (((Below.refl _ w).alloc (Nat.le_refl _) _).alloc (by simp) _).alloc (by simp; omega) _
  refine wpIn_rangeFunc_ownG rfl h1 (gf := 100) (lb := #[.pointer (some ⟨w.heap.size + 1 + 1, 0, none⟩)]) rfl trivial (enters_of Try.func100 (by kernel_rfl) rfl)
    (ends_stops Fence.wide (4 - 1) trivial rfl (by omega) (w.heap.size + 1 + 1) w.heap.size A len cap l (by omega) _ (by simp) (by simp; omega) bN.cell (hs.rd.keep hB0) (fun b o e h0 => by obtain ⟨b', o', e', hl, _⟩ := hs.rd.at_ h0; rw [e] at e'; cases e'; exact hl)) belowK_t (belowK_b (by simp; omega)) (Below.refl _ _) (fun _ => rfl)
    (fun pre W => (chain (-1) pre = true ∧ Boxed W w.heap.size 4 (.bool false) ∧ Boxed W (w.heap.size + 1) 3 (.int .i64 (lastOf (-1) pre))) ∧ Below w.heap.size w W)
    (fun c pre W => (c = .ret ∧ chain (-1) pre = false ∧ Boxed W w.heap.size 4 (.bool false)) ∧ Below w.heap.size w W)
    (OwnFrom.and (Own.from (fun s A B row hs hg hr => ⟨hs.1, boxed_own _ _ (fun _ => .bool false) s A B row hs.2.1 hg hr, boxed_own _ _ (fun s => .int .i64 (lastOf (-1) s)) s A B row hs.2.2 hg hr⟩) _) (ownFrom_below (Nat.le_refl _) (by simp; omega)))
    (fun c => OwnFrom.and (Own.from (fun s A B row hs hg hr => ⟨hs.1, hs.2.1, boxed_own _ _ (fun _ => .bool false) s A B row hs.2.2 hg hr⟩) _) (ownFrom_below (Nat.le_refl _) (by simp; omega)))
    ⟨⟨rfl, (bR.alloc _).alloc _, bL.alloc _⟩, hB0⟩
    (fun x => { tmps := #[.slice A len cap, undef, .pointer (some ⟨w.heap.size, 0, none⟩), .pointer (some ⟨w.heap.size + 1, 0, none⟩), .int .i64 x.1, .int .i64 x.2, .slice A len cap, .int .i64 (len : Int), .bool (decide (1000 < (len : Int))), .slice A len cap, .func (.func 100) #[] #[.pointer (some ⟨w.heap.size + 1 + 1, 0, none⟩)], .int .i64 x.1, .int .i64 x.2, undef, undef, undef, undef, undef, undef, undef, undef, undef, undef], defers := [] }) ?assign ?body ?done ?stop
  case assign =>
    intro l x W K hK
    gi_wp2
    exact hK
  case body =>
    rintro r pre x W ⟨⟨hch, hR, hL⟩, hB⟩ _
    have hcl := hL.cell
    have hfl := hL.frozen
    have hcr := hR.cell
    have hfr := hR.frozen
    by_cases hle : x.1 ≤ lastOf (-1) pre
    · gi_wp2_with (refine (And.intro trivial ?_ : Fence.wide.fn 81 ∧ _))
      exact ⟨(KeepsOthers.setCell _ _ _).from _, ⟨rfl, by rw [chain_snoc, decide_eq_false (by omega)]; simp, hR.set _⟩, hB.setCell (p := ⟨w.heap.size, 0, none⟩) (Nat.le_refl _) _⟩
    · have hd : decide (x.1 ≤ lastOf (-1) pre) = false := decide_eq_false hle
      by_cases hv : vld x.1 x.2 = true
      · gi_wp2_with (refine ⟨trivial, ?_⟩; gi_at_call 81; refine (CallsIn.inRound r (callsIn_wide.2 (valid_any _ _ _))).mono ?_; rintro e w' ⟨rfl, rfl⟩)
        exact ⟨(KeepsOthers.setCell _ _ _).from _, (Below.refl _ _).setCell (p := ⟨w.heap.size + 1, 0, none⟩) (by simp) _, ⟨by rw [chain_snoc, hch, hv, decide_eq_true (by omega)]; rfl, hR.other (by omega) _, by rw [lastOf_snoc]; exact hL.set _⟩, hB.setCell (p := ⟨w.heap.size + 1, 0, none⟩) (by simp) _⟩
      · have hv' : vld x.1 x.2 = false := by simpa using hv
        clear hv
        gi_wp2_with (refine ⟨trivial, ?_⟩; gi_at_call 81; refine (CallsIn.inRound r (callsIn_wide.2 (valid_any _ _ _))).mono ?_; rintro e w' ⟨rfl, rfl⟩)
        exact ⟨(KeepsOthers.setCell _ _ _).from _, ⟨rfl, by rw [chain_snoc, hv']; simp, hR.set _⟩, hB.setCell (p := ⟨w.heap.size, 0, none⟩) (Nat.le_refl _) _⟩
  case done =>
    rintro D ys W hD rfl ⟨⟨hch, hR, hL⟩, hB⟩ hK
    have hcr := hR.cell
    have hfr := hR.frozen
    gi_wp2
    have hK' := (KeepsOthers.setCell W ⟨w.heap.size, 0, none⟩ (.bool true)).same D _ hK rfl
    refine ⟨by simp, .inl ⟨_, _, rfl, run_takeDeferred hK', ?_⟩⟩
    have hc5 := cell_kept (World.cell?_setCell_same' W ⟨w.heap.size, 0, none⟩ (.bool true) (by rw [hcr]; rfl)) (grownBy_putObj' _ D (.deferred none)) (fun r e => by cases e; exact ⟨_, hK', rfl⟩)
    refine ⟨.bool true, by simp [results, Try.f52, go_sem, hc5], by rw [hch], (hB.setCell (p := ⟨w.heap.size, 0, none⟩) (Nat.le_refl _) _).trans (belowK_b (w := w) (Nat.le_refl _) _ D _ _ (by simp at hD; omega) hK' rfl rfl)⟩
  case stop =>
    rintro D c pre W hD ⟨k, hk, rfl⟩ ⟨⟨rfl, hch, hR⟩, hB⟩ hK
    gi_wp2
    refine ⟨by simp, .inl ⟨_, _, rfl, run_takeDeferred hK, ?_⟩⟩
    have hc5 := cell_kept hR.cell (grownBy_putObj' _ D (.deferred none)) (fun r e => by cases e; exact ⟨_, hK, rfl⟩)
    refine ⟨.bool false, by simp [results, Try.f52, go_sem, hc5], ?_, hB.trans (belowK_b (w := w) (Nat.le_refl _) W D _ _ (by simp at hD; omega) hK rfl rfl)⟩
    have : chain (-1) l = false := by
      cases h : chain (-1) l with
      | false => rfl
      | true => rw [chain_take h k] at hch; cases hch
    rw [this]
end Go.Proofs.Ytggnhccpncgfiaa
namespace Go.Proofs.Ytggnhccpncgfiaa
open Go.RowKit Go.Shelf
attribute [local go_sem] Oper.semAt_some
theorem bx_below {W W' : World} {k n : Nat} {t : TypeId} {v : Value} (h : Boxed W k t v) (hb : Below n W W') (hk : k < n) : Boxed W' k t v := (hb.block k hk).trans h
/-- a block of two cells -/
def Boxed2 (W : World) (B : Nat) (t : TypeId) (u v : Value) : Prop := W.heap[B]? = some (.cells #[u, v] t (0, 0))
section
variable {W W' : World} {B n : Nat} {t : TypeId} {u v : Value}
theorem Boxed2.lt (h : Boxed2 W B t u v) : B < W.heap.size := (Array.getElem?_eq_some_iff.1 h).1
theorem Boxed2.fst (h : Boxed2 W B t u v) : W.cell? ⟨B, 0, none⟩ = some u := by simp [World.cell?, show W.heap[B]? = _ from h]
theorem Boxed2.snd (h : Boxed2 W B t u v) : W.cell? ⟨B, 1, none⟩ = some v := by simp [World.cell?, show W.heap[B]? = _ from h]
theorem Boxed2.new (W : World) (t : TypeId) (u v : Value) : Boxed2 (W.alloc (.cells #[u, v] t)) W.heap.size t u v := World.alloc_heap_new W _
theorem Boxed2.frz (h : Boxed2 W B t u v) : W.frozen? ⟨B, 0, none⟩ = false := by simp [World.frozen?, show W.heap[B]? = _ from h]
theorem Boxed2.frz1 (h : Boxed2 W B t u v) : W.frozen? ⟨B, 1, none⟩ = false := by simp [World.frozen?, show W.heap[B]? = _ from h]
theorem Boxed2.kept {row : Option Nat} (h : Boxed2 W B t u v) (hg : W.grownBy W' row) (hne : some B ≠ row) : Boxed2 W' B t u v := (hg.block B h.lt hne).trans h
theorem Boxed2.alloc (h : Boxed2 W B t u v) (o : Obj) : Boxed2 (W.alloc o) B t u v := h.kept (World.grownBy_alloc W o none) (by simp)
theorem Boxed2.below (h : Boxed2 W B t u v) (hb : Below n W W') (hk : B < n) : Boxed2 W' B t u v := (hb.block B hk).trans h
theorem Boxed2.set {x y : Value} (h : Boxed2 W B t u v) : Boxed2 ((W.setCell ⟨B, 0, none⟩ x).setCell ⟨B, 1, none⟩ y) B t x y := by
  obtain ⟨hlt, hk⟩ := Array.getElem?_eq_some_iff.1 h
  have h1 : (W.setCell ⟨B, 0, none⟩ x).heap[B]? = some (.cells #[x, v] t (0, 0)) := by
    show (W.heap.modify B _)[B]? = _
    rw [Array.getElem?_eq_getElem (by rw [Array.size_modify]; exact hlt), Array.getElem_modify_self, hk]
    rfl
  obtain ⟨hlt1, hk1⟩ := Array.getElem?_eq_some_iff.1 h1
  show ((W.setCell ⟨B, 0, none⟩ x).heap.modify B _)[B]? = _
  rw [Array.getElem?_eq_getElem (by rw [Array.size_modify]; exact hlt1), Array.getElem_modify_self, hk1]
  rfl
end
theorem boxed2_own {β : Type} (B : Nat) (t : TypeId) (f g : β → Value) : Own (fun s W => Boxed2 W B t (f s) (g s)) := fun s X Y row hs hg hrow =>
  hs.kept hg (fun e => by obtain ⟨o, ho, hc⟩ := hrow B e.symm; rw [show X.heap[B]? = _ from hs] at ho; cases ho; cases hc)
/-- the sum as the loop reckons it -/
def sizeW (l : List Sp) : Int := l.foldl (fun n p => wrap64 (n + wrap64 (p.2 - p.1))) 0
theorem sizeW_snoc (l : List Sp) (p : Sp) : sizeW (l ++ [p]) = wrap64 (sizeW l + wrap64 (p.2 - p.1)) := by unfold sizeW; simp
theorem sizeW_eq {l : List Sp} (h : chain (-1) l = true) : sizeW l = size l := by
  have : ∀ (l : List Sp) (d n : Int), chain d l = true → -1 ≤ d → d ≤ 4611686018427387904 → 0 ≤ n → n ≤ d + 1 → l.foldl (fun n p => wrap64 (n + wrap64 (p.2 - p.1))) n = n + size l := by
    intro l
    induction l with
    | nil => intro d n _ _ _ _ _; simp [size_nil]
    | cons p t ih =>
      intro d n h hd hd2 h0 hn
      simp only [chain, Bool.and_eq_true, decide_eq_true_eq] at h
      obtain ⟨h1, h2, h3⟩ := h
      have hv := vld_iff.1 h2
      rw [List.foldl_cons, size_cons]
      have e : wrap64 (n + wrap64 (p.2 - p.1)) = n + (p.2 - p.1) := by
        unfold wrap64; omega
      rw [e, ih p.2 _ h3 (by omega) (by omega) (by omega) (by omega)]
      omega
  have := this l (-1) 0 h (by omega) (by omega) (by omega) (by omega)
  unfold sizeW; omega
def sizeF (l : List Sp) : Int := if mayB l = true then size l else 0
def Out (l : List Sp) (m : Int) : Prop := ∀ p ∈ l, ¬ (p.1 ≤ m ∧ m < p.2)
theorem out_nil (m : Int) : Out [] m := fun p hp => by simp at hp
theorem out_snoc {l : List Sp} {m : Int} {x : Sp} (h : Out l m) (k : ¬ (x.1 ≤ m ∧ m < x.2)) : Out (l ++ [x]) m := fun p hp => (List.mem_append.1 hp).elim (h p) (fun e => by rw [List.mem_singleton] at e; subst e; exact k)
theorem fresh_of {w : World} {A : Option Addr} {len cap : Nat} {l : List Sp} (hs : Ss w A len cap l) : ∀ b o, A = some ⟨b, o, none⟩ → 0 < len → b < w.heap.size :=
  fun b o e h0 => by obtain ⟨b', o', e', hl, _⟩ := hs.rd.at_ h0; rw [e] at e'; cases e'; exact hl
set_option maxRecDepth 100000 in
set_option maxHeartbeats 2000000 in
theorem size_any (A : Option Addr) (len cap : Nat) (l : List Sp) (w : World) (hs : Ss w A len cap l) :
    Calls Try.prog 88 #[.slice A len cap] w fun e W' => e = .returned (.int .i64 (sizeF l)) ∧ Below w.heap.size w W' := by
  refine (callsIn_wide (n := 4)).1 ?_
  have h1 : 1 ≤ 4 := by omega
  have hlen := hs.rd.len
  refine callsIn_of_wp_marks Try.func88 rfl trivial ?_ rfl
  simp only [Try.ntmps88, List.size_toArray, List.length_cons, List.length_nil, Nat.reduceAdd, Nat.reduceSub, Array.replicate_succ, Array.replicate_zero, List.push_toArray, List.append_toArray, List.nil_append, List.cons_append]
  have hmay := may_any A len cap l w hs
  by_cases hm : mayB l = true
  case neg =>
    have hm' : mayB l = false := by simpa using hm
    have e0 : sizeF l = 0 := by unfold sizeF; rw [if_neg hm]
    rw [hm'] at hmay
    rw [e0]
    gi_wp2_with (refine ⟨trivial, ?_⟩; gi_at_call 52; refine (callsIn_wide.2 hmay).mono ?_; rintro e w1 ⟨rfl, hb1⟩)
    exact ⟨_, results_tmp rfl _ _ _, rfl, hb1⟩
  case pos =>
  have e0 : sizeF l = sizeW l := by unfold sizeF; rw [if_pos hm, sizeW_eq (mayB_parts hm).2]
  have hle := (mayB_parts hm).1
  rw [hm] at hmay
  rw [e0]
  gi_wp2_with (first | (refine ⟨trivial, ?_⟩; gi_at_call 52; refine (callsIn_wide.2 hmay).mono ?_; rintro e w1 ⟨rfl, hb1⟩; have hs1 := hs.keep hb1) | (refine ⟨trivial, ?_⟩; gi_at_call 80; refine (ends_in Fence.wide _ trivial rfl _ _ _ _).mono ?_; rintro e w' ⟨rfl, rfl⟩))
  have bL := Boxed.new w1 3 (.int .i64 0)
  have bN := Boxed.new (w1.alloc (.cells #[.int .i64 0] 3)) 23 (.slice A len cap)
  rw [World.size_alloc] at bN
  have hB0 : Below w1.heap.size w1 ((w1.alloc (.cells #[.int .i64 0] 3)).alloc (.cells #[.slice A len cap] 23)) := ((Below.refl _ w1).alloc (Nat.le_refl _) _).alloc (by simp) _
  refine wpIn_rangeFunc_ownG rfl h1 (gf := 100) (lb := #[.pointer (some ⟨w1.heap.size + 1, 0, none⟩)]) rfl trivial (enters_of Try.func100 (by kernel_rfl) rfl)
    (ends_stops Fence.wide (4 - 1) trivial rfl (by omega) (w1.heap.size + 1) w1.heap.size A len cap l (by omega) _ (by simp) (by simp; omega) bN.cell (hs1.rd.keep hB0) (fresh_of hs1)) belowK_t (belowK_b (by simp; omega)) (Below.refl _ _) (fun _ => rfl)
    (fun pre W => Boxed W w1.heap.size 3 (.int .i64 (sizeW pre)) ∧ Below w1.heap.size w1 W)
    (fun _ _ _ => False)
    (OwnFrom.and (Own.from (fun s A B row hs hg hr => boxed_own _ _ (fun s => .int .i64 (sizeW s)) s A B row hs hg hr) _) (ownFrom_below (Nat.le_refl _) (by simp; omega)))
    (fun _ _ _ _ _ hs _ _ => hs)
    ⟨bL.alloc _, hB0⟩
    (fun x => { tmps := #[.slice A len cap, undef, .int .i64 0, .pointer (some ⟨w1.heap.size, 0, none⟩), .int .i64 x.1, .int .i64 x.2, .slice A len cap, .bool true, .bool false, .slice A len cap, .func (.func 100) #[] #[.pointer (some ⟨w1.heap.size + 1, 0, none⟩)], .int .i64 x.1, .int .i64 x.2, undef, undef, undef, undef, undef, undef], defers := [] }) ?assign ?body ?done ?stop
  case assign =>
    intro l x W K hK
    gi_wp2
    exact hK
  case body =>
    rintro r pre x W ⟨hL, hB⟩ _
    have hcl := hL.cell
    have hfl := hL.frozen
    gi_wp2
    exact ⟨(KeepsOthers.setCell _ _ _).from _, (Below.refl _ _).setCell (p := ⟨w1.heap.size, 0, none⟩) (Nat.le_refl _) _, by rw [sizeW_snoc]; exact hL.set _, hB.setCell (p := ⟨w1.heap.size, 0, none⟩) (Nat.le_refl _) _⟩
  case done =>
    rintro D ys W hD rfl ⟨hL, hB⟩ hK
    have hcl := hL.cell
    gi_wp2
    refine ⟨by simp, .inl ⟨_, _, rfl, run_takeDeferred hK, ?_⟩⟩
    exact ⟨_, results_tmp rfl _ _ _, rfl, hb1.trans ((hB.trans (belowK_b (w := w1) (Nat.le_refl _) _ D _ _ (by simp at hD; omega) hK rfl rfl)).mono hb1.size)⟩
  case stop =>
    rintro D c pre W _ _ h _
    exact h.elim
set_option maxRecDepth 100000 in
set_option maxHeartbeats 2000000 in
theorem gap_any (A : Option Addr) (len cap : Nat) (l : List Sp) (n : Int) (w : World) (hs : Ss w A len cap l) :
    Calls Try.prog 90 #[.slice A len cap, .int .i64 n] w fun e W' => e = .returned (.int .i64 (gapF l n)) ∧ Below w.heap.size w W' := by
  refine (callsIn_wide (n := 4)).1 ?_
  have h1 : 1 ≤ 4 := by omega
  have hlen := hs.rd.len
  refine callsIn_of_wp_marks Try.func90 rfl trivial ?_ rfl
  simp only [Try.ntmps90, List.size_toArray, List.length_cons, List.length_nil, Nat.reduceAdd, Nat.reduceSub, Array.replicate_succ, Array.replicate_zero, List.push_toArray, List.append_toArray, List.nil_append, List.cons_append]
  have a1 := Boxed.new w 3 (.int .i64 n)
  have a2 := Boxed.new (w.alloc (.cells #[.int .i64 n] 3)) 3 (.int .i64 0)
  rw [World.size_alloc] at a2
  have hb0 : Below w.heap.size w ((w.alloc (.cells #[.int .i64 n] 3)).alloc (.cells #[.int .i64 0] 3)) := ((Below.refl _ w).alloc (Nat.le_refl _) _).alloc (by simp) _
  have hs0 := (hs.alloc (.cells #[.int .i64 n] 3)).alloc (.cells #[.int .i64 0] 3)
  have a1' := a1.alloc (.cells #[.int .i64 0] 3)
  have hmay := may_any A len cap l _ hs0
  obtain ⟨w0, hw0⟩ : ∃ w0, (w.alloc (.cells #[.int .i64 n] 3)).alloc (.cells #[.int .i64 0] 3) = w0 := ⟨_, rfl⟩
  rw [hw0] at hmay a1' a2 hb0 hs0
  by_cases hm : mayB l = true
  case neg =>
    have hm' : mayB l = false := by simpa using hm
    have e0 : gapF l n = 0 := by unfold gapF; rw [if_neg hm]
    rw [hm'] at hmay
    rw [e0]
    gi_wp2_with (refine ⟨trivial, ?_⟩; gi_at_call 52; refine (callsIn_wide.2 hmay).mono ?_; rintro e w1 ⟨rfl, hb1⟩; have a3 := bx_below a2 hb1 a2.lt; have hc3 := a3.cell; have hf3 := a3.frozen)
    refine ⟨.int .i64 0, ?_, rfl, ?_⟩
    · have hc4 := World.cell?_setCell_same' w1 ⟨w.heap.size + 1, 0, none⟩ (.int .i64 0) (by rw [hc3]; rfl)
      simp [results, Try.f90, go_sem, hc4]
    · exact (hb0.trans (hb1.mono hb0.size)).setCell (p := ⟨w.heap.size + 1, 0, none⟩) (by simp) _
  case pos =>
  have e0 : gapF l n = gapIn l (max n 0) := by unfold gapF; rw [if_pos hm]
  have hle := (mayB_parts hm).1
  rw [hm] at hmay
  rw [e0]
  by_cases hn0 : n < 0
  case pos =>
   have hmx : max n 0 = 0 := by omega
   gi_wp2_with (first | (refine ⟨trivial, ?_⟩; gi_at_call 52; refine (callsIn_wide.2 hmay).mono ?_; rintro e w1 ⟨rfl, hb1⟩; have a3 := bx_below a2 hb1 a2.lt; have a4 := bx_below a1' hb1 a1'.lt; have hc3 := a3.cell; have hf3 := a3.frozen; have hc4 := a4.cell; have hf4 := a4.frozen; have hs1 := hs0.keep hb1) | (refine ⟨trivial, ?_⟩; gi_at_call 80; refine (ends_in Fence.wide _ trivial rfl _ _ _ _).mono ?_; rintro e w' ⟨rfl, rfl⟩))
   have k1 : Below w.heap.size w (w1.setCell ⟨w.heap.size, 0, none⟩ (.int .i64 0)) := (hb0.trans (hb1.mono hb0.size)).setCell (p := ⟨w.heap.size, 0, none⟩) (Nat.le_refl _) _
   have k2 : Below w.heap.size w ((w1.setCell ⟨w.heap.size, 0, none⟩ (.int .i64 0)).alloc (.cells #[.slice A len cap] 23)) := k1.alloc k1.size _
   have bM : Boxed (w1.setCell ⟨w.heap.size, 0, none⟩ (.int .i64 0)) w.heap.size 3 (.int .i64 0) := a4.set _
   have bR : Boxed (w1.setCell ⟨w.heap.size, 0, none⟩ (.int .i64 0)) (w.heap.size + 1) 3 (.int .i64 0) := a3.other (by omega) _
   have bN := Boxed.new (w1.setCell ⟨w.heap.size, 0, none⟩ (.int .i64 0)) 23 (.slice A len cap)
   have hsz : (w1.setCell ⟨w.heap.size, 0, none⟩ (.int .i64 0)).heap.size = w1.heap.size := by simp
   have hsz1 : w.heap.size + 1 < w1.heap.size := a3.lt
   rw [hsz] at bN
   obtain ⟨w2, hw2⟩ : ∃ w2, w1.setCell ⟨w.heap.size, 0, none⟩ (.int .i64 0) = w2 := ⟨_, rfl⟩
   rw [hw2] at k1 k2 bM bR bN hsz ⊢
   have hsz3 : (w2.alloc (.cells #[.slice A len cap] 23)).heap.size = w1.heap.size + 1 := by rw [World.size_alloc, hsz]
   refine wpIn_rangeFunc_ownG rfl h1 (gf := 100) (lb := #[.pointer (some ⟨w1.heap.size, 0, none⟩)]) rfl trivial (enters_of Try.func100 (by kernel_rfl) rfl)
     (ends_stops Fence.wide (4 - 1) trivial rfl (by omega) w1.heap.size w.heap.size A len cap l (by omega) _ (by omega) k2.size bN.cell (hs.rd.keep k2) (fresh_of hs)) belowK_t (belowK_b k2.size) (Below.refl _ _) (fun _ => rfl)
     (fun pre W => (Out pre 0 ∧ Boxed W w.heap.size 3 (.int .i64 0) ∧ Boxed W (w.heap.size + 1) 3 (.int .i64 0)) ∧ Below w.heap.size w W)
     (fun c pre W => (c = .ret ∧ ∃ ini x, pre = ini ++ [x] ∧ Out ini 0 ∧ (x.1 ≤ 0 ∧ 0 < x.2) ∧ Boxed W (w.heap.size + 1) 3 (.int .i64 x.2)) ∧ Below w.heap.size w W)
     (OwnFrom.and (Own.from (fun s A B row hs hg hr => ⟨hs.1, boxed_own _ _ (fun _ => .int .i64 0) s A B row hs.2.1 hg hr, boxed_own _ _ (fun _ => .int .i64 0) s A B row hs.2.2 hg hr⟩) _) (ownFrom_below (Nat.le_refl _) k2.size))
     (fun c => OwnFrom.and (Own.from (fun s A B row hs hg hr => by obtain ⟨hc, ini, x, e1, e2, e3, e4⟩ := hs; exact ⟨hc, ini, x, e1, e2, e3, boxed_own _ _ (fun _ => .int .i64 x.2) s A B row e4 hg hr⟩) _) (ownFrom_below (Nat.le_refl _) k2.size))
     ⟨⟨out_nil _, bM.alloc _, bR.alloc _⟩, k2⟩
     (fun x => { tmps := #[.slice A len cap, .int .i64 n, undef, .pointer (some ⟨w.heap.size, 0, none⟩), .pointer (some ⟨w.heap.size + 1, 0, none⟩), .int .i64 x.1, .int .i64 x.2, .slice A len cap, .bool true, .bool false, .int .i64 n, .int .i64 0, .slice A len cap, .func (.func 100) #[] #[.pointer (some ⟨w1.heap.size, 0, none⟩)], .int .i64 x.1, .int .i64 x.2, undef, undef, undef, undef, undef, undef, undef, undef, undef, undef], defers := [] }) ?assign ?body ?done ?stop
   case assign =>
     intro l x W K hK
     gi_wp2
     exact hK
   case body =>
     rintro r pre x W ⟨⟨hp, hM, hR⟩, hB⟩ _
     have hcm := hM.cell
     have hfm := hM.frozen
     have hcr := hR.cell
     have hfr := hR.frozen
     by_cases h3 : x.1 ≤ 0
     · by_cases h4 : 0 < x.2
       · gi_wp2
         exact ⟨(KeepsOthers.setCell _ _ _).from _, ⟨rfl, pre, x, rfl, hp, ⟨h3, h4⟩, hR.set _⟩, hB.setCell (p := ⟨w.heap.size + 1, 0, none⟩) (by simp) _⟩
       · have h4' : x.2 ≤ 0 := by omega
         have hd4 : decide (0 < x.2) = false := decide_eq_false h4
         gi_wp2
         exact ⟨KeepsFrom.refl _ _, Below.refl _ _, ⟨out_snoc hp (by omega), hM, hR⟩, hB⟩
     · have h3' : 0 < x.1 := by omega
       have hd3 : decide (x.1 ≤ 0) = false := decide_eq_false h3
       gi_wp2
       exact ⟨KeepsFrom.refl _ _, Below.refl _ _, ⟨out_snoc hp (by omega), hM, hR⟩, hB⟩
   case done =>
     rintro D ys W hD rfl ⟨⟨hp, hM, hR⟩, hB⟩ hK
     have hcm := hM.cell
     have hfm := hM.frozen
     have hcr := hR.cell
     have hfr := hR.frozen
     gi_wp2
     have hK' := (KeepsOthers.setCell W ⟨w.heap.size + 1, 0, none⟩ (.int .i64 0)).same D _ hK rfl
     refine ⟨by simp, .inl ⟨_, _, rfl, run_takeDeferred hK', ?_⟩⟩
     have hc5 := cell_kept (World.cell?_setCell_same' W ⟨w.heap.size + 1, 0, none⟩ (.int .i64 0) (by rw [hcr]; rfl)) (grownBy_putObj' _ D (.deferred none)) (fun r e => by cases e; exact ⟨_, hK', rfl⟩)
     have hg : gapIn ys 0 = 0 := by have := gapIn_app ys [] 0 hp; rw [List.append_nil] at this; exact this
     refine ⟨.int .i64 0, by simp [results, Try.f90, go_sem, hc5], by rw [hmx, hg], (hB.setCell (p := ⟨w.heap.size + 1, 0, none⟩) (by simp) _).trans (belowK_b (w := w) (Nat.le_refl _) _ D _ _ (by have := k2.size; omega) hK' rfl rfl)⟩
   case stop =>
     rintro D c pre W hD ⟨k, hk, rfl⟩ ⟨⟨rfl, ini, x, e1, e2, e3, hR⟩, hB⟩ hK
     gi_wp2
     refine ⟨by simp, .inl ⟨_, _, rfl, run_takeDeferred hK, ?_⟩⟩
     have hc5 := cell_kept hR.cell (grownBy_putObj' _ D (.deferred none)) (fun r e => by cases e; exact ⟨_, hK, rfl⟩)
     have hg : gapIn l 0 = x.2 := by
       rw [← List.take_append_drop k l, e1, List.append_assoc, gapIn_app _ _ _ e2]
       show gapIn (x :: _) 0 = x.2
       rw [gapIn, if_pos e3]
     refine ⟨.int .i64 x.2, by simp [results, Try.f90, go_sem, hc5], by rw [hmx, hg], hB.trans (belowK_b (w := w) (Nat.le_refl _) W D _ _ (by have := k2.size; omega) hK rfl rfl)⟩
  case neg =>
   have hmx : max n 0 = n := by omega
   have hn1 : 0 ≤ n := by omega
   gi_wp2_with (first | (refine ⟨trivial, ?_⟩; gi_at_call 52; refine (callsIn_wide.2 hmay).mono ?_; rintro e w1 ⟨rfl, hb1⟩; have a3 := bx_below a2 hb1 a2.lt; have a4 := bx_below a1' hb1 a1'.lt; have hc3 := a3.cell; have hf3 := a3.frozen; have hc4 := a4.cell; have hf4 := a4.frozen; have hs1 := hs0.keep hb1) | (refine ⟨trivial, ?_⟩; gi_at_call 80; refine (ends_in Fence.wide _ trivial rfl _ _ _ _).mono ?_; rintro e w' ⟨rfl, rfl⟩))
   have k1 : Below w.heap.size w (w1.setCell ⟨w.heap.size, 0, none⟩ (.int .i64 n)) := (hb0.trans (hb1.mono hb0.size)).setCell (p := ⟨w.heap.size, 0, none⟩) (Nat.le_refl _) _
   have k2 : Below w.heap.size w ((w1.setCell ⟨w.heap.size, 0, none⟩ (.int .i64 n)).alloc (.cells #[.slice A len cap] 23)) := k1.alloc k1.size _
   have bM : Boxed (w1.setCell ⟨w.heap.size, 0, none⟩ (.int .i64 n)) w.heap.size 3 (.int .i64 n) := a4.set _
   have bR : Boxed (w1.setCell ⟨w.heap.size, 0, none⟩ (.int .i64 n)) (w.heap.size + 1) 3 (.int .i64 0) := a3.other (by omega) _
   have bN := Boxed.new (w1.setCell ⟨w.heap.size, 0, none⟩ (.int .i64 n)) 23 (.slice A len cap)
   have hsz : (w1.setCell ⟨w.heap.size, 0, none⟩ (.int .i64 n)).heap.size = w1.heap.size := by simp
   have hsz1 : w.heap.size + 1 < w1.heap.size := a3.lt
   rw [hsz] at bN
   obtain ⟨w2, hw2⟩ : ∃ w2, w1.setCell ⟨w.heap.size, 0, none⟩ (.int .i64 n) = w2 := ⟨_, rfl⟩
   rw [hw2] at k1 k2 bM bR bN hsz ⊢
   have hsz3 : (w2.alloc (.cells #[.slice A len cap] 23)).heap.size = w1.heap.size + 1 := by rw [World.size_alloc, hsz]
   refine wpIn_rangeFunc_ownG rfl h1 (gf := 100) (lb := #[.pointer (some ⟨w1.heap.size, 0, none⟩)]) rfl trivial (enters_of Try.func100 (by kernel_rfl) rfl)
     (ends_stops Fence.wide (4 - 1) trivial rfl (by omega) w1.heap.size w.heap.size A len cap l (by omega) _ (by omega) k2.size bN.cell (hs.rd.keep k2) (fresh_of hs)) belowK_t (belowK_b k2.size) (Below.refl _ _) (fun _ => rfl)
     (fun pre W => (Out pre n ∧ Boxed W w.heap.size 3 (.int .i64 n) ∧ Boxed W (w.heap.size + 1) 3 (.int .i64 0)) ∧ Below w.heap.size w W)
     (fun c pre W => (c = .ret ∧ ∃ ini x, pre = ini ++ [x] ∧ Out ini n ∧ (x.1 ≤ n ∧ n < x.2) ∧ Boxed W (w.heap.size + 1) 3 (.int .i64 x.2)) ∧ Below w.heap.size w W)
     (OwnFrom.and (Own.from (fun s A B row hs hg hr => ⟨hs.1, boxed_own _ _ (fun _ => .int .i64 n) s A B row hs.2.1 hg hr, boxed_own _ _ (fun _ => .int .i64 0) s A B row hs.2.2 hg hr⟩) _) (ownFrom_below (Nat.le_refl _) k2.size))
     (fun c => OwnFrom.and (Own.from (fun s A B row hs hg hr => by obtain ⟨hc, ini, x, e1, e2, e3, e4⟩ := hs; exact ⟨hc, ini, x, e1, e2, e3, boxed_own _ _ (fun _ => .int .i64 x.2) s A B row e4 hg hr⟩) _) (ownFrom_below (Nat.le_refl _) k2.size))
     ⟨⟨out_nil _, bM.alloc _, bR.alloc _⟩, k2⟩
     (fun x => { tmps := #[.slice A len cap, .int .i64 n, undef, .pointer (some ⟨w.heap.size, 0, none⟩), .pointer (some ⟨w.heap.size + 1, 0, none⟩), .int .i64 x.1, .int .i64 x.2, .slice A len cap, .bool true, .bool false, .int .i64 n, .int .i64 n, .slice A len cap, .func (.func 100) #[] #[.pointer (some ⟨w1.heap.size, 0, none⟩)], .int .i64 x.1, .int .i64 x.2, undef, undef, undef, undef, undef, undef, undef, undef, undef, undef], defers := [] }) ?assign ?body ?done ?stop
   case assign =>
     intro l x W K hK
     gi_wp2
     exact hK
   case body =>
     rintro r pre x W ⟨⟨hp, hM, hR⟩, hB⟩ _
     have hcm := hM.cell
     have hfm := hM.frozen
     have hcr := hR.cell
     have hfr := hR.frozen
     by_cases h3 : x.1 ≤ n
     · by_cases h4 : n < x.2
       · gi_wp2
         exact ⟨(KeepsOthers.setCell _ _ _).from _, ⟨rfl, pre, x, rfl, hp, ⟨h3, h4⟩, hR.set _⟩, hB.setCell (p := ⟨w.heap.size + 1, 0, none⟩) (by simp) _⟩
       · have h4' : x.2 ≤ n := by omega
         have hd4 : decide (n < x.2) = false := decide_eq_false h4
         gi_wp2
         exact ⟨KeepsFrom.refl _ _, Below.refl _ _, ⟨out_snoc hp (by omega), hM, hR⟩, hB⟩
     · have h3' : n < x.1 := by omega
       have hd3 : decide (x.1 ≤ n) = false := decide_eq_false h3
       gi_wp2
       exact ⟨KeepsFrom.refl _ _, Below.refl _ _, ⟨out_snoc hp (by omega), hM, hR⟩, hB⟩
   case done =>
     rintro D ys W hD rfl ⟨⟨hp, hM, hR⟩, hB⟩ hK
     have hcm := hM.cell
     have hfm := hM.frozen
     have hcr := hR.cell
     have hfr := hR.frozen
     gi_wp2
     have hK' := (KeepsOthers.setCell W ⟨w.heap.size + 1, 0, none⟩ (.int .i64 n)).same D _ hK rfl
     refine ⟨by simp, .inl ⟨_, _, rfl, run_takeDeferred hK', ?_⟩⟩
     have hc5 := cell_kept (World.cell?_setCell_same' W ⟨w.heap.size + 1, 0, none⟩ (.int .i64 n) (by rw [hcr]; rfl)) (grownBy_putObj' _ D (.deferred none)) (fun r e => by cases e; exact ⟨_, hK', rfl⟩)
     have hg : gapIn ys n = n := by have := gapIn_app ys [] n hp; rw [List.append_nil] at this; exact this
     refine ⟨.int .i64 n, by simp [results, Try.f90, go_sem, hc5], by rw [hmx, hg], (hB.setCell (p := ⟨w.heap.size + 1, 0, none⟩) (by simp) _).trans (belowK_b (w := w) (Nat.le_refl _) _ D _ _ (by have := k2.size; omega) hK' rfl rfl)⟩
   case stop =>
     rintro D c pre W hD ⟨k, hk, rfl⟩ ⟨⟨rfl, ini, x, e1, e2, e3, hR⟩, hB⟩ hK
     gi_wp2
     refine ⟨by simp, .inl ⟨_, _, rfl, run_takeDeferred hK, ?_⟩⟩
     have hc5 := cell_kept hR.cell (grownBy_putObj' _ D (.deferred none)) (fun r e => by cases e; exact ⟨_, hK, rfl⟩)
     have hg : gapIn l n = x.2 := by
       rw [← List.take_append_drop k l, e1, List.append_assoc, gapIn_app _ _ _ e2]
       show gapIn (x :: _) n = x.2
       rw [gapIn, if_pos e3]
     refine ⟨.int .i64 x.2, by simp [results, Try.f90, go_sem, hc5], by rw [hmx, hg], hB.trans (belowK_b (w := w) (Nat.le_refl _) W D _ _ (by have := k2.size; omega) hK rfl rfl)⟩
end Go.Proofs.Ytggnhccpncgfiaa
namespace Go.Proofs.Ytggnhccpncgfiaa
open Go.RowKit
/-- the first k elements are the same -/
def Agree (a b : List Sp) (k : Nat) : Prop := ∀ i, i < k → sp a i = sp b i
theorem agree_zero (a b : List Sp) : Agree a b 0 := fun i hi => by omega
theorem agree_succ {a b : List Sp} {k : Nat} (h : Agree a b k) (e : sp a k = sp b k) : Agree a b (k + 1) := fun i hi => by
  rcases Nat.lt_or_eq_of_le (Nat.le_of_lt_succ hi) with h1 | h1
  · exact h i h1
  · subst h1; exact e
set_option maxHeartbeats 2000000 in
theorem same_any (A B : Option Addr) (n1 c1 n2 c2 : Nat) (l1 l2 : List Sp) (w : World) (h1 : Ss w A n1 c1 l1) (h2 : Ss w B n2 c2 l2) :
    Calls Try.prog 41 #[.slice A n1 c1, .slice B n2 c2] w fun e w' => e = .returned (.bool (decide (l1 = l2))) ∧ Below w.heap.size w w' := by
  have hl1 := h1.rd.len
  have hl2 := h2.rd.len
  have m1 := h1.le
  have m2 := h1.max
  have m3 : n1 ≤ 9223372036854775807 := by unfold maxLen at m2; omega
  clear m1 m2
  by_cases hn : n1 = n2
  case neg =>
    have e0 : decide (l1 = l2) = false := decide_eq_false (fun e => hn (by rw [← hl1, ← hl2, e]))
    have hn' : ¬ ((n1 : Int) = (n2 : Int)) := by omega
    rw [e0]
    go_enter Try.func41, Try.ntmps41
    go_wp2
    go_ret
    exact ⟨rfl, Below.refl _ _⟩
  case pos =>
  subst hn
  have HA := Lib.hid h1; clear h1
  have HB := Lib.hid h2; clear h2
  go_enter Try.func41, Try.ntmps41
  go_wp2
  go_loopw [5] (fun i wr => ∃ k : Nat, k ≤ n1 ∧ i = .int .i64 k ∧ Agree l1 l2 k ∧ Below w.heap.size w wr) (fun i _ => n1 - (intOf i).toNat)
  case atStart => exact ⟨0, Nat.zero_le _, rfl, agree_zero _ _, Below.refl _ _⟩
  case round =>
    obtain ⟨k, hk, rfl, hag, hb⟩ := hrel
    by_cases hlt : k < n1
    · obtain ⟨b1, o1, rfl, q1, d1⟩ := HA.out.rd.at_ (by omega)
      obtain ⟨b2, o2, rfl, q2, d2⟩ := HB.out.rd.at_ (by omega)
      have x1 := (hb.cell (p := ⟨b1, o1 + k * 2, none⟩) q1).trans (d1 k hlt).1
      have x2 := (hb.cell (p := ⟨b1, o1 + k * 2 + 1, none⟩) q1).trans (d1 k hlt).2
      have x3 := (hb.cell (p := ⟨b2, o2 + k * 2, none⟩) q2).trans (d2 k hlt).1
      have x4 := (hb.cell (p := ⟨b2, o2 + k * 2 + 1, none⟩) q2).trans (d2 k hlt).2
      have hs := fun e => agree_succ hag (k := k) e
      have hne : sp l1 k ≠ sp l2 k → decide (l1 = l2) = false := fun h => decide_eq_false (fun e => h (by rw [e]))
      clear d1 d2
      obtain ⟨⟨p1, p2⟩, hp⟩ : ∃ p, sp l1 k = p := ⟨_, rfl⟩
      obtain ⟨⟨r1, r2⟩, hr⟩ : ∃ p, sp l2 k = p := ⟨_, rfl⟩
      rw [hp] at x1 x2
      rw [hr] at x3 x4
      rw [hp, hr] at hs hne
      simp only at x1 x2 x3 x4
      clear hp hr
      have hk0 : (k : Int) < (n1 : Int) := by omega
      have hk1 : (0 : Int) ≤ (k : Int) := by omega
      by_cases he1 : p1 = r1
      · by_cases he2 : p2 = r2
        · subst he1 he2
          have hag' := hs rfl
          clear hs hne
          go_wp2
          go_quiet (fail)
          go_wp2
          go_roundw
          case rel => exact ⟨k + 1, by omega, by go_num, hag', below_drewN hb _⟩
          case measure => simp [intOf]; omega
        · have hd := hne (fun e => he2 (by simpa using congrArg Prod.snd e))
          clear hs hne
          subst he1
          go_wp2
          go_quiet (fail)
          go_wp2
          go_ret
          exact ⟨by rw [hd]; rfl, below_drewN hb _⟩
      · have hd := hne (fun e => he1 (by simpa using congrArg Prod.fst e))
        clear hs hne
        go_wp2
        go_quiet (fail)
        go_wp2
        go_ret
        exact ⟨by rw [hd]; rfl, below_drewN hb _⟩
    · have hkn : k = n1 := by omega
      subst hkn
      have e0 : decide (l1 = l2) = true := decide_eq_true (sp_ext (by rw [hl1, hl2]) (fun i hi => hag i (by omega)))
      go_wp2
      go_ret
      exact ⟨by rw [e0]; rfl, hb⟩
theorem same_yes (A B : Option Addr) (n1 c1 n2 c2 : Nat) (l : List Sp) (w : World) (h1 : Ss w A n1 c1 l) (h2 : Ss w B n2 c2 l) :
    Calls Try.prog 41 #[.slice A n1 c1, .slice B n2 c2] w fun e w' => e = .returned (.bool true) ∧ Below w.heap.size w w' := by
  have := same_any A B n1 c1 n2 c2 l l w h1 h2
  rwa [decide_eq_true (rfl : l = l)] at this
end Go.Proofs.Ytggnhccpncgfiaa
namespace Go.Proofs.Ytggnhccpncgfiaa
open Go.RowKit
theorem info_sp : (Try.prog.info? 60).map (fun i => (i.zero, i.size, i.bytes)) = some (some (.agg #[.int .i64 0, .int .i64 0]), 2, 16) := by kernel_rfl
theorem grn_le (l : List Sp) (s : Sp) (f b : Nat) (h : f ≤ b) : (grn s f b l).2.1 ≤ (grn s f b l).2.2 ∧ (grn s f b l).2.2 ≤ b + l.length := by
  induction l generalizing s f b with
  | nil => exact ⟨h, Nat.le_refl _⟩
  | cons p t ih =>
    rw [grn]
    split
    · have := ih s (f + 1) (b + 1) (by omega)
      rw [List.length_cons]; omega
    · split
      · rw [List.length_cons]; exact ⟨h, by simp only; omega⟩
      · have := ih (min p.1 s.1, max p.2 s.2) f (b + 1) (by omega)
        rw [List.length_cons]; omega
theorem grn_wide {l : List Sp} (hl : Wide l) (s : Sp) (f b : Nat) (h : W64 s.1 ∧ W64 s.2) : W64 (grn s f b l).1.1 ∧ W64 (grn s f b l).1.2 := by
  induction l generalizing s f b with
  | nil => exact h
  | cons p t ih =>
    have hp := hl p (by simp)
    have ht : Wide t := fun x hx => hl x (by simp [hx])
    rw [grn]
    split
    · exact ih ht s _ _ h
    · split
      · exact h
      · refine ih ht _ _ _ ?_
        unfold W64 at *
        simp only
        omega
theorem run_cutS (P : Program) (t e : TypeId) (ht : P.underlying t = some (.slice e)) (hinfo : (P.info? e).map (fun i => (i.zero, i.size, i.bytes)) = some (some (.agg #[.int .i64 0, .int .i64 0]), 2, 16)) (A : Option Addr) (k m d : Nat) (w : World) (hk : k ≤ 1000000) (_ : m ≤ d) :
    (Instr.slice t (.slice A (m + k) (d + k)) (some (.int .i64 (k : Int))) none none).run P w = .ok (.slice (cutS A k (d + k)) m d) w := by
  obtain ⟨i0, hi, hz0, hz1, hz2⟩ := info_parts hinfo
  have ht' : P.underlying t = some (.slice (P.elem t)) := by simp [Program.elem, ht]
  have he : P.elem t = e := by simp [Program.elem, ht]
  have hz : ∀ w, (Go.sizeOf e).run P w = .ok 2 w := fun w => by simp [Go.sizeOf, typeInfo, hi, hz1]
  rw [run_slice_l w t _ _ _ ht' .i64 _ (by omega) (by omega), he, hz]
  simp [Result.andThen, sliced, cutS]
theorem run_headS (P : Program) (t e : TypeId) (ht : P.underlying t = some (.slice e)) (hinfo : (P.info? e).map (fun i => (i.zero, i.size, i.bytes)) = some (some (.agg #[.int .i64 0, .int .i64 0]), 2, 16)) (A : Option Addr) (k n c : Nat) (w : World) (hk : k ≤ c) :
    (Instr.slice t (.slice A n c) none (some (.int .i64 (k : Int))) none).run P w = .ok (.slice A k c) w := by
  obtain ⟨i0, hi, hz0, hz1, hz2⟩ := info_parts hinfo
  have ht' : P.underlying t = some (.slice (P.elem t)) := by simp [Program.elem, ht]
  have he : P.elem t = e := by simp [Program.elem, ht]
  have hz : ∀ w, (Go.sizeOf e).run P w = .ok 2 w := fun w => by simp [Go.sizeOf, typeInfo, hi, hz1]
  rw [run_slice_h w t _ _ _ ht' .i64 _ (by omega) (by omega), he, hz]
  have h0 : ∀ a : Addr, a.add 0 = a := fun a => by simp [Addr.add]
  simp [Result.andThen, sliced, h0]
/-- a block of one span of the call's own -/
theorem ss_one (w : World) {p q : Int} (hp : W64 p) (hq : W64 q) (t : TypeId) : Ss (w.alloc (.cells #[.int .i64 p, .int .i64 q] t)) (some ⟨w.heap.size, 0, none⟩) 1 1 [(p, q)] :=
  ⟨Nat.le_refl _, by unfold maxLen; omega, (fun e => by cases e), rfl, wide_one hp hq, fun _ => ⟨w.heap.size, 0, rfl, by simp, fun i hi => by
    obtain rfl : i = 0 := by omega
    have h := Boxed2.new w t (.int .i64 p) (.int .i64 q)
    exact ⟨h.fst, h.snd⟩⟩⟩
/-- a list of spans whose row lies at or beyond base -/
structure Sq (w : World) (base : Nat) (G : Option Addr) (m d : Nat) (l : List Sp) : Prop where
  ss : Ss w G m d l
  at_ : ∀ b o s, G = some ⟨b, o, s⟩ → base ≤ b
theorem Sq.none (w : World) (base : Nat) : Sq w base .none 0 0 [] := ⟨Ss.none w, fun _ _ _ e => by cases e⟩
theorem Sq.mono {w : World} {base base' : Nat} {G : Option Addr} {m d : Nat} {l : List Sp} (h : Sq w base G m d l) (hb : base' ≤ base) : Sq w base' G m d l := ⟨h.ss, fun b o s e => Nat.le_trans hb (h.at_ b o s e)⟩
theorem Sq.keep {w w' : World} {base : Nat} {G : Option Addr} {m d : Nat} {l : List Sp} (h : Sq w base G m d l) (hb : Below w.heap.size w w') : Sq w' base G m d l := ⟨h.ss.keep hb, h.at_⟩
theorem Sq.set {w : World} {base : Nat} {G : Option Addr} {m d : Nat} {l : List Sp} (h : Sq w base G m d l) {p : Addr} (hp : p.block < base) (u : Value) : Sq (w.setCell p u) base G m d l := by
  refine ⟨⟨h.ss.le, h.ss.max, h.ss.nil, h.ss.rd.len, h.ss.rd.wide, fun h0 => ?_⟩, h.at_⟩
  obtain ⟨b, o, e, hlt, hc⟩ := h.ss.rd.at_ h0
  have hge := h.at_ b o _ e
  have hh := Below.heap_setCell w p u b (by omega)
  refine ⟨b, o, e, Nat.lt_of_lt_of_le hlt ((Below.refl 0 w).setCell (Nat.zero_le _) u).size, fun i hi => ?_⟩
  rw [← (hc i hi).1, ← (hc i hi).2]
  exact ⟨World.cell?_of_block (w := w) hh, World.cell?_of_block (w := w) hh⟩
theorem Gots.sq {w : World} {base e : Nat} {v : Value} {n : Nat} {l : List Sp} (h : Gots w base e v n l) : ∃ A c, v = .slice A n c ∧ Sq w base A n c l := by
  obtain ⟨A, c, ev, hs⟩ := h.ss
  subst ev
  refine ⟨A, c, rfl, hs, fun b o s ea => ?_⟩
  subst ea
  rcases h.row.2 with ⟨h1, _⟩ | ⟨g, cap, cur, h1, hg, _⟩
  · cases h1
  · cases h1; exact hg
end Go.Proofs.Ytggnhccpncgfiaa
namespace Go.Proofs.Ytggnhccpncgfiaa
open Go.RowKit
set_option maxHeartbeats 1000000 in
theorem bsame_any (A B : Option Addr) (n c n' c' : Nat) (l m : List Int) (w : World) (hr : Rd w A n l) (hs : Rd w B n' m) (hn : n ≤ 9223372036854775807) :
    Calls Try.prog 19 #[.slice A n c, .slice B n' c'] w fun e w' => e = .returned (.bool (sameB l m)) ∧ ∃ q, w' = w.drewN q := by
  by_cases hne : n = n'
  · subst hne
    have HR := Lib.hid hr; clear hr
    have HS := Lib.hid hs; clear hs
    have hx : ((n : Int) != (n : Int)) = false := by simp
    go_enter Try.func19, Try.ntmps19
    go_wp2
    go_loopw [5] (fun i wr => ∃ k q : Nat, k ≤ n ∧ i = .int .i64 k ∧ Pre l m k ∧ wr = w.drewN q) (fun i _ => n - (intOf i).toNat)
    case atStart => exact ⟨0, 0, Nat.zero_le _, rfl, fun i hi => by omega, rfl⟩
    case round =>
      obtain ⟨k, q, hk, rfl, hpre, rfl⟩ := hrel
      have HP := Lib.hid hpre; clear hpre
      by_cases hlt : k < n
      · obtain ⟨b, o, rfl, hbl, hc⟩ := HR.out.spot (by omega)
        obtain ⟨b2, o2, rfl, hbl2, hc2⟩ := HS.out.spot (by omega)
        have hcell := hc.out k hlt
        have hcell2 := hc2.out k hlt
        have i0 : (0 : Int) ≤ (k : Int) := by omega
        have i1 : (k : Int) < (n : Int) := by omega
        by_cases heq : byt l k = byt m k
        · have hpre' : Pre l m (k + 1) := fun i hi => by
            by_cases h : i < k
            · exact HP.out i h
            · obtain rfl : i = k := by omega
              exact heq
          obtain ⟨z, hz⟩ : ∃ z, byt l k = z := ⟨_, rfl⟩
          rw [← heq, hz] at hcell2
          rw [hz] at hcell
          have hzz : (z != z) = false := by simp
          clear hz heq
          go_wp2_with fail
          go_quiet (fail)
          go_wp2
          go_roundw
          case rel => exact ⟨k + 1, _, by omega, by go_num, hpre', rfl⟩
          case measure => simp [intOf]; omega
        · have hno : sameB l m = false := decide_eq_false (fun e => heq (by rw [e]))
          obtain ⟨z, hz⟩ : ∃ z, byt l k = z := ⟨_, rfl⟩
          obtain ⟨y, hy⟩ : ∃ y, byt m k = y := ⟨_, rfl⟩
          rw [hz] at hcell heq
          rw [hy] at hcell2 heq
          have hzz : (z != y) = true := by simpa using heq
          have HN := Lib.hid hno; clear hno
          clear hz hy heq
          go_wp2_with fail
          go_quiet (fail)
          go_wp2
          go_ret
          exact ⟨ret_bool HN.out.symm, _, World.drewN_drewN _ _ _⟩
      · have hkn : k = n := by omega
        subst hkn
        have hyes : sameB l m = true := decide_eq_true (byt_ext (by rw [HR.out.len, HS.out.len]) (fun i hi => HP.out i (by rw [HR.out.len] at hi; exact hi)))
        have HY := Lib.hid hyes; clear hyes
        go_wp2
        go_ret
        exact ⟨ret_bool HY.out.symm, _, rfl⟩
  · have hno : sameB l m = false := decide_eq_false (fun e => hne (by rw [← hr.len, ← hs.len, e]))
    have hx : ((n : Int) != (n' : Int)) = true := by simp; omega
    have HN := Lib.hid hno; clear hno
    go_enter Try.func19, Try.ntmps19
    go_wp2
    go_ret
    exact ⟨ret_bool HN.out.symm, 0, rfl⟩
theorem bsame_yes (A B : Option Addr) (n c c' : Nat) (l : List Int) (w : World) (hr : Rd w A n l) (hs : Rd w B n l) (hn : n ≤ 9223372036854775807) :
    Calls Try.prog 19 #[.slice A n c, .slice B n c'] w fun e w' => e = .returned (.bool true) ∧ Below w.heap.size w w' :=
  (bsame_any A B n c n c' l l w hr hs hn).mono fun e w' ⟨he, q, hw⟩ => ⟨by rw [he]; unfold sameB; simp, by rw [hw]; exact below_drewN (Below.refl _ _) q⟩
end Go.Proofs.Ytggnhccpncgfiaa
namespace Go.Proofs.Ytggnhccpncgfiaa
open Go.RowKit
theorem last_sp {d : Int} {l : List Sp} (h : 0 < l.length) : lastOf d l = (sp l (l.length - 1)).2 := by
  rcases List.eq_nil_or_concat l with e | ⟨r, p, e⟩
  · subst e; simp at h
  · subst e
    rw [List.concat_eq_append, lastOf_snoc]
    unfold sp
    rw [List.getD_eq_getElem?_getD]
    simp
theorem head_chain {base : Int} {l : List Sp} (h : chain (-1) l = true) : chain (base - 1) l = true ↔ ¬ (0 < l.length ∧ (sp l 0).1 < base) := by
  cases l with
  | nil => simp [chain]
  | cons p t =>
    have hc := ch_cons.1 h
    rw [ch_cons, show sp (p :: t) 0 = p from rfl]
    constructor
    · rintro ⟨h1, _⟩ ⟨_, h2⟩; omega
    · intro h1
      have : base ≤ p.1 := by
        rcases Int.lt_or_le p.1 base with h2 | h2
        · exact absurd ⟨by simp, h2⟩ h1
        · exact h2
      exact ⟨by omega, hc.2⟩
end Go.Proofs.Ytggnhccpncgfiaa
namespace Go.Proofs.Ytggnhccpncgfiaa
open Go
section
variable {P : Program} {ops : Array Oper} {md : Region.Mode} {Q : Exit → Act → World → Prop} {S : World → Prop}
/-- Whatever order is picked from here on, for f operations below n; S behind each; then L. -/
def wpAnyT (P : Program) (md : Region.Mode) (ops : Array Oper) (Q : Exit → Act → World → Prop) (S : World → Prop) (n : Nat) (L : Array Bool → Act → World → Prop) : Nat → Array Bool → Act → World → Prop
  | 0, listed, a, w => L listed a w
  | f + 1, listed, a, w =>
    Region.ready md ops listed ≠ [] ∧ ∀ i ∈ Region.ready md ops listed, i < n ∧ wpOp P ops Q i (fun a' w' => S w' ∧ wpAnyT P md ops Q S n L f (listed.setIfInBounds i true) a' w') a w
theorem wpAny_of_headT {n g : Nat} {L : Array Bool → Act → World → Prop} (hL : ∀ listed a w, L listed a w → wpAny P md ops Q g listed a w) :
    ∀ (f : Nat) (listed : Array Bool) (a : Act) (w : World), wpAnyT P md ops Q S n L f listed a w → wpAny P md ops Q (f + g) listed a w
  | 0, listed, a, w, h => by rw [Nat.zero_add]; exact hL _ _ _ h
  | f + 1, listed, a, w, h => by
    rw [show f + 1 + g = (f + g) + 1 by omega]
    exact ⟨fun h0 => absurd h0 h.1, fun i hi => wpOp_mono (fun a' w' h' => wpAny_of_headT hL f _ a' w' h'.2) (h.2 i hi).2⟩
theorem wpAnyT_first {n i : Nat} {oi : Oper} {v : Value} {L : Array Bool → Act → World → Prop} (hi : ops[i]? = some oi) (hsel : ∀ (j : Nat) (o : Oper) cs b, ops[j]? = some o → o.op ≠ .select cs b)
    (hQ : ∀ c a w, Q (.panic c) (a.put oi.dst v) w → Q (.panic c) a w)
    (hs : Region.sinkB md ops n = true) (hc : Region.chainB md ops n = true) (hn : n < ops.size) (hin : i < n)
    (hdone : ∀ listed a w, L listed a w → ∀ j ∈ Region.ready md ops listed, n ≤ j) :
    ∀ (f : Nat) (listed : Array Bool) (a : Act) (w : World), HeadInv md ops n listed →
      (∀ j oj, ops[j]? = some oj → j ≠ i → listed.getD j true = false → (∀ e ∈ oj.after, Region.binds md e = true → e.on ≠ i) → oi.apart ops oj = true) →
      i ∈ Region.ready md ops listed → YieldsIf P ops S oi v a → S w →
      wpAnyT P md ops Q S n L f (listed.setIfInBounds i true) (a.put oi.dst v) w → wpAnyT P md ops Q S n L (f + 1) listed a w := by
  intro f
  induction f with
  | zero =>
    intro listed a w inv _ hr hy hS H
    have hun := (mem_ready.1 hr).1
    refine ⟨fun h => (by rw [h] at hr; cases hr), fun j hj => ?_⟩
    have hjn : j < n := by
      rcases Nat.lt_or_ge j n with h | h
      · exact h
      · exact absurd hj (tail_waits hs hc hn inv _ i rfl hin hun j h)
    refine ⟨hjn, ?_⟩
    by_cases hji : j = i
    · subst hji; exact hy.wpOp hi hS ⟨hS, H⟩
    · have := hdone _ _ _ H j (ready_mono hj hji)
      omega
  | succ f ih =>
    intro listed a w inv hfree hr hy hS H
    have hun := (mem_ready.1 hr).1
    refine ⟨fun h => (by rw [h] at hr; cases hr), fun j hj => ?_⟩
    have hjn : j < n := by
      rcases Nat.lt_or_ge j n with h | h
      · exact h
      · exact absurd hj (tail_waits hs hc hn inv _ i rfl hin hun j h)
    refine ⟨hjn, ?_⟩
    by_cases hji : j = i
    · subst hji; exact hy.wpOp hi hS ⟨hS, H⟩
    · have h1 := (H.2 j (ready_mono hj hji)).2
      obtain ⟨hjun, oj, hoj, hall⟩ := mem_ready.1 hj
      have hnot : ∀ e ∈ oj.after, Region.binds md e = true → e.on ≠ i := fun e he hb heq => by
        have h1 := hall e he hb
        rw [heq, getD_both hun] at h1
        cases h1
      have h2 := wpOp_putIf hoj (hfree j oj hoj hji hjun hnot) (fun cs b => hsel i oi cs b hi) (fun cs b => hsel j oj cs b hoj) hQ hy h1
      have hfree' : ∀ k ok, ops[k]? = some ok → k ≠ i → (listed.setIfInBounds j true).getD k true = false →
          (∀ e ∈ ok.after, Region.binds md e = true → e.on ≠ i) → oi.apart ops ok = true := fun k ok hk hki hun hno => by
        refine hfree k ok hk hki ?_ hno
        by_cases hjk : j = k
        · subst hjk; exact hjun
        · rw [getD_set_ne true hjk] at hun; exact hun
      refine wpOp_mono (fun a' w' h3 => ⟨h3.2.1, ih (listed.setIfInBounds j true) a' w' (inv.set hj hjn) hfree' (ready_mono hr (Ne.symm hji)) h3.1 h3.2.1 ?_⟩) h2
      rw [Array.setIfInBounds_comm _ _ hji]
      exact h3.2.2
/-- HeadInv as a Bool -/
def headInvB (md : Region.Mode) (ops : Array Oper) (n : Nat) (listed : Array Bool) : Bool :=
  decide (listed.size = ops.size) && ((List.range ops.size).all fun j => match ops[j]? with
    | some oj => !(listed.getD j false) || oj.after.all fun e => !(Region.binds md e) || listed.getD e.on false
    | none => true) && (List.range ops.size).all fun t => decide (t < n) || !(listed.getD t true)
theorem headInvB_spec {n : Nat} {listed : Array Bool} (h : headInvB md ops n listed = true) : HeadInv md ops n listed := by
  unfold headInvB at h
  simp only [Bool.and_eq_true, decide_eq_true_eq] at h
  obtain ⟨⟨h1, h2⟩, h3⟩ := h
  refine ⟨h1, fun j oj hj hl e he hb => ?_, fun t ht ht' => ?_⟩
  · have hjs : j < ops.size := (Array.getElem?_eq_some_iff.1 hj).1
    have := List.all_eq_true.1 h2 j (List.mem_range.2 hjs)
    simp only [hj, hl, Bool.not_true, Bool.false_or] at this
    have h4 := Array.all_eq_true'.1 this e he
    simp only [hb, Bool.not_true, Bool.false_or] at h4
    exact h4
  · have := List.all_eq_true.1 h3 t (List.mem_range.2 ht')
    simp only [Bool.or_eq_true, decide_eq_true_eq, Bool.not_eq_true'] at this
    rcases this with h | h
    · omega
    · exact h
/-- what the end of the head is: the rest in its one order -/
def tailL (P : Program) (md : Region.Mode) (l : List Oper) (Q : Exit → Act → World → Prop) (n : Nat) (listed : Array Bool) (a : Act) (w : World) : Prop :=
  Region.seqB md l.toArray (l.length - n) n listed = true ∧ wpList P l.toArray Q (l.drop n) a w
def takeB (md : Region.Mode) (ops : Array Oper) (n : Nat) (listed : Array Bool) (i : Nat) : Bool :=
  Region.noSelect ops && Region.free md ops listed i && (Region.ready md ops listed).contains i && Region.sinkB md ops n && Region.chainB md ops n && decide (n < ops.size) && decide (i < n) && headInvB md ops n listed
/-- Take number i first: it yields v in every world that meets S. -/
theorem wpAnyT_take {l : List Oper} {n i : Nat} {oi : Oper} {v : Value} {f : Nat} {listed : Array Bool} {a : Act} {w : World} (hi' : l[i]? = some oi)
    (hB : takeB md l.toArray n listed i = true)
    (hQ : ∀ c a w, Q (.panic c) (a.put oi.dst v) w → Q (.panic c) a w) (hy : YieldsIf P l.toArray S oi v a) (hS : S w)
    (h : wpAnyT P md l.toArray Q S n (tailL P md l Q n) f (listed.setIfInBounds i true) (a.put oi.dst v) w) : wpAnyT P md l.toArray Q S n (tailL P md l Q n) (f + 1) listed a w := by
  have hi : l.toArray[i]? = some oi := by simpa using hi'
  simp only [takeB, Bool.and_eq_true, decide_eq_true_eq] at hB
  obtain ⟨⟨⟨⟨⟨⟨⟨b0, b1⟩, b2⟩, b3⟩, b4⟩, b5⟩, b6⟩, b7⟩ := hB
  exact wpAnyT_first hi (Region.noSelect_spec b0) hQ b3 b4 b5 b6 (fun listed a w hL => seqB_ready hL.1) f listed a w (headInvB_spec b7) (Region.free_spec hi b1) (by simpa using b2) hy hS h
/-- One alone may come up. -/
theorem wpAnyT_one {l : List Oper} {n k : Nat} {o : Oper} {f : Nat} {listed : Array Bool} {a : Act} {w : World} {L : Array Bool → Act → World → Prop} (hk' : l[k]? = some o)
    (hr : Region.ready md l.toArray listed = [k]) (hkn : k < n)
    (h : ∀ K : Act → World → Prop, (∀ a' w', S w' → wpAnyT P md l.toArray Q S n L f (listed.setIfInBounds k true) a' w' → K a' w') → if Region.wanted o (yielded l.toArray a.tmps) = true then Oper.wp P o a w K Q else K (a.put o.dst undef) w) :
    wpAnyT P md l.toArray Q S n L (f + 1) listed a w := by
  have hk : l.toArray[k]? = some o := by simpa using hk'
  refine ⟨fun h0 => (by rw [hr] at h0; cases h0), fun i hi => ?_⟩
  rw [hr] at hi
  obtain rfl : i = k := by simpa using hi
  refine ⟨hkn, ?_⟩
  have := h (fun a' w' => S w' ∧ wpAnyT P md l.toArray Q S n L f (listed.setIfInBounds i true) a' w') (fun a' w' h1 h2 => ⟨h1, h2⟩)
  unfold wpOp
  simp only [hk]
  split
  · next hw => rw [if_pos hw] at this; exact .inl this
  · next hw => rw [if_neg hw] at this; exact this
/-- The beginning: m operations, of which the first n may come in any order. -/
theorem wp_region_tail {id : Nat} {a : Act} {w : World} {l : List Oper} (n m : Nat) (S : World → Prop) (hm : P.follows .mixedOrders = true) (hl : l.length = m) (hn : n ≤ m)
    (h : wpAnyT P .any l.toArray Q S n (tailL P .any l Q n) n (Array.replicate m false) a w.drew) : (Code.region id l.toArray true).wp P Q a w := by
  refine wp_region_any hm ?_
  have := wpAny_of_headT (g := l.length - n) (fun listed a' w' hL => by
    have h0 := wpAny_of_seq (md := .any) (Q' := Q) (l.drop n) n listed a' w' (fun j => by simp [List.getElem?_drop]) (by rw [List.length_drop]; exact hL.1) hL.2
    rwa [List.length_drop] at h0) _ _ _ _ h
  rw [show n + (l.length - n) = l.length by omega, ← hl] at this
  simpa using this
end
end Go.Proofs.Ytggnhccpncgfiaa
namespace Go.Proofs.Ytggnhccpncgfiaa
open Go.RowKit
theorem wmay_false {w : Wv} (h : ¬ Va w) : wmay w = false := by
  cases hk : wmay w with
  | false => rfl
  | true => exact absurd ((wmay_iff w).1 hk) h
end Go.Proofs.Ytggnhccpncgfiaa
namespace Go.Proofs.Ytggnhccpncgfiaa
open Go.RowKit
/-- what a call tells that hands back a buffer and an error -/
def TellW (w w' : World) (e : Ending) (x : Wv × Int) : Prop := ∃ R m d G k q, e = .returned (.tuple #[.agg #[.int .i64 x.1.base, .slice R m d, .slice G k q, .int .i64 x.1.cap, .int .i64 x.1.en], .int .i64 x.2]) ∧ Sb w' w.heap.size R m d x.1.b ∧ Sq w' w.heap.size G k q x.1.got ∧ Below w.heap.size w w'
theorem ret_i {a b : Int} (h : a = b) : Ending.returned (.int .i64 a) = .returned (.int .i64 b) := by rw [h]
theorem zw_lit : zw = ⟨0, [], [], 0, 0⟩ := rfl
set_option maxHeartbeats 2000000 in
theorem wsame_yes (base : Int) (A : Option Addr) (n c : Nat) (G : Option Addr) (m d : Nat) (cap en : Int) (bl : List Int) (gl : List Sp) (A' : Option Addr) (c' : Nat) (G' : Option Addr) (d' : Nat) (w : World) (hb : Sl w A n c bl) (hg : Ss w G m d gl) (hb' : Sl w A' n c' bl) (hg' : Ss w G' m d' gl) :
    Calls Try.prog 42 #[.agg #[.int .i64 base, .slice A n c, .slice G m d, .int .i64 cap, .int .i64 en], .agg #[.int .i64 base, .slice A' n c', .slice G' m d', .int .i64 cap, .int .i64 en]] w fun e w' => e = .returned (.bool true) ∧ Below w.heap.size w w' := by
  have e0 := (Bx.new w 25 [.int .i64 base, .slice A n c, .slice G m d, .int .i64 cap, .int .i64 en]).alloc (.cells #[.int .i64 base, .slice A' n c', .slice G' m d', .int .i64 cap, .int .i64 en] 25)
  have r0 := Bx.new (w.alloc (.cells #[.int .i64 base, .slice A n c, .slice G m d, .int .i64 cap, .int .i64 en] 25)) 25 [.int .i64 base, .slice A' n c', .slice G' m d', .int .i64 cap, .int .i64 en]
  have hb0 : Below w.heap.size w ((w.alloc (.cells #[.int .i64 base, .slice A n c, .slice G m d, .int .i64 cap, .int .i64 en] 25)).alloc (.cells #[.int .i64 base, .slice A' n c', .slice G' m d', .int .i64 cap, .int .i64 en] 25)) := ((Below.refl _ _).alloc (Nat.le_refl _) _).alloc (by simp) _
  rw [World.size_alloc] at r0
  have hnb : n ≤ 9223372036854775807 := by have := hb.le; have := hb.big; unfold maxLen at this; omega
  have x1 := e0.cell 1 rfl
  have y1 := r0.cell 1 rfl
  go_enter Try.func42, Try.ntmps42
  go_wp2_with fail
  refine (bsame_yes _ _ _ _ _ bl _ (hb.keep hb0).rd (hb'.keep hb0).rd hnb).mono ?_
  rintro e w1 ⟨rfl, hb1⟩
  clear x1 y1
  have e1 := e0.kept hb1
  have r1 := r0.kept hb1
  have b1 := hb0.trans (hb1.mono hb0.size)
  have x2 := e1.cell 2 rfl
  have y2 := r1.cell 2 rfl
  go_wp2_with fail
  refine (same_yes _ _ _ _ _ _ gl _ (hg.keep b1) (hg'.keep b1)).mono ?_
  rintro e w2 ⟨rfl, hb2⟩
  clear x2 y2
  have e2 := e1.kept hb2
  have r2 := r1.kept hb2
  have b2 := b1.trans (hb2.mono b1.size)
  have x0 := e2.cell 0 rfl
  have x3 := e2.cell 3 rfl
  have x4 := e2.cell 4 rfl
  have y0 := r2.cell 0 rfl
  have y3 := r2.cell 3 rfl
  have y4 := r2.cell 4 rfl
  go_wp2_with fail
  go_ret
  exact ⟨rfl, b2⟩
end Go.Proofs.Ytggnhccpncgfiaa
namespace Go.Proofs.Ytggnhccpncgfiaa
open Go.RowKit
theorem Ss.grown {w w' : World} {A : Option Addr} {n c : Nat} {l : List Sp} {row : Option Nat} (h : Ss w A n c l) (hg : w.grownBy w' row) (hne : 0 < n → ∀ b o, A = some ⟨b, o, Option.none⟩ → some b ≠ row) : Ss w' A n c l := by
  refine ⟨h.le, h.max, h.nil, h.rd.len, h.rd.wide, fun h0 => ?_⟩
  obtain ⟨b, o, e, hlt, hc⟩ := h.rd.at_ h0
  have hh := hg.block b hlt (hne h0 b o e)
  refine ⟨b, o, e, Nat.lt_of_lt_of_le hlt hg.size, fun i hi => ?_⟩
  rw [← (hc i hi).1, ← (hc i hi).2]
  exact ⟨World.cell?_of_block (w := w) hh, World.cell?_of_block (w := w) hh⟩
theorem Sq.grown {w w' : World} {base : Nat} {A : Option Addr} {n c : Nat} {l : List Sp} {row : Option Nat} (h : Sq w base A n c l) (hg : w.grownBy w' row) (hne : 0 < n → ∀ b o, A = some ⟨b, o, Option.none⟩ → some b ≠ row) : Sq w' base A n c l := ⟨h.ss.grown hg hne, h.at_⟩
/-- what Read tells -/
def TellR (w w' : World) (e : Ending) (x : Wv × List Int × Int) : Prop := ∃ R m d G k q S t u, e = .returned (.tuple #[.agg #[.int .i64 x.1.base, .slice R m d, .slice G k q, .int .i64 x.1.cap, .int .i64 x.1.en], .slice S t u, .int .i64 x.2.2]) ∧ Sb w' w.heap.size R m d x.1.b ∧ Sq w' w.heap.size G k q x.1.got ∧ Sb w' w.heap.size S t u x.2.1 ∧ Below w.heap.size w w'
end Go.Proofs.Ytggnhccpncgfiaa
namespace Go.Proofs.Ytggnhccpncgfiaa
theorem putN_zero' (g : List Sp) (lo : Int) : putN g lo (lo + (0 : Nat)) = 0 := by
  unfold putN; rw [show (lo + ((0 : Nat) : Int) - lo).toNat = 0 by omega]; rfl
theorem putN_succ (g : List Sp) (lo : Int) (j : Nat) : putN g lo (lo + (j + 1 : Nat)) = putN g lo (lo + j) + (if inB g (lo + j) = true then 0 else 1) := by
  unfold putN
  rw [show (lo + ((j + 1 : Nat) : Int) - lo).toNat = j + 1 by omega, show (lo + (j : Int) - lo).toNat = j by omega, List.range_succ, List.filter_append, List.length_append]
  congr 1
  cases h : inB g (lo + (j : Int)) <;> simp [h]
end Go.Proofs.Ytggnhccpncgfiaa
namespace Go.Proofs.Ytggnhccpncgfiaa
open Go.RowKit
/-- what Put tells -/
def TellP (w w' : World) (e : Ending) (x : Wv × Int × Int) : Prop := ∃ R m d G k q, e = .returned (.tuple #[.agg #[.int .i64 x.1.base, .slice R m d, .slice G k q, .int .i64 x.1.cap, .int .i64 x.1.en], .int .i64 x.2.1, .int .i64 x.2.2]) ∧ Sb w' w.heap.size R m d x.1.b ∧ Sq w' w.heap.size G k q x.1.got ∧ Below w.heap.size w w'
end Go.Proofs.Ytggnhccpncgfiaa
