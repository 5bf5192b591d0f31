/- Package keep: what a buffer is; blocks of four cells; May, End, index, between as contracts of the calls. -/
import Derived.Test.YtmnedaholdacnaaProg
import Derived.Test.YtmnedaholdacnaaByClone
import Derived.WalkKit
import Derived.WalkSpells
import Derived.WalkSmall
import Derived.Lib.Hide
import Derived.Below
import Derived.Outline
import Derived.Deep.RegionHeld3
namespace Go.Proofs.Ytmnedaholdacnaa
open Go.RowKit

/-- a block of four cells -/
def Boxed4 (W : World) (B : Nat) (t : TypeId) (a b c d : Value) : Prop := W.heap[B]? = some (.cells #[a, b, c, d] t (0, 0))
section
variable {W W' : World} {B n : Nat} {t : TypeId} {a b c d : Value}
theorem Boxed4.lt (h : Boxed4 W B t a b c d) : B < W.heap.size := (Array.getElem?_eq_some_iff.1 h).1
theorem Boxed4.c0 (h : Boxed4 W B t a b c d) : W.cell? ⟨B, 0, none⟩ = some a := by rw [cell_of_row W B 0 _ _ _ h]; rfl
theorem Boxed4.c1 (h : Boxed4 W B t a b c d) : W.cell? ⟨B, 1, none⟩ = some b := by rw [cell_of_row W B 1 _ _ _ h]; rfl
theorem Boxed4.c2 (h : Boxed4 W B t a b c d) : W.cell? ⟨B, 2, none⟩ = some c := by rw [cell_of_row W B 2 _ _ _ h]; rfl
theorem Boxed4.c3 (h : Boxed4 W B t a b c d) : W.cell? ⟨B, 3, none⟩ = some d := by rw [cell_of_row W B 3 _ _ _ h]; rfl
theorem Boxed4.free (h : Boxed4 W B t a b c d) (i : Nat) : W.frozen? ⟨B, i, none⟩ = false := frozen_of_row W B i _ _ h
theorem Boxed4.new (W : World) (t : TypeId) (a b c d : Value) : Boxed4 (W.alloc (.cells #[a, b, c, d] t)) W.heap.size t a b c d := heap_alloc_new W _
theorem Boxed4.alloc (h : Boxed4 W B t a b c d) (o : Obj) : Boxed4 (W.alloc o) B t a b c d := (Below.heap_alloc W o B h.lt).trans h
theorem Boxed4.below (h : Boxed4 W B t a b c d) (hb : Below n W W') (hk : B < n) : Boxed4 W' B t a b c d := (hb.block B hk).trans h
theorem Boxed4.kept (h : Boxed4 W B t a b c d) (hb : Below W.heap.size W W') : Boxed4 W' B t a b c d := h.below hb h.lt
theorem Boxed4.far (h : Boxed4 W B t a b c d) {p : Addr} (hp : B ≠ p.block) (u : Value) : Boxed4 (W.setCell p u) B t a b c d := (Below.heap_setCell W p u B hp).trans h
theorem Boxed4.set0 (h : Boxed4 W B t a b c d) (x : Value) : Boxed4 (W.setCell ⟨B, 0, none⟩ x) B t x b c d := by
  unfold Boxed4; rw [heap_setCell_same W B 0 _ _ _ h]; simp
theorem Boxed4.set1 (h : Boxed4 W B t a b c d) (x : Value) : Boxed4 (W.setCell ⟨B, 1, none⟩ x) B t a x c d := by
  unfold Boxed4; rw [heap_setCell_same W B 1 _ _ _ h]; simp
theorem Boxed4.set2 (h : Boxed4 W B t a b c d) (x : Value) : Boxed4 (W.setCell ⟨B, 2, none⟩ x) B t a b x d := by
  unfold Boxed4; rw [heap_setCell_same W B 2 _ _ _ h]; simp
theorem Boxed4.set3 (h : Boxed4 W B t a b c d) (x : Value) : Boxed4 (W.setCell ⟨B, 3, none⟩ x) B t a b c x := by
  unfold Boxed4; rw [heap_setCell_same W B 3 _ _ _ h]; simp
theorem Boxed4.set (h : Boxed4 W B t a b c d) (x y z u : Value) : Boxed4 ((((W.setCell ⟨B, 0, none⟩ x).setCell ⟨B, 1, none⟩ y).setCell ⟨B, 2, none⟩ z).setCell ⟨B, 3, none⟩ u) B t x y z u := (((h.set0 x).set1 y).set2 z).set3 u
end

/-- a buffer: where it begins, its bytes, how many may be, whether it is shut -/
structure Kp where
  base : Int
  l : List Int
  cap : Int
  sh : Bool
def kmay (k : Kp) : Bool := decide (0 ≤ k.cap ∧ k.cap ≤ 65536 ∧ (k.l.length : Int) ≤ k.cap ∧ 0 ≤ k.base ∧ k.base + k.l.length ≤ 2305843009213693952)
theorem kmay_iff {k : Kp} : kmay k = true ↔ 0 ≤ k.cap ∧ k.cap ≤ 65536 ∧ (k.l.length : Int) ≤ k.cap ∧ 0 ≤ k.base ∧ k.base + k.l.length ≤ 2305843009213693952 := by unfold kmay; exact decide_eq_true_iff
def kend (k : Kp) : Int := if kmay k = true then k.base + k.l.length else 0
@[irreducible] def kv (k : Kp) (A : Option Addr) (c : Nat) : Value := .agg #[.int .i64 k.base, .slice A k.l.length c, .int .i64 k.cap, .bool k.sh]

theorem ret_b {a b : Bool} (h : a = b) : Ending.returned (.bool a) = .returned (.bool b) := by rw [h]

set_option maxHeartbeats 1000000 in
theorem may_any (base : Int) (A : Option Addr) (n c : Nat) (cap : Int) (sh : Bool) (l : List Int) (w : World) (hl : l.length = n) (hn : n ≤ 140737488355328) :
    Calls Try.prog 19 #[.agg #[.int .i64 base, .slice A n c, .int .i64 cap, .bool sh]] w fun e w' => e = .returned (.bool (kmay ⟨base, l, cap, sh⟩)) ∧ Below w.heap.size w w' := by
  have hk : kmay ⟨base, l, cap, sh⟩ = (decide (0 ≤ cap) && decide (cap ≤ 65536) && decide ((n : Int) ≤ cap) && decide (0 ≤ base) && decide (base ≤ 2305843009213693952 - n)) := by
    rw [Bool.eq_iff_iff, kmay_iff]; simp [hl]; omega
  rw [hk]
  clear hk
  have e0 := Boxed4.new w 24 (.int .i64 base) (.slice A n c) (.int .i64 cap) (.bool sh)
  have h0 := e0.c0
  have h1 := e0.c1
  have h2 := e0.c2
  have hb : Below w.heap.size w (w.alloc (.cells #[.int .i64 base, .slice A n c, .int .i64 cap, .bool sh] 24)) := (Below.refl _ _).alloc (Nat.le_refl _) _
  go_enter Try.func19, Try.ntmps19
  go_wp2
  all_goals go_ret
  all_goals refine ⟨ret_b ?_, hb⟩
  all_goals simp [*]
  all_goals omega

set_option maxHeartbeats 1000000 in
theorem end_any (base : Int) (A : Option Addr) (n c : Nat) (cap : Int) (sh : Bool) (l : List Int) (w : World) (hl : l.length = n) (hn : n ≤ 140737488355328) :
    Calls Try.prog 21 #[.agg #[.int .i64 base, .slice A n c, .int .i64 cap, .bool sh]] w fun e w' => e = .returned (.int .i64 (kend ⟨base, l, cap, sh⟩)) ∧ Below w.heap.size w w' := by
  have e0 := Boxed4.new w 24 (.int .i64 base) (.slice A n c) (.int .i64 cap) (.bool sh)
  have h0 := e0.c0
  have h1 := e0.c1
  have h2 := e0.c2
  have h3 := e0.c3
  have hb : Below w.heap.size w (w.alloc (.cells #[.int .i64 base, .slice A n c, .int .i64 cap, .bool sh] 24)) := (Below.refl _ _).alloc (Nat.le_refl _) _
  have hm := may_any base A n c cap sh l (w.alloc (.cells #[.int .i64 base, .slice A n c, .int .i64 cap, .bool sh] 24)) hl hn
  cases hk : kmay ⟨base, l, cap, sh⟩ with
  | false =>
    have he : kend ⟨base, l, cap, sh⟩ = 0 := by unfold kend; rw [hk]; rfl
    rw [he]
    rw [hk] at hm
    clear hk
    go_enter Try.func21, Try.ntmps21
    go_wp2_with (refine hm.mono ?_; rintro e w1 ⟨rfl, hb1⟩)
    go_ret
    exact ⟨rfl, hb.trans (hb1.mono hb.size)⟩
  | true =>
    have he : kend ⟨base, l, cap, sh⟩ = base + n := by unfold kend; rw [hk, if_pos rfl, hl]
    have hk' := kmay_iff.1 hk
    simp only [hl] at hk'
    obtain ⟨_, _, _, k0, k1⟩ := hk'
    rw [he]
    rw [hk] at hm
    clear hk
    go_enter Try.func21, Try.ntmps21
    go_wp2_with (refine hm.mono ?_; rintro e w1 ⟨rfl, hb1⟩; have e1 := e0.kept hb1; have g0 := e1.c0; have g1 := e1.c1)
    go_ret
    exact ⟨rfl, hb.trans (hb1.mono hb.size)⟩

/-- the index of a position -/
def idx (base : Int) (n : Nat) (p : Int) : Nat := min (p - base).toNat n

set_option maxHeartbeats 1000000 in
theorem index_any (base : Int) (A : Option Addr) (n c : Nat) (cap : Int) (sh : Bool) (p : Int) (w : World) (h0 : 0 ≤ base) (h1 : base ≤ 2305843009213693952) (hp : p ≤ 9223372036854775807) (hn : n ≤ 140737488355328) :
    Calls Try.prog 25 #[.agg #[.int .i64 base, .slice A n c, .int .i64 cap, .bool sh], .int .i64 p] w fun e w' => e = .returned (.int .i64 ((idx base n p : Nat) : Int)) ∧ Below w.heap.size w w' := by
  have e0 := Boxed4.new w 44 (.int .i64 base) (.slice A n c) (.int .i64 cap) (.bool sh)
  have g0 := e0.c0
  have g1 := e0.c1
  have hb : Below w.heap.size w (w.alloc (.cells #[.int .i64 base, .slice A n c, .int .i64 cap, .bool sh] 44)) := (Below.refl _ _).alloc (Nat.le_refl _) _
  have fin : ∀ {z : Int}, z = ((idx base n p : Nat) : Int) → Ending.returned (.int .i64 z) = .returned (.int .i64 ((idx base n p : Nat) : Int)) := fun h => by rw [h]
  unfold idx at fin ⊢
  go_enter Try.func25, Try.ntmps25
  by_cases c1 : p < base
  · go_wp2
    go_ret
    exact ⟨fin (by omega), hb⟩
  · by_cases c2 : p - base ≤ n
    · go_wp2
      go_ret
      exact ⟨fin (by omega), hb⟩
    · go_wp2
      go_ret
      exact ⟨fin (by omega), hb⟩

end Go.Proofs.Ytmnedaholdacnaa
