/- A block of the call's own, its cells a list. No program. -/
import Derived.WalkKit
import Derived.WalkSmall
import Derived.Lib.Hide
import Derived.Below
import Derived.Outline
namespace Go.Proofs.Ytmclffbjdkoneaa
open Go.RowKit

/-- the block B holds just these cells -/
def Bx (W : World) (B : Nat) (t : TypeId) (cs : List Value) : Prop := W.heap[B]? = some (.cells cs.toArray t (0, 0))
section
variable {W W' : World} {B n : Nat} {t : TypeId} {cs : List Value}
theorem Bx.lt (h : Bx W B t cs) : B < W.heap.size := (Array.getElem?_eq_some_iff.1 h).1
theorem Bx.cell (h : Bx W B t cs) (i : Nat) {v : Value} (hv : cs[i]? = some v) : W.cell? ⟨B, i, none⟩ = some v := by
  rw [cell_of_row W B i _ _ _ h]; simpa using hv
theorem Bx.free (h : Bx W B t cs) (i : Nat) : W.frozen? ⟨B, i, none⟩ = false := frozen_of_row W B i _ _ h
theorem Bx.new (W : World) (t : TypeId) (cs : List Value) : Bx (W.alloc (.cells cs.toArray t)) W.heap.size t cs := heap_alloc_new W _
theorem Bx.alloc (h : Bx W B t cs) (o : Obj) : Bx (W.alloc o) B t cs := (Below.heap_alloc W o B h.lt).trans h
theorem Bx.below (h : Bx W B t cs) (hb : Below n W W') (hk : B < n) : Bx W' B t cs := (hb.block B hk).trans h
theorem Bx.kept (h : Bx W B t cs) (hb : Below W.heap.size W W') : Bx W' B t cs := h.below hb h.lt
theorem Bx.far (h : Bx W B t cs) {p : Addr} (hp : B ≠ p.block) (u : Value) : Bx (W.setCell p u) B t cs := (Below.heap_setCell W p u B hp).trans h
theorem Bx.drew (h : Bx W B t cs) : Bx W.drew B t cs := h
theorem Bx.grown {row : Option Nat} (h : Bx W B t cs) (hg : W.grownBy W' row) (hne : some B ≠ row) : Bx W' B t cs := (hg.block B h.lt hne).trans h
theorem Bx.set (h : Bx W B t cs) (i : Nat) (x : Value) : Bx (W.setCell ⟨B, i, none⟩ x) B t (cs.set i x) := by
  unfold Bx; rw [heap_setCell_same W B i _ _ _ h]; simp
end
end Go.Proofs.Ytmclffbjdkoneaa
