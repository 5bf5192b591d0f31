/- Rows of complex numbers whose parts stand for whole numbers, at or beyond a base; sums and deviations of lists of delays. -/
import Derived.Test.YtbaaglgoodckmaaGr
import Derived.Test.YtbaaglgoodckmaaFl
import Derived.Deep.OwnRows
import Derived.Laws.OwnMore
namespace Go.Proofs.Ytbaaglgoodckmaa
open Go.RowKit
set_option linter.unusedVariables false
set_option linter.unusedSimpArgs false

theorem info_cx : (Try.prog.info? 39).map (fun i => (i.zero, i.size, i.bytes)) = some (some (.complex .f64 0 0), 1, 16) := by kernel_rfl
theorem fl_zero : Fl 0 0 := by
  have h : floatOfInt .f64 0 = 0 := by decide +kernel
  have := fl_int (n := 0) (by decide)
  rwa [h] at this
theorem fl_two : Fl 4611686018427387904 2 := by
  have h : floatOfInt .f64 2 = 4611686018427387904 := by decide +kernel
  have := fl_int (n := 2) (by decide)
  rwa [h] at this
/-- a row of n complex numbers at block g: number j stands for f j and h j -/
def Zr (w : World) (B g n : Nat) (f h : Nat → Int) : Prop := ∃ xs : List Value, w.ownsRow B 39 1 (.slice (some ⟨g, 0, .none⟩) n n) n xs ∧ ∀ j, j < n → ∃ a b, xs[j]? = some (.complex .f64 a b) ∧ Fl a (f j) ∧ Fl b (h j)
section
variable {w w' : World} {B g n : Nat} {f h : Nat → Int}
theorem Zr.zeros {xs : List Value} (hr : w.ownsRow B 39 1 (.slice (some ⟨g, 0, .none⟩) n n) n xs) (hx : xs = (madeCells (Value.complex .f64 0 0).cells (n * 1)).toList) : Zr w B g n (fun _ => 0) (fun _ => 0) := by
  refine ⟨xs, hr, fun j hj => ⟨0, 0, ?_, fl_zero, fl_zero⟩⟩
  subst hx
  have e : (madeCells (Value.complex .f64 0 0).cells (n * 1)).toList = List.replicate n (Value.complex .f64 0 0) := by rw [Nat.mul_one]; exact toList_madeCells_one _ n
  rw [e, List.getElem?_replicate, if_pos hj]
theorem Zr.cell (z : Zr w B g n f h) {j : Nat} (hj : j < n) : ∃ a b, w.cell? ⟨g, j, .none⟩ = some (.complex .f64 a b) ∧ Fl a (f j) ∧ Fl b (h j) := by
  obtain ⟨xs, hr, hc⟩ := z
  obtain ⟨a, b, h1, h2, h3⟩ := hc j hj
  exact ⟨a, b, (hr.cellAt j (by omega)).trans h1, h2, h3⟩
theorem Zr.thaw (z : Zr w B g n f h) (j : Nat) : w.frozen? ⟨g, j, .none⟩ = false := by
  obtain ⟨xs, hr, hc⟩ := z
  exact hr.frozenAt j
theorem Zr.set (z : Zr w B g n f h) {j : Nat} {a b : Nat} {p q : Int} (hj : j < n) (ha : Fl a p) (hb : Fl b q) {f' h' : Nat → Int} (hf : ∀ i, i < n → f' i = if i = j then p else f i) (hh : ∀ i, i < n → h' i = if i = j then q else h i) :
    Zr (w.setCell ⟨g, j, .none⟩ (.complex .f64 a b)) B g n f' h' := by
  obtain ⟨xs, hr, hc⟩ := z
  have hl : xs.length = n := by have := hr.1; omega
  refine ⟨_, (hr.stored j (.complex .f64 a b)).1, fun i hi => ?_⟩
  rw [hf i hi, hh i hi, List.getElem?_set]
  by_cases e : j = i
  · subst e
    rw [if_pos rfl, if_pos (by omega), if_pos rfl, if_pos rfl]
    exact ⟨a, b, rfl, ha, hb⟩
  · rw [if_neg e, if_neg (fun e' => e e'.symm), if_neg (fun e' => e e'.symm)]
    exact hc i hi
theorem Zr.set_cell (z : Zr w B g n f h) {j : Nat} (u : Value) (hj : j < n) : (w.setCell ⟨g, j, .none⟩ u).cell? ⟨g, j, .none⟩ = some u := by
  obtain ⟨xs, hr, hc⟩ := z
  have hl : xs.length = n := by have := hr.1; omega
  rw [(hr.stored j u).1.cellAt j (by omega), List.getElem?_set, if_pos rfl, if_pos (by omega)]
theorem Zr.below (z : Zr w B g n f h) (hb : Below w.heap.size w w') : Zr w' B g n f h := by
  obtain ⟨xs, ⟨h1, h2⟩, hc⟩ := z
  refine ⟨xs, ⟨h1, ?_⟩, hc⟩
  rcases h2 with h1 | ⟨g, cap, cur, e1, e2, e3, e4⟩
  · exact .inl h1
  · exact .inr ⟨g, cap, cur, e1, e2, (hb.block g (Array.getElem?_eq_some_iff.1 e3).1).trans e3, e4⟩
theorem Zr.lt (z : Zr w B g n f h) : B ≤ g ∧ g < w.heap.size := by
  obtain ⟨xs, hr, hc⟩ := z
  exact hr.lt g rfl
theorem Zr.at_ (z : Zr w B g n f h) {f' h' : Nat → Int} (hf : ∀ i, i < n → f' i = f i) (hh : ∀ i, i < n → h' i = h i) : Zr w B g n f' h' := by
  obtain ⟨xs, hr, hc⟩ := z
  exact ⟨xs, hr, fun j hj => by rw [hf j hj, hh j hj]; exact hc j hj⟩
end
/-! sums and deviations of a whole list -/
def psum (l : List Int) : Nat → Int
  | 0 => 0
  | k + 1 => psum l k + it l k
def dv (l : List Int) (n j : Nat) : Int := (n : Int) * it l j - psum l n
theorem sum_drop (l : List Int) (n : Nat) : ∀ k, sumTo l n k = psum (l.drop (l.length - n)) k := by
  intro k
  induction k with
  | zero => rfl
  | succ k ih => show sumTo l n k + it l (l.length - n + k) = psum (l.drop (l.length - n)) k + it (l.drop (l.length - n)) k; rw [ih, it_drop]
theorem dev_drop (l : List Int) (n j : Nat) : devG l n (sumTo l n n) j = dv (l.drop (l.length - n)) n j := by
  unfold devG dv; rw [it_drop, sum_drop]
def In18 (l : List Int) : Prop := ∀ j, 0 ≤ it l j ∧ it l j ≤ 262144
theorem in18_drop {l : List Int} (h : mayG l = true) (k : Nat) : In18 (l.drop k) := fun j => by rw [it_drop]; exact it_d h _
theorem psum_bd {l : List Int} (h : In18 l) : ∀ k : Nat, 0 ≤ psum l k ∧ psum l k ≤ 262144 * (k : Int) := by
  intro k
  induction k with
  | zero => simp [psum]
  | succ k ih =>
    have := h k
    show 0 ≤ psum l k + it l k ∧ psum l k + it l k ≤ _
    omega
theorem nit_b {l : List Int} (h : In18 l) {n : Nat} (hn : n ≤ 16) (i : Nat) : 0 ≤ (n : Int) * it l i ∧ (n : Int) * it l i ≤ 4194304 := by
  have h1 := h i
  have h2 : (n : Int) * it l i ≤ 16 * it l i := Int.mul_le_mul_of_nonneg_right (by omega) h1.1
  exact ⟨Int.mul_nonneg (by omega) h1.1, by omega⟩
/-- what the first loop has laid behind k rounds, what the second has -/
def z1 (l : List Int) (k : Nat) : Nat → Int := fun j => if j < k then it l j else 0
def z2 (l : List Int) (n k : Nat) : Nat → Int := fun j => if j < k then dv l n j else it l j
theorem z1_succ (l : List Int) (k i : Nat) : z1 l (k + 1) i = if i = k then it l k else z1 l k i := by
  unfold z1
  by_cases e : i = k
  · subst e; rw [if_pos (by omega), if_pos rfl]
  · rw [if_neg e]
    by_cases h : i < k
    · rw [if_pos (by omega), if_pos h]
    · rw [if_neg (by omega), if_neg h]
theorem z2_succ (l : List Int) (n k i : Nat) : z2 l n (k + 1) i = if i = k then dv l n k else z2 l n k i := by
  unfold z2
  by_cases e : i = k
  · subst e; rw [if_pos (by omega), if_pos rfl]
  · rw [if_neg e]
    by_cases h : i < k
    · rw [if_pos (by omega), if_pos h]
    · rw [if_neg (by omega), if_neg h]
end Go.Proofs.Ytbaaglgoodckmaa
