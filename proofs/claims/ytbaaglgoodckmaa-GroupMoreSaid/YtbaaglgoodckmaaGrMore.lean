/- Package group: more delay of all, twice as much, delays that are all the same. No program of the stage. -/
import Derived.Test.YtbaaglgoodckmaaGr
namespace Go.Proofs.Ytbaaglgoodckmaa
open Go.RowKit
set_option linter.unusedVariables false
set_option linter.unusedSimpArgs false

def Rng (l : List Int) (k : Nat) : Prop := ∀ j, j < k → 0 ≤ it l j ∧ it l j ≤ 1000
def SameL (l : List Int) (k : Nat) : Prop := ∀ j, j < k → it l j = it l 0
def shL (l : List Int) (m : Int) : List Int := l.map (· + m)
def dbL (l : List Int) : List Int := l.map (2 * ·)
theorem sh_len (l : List Int) (m : Int) : (shL l m).length = l.length := by unfold shL; simp
theorem db_len (l : List Int) : (dbL l).length = l.length := by unfold dbL; simp
theorem sh_it {l : List Int} {m : Int} {i : Nat} (h : i < l.length) : it (shL l m) i = it l i + m := by rw [it_eq (by rw [sh_len]; exact h), it_eq h]; unfold shL; simp
theorem db_it {l : List Int} {i : Nat} (h : i < l.length) : it (dbL l) i = 2 * it l i := by rw [it_eq (by rw [db_len]; exact h), it_eq h]; unfold dbL; simp
theorem take_snoc {l : List Int} {k : Nat} (h : k < l.length) : l.take (k + 1) = l.take k ++ [it l k] := by rw [List.take_succ_eq_append_getElem h, it_eq h]
theorem sh_take {l : List Int} {m : Int} {k : Nat} (h : k < l.length) : shL (l.take (k + 1)) m = shL (l.take k) m ++ [it l k + m] := by rw [take_snoc h]; unfold shL; simp
theorem db_take {l : List Int} {k : Nat} (h : k < l.length) : dbL (l.take (k + 1)) = dbL (l.take k) ++ [2 * it l k] := by rw [take_snoc h]; unfold dbL; simp
theorem may_rng {l : List Int} (h : Rng l l.length) {m : Int} (h0 : 0 ≤ m) (h1 : m ≤ 1000) : (mayG (shL l m) = true ↔ l.length ≤ 16) ∧ (mayG (dbL l) = true ↔ l.length ≤ 16) ∧ (mayG l = true ↔ l.length ≤ 16) := by
  rw [mayG_iff, mayG_iff, mayG_iff, sh_len, db_len]
  refine ⟨⟨fun k => k.2, fun k => ⟨fun i hi => (d18_iff _).2 ?_, k⟩⟩, ⟨fun k => k.2, fun k => ⟨fun i hi => (d18_iff _).2 ?_, k⟩⟩, ⟨fun k => k.2, fun k => ⟨fun i hi => (d18_iff _).2 ?_, k⟩⟩⟩
  · rw [sh_it hi]; have := h i hi; omega
  · rw [db_it hi]; have := h i hi; omega
  · have := h i hi; omega
theorem sh_sum {l : List Int} {m : Int} {n : Nat} (hn : n ≤ l.length) : ∀ k, k ≤ n → sumTo (shL l m) n k = sumTo l n k + (k : Int) * m := by
  intro k
  induction k with
  | zero => intro _; simp [sumTo]
  | succ k ih =>
    intro hk
    show sumTo (shL l m) n k + it (shL l m) ((shL l m).length - n + k) = sumTo l n k + it l (l.length - n + k) + _
    rw [ih (by omega), sh_len, sh_it (by omega), Int.natCast_add, Int.add_mul]
    simp only [Int.natCast_one, Int.one_mul]
    omega
theorem sh_dev {l : List Int} {m : Int} {n : Nat} (hn : n ≤ l.length) {i : Nat} (hi : i < n) : devG (shL l m) n (sumTo (shL l m) n n) i = devG l n (sumTo l n n) i := by
  unfold devG
  rw [sh_sum hn n (Nat.le_refl _), sh_len, sh_it (by omega), Int.mul_add]
  omega
theorem db_sum {l : List Int} {n : Nat} (hn : n ≤ l.length) : ∀ k, k ≤ n → sumTo (dbL l) n k = 2 * sumTo l n k := by
  intro k
  induction k with
  | zero => intro _; simp [sumTo]
  | succ k ih =>
    intro hk
    show sumTo (dbL l) n k + it (dbL l) ((dbL l).length - n + k) = 2 * (sumTo l n k + it l (l.length - n + k))
    rw [ih (by omega), db_len, db_it (by omega)]
    omega
theorem db_dev {l : List Int} {n : Nat} (hn : n ≤ l.length) {i : Nat} (hi : i < n) : devG (dbL l) n (sumTo (dbL l) n n) i = 2 * devG l n (sumTo l n n) i := by
  unfold devG
  rw [db_sum hn n (Nat.le_refl _), db_len, db_it (by omega), Int.mul_left_comm]
  omega
theorem prod_of_dev {a b a' b' : List Int} {n : Nat} {f g : Int} (ha : ∀ i, i < n → devG a' n (sumTo a' n n) i = f * devG a n (sumTo a n n) i) (hb : ∀ i, i < n → devG b' n (sumTo b' n n) i = g * devG b n (sumTo b n n) i) : prodG a' b' n = f * g * prodG a b n := by
  unfold prodG
  suffices h : ∀ k, k ≤ n → prodTo a' b' n (sumTo a' n n) (sumTo b' n n) k = f * g * prodTo a b n (sumTo a n n) (sumTo b n n) k from h n (Nat.le_refl _)
  intro k
  induction k with
  | zero => intro _; simp [prodTo]
  | succ k ih =>
    intro hk
    show prodTo a' b' n _ _ k + devG a' n _ k * devG b' n _ k = f * g * (prodTo a b n _ _ k + devG a n _ k * devG b n _ k)
    rw [ih (by omega), ha k (by omega), hb k (by omega), Int.mul_add]
    congr 1
    rw [Int.mul_assoc, Int.mul_left_comm (devG a n _ k), Int.mul_assoc]
theorem alike_shift {a b : List Int} {m : Int} (ha : Rng a a.length) (h0 : 0 ≤ m) (h1 : m ≤ 1000) : alikeG (shL a m) b = alikeG a b := by
  have hm := may_rng ha h0 h1
  have hn : min a.length b.length ≤ a.length := Nat.min_le_left _ _
  have hd : ∀ i, i < min a.length b.length → devG (shL a m) (min a.length b.length) (sumTo (shL a m) (min a.length b.length) (min a.length b.length)) i = 1 * devG a (min a.length b.length) (sumTo a (min a.length b.length) (min a.length b.length)) i := fun i hi => by rw [sh_dev hn hi, Int.one_mul]
  have hb : ∀ i, i < min a.length b.length → devG b (min a.length b.length) (sumTo b (min a.length b.length) (min a.length b.length)) i = 1 * devG b (min a.length b.length) (sumTo b (min a.length b.length) (min a.length b.length)) i := fun i hi => (Int.one_mul _).symm
  have p1 := prod_of_dev hd hb; have p2 := prod_of_dev hd hd
  rw [Int.one_mul, Int.one_mul] at p1 p2
  rw [Bool.eq_iff_iff, alike_iff, alike_iff, sh_len, p1, p2, hm.1, hm.2.2]
theorem alike_scale {a b : List Int} (ha : Rng a a.length) (hb : Rng b b.length) : alikeG (dbL a) (dbL b) = alikeG a b := by
  have hma := may_rng ha (m := 0) (by omega) (by omega); have hmb := may_rng hb (m := 0) (by omega) (by omega)
  have da : ∀ i, i < min a.length b.length → devG (dbL a) (min a.length b.length) (sumTo (dbL a) (min a.length b.length) (min a.length b.length)) i = 2 * devG a (min a.length b.length) (sumTo a (min a.length b.length) (min a.length b.length)) i := fun i hi => db_dev (Nat.min_le_left _ _) hi
  have db : ∀ i, i < min a.length b.length → devG (dbL b) (min a.length b.length) (sumTo (dbL b) (min a.length b.length) (min a.length b.length)) i = 2 * devG b (min a.length b.length) (sumTo b (min a.length b.length) (min a.length b.length)) i := fun i hi => db_dev (Nat.min_le_right _ _) hi
  have p1 := prod_of_dev da db; have p2 := prod_of_dev da da; have p3 := prod_of_dev db db
  rw [Bool.eq_iff_iff, alike_iff, alike_iff, db_len, db_len, p1, p2, p3, hma.2.1, hma.2.2, hmb.2.1, hmb.2.2]
  refine and_congr_right fun _ => and_congr_right fun _ => and_congr_right fun _ => and_congr_right fun _ => ?_
  constructor
  · rintro ⟨h1, h2, h3⟩; exact ⟨by omega, by omega, by omega⟩
  · rintro ⟨h1, h2, h3⟩; exact ⟨by omega, by omega, by omega⟩
theorem same_sum {l : List Int} (h : SameL l l.length) {n : Nat} (hn : n ≤ l.length) : ∀ k, k ≤ n → sumTo l n k = (k : Int) * it l 0 := by
  intro k
  induction k with
  | zero => intro _; simp [sumTo]
  | succ k ih =>
    intro hk
    show sumTo l n k + it l (l.length - n + k) = _
    have hj := h (l.length - n + k) (by omega)
    rw [ih (by omega), hj, Int.natCast_add, Int.add_mul]
    simp
theorem same_dev {l : List Int} (h : SameL l l.length) {n : Nat} (hn : n ≤ l.length) {i : Nat} (hi : i < n) : devG l n (sumTo l n n) i = 0 := by
  unfold devG
  have hj := h (l.length - n + i) (by omega)
  rw [same_sum h hn n (Nat.le_refl _), hj]
  omega
theorem same_not {a b : List Int} (h : SameL a a.length) : alikeG a b = false := Bool.eq_false_iff.2 (fun k => by
  have hp := ((alike_iff a b).1 k).2.2.2.2.1
  have hz : ∀ k, k ≤ min a.length b.length → prodTo a b (min a.length b.length) (sumTo a (min a.length b.length) (min a.length b.length)) (sumTo b (min a.length b.length) (min a.length b.length)) k = 0 := by
    intro k
    induction k with
    | zero => intro _; rfl
    | succ k ih =>
      intro hk
      show prodTo a b _ _ _ k + devG a _ _ k * devG b _ _ k = 0
      rw [ih (by omega), same_dev h (Nat.min_le_left _ _) (by omega), Int.zero_mul]; rfl
  have := hz _ (Nat.le_refl _)
  unfold prodG at hp
  omega)
theorem sq_nn (x : Int) : 0 ≤ x * x := by
  rcases Int.le_total 0 x with h | h
  · exact Int.mul_nonneg h h
  · have := Int.mul_nonneg (a := -x) (b := -x) (by omega) (by omega)
    rwa [Int.neg_mul_neg] at this
theorem sq_pos {x : Int} (h : x ≠ 0) : 0 < x * x := by
  have h1 := sq_nn x
  have h2 : x * x ≠ 0 := fun e => by rcases Int.mul_eq_zero.1 e with e | e <;> exact h e
  omega
theorem self_nn (a : List Int) (n : Nat) (x : Int) : ∀ k, 0 ≤ prodTo a a n x x k := by
  intro k
  induction k with
  | zero => exact Int.le_refl _
  | succ k ih => have := sq_nn (devG a n x k); show 0 ≤ prodTo a a n x x k + devG a n x k * devG a n x k; omega
theorem self_pos {a : List Int} {n : Nat} {x : Int} {j : Nat} (h : devG a n x j ≠ 0) : ∀ k, j < k → 0 < prodTo a a n x x k := by
  intro k
  induction k with
  | zero => intro h; omega
  | succ k ih =>
    intro hk
    show 0 < prodTo a a n x x k + devG a n x k * devG a n x k
    by_cases e : j = k
    · subst e; have := sq_pos h; have := self_nn a n x j; omega
    · have := ih (by omega); have := sq_nn (devG a n x k); omega
theorem alike_self {a : List Int} (ha : Rng a a.length) : alikeG a a = true ↔ 4 ≤ a.length ∧ a.length ≤ 16 ∧ ¬ SameL a a.length := by
  have hm := may_rng ha (m := 0) (by omega) (by omega)
  constructor
  · intro h
    have h2 := (alike_iff a a).1 h
    refine ⟨h2.2.2.1, hm.2.2.1 h2.1, fun hs => ?_⟩
    rw [same_not hs] at h; cases h
  · rintro ⟨h1, h2, h3⟩
    rw [alike_iff, Nat.min_self]
    have hex : ∃ j, j < a.length ∧ it a j ≠ it a 0 := by
      refine Classical.byContradiction fun hn => h3 (fun j hj => ?_)
      exact Classical.byContradiction fun hne => hn ⟨j, hj, hne⟩
    obtain ⟨j, hj, hne⟩ := hex
    have hpos : 0 < prodG a a a.length := by
      unfold prodG
      have hd : devG a a.length (sumTo a a.length a.length) j ≠ devG a a.length (sumTo a a.length a.length) 0 := by
        unfold devG
        rw [Nat.sub_self, Nat.zero_add, Nat.zero_add]
        intro e
        have e2 : (a.length : Int) * it a j = (a.length : Int) * it a 0 := by omega
        exact hne (Int.eq_of_mul_eq_mul_left (by omega) e2)
      by_cases e0 : devG a a.length (sumTo a a.length a.length) 0 = 0
      · exact self_pos (fun e => hd (by rw [e, e0])) _ hj
      · exact self_pos e0 _ (by omega)
    exact ⟨hm.2.2.2 h2, hm.2.2.2 h2, h1, h1, hpos, by omega, by omega⟩
/-! two rows of the call's own -/
def Apart (u v : Value) : Prop := u.ownBlock = none ∨ u.ownBlock ≠ v.ownBlock
theorem Apart.symm {u v : Value} (h : Apart u v) : Apart v u := by
  by_cases k : v.ownBlock = none
  · exact .inl k
  · refine .inr (fun e => ?_)
    rcases h with h | h
    · rw [h] at e; exact k e
    · exact h e.symm
theorem Apart.step {w : World} {base e : Nat} {u v v' : Value} {n : Nat} {l : List Int} (h : Apart u v) (hu : Goti w base e u n l) (hv : v'.ownBlock = v.ownBlock ∨ v'.ownBlock = some w.heap.size) : Apart u v' := by
  rcases hv with hv | hv
  · unfold Apart at h ⊢; rw [hv]; exact h
  · unfold Apart
    cases hb : u.ownBlock with
    | none => exact .inl rfl
    | some g => exact .inr (fun e => by rw [hv] at e; have := (hu.row.lt g hb).2; cases e; omega)
theorem Goti.other {w w' : World} {base e : Nat} {u v : Value} {n : Nat} {l : List Int} (hu : Goti w base e u n l) (h : Apart u v) (hg : w.grownBy w' v.ownBlock) : Goti w' base e u n l := ⟨hu.row.kept hg h, hu.wide⟩
end Go.Proofs.Ytbaaglgoodckmaa
