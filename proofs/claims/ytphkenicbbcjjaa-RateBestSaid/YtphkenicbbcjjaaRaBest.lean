/- Package rate: what is best is the greatest of the last ten. No program. -/
import Derived.Test.YtphkenicbbcjjaaRaSer
import Derived.Test.YtphkenicbbcjjaaRaTell
namespace Go.Proofs.Ytphkenicbbcjjaa
set_option linter.unusedVariables false
/-- the last ten -/
def lastT (T : List Int) : List Int := T.drop (T.length - 10)
theorem last_len (T : List Int) : (lastT T).length = T.length - (T.length - 10) := by unfold lastT; rw [List.length_drop]
theorem last_push (T : List Int) (n : Int) : pushR (lastT T) n = lastT (T ++ [n]) := by
  have hl := last_len T
  by_cases h : T.length < 10
  · rw [push_room (by omega)]
    unfold lastT
    rw [List.length_append, show T.length - 10 = 0 by omega, show T.length + [n].length - 10 = 0 by simp; omega]; rfl
  · rw [push_full (by omega)]
    unfold lastT
    have e1 : (T ++ [n]).length - 10 = (T.length - 10) + 1 := by rw [List.length_append]; simp; omega
    have e2 : (T ++ [n]).drop (T.length - 10) = T.drop (T.length - 10) ++ [n] := List.drop_append_of_le_length (by omega)
    rw [e1, ← List.drop_drop, e2]
def TooB (T : List Int) : Prop := ∀ x ∈ T, 0 ≤ x ∧ x ≤ 1000000000000000
theorem too_snoc {T : List Int} {n : Int} (h : TooB T) (h0 : 0 ≤ n) (h1 : n ≤ 1000000000000000) : TooB (T ++ [n]) := fun x hx => by
  rcases List.mem_append.1 hx with hx | hx
  · exact h x hx
  · simp at hx; subst hx; exact ⟨h0, h1⟩
theorem last_may {T : List Int} {t a : Int} (h : TooB T) (t0 : 0 ≤ t) (t1 : t ≤ 1152921504606846976) (a0 : 0 ≤ a) (a1 : a ≤ 1152921504606846976) : ramay ⟨t, a, lastT T⟩ = true :=
  (ramay_iff _).2 ⟨(all_mem _).2 (fun x hx => by have := h x (List.mem_of_mem_drop hx); exact (t60_iff _).2 ⟨this.1, by omega⟩), t0, t1, a0, a1, by dsimp only; rw [last_len]; omega⟩
theorem mx_fold (l : List Int) : ∀ n : Int, 0 ≤ n → l.foldl (fun n x => if n < x then x else n) n = if n < mx l then mx l else n := by
  induction l with
  | nil => intro n hn; show n = if n < 0 then 0 else n; rw [if_neg (by omega)]
  | cons y t ih =>
    intro n hn
    have e1 := ih (if n < y then y else n) (by split <;> omega)
    have e2 : mx (y :: t) = if (if (0 : Int) < y then y else 0) < mx t then mx t else (if (0 : Int) < y then y else 0) := ih (if (0 : Int) < y then y else 0) (by split <;> omega)
    rw [List.foldl_cons, e1, e2]
    have := mx_nn t
    by_cases h1 : n < y <;> by_cases h2 : (0 : Int) < y <;> simp only [h1, h2, if_true, if_false] <;> (repeat' split) <;> omega
theorem mx_cons (y : Int) (t : List Int) : mx (y :: t) = if mx t < y then y else mx t := by
  have e : mx (y :: t) = if (if (0 : Int) < y then y else 0) < mx t then mx t else (if (0 : Int) < y then y else 0) := mx_fold t (if (0 : Int) < y then y else 0) (by split <;> omega)
  rw [e]
  have := mx_nn t
  (repeat' split) <;> omega
theorem mx_drop {T : List Int} {i : Nat} (h : i < T.length) : mx (T.drop i) = if mx (T.drop (i + 1)) < it T i then it T i else mx (T.drop (i + 1)) := by
  rw [List.drop_eq_getElem_cons h, mx_cons, it_eq h]
theorem mx_end (T : List Int) {i : Nat} (h : T.length ≤ i) : mx (T.drop i) = 0 := by rw [List.drop_eq_nil_of_le h]; rfl
theorem best_last {T : List Int} {t a : Int} (h : ramay ⟨t, a, lastT T⟩ = true) : bestR ⟨t, a, lastT T⟩ = mx (T.drop (T.length - 10)) := by unfold bestR; rw [if_pos h]; rfl
theorem Sq.fresh {w : World} {p q : Nat → Prop} {G : Option Addr} {m d : Nat} {l : List Int} (h : Sq w p G m d l) (hq : ∀ b, p b → b < w.heap.size → q b) : Sq w q G m d l := by
  refine ⟨h.si, fun h0 b o s e => ?_⟩
  obtain ⟨b', o', e', hlt, _⟩ := h.si.rd.at_ h0
  have hp := h.at_ h0 b o s e
  rw [e] at e'
  cases e'
  exact hq _ hp hlt
end Go.Proofs.Ytphkenicbbcjjaa
