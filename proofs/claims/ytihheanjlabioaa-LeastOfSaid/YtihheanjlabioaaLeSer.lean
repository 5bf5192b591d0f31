/- Package least: a series of numbers, as LeastOf lays them. No program. -/
import Derived.Test.YtihheanjlabioaaLeMath
import Derived.Test.YtihheanjlabioaaIt
namespace Go.Proofs.Ytihheanjlabioaa
set_option linter.unusedVariables false
set_option linter.unusedSimpArgs false

/-- when the k-th one came -/
def tm (lt : List Int) : Nat → Int
  | 0 => 0
  | k + 1 => tm lt k + it lt k
theorem tm_succ (lt : List Int) (k : Nat) : tm lt (k + 1) = tm lt k + it lt k := rfl
def Small (lt : List Int) (k : Nat) : Prop := ∀ i, i < k → 0 ≤ it lt i ∧ it lt i ≤ 1000000
theorem small_snoc {lt : List Int} {k : Nat} (h : Small lt k) (h0 : 0 ≤ it lt k) (h1 : it lt k ≤ 1000000) : Small lt (k + 1) := fun i hi => by
  by_cases e : i = k
  · subst e; exact ⟨h0, h1⟩
  · exact h i (by omega)
theorem tm_bd {lt : List Int} {k : Nat} (h : Small lt k) : 0 ≤ tm lt k ∧ tm lt k ≤ k * 1000000 := by
  induction k with
  | zero => exact ⟨Int.le_refl _, by show (0 : Int) ≤ _; omega⟩
  | succ k ih =>
    have h1 := ih (fun i hi => h i (by omega))
    have h2 := h k (by omega)
    rw [tm_succ]
    omega
def whens (lt : List Int) (k : Nat) : List Int := (List.range k).map fun i => tm lt (i + 1)
theorem whens_len (lt : List Int) (k : Nat) : (whens lt k).length = k := by simp [whens]
theorem whens_snoc (lt : List Int) (k : Nat) : whens lt (k + 1) = whens lt k ++ [tm lt (k + 1)] := by
  unfold whens; rw [List.range_succ, List.map_append]; rfl
theorem it_whens {lt : List Int} {k j : Nat} (h : j < k) : it (whens lt k) j = tm lt (j + 1) := by
  rw [it_eq (by rw [whens_len]; exact h)]
  simp [whens]
def rec1 (lt sz : List Int) (i : Nat) : Sp := (tm lt (i + 1), it sz i)
def recs (lt sz : List Int) (f k : Nat) : List Sp := (List.range (k - f)).map fun i => rec1 lt sz (f + i)
theorem recs_self (lt sz : List Int) (k : Nat) : recs lt sz k k = [] := by unfold recs; rw [Nat.sub_self]; rfl
theorem recs_snoc (lt sz : List Int) {f k : Nat} (h : f ≤ k) : recs lt sz f (k + 1) = recs lt sz f k ++ [rec1 lt sz k] := by
  unfold recs
  rw [show k + 1 - f = (k - f) + 1 by omega, List.range_succ, List.map_append]
  simp only [List.map_cons, List.map_nil]
  rw [show f + (k - f) = k by omega]
theorem recs_len (lt sz : List Int) (f k : Nat) : (recs lt sz f k).length = k - f := by simp [recs]
/-- the least number of those that count -/
structure MinOf (span a : Int) (L : List Sp) (m : Int) : Prop where
  one : ∃ r ∈ L, cnt span a r = true ∧ r.2 = m
  all : ∀ r ∈ L, cnt span a r = true → m ≤ r.2
theorem min_start {span a n : Int} (h : 0 ≤ span) : MinOf span a ([] ++ [(a, n)]) n :=
  ⟨⟨(a, n), by simp, by rw [cnt_iff]; show a - a ≤ span; omega, rfl⟩, fun r hr _ => by simp at hr; subst hr; exact Int.le_refl _⟩
theorem min_less {span a n m : Int} {L : List Sp} {p : Sp} (h : MinOf span a (L ++ [(a, n)]) m) (hc : a - p.1 ≤ span) (hl : p.2 < m) : MinOf span a ((L ++ [p]) ++ [(a, n)]) p.2 := by
  refine ⟨⟨p, by simp, by rw [cnt_iff]; exact hc, rfl⟩, fun r hr hcr => ?_⟩
  rw [List.append_assoc] at hr
  rcases List.mem_append.1 hr with hr | hr
  · exact Int.le_of_lt (Int.lt_of_lt_of_le hl (h.all r (List.mem_append.2 (.inl hr)) hcr))
  · rcases List.mem_append.1 hr with hr | hr
    · simp at hr; subst hr; exact Int.le_refl _
    · exact Int.le_of_lt (Int.lt_of_lt_of_le hl (h.all r (List.mem_append.2 (.inr hr)) hcr))
theorem min_more {span a n m : Int} {L : List Sp} {p : Sp} (h : MinOf span a (L ++ [(a, n)]) m) (hc : ¬ (a - p.1 ≤ span) ∨ ¬ (p.2 < m)) : MinOf span a ((L ++ [p]) ++ [(a, n)]) m := by
  obtain ⟨r, hr, h1, h2⟩ := h.one
  refine ⟨⟨r, ?_, h1, h2⟩, fun r hr hcr => ?_⟩
  · rcases List.mem_append.1 hr with hr | hr
    · simp [hr]
    · simp at hr; simp [hr]
  · rw [List.append_assoc] at hr
    rcases List.mem_append.1 hr with hr | hr
    · exact h.all r (List.mem_append.2 (.inl hr)) hcr
    · rcases List.mem_append.1 hr with hr | hr
      · simp at hr; subst hr
        rw [cnt_iff] at hcr
        omega
      · exact h.all r (List.mem_append.2 (.inr hr)) hcr
/-- it may be met -/
theorem ser_met {v : Lv} {R : List Sp} {a0 a n : Int} (s : Ser v R a0) (h0 : 0 ≤ a) (h1 : a ≤ 1152921504606846976) (h2 : 0 ≤ n) (h3 : n ≤ 1152921504606846976) (ha : a0 ≤ a) : MetOk v a n :=
  ⟨(lmay_iff v).2 s.ok, h0, h1, h2, h3, fun h => Int.le_trans (s.late _ (s.sub _ (by rw [sp_eq (by omega)]; exact List.getElem_mem _))) ha⟩
/-- a step of the series -/
theorem ser_step {v : Lv} {lt sz : List Int} {f k : Nat} (s : Ser v (recs lt sz f k) (tm lt k)) (hf : f ≤ k) (hk : k < 100) (hl : 0 ≤ it lt k) (hm : MetOk v (tm lt (k + 1)) (it sz k)) :
    Ser (metR v (tm lt (k + 1)) (it sz k)).1 (recs lt sz (if (metR v (tm lt (k + 1)) (it sz k)).2.1 = true then k else f) (k + 1)) (tm lt (k + 1)) := by
  by_cases h : highR v (tm lt (k + 1)) (it sz k) = 8
  · have e : (metR v (tm lt (k + 1)) (it sz k)).2.1 = true := by rw [met_turn hm h]
    rw [if_pos e, recs_snoc _ _ (Nat.le_refl _), recs_self]
    exact ser_turn hm h
  · have e : (metR v (tm lt (k + 1)) (it sz k)).2.1 = false := by rw [met_ok hm h]
    rw [if_neg (by rw [e]; decide), recs_snoc _ _ hf]
    exact ser_ok s hm h (by rw [recs_len]; omega) (by rw [tm_succ]; omega)
theorem met_span {v : Lv} {a n : Int} (h : MetOk v a n) : (metR v a n).1.span = v.span := by
  by_cases k : highR v a n = 8
  · rw [met_turn h k]
  · rw [met_ok h k]
end Go.Proofs.Ytihheanjlabioaa
