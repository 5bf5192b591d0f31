/- Package group: what follows of groups and of lists that are alike. No program of the stage. -/
import Derived.Test.YtbaaglgoodckmaaGr
namespace Go.Proofs.Ytbaaglgoodckmaa
set_option linter.unusedVariables false
set_option linter.unusedSimpArgs false

/-! groups depend on which of two lists, not the same, are alike -/
theorem fold_congr {α β : Type} (f g : β → α → β) (xs : List α) (h : ∀ b, ∀ x ∈ xs, f b x = g b x) (b : β) : xs.foldl f b = xs.foldl g b := by
  induction xs generalizing b with
  | nil => rfl
  | cons x t ih => rw [List.foldl_cons, List.foldl_cons, h b x (by simp), ih (fun b y hy => h b y (by simp [hy]))]
theorem ofG_congr {m m' : Nat → Nat → Bool} {n : Nat} (h : ∀ i k, i < n → k < n → i ≠ k → m i k = m' i k) : ofG m n = ofG m' n := by
  have hs : ∀ i k o, i < n → k < n → stepK m i o k = stepK m' i o k := fun i k o hi hk => by
    unfold stepK
    by_cases e : i = k
    · subst e; rw [if_neg (fun h => by have := h.1; omega), if_neg (fun h => by have := h.1; omega)]
    · rw [h i k hi hk e]
  unfold ofG rndsG
  refine fold_congr _ _ _ (fun o r _ => ?_) _
  unfold rowsI
  refine fold_congr _ _ _ (fun o i hi => ?_) _
  unfold rowK
  exact fold_congr _ _ _ (fun o k hk => hs i k o (by simpa using hi) (by simpa using hk)) _
/-- a matrix of up to four lists -/
def matB (a b c d e f : Bool) (i k : Nat) : Bool :=
  match i, k with
  | 0, 1 => a | 1, 0 => a | 0, 2 => b | 2, 0 => b | 0, 3 => c | 3, 0 => c | 1, 2 => d | 2, 1 => d | 1, 3 => e | 3, 1 => e | 2, 3 => f | 3, 2 => f
  | _, _ => false
theorem ofG_mat {m : Nat → Nat → Bool} {n : Nat} (hn : n ≤ 4) (hs : ∀ i k, m i k = m k i) : ofG m n = ofG (matB (m 0 1) (m 0 2) (m 0 3) (m 1 2) (m 1 3) (m 2 3)) n := by
  refine ofG_congr (fun i k hi hk hne => ?_)
  match i, k, (by omega : i < 4), (by omega : k < 4), hne with
  | 0, 1, _, _, _ => rfl
  | 0, 2, _, _, _ => rfl
  | 0, 3, _, _, _ => rfl
  | 1, 0, _, _, _ => exact hs 1 0
  | 1, 2, _, _, _ => rfl
  | 1, 3, _, _, _ => rfl
  | 2, 0, _, _, _ => exact hs 2 0
  | 2, 1, _, _, _ => exact hs 2 1
  | 2, 3, _, _, _ => rfl
  | 3, 0, _, _, _ => exact hs 3 0
  | 3, 1, _, _, _ => exact hs 3 1
  | 3, 2, _, _, _ => exact hs 3 2
  | 0, 0, _, _, h => exact absurd rfl h
  | 1, 1, _, _, h => exact absurd rfl h
  | 2, 2, _, _, h => exact absurd rfl h
  | 3, 3, _, _, h => exact absurd rfl h
theorem mat_ne {m : Nat → Nat → Bool} (hs : ∀ i k, m i k = m k i) {i k : Nat} (hi : i < 4) (hk : k < 4) (hne : i ≠ k) : matB (m 0 1) (m 0 2) (m 0 3) (m 1 2) (m 1 3) (m 2 3) i k = m i k := by
  match i, k, hi, hk, hne with
  | 0, 1, _, _, _ => rfl
  | 0, 2, _, _, _ => rfl
  | 0, 3, _, _, _ => rfl
  | 1, 0, _, _, _ => exact hs 0 1
  | 1, 2, _, _, _ => rfl
  | 1, 3, _, _, _ => rfl
  | 2, 0, _, _, _ => exact hs 0 2
  | 2, 1, _, _, _ => exact hs 1 2
  | 2, 3, _, _, _ => rfl
  | 3, 0, _, _, _ => exact hs 0 3
  | 3, 1, _, _, _ => exact hs 1 3
  | 3, 2, _, _, _ => exact hs 2 3
  | 0, 0, _, _, h => exact absurd rfl h
  | 1, 1, _, _, h => exact absurd rfl h
  | 2, 2, _, _, h => exact absurd rfl h
  | 3, 3, _, _, h => exact absurd rfl h
/-- what the laws ask of groups, as a test -/
def chkG (m : Nat → Nat → Bool) (n : Nat) : Bool :=
  (List.range n).all fun i =>
    decide (0 ≤ it (ofG m n) i ∧ it (ofG m n) i ≤ (i : Int)) && (decide (it (ofG m n) (it (ofG m n) i).toNat = it (ofG m n) i) &&
    (((List.range n).all fun k => decide (i = k) || (!m i k || decide (it (ofG m n) i = it (ofG m n) k))) &&
    ((decide (it (ofG m n) i = (i : Int)) || (List.range n).any fun k => decide (k ≠ i) && m i k) &&
    (!((List.range n).all fun k => decide (k = i) || !m i k) || (decide (it (ofG m n) i = (i : Int)) && (List.range n).all fun k => decide (k = i) || !decide (it (ofG m n) k = (i : Int)))))))
set_option maxRecDepth 100000 in
theorem chk_all : ∀ a b c d e f : Bool, (List.range 5).all (fun n => chkG (matB a b c d e f) n) = true := by decide +kernel
structure OfOk (m : Nat → Nat → Bool) (n : Nat) (i : Nat) : Prop where
  lo : 0 ≤ it (ofG m n) i
  hi : it (ofG m n) i ≤ (i : Int)
  rep : it (ofG m n) (it (ofG m n) i).toNat = it (ofG m n) i
  same : ∀ k, k < n → i ≠ k → m i k = true → it (ofG m n) i = it (ofG m n) k
  join : it (ofG m n) i = (i : Int) ∨ ∃ k, k < n ∧ k ≠ i ∧ m i k = true
  alone : (∀ k, k < n → k ≠ i → m i k = false) → it (ofG m n) i = (i : Int) ∧ ∀ k, k < n → k ≠ i → it (ofG m n) k ≠ (i : Int)
theorem of_ok {m : Nat → Nat → Bool} {n : Nat} (hn : n ≤ 4) (hs : ∀ i k, m i k = m k i) {i : Nat} (hi : i < n) : OfOk m n i := by
  have h := List.all_eq_true.1 (chk_all (m 0 1) (m 0 2) (m 0 3) (m 1 2) (m 1 3) (m 2 3)) n (List.mem_range.2 (by omega))
  have hm := ofG_mat hn hs
  have h1 := List.all_eq_true.1 h i (List.mem_range.2 hi)
  rw [← hm] at h1
  simp only [Bool.and_eq_true, decide_eq_true_eq] at h1
  obtain ⟨⟨a1, a2⟩, a3, a4, a5, a6⟩ := h1
  refine ⟨a1, a2, a3, fun k hk hne hmk => ?_, ?_, fun hall => ?_⟩
  · have h2 := List.all_eq_true.1 a4 k (List.mem_range.2 hk)
    rw [mat_ne hs (by omega) (by omega) hne] at h2
    simpa [hne, hmk] using h2
  · rw [Bool.or_eq_true, decide_eq_true_eq] at a5
    rcases a5 with a5 | a5
    · exact .inl a5
    · obtain ⟨k, hk, h2⟩ := List.any_eq_true.1 a5
      rw [Bool.and_eq_true, decide_eq_true_eq] at h2
      have hk' := List.mem_range.1 hk
      rw [mat_ne hs (by omega) (by omega) (fun e => h2.1 e.symm)] at h2
      exact .inr ⟨k, hk', h2.1, h2.2⟩
  · rw [Bool.or_eq_true, Bool.not_eq_true', Bool.and_eq_true, decide_eq_true_eq] at a6
    rcases a6 with a6 | ⟨a6, a7⟩
    · exfalso
      rw [List.all_eq_false] at a6
      obtain ⟨k, hk, h2⟩ := a6
      have hk' := List.mem_range.1 hk
      by_cases e : k = i
      · simp [e] at h2
      · rw [mat_ne hs (by omega) (by omega) (fun e' => e e'.symm), hall k hk' e] at h2
        simp at h2
    · refine ⟨a6, fun k hk hne => ?_⟩
      have h2 := List.all_eq_true.1 a7 k (List.mem_range.2 hk)
      simpa [hne] using h2
theorem matG_comm (L : List (List Int)) (i k : Nat) : matG L i k = matG L k i := alike_comm _ _
theorem groups_len {L : List (List Int)} (h : L.length ≤ 4) : (groupsG L).length = L.length := by unfold groupsG; rw [if_neg (by omega), of_len]
theorem groups_eq {L : List (List Int)} (h : L.length ≤ 4) : groupsG L = ofG (matG L) L.length := by unfold groupsG; rw [if_neg (by omega)]
theorem of_wide (m : Nat → Nat → Bool) (n : Nat) (hn : n ≤ 4) (hs : ∀ i k, m i k = m k i) : WideI (ofG m n) := by
  intro x hx
  obtain ⟨i, hi, rfl⟩ := List.getElem_of_mem hx
  have hl := of_len m n
  have h := of_ok hn hs (i := i) (by omega)
  have h1 := h.lo; have h2 := h.hi
  rw [it_eq hi] at h1 h2
  unfold W64; omega
end Go.Proofs.Ytbaaglgoodckmaa
