/- Package sent: what follows of the answers. No program. -/
import Derived.Test.YtnbamacdcggaeaaStH
namespace Go.Proofs.Ytnbamacdcggaeaa
set_option linter.unusedVariables false
set_option linter.unusedSimpArgs false

theorem chain_lt {l : List Prt} {n : Nat} (h : ChainTo l n) : ∀ j, j < n → ∀ i, i < j → endP (ge l i) ≤ (ge l j).seq := by
  intro j
  induction j with
  | zero => intro _ i hi; omega
  | succ j ih =>
    intro hj i hi
    have h1 := (h (j + 1) hj).2 (by omega)
    rw [show j + 1 - 1 = j by omega] at h1
    by_cases e : i = j
    · subst e; omega
    · have h2 := ih (by omega) i (by omega)
      have h3 := (h j (by omega)).1.l1
      unfold endP at h1 h2 ⊢
      omega
theorem seq_lt {l : List Prt} {n : Nat} (h : ChainTo l n) {i j : Nat} (hij : i < j) (hj : j < n) : (ge l i).seq < (ge l j).seq := by
  have h1 := chain_lt h j hj i hij
  have h2 := (h i (by omega)).1.l1
  unfold endP at h1
  omega
theorem pok_end {x : Prt} (h : POk x) : 0 ≤ x.seq ∧ x.seq ≤ 1152921504606846976 ∧ x.seq + 1 ≤ endP x ∧ endP x ≤ x.seq + 1460 ∧ endP x = x.seq + x.len := by
  have := (t60_iff _).1 h.seq; have := h.l1; have := h.l2; unfold endP; omega
theorem span_eq {l : List Prt} (hm : smayB l = true) (h0 : 0 < l.length) : spanR l = ((ge l 0).seq, endP (ge l (l.length - 1))) := by unfold spanR; rw [if_pos ⟨h0, hm⟩]
theorem span_zero {l : List Prt} (h : ¬ (0 < l.length ∧ smayB l = true)) : spanR l = (0, 0) := by unfold spanR; rw [if_neg h]
theorem span_in {l : List Prt} (hm : smayB l = true) {i : Nat} (hi : i < l.length) : (spanR l).1 ≤ (ge l i).seq ∧ endP (ge l i) ≤ (spanR l).2 := by
  have hc := ((smay_iff l).1 hm).2
  rw [span_eq hm (by omega)]
  refine ⟨?_, ?_⟩
  · rcases Nat.eq_zero_or_pos i with h | h
    · subst h; exact Int.le_refl _
    · exact Int.le_of_lt (seq_lt hc h hi)
  · by_cases h : i = l.length - 1
    · rw [← h]; exact Int.le_refl _
    · have h1 := chain_lt hc (l.length - 1) (by omega) i (by omega)
      have h2 := pok_end (hc (l.length - 1) (by omega)).1
      dsimp only
      omega
theorem span_bd {l : List Prt} (hm : smayB l = true) (h0 : 0 < l.length) : 0 ≤ (spanR l).1 ∧ (spanR l).1 < (spanR l).2 ∧ (spanR l).2 ≤ 1152921504606848436 := by
  have hc := ((smay_iff l).1 hm).2
  have h1 := span_in hm h0
  have h2 := pok_end (hc 0 h0).1
  have h3 := pok_end (hc (l.length - 1) (by omega)).1
  rw [span_eq hm h0] at h1 ⊢
  dsimp only at h1 ⊢
  omega

theorem flySum_foldl (l : List Prt) : ∀ n : Int, l.foldl (fun n x => n + flyL x) n = n + flySum l := by
  unfold flySum
  induction l with
  | nil => intro n; simp
  | cons p t ih =>
    intro n
    rw [List.foldl_cons, List.foldl_cons, ih, ih (0 + flyL p)]
    omega
theorem flySum_app (a b : List Prt) : flySum (a ++ b) = flySum a + flySum b := by
  show (a ++ b).foldl (fun n x => n + flyL x) 0 = _
  rw [List.foldl_append, flySum_foldl b]
  rfl
theorem flySum_cons (p : Prt) (t : List Prt) : flySum (p :: t) = flyL p + flySum t := by
  have := flySum_app [p] t
  rw [List.singleton_append] at this
  rw [this]
  show (0 + flyL p) + flySum t = _
  omega
theorem flySum_set {l : List Prt} {k : Nat} (hk : k < l.length) (y : Prt) : flySum (l.set k y) = flySum l - flyL (ge l k) + flyL y := by
  have h1 : l = l.take k ++ ge l k :: l.drop (k + 1) := by rw [← drop_ge hk, List.take_append_drop]
  have h2 : l.set k y = l.take k ++ y :: l.drop (k + 1) := by rw [List.set_eq_take_append_cons_drop, if_pos hk]
  have e1 : flySum l = flySum (l.take k) + (flyL (ge l k) + flySum (l.drop (k + 1))) := by
    conv => lhs; rw [h1]
    rw [flySum_app, flySum_cons]
  rw [h2, e1, flySum_app, flySum_cons]
  omega
theorem fly_bd0 {x : Prt} (h : POk x) : 0 ≤ flyL x ∧ flyL x ≤ x.len := by
  have := h.l1; unfold flyL; split <;> omega
/-- what is in flight is at most what is in the span -/
theorem fly_span {l : List Prt} (hm : smayB l = true) : 0 ≤ flySum l ∧ flySum l ≤ (spanR l).2 - (spanR l).1 := by
  have hc := ((smay_iff l).1 hm).2
  have key : ∀ k, k ≤ l.length → 0 ≤ flySum (l.take k) ∧ (0 < k → flySum (l.take k) ≤ endP (ge l (k - 1)) - (ge l 0).seq) := by
    intro k
    induction k with
    | zero => intro _; exact ⟨by simp [flySum], fun h => absurd h (by omega)⟩
    | succ k ih =>
      intro hk
      have h1 := ih (by omega)
      have hp := (hc k (by omega)).1
      have h2 := fly_bd0 hp
      have h3 := pok_end hp
      rw [take_ge (by omega), flySum_snoc]
      refine ⟨by omega, fun _ => ?_⟩
      rw [show k + 1 - 1 = k by omega]
      rcases Nat.eq_zero_or_pos k with h | h
      · subst h
        have : flySum (l.take 0) = 0 := rfl
        omega
      · have h4 := h1.2 h
        have h5 := (hc k (by omega)).2 h
        omega
  have h := key l.length (Nat.le_refl _)
  rw [List.take_length] at h
  by_cases h0 : 0 < l.length
  · rw [span_eq hm h0]
    exact ⟨h.1, h.2 h0⟩
  · rw [span_zero (fun k => h0 k.1)]
    have : l = [] := List.eq_nil_of_length_eq_zero (by omega)
    subst this
    exact ⟨Int.le_refl _, Int.le_refl _⟩

theorem has_no_nil (x : Prt) : hasP [] x = false := by unfold hasP hasB hasIn; simp
theorem may_nil : mayB [] = true := by decide
theorem outB_nil (s : Int × Int) : outB s [] = false := rfl
theorem mem_ge {l : List Prt} {x : Prt} (hx : x ∈ l) : ∃ i, i < l.length ∧ ge l i = x := by
  obtain ⟨i, hi, rfl⟩ := List.getElem_of_mem hx
  exact ⟨i, hi, ge_eq hi⟩
theorem mem_in {l : List Prt} (hm : smayB l = true) {x : Prt} (hx : x ∈ l) : POk x ∧ (spanR l).1 ≤ x.seq ∧ endP x ≤ (spanR l).2 := by
  obtain ⟨i, hi, rfl⟩ := mem_ge hx
  exact ⟨(((smay_iff l).1 hm).2 i hi).1, span_in hm hi⟩
/-- all is told to have come -/
theorem heard_all {l : List Prt} (hm : smayB l = true) (h0 : 0 < l.length) : heardR l (spanR l).2 [] = ([], l.filter (fun x => !x.came), 0) := by
  have hb := span_bd hm h0
  rw [heard_ok ⟨hm, may_nil⟩ (by rw [outB_nil]; rintro (h | h | h | h) <;> first | omega | cases h)]
  have e1 : leftL (spanR l).2 [] l = [] := by
    unfold leftL
    rw [List.map_eq_nil_iff, List.filter_eq_nil_iff]
    intro x hx
    have := (mem_in hm hx).2.2
    simp [this]
  have e2 : toldL (spanR l).2 [] l = l.filter (fun x => !x.came) := by
    unfold toldL
    refine List.filter_congr (fun x hx => ?_)
    unfold toldC
    rw [has_no_nil, decide_eq_true (mem_in hm hx).2.2]
    rfl
  rw [e1, e2]
/-- nothing new is told -/
theorem heard_stay {l : List Prt} (hm : smayB l = true) (h0 : 0 < l.length) : heardR l (spanR l).1 [] = (l, [], 0) := by
  have hb := span_bd hm h0
  rw [heard_ok ⟨hm, may_nil⟩ (by rw [outB_nil]; rintro (h | h | h | h) <;> first | omega | cases h)]
  have hd : ∀ x ∈ l, decide (endP x ≤ (spanR l).1) = false := fun x hx => by
    have h := mem_in hm hx
    have := pok_end h.1
    exact decide_eq_false (by omega)
  have e1 : leftL (spanR l).1 [] l = l := by
    unfold leftL
    rw [List.filter_eq_self.2 (fun x hx => by rw [hd x hx]; rfl)]
    have : l.map (comeP []) = l.map id := List.map_congr_left (fun x _ => by unfold comeP; rw [has_no_nil]; rfl)
    rw [this, List.map_id]
  have e2 : toldL (spanR l).1 [] l = [] := by
    unfold toldL
    rw [List.filter_eq_nil_iff]
    intro x hx
    unfold toldC
    rw [has_no_nil, hd x hx]
    simp
  rw [e1, e2]
theorem has_whole {l : List Prt} (hm : smayB l = true) (h0 : 0 < l.length) {x : Prt} (hx : x ∈ l) : hasP [spanR l] x = true := by
  have hb := span_bd hm h0
  have h := mem_in hm hx
  have hp := pok_end h.1
  unfold hasP hasB
  rw [Bool.and_eq_true, Bool.and_eq_true]
  refine ⟨?_, ?_, ?_⟩
  · unfold mayB chain
    simp only [List.length_singleton, Bool.and_eq_true, decide_eq_true_eq]
    refine ⟨by omega, by omega, vld_iff.2 (by omega), rfl⟩
  · exact vld_iff.2 (by omega)
  · unfold hasIn
    simp only [List.any_cons, List.any_nil, Bool.or_false, Bool.and_eq_true, decide_eq_true_eq]
    exact ⟨h.2.1, h.2.2⟩
theorem may_whole {l : List Prt} (hm : smayB l = true) (h0 : 0 < l.length) : mayB [spanR l] = true := by
  have hb := span_bd hm h0
  unfold mayB chain
  simp only [List.length_singleton, Bool.and_eq_true, decide_eq_true_eq]
  exact ⟨by omega, by omega, vld_iff.2 (by omega), rfl⟩
theorem heard_whole {l : List Prt} (hm : smayB l = true) (h0 : 0 < l.length) : ∃ o t, heardR l (spanR l).1 [spanR l] = (o, t, 0) ∧ o.length = l.length ∧ flightR o = 0 := by
  have hb := span_bd hm h0
  refine ⟨leftL (spanR l).1 [spanR l] l, toldL (spanR l).1 [spanR l] l, heard_ok ⟨hm, may_whole hm h0⟩ ?_, ?_, ?_⟩
  · rintro (h | h | h | h)
    · omega
    · omega
    · omega
    · unfold outB outP at h
      simp at h
  · unfold leftL
    rw [List.length_map, List.filter_eq_self.2 (fun x hx => by
      have h := mem_in hm hx
      have := pok_end h.1
      rw [decide_eq_false (by omega)]; rfl)]
  · unfold flightR
    split
    · have : ∀ m : List Prt, (∀ x ∈ m, x ∈ l) → flySum (m.map (comeP [spanR l])) = 0 := by
        intro m
        induction m with
        | nil => intro _; rfl
        | cons p t ih =>
          intro h
          rw [List.map_cons, flySum_cons, ih (fun x hx => h x (List.mem_cons_of_mem _ hx))]
          unfold comeP
          rw [if_pos (has_whole hm h0 (h p (List.mem_cons_self ..)))]
          rfl
      exact this _ (fun x hx => (List.mem_filter.1 hx).1)
    · rfl
/-- one more part -/
theorem send_cases (l : List Prt) (x : Prt) : (∃ e, e ≠ 0 ∧ sendR l x = ([], e)) ∨ (chainB (l ++ [x]) = true ∧ l.length < 500 ∧ sendR l x = (l ++ [x], 0)) := by
  unfold sendR
  split
  · next h =>
    split
    · exact .inl ⟨4, by decide, rfl⟩
    · exact .inr ⟨h.1, by omega, rfl⟩
  · exact .inl ⟨1, by decide, rfl⟩
theorem send_may {l : List Prt} {x : Prt} (h : chainB (l ++ [x]) = true) (hl : l.length < 500) : smayB (l ++ [x]) = true := by unfold smayB; rw [h, List.length_append]; simp; omega
end Go.Proofs.Ytnbamacdcggaeaa
