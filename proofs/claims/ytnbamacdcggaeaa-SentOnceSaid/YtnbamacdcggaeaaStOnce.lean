/- Package sent: what is heard once more. No program. -/
import Derived.Test.YtnbamacdcggaeaaStMath
namespace Go.Proofs.Ytnbamacdcggaeaa
set_option linter.unusedVariables false
set_option linter.unusedSimpArgs false

theorem ge_map {α β : Type} [El α] [El β] (f : α → β) {l : List α} {i : Nat} (h : i < l.length) : ge (l.map f) i = f (ge l i) := by
  rw [ge_eq (by rw [List.length_map]; exact h), List.getElem_map, ge_eq h]
theorem comeP_seq (sk : List Sp) (x : Prt) : (comeP sk x).seq = x.seq ∧ (comeP sk x).len = x.len := by unfold comeP; split <;> exact ⟨rfl, rfl⟩
theorem comeP_end (sk : List Sp) (x : Prt) : endP (comeP sk x) = endP x := by unfold endP; rw [(comeP_seq sk x).1, (comeP_seq sk x).2]
theorem comeP_has (sk sk' : List Sp) (x : Prt) : hasP sk' (comeP sk x) = hasP sk' x := by unfold hasP; rw [comeP_end, (comeP_seq sk x).1]
theorem comeP_ok {sk : List Sp} {x : Prt} (h : POk x) : POk (comeP sk x) := by
  unfold comeP
  split
  · exact ⟨h.seq, h.dsn, h.at_, h.total, h.last, rfl, h.l1, h.l2, h.t1, h.t2⟩
  · exact h
theorem comeP_twice (sk : List Sp) (x : Prt) : comeP sk (comeP sk x) = comeP sk x := by
  by_cases h : hasP sk x = true
  · have e : comeP sk x = cameP x := by unfold comeP; rw [if_pos h]
    have h2 : hasP sk (cameP x) = true := by rw [← e, comeP_has]; exact h
    rw [e]
    unfold comeP
    rw [if_pos h2]
    rfl
  · have e : comeP sk x = x := by unfold comeP; rw [if_neg h]
    rw [e, e]
/-- those that end behind got are the last ones -/
theorem stay_drop (got : Int) : ∀ l : List Prt, (l.Pairwise fun x y => endP x < endP y) → ∃ j, j ≤ l.length ∧ l.filter (fun x => !decide (endP x ≤ got)) = l.drop j := by
  intro l
  induction l with
  | nil => intro _; exact ⟨0, Nat.le_refl _, rfl⟩
  | cons p t ih =>
    intro h
    rw [List.pairwise_cons] at h
    by_cases hp : endP p ≤ got
    · obtain ⟨j, hj, e⟩ := ih h.2
      refine ⟨j + 1, by simpa using hj, ?_⟩
      rw [List.filter_cons, decide_eq_true hp]
      simpa using e
    · refine ⟨0, Nat.zero_le _, ?_⟩
      rw [List.drop_zero, List.filter_eq_self]
      intro x hx
      have : ¬ endP x ≤ got := by
        rcases List.mem_cons.1 hx with e | e
        · rw [e]; exact hp
        · have := h.1 x e; omega
      simp [this]
theorem chain_pw {l : List Prt} (h : ChainTo l l.length) : l.Pairwise fun x y => endP x < endP y := by
  rw [List.pairwise_iff_getElem]
  intro i j hi hj hij
  have h1 := chain_lt h j hj i hij
  have h2 := pok_end (h j hj).1
  rw [← ge_eq hi, ← ge_eq hj]
  omega
theorem left_may {l : List Prt} {got : Int} {sk : List Sp} (hm : smayB l = true) : smayB (leftL got sk l) = true := by
  obtain ⟨h1, h2⟩ := (smay_iff l).1 hm
  rw [smay_iff]
  refine ⟨Nat.le_trans (left_lenP got sk l) h1, ?_⟩
  obtain ⟨j, hj, e⟩ := stay_drop got l (chain_pw h2)
  have hL : leftL got sk l = (l.drop j).map (comeP sk) := by unfold leftL; rw [e]
  rw [hL]
  intro i hi
  rw [List.length_map, List.length_drop] at hi
  have hlen : (l.drop j).length = l.length - j := List.length_drop
  have h3 := h2 (j + i) (by omega)
  refine ⟨by rw [ge_map _ (by omega), ge_drop]; exact comeP_ok h3.1, fun h0 => ?_⟩
  have h4 := h3.2 (by omega)
  rw [ge_map _ (by omega), ge_map _ (by omega), ge_drop, ge_drop, comeP_end, (comeP_seq _ _).1]
  rw [show j + (i - 1) = j + i - 1 by omega]
  exact h4
/-- what the told ones had in flight -/
def tellSum (t : List Prt) : Int := t.foldl (fun n x => if (!x.lost) = true then n + x.len else n) 0
theorem tellSum_snoc (t : List Prt) (x : Prt) : tellSum (t ++ [x]) = if (!x.lost) = true then tellSum t + x.len else tellSum t := by unfold tellSum; rw [List.foldl_append]; rfl
theorem left_fly (got : Int) (sk : List Sp) (l : List Prt) : ∀ k, k ≤ l.length → flySum (leftL got sk (l.take k)) = flySum (l.take k) - tellSum (toldL got sk (l.take k)) := by
  intro k
  induction k with
  | zero => intro _; rfl
  | succ k ih =>
    intro hk
    have h := ih (by omega)
    rw [take_ge (by omega), leftL_snoc, toldL_snoc, flySum_snoc]
    obtain ⟨p, hp⟩ : ∃ p, ge l k = p := ⟨_, rfl⟩
    rw [hp]
    by_cases he : endP p ≤ got
    · rw [if_pos he, List.append_nil, h]
      cases hc : p.came with
      | true =>
        have ht : toldC got sk p = false := by unfold toldC; rw [hc]; simp
        rw [ht, if_neg (by simp), List.append_nil]
        unfold flyL
        rw [hc]
        simp
      | false =>
        have ht : toldC got sk p = true := by unfold toldC; rw [hc, decide_eq_true he]; simp
        rw [ht, if_pos rfl, tellSum_snoc]
        unfold flyL
        rw [hc]
        cases hl : p.lost <;> simp <;> omega
    · rw [if_neg he, flySum_snoc, h]
      by_cases hh : hasP sk p = true
      · have hcm : flyL (comeP sk p) = 0 := by unfold comeP; rw [if_pos hh]; rfl
        rw [hcm]
        cases hc : p.came with
        | true =>
          have ht : toldC got sk p = false := by unfold toldC; rw [hc]; simp
          rw [ht, if_neg (by simp), List.append_nil]
          unfold flyL
          rw [hc]
          simp
        | false =>
          have ht : toldC got sk p = true := by unfold toldC; rw [hc, hh]; simp
          rw [ht, if_pos rfl, tellSum_snoc]
          unfold flyL
          rw [hc]
          cases hl : p.lost <;> simp <;> omega
      · have hh' : hasP sk p = false := by simpa using hh
        have hcm : comeP sk p = p := by unfold comeP; rw [if_neg hh]
        have ht : toldC got sk p = false := by unfold toldC; rw [hh', decide_eq_false he]; rfl
        rw [hcm, ht, if_neg (by simp), List.append_nil]
        omega
theorem heard_once {l : List Prt} {got : Int} {sk : List Sp} {m t : List Prt} (h : heardR l got sk = (m, t, 0)) :
    smayB l = true ∧ mayB sk = true ∧ m = leftL got sk l ∧ t = toldL got sk l := by
  by_cases k : smayB l = true ∧ mayB sk = true
  case neg => rw [heard_no k] at h; cases h
  by_cases j : l.length = 0 ∨ got < (spanR l).1 ∨ (spanR l).2 < got ∨ outB (spanR l) sk = true
  · rw [heard_none k j] at h; cases h
  · rw [heard_ok k j] at h
    cases h
    exact ⟨k.1, k.2, rfl, rfl⟩
theorem heard_bad {l : List Prt} {got : Int} {sk : List Sp} {m t : List Prt} {e : Int} (h : heardR l got sk = (m, t, e)) (he : e ≠ 0) : m = [] ∧ t = [] := by
  by_cases k : smayB l = true ∧ mayB sk = true
  case neg => rw [heard_no k] at h; cases h; exact ⟨rfl, rfl⟩
  by_cases j : l.length = 0 ∨ got < (spanR l).1 ∨ (spanR l).2 < got ∨ outB (spanR l) sk = true
  · rw [heard_none k j] at h; cases h; exact ⟨rfl, rfl⟩
  · rw [heard_ok k j] at h
    cases h
    exact absurd rfl he
/-- heard again nothing more is told -/
theorem heard_again {l : List Prt} {got : Int} {sk : List Sp} (hm : smayB l = true) (hk : mayB sk = true) : heardR (leftL got sk l) got sk = ([], [], 3) ∨ heardR (leftL got sk l) got sk = (leftL got sk l, [], 0) := by
  by_cases j : (leftL got sk l).length = 0 ∨ got < (spanR (leftL got sk l)).1 ∨ (spanR (leftL got sk l)).2 < got ∨ outB (spanR (leftL got sk l)) sk = true
  · exact .inl (heard_none ⟨left_may hm, hk⟩ j)
  · refine .inr ?_
    rw [heard_ok ⟨left_may hm, hk⟩ j]
    have e0 : ∀ y ∈ leftL got sk l, ∃ x, y = comeP sk x ∧ ¬ endP x ≤ got := fun y hy => by
      unfold leftL at hy
      obtain ⟨x, hx, rfl⟩ := List.mem_map.1 hy
      have := (List.mem_filter.1 hx).2
      exact ⟨x, rfl, by simpa using this⟩
    have e1 : leftL got sk (leftL got sk l) = leftL got sk l := by
      show ((leftL got sk l).filter fun x => !decide (endP x ≤ got)).map (comeP sk) = leftL got sk l
      rw [List.filter_eq_self.2 (fun y hy => by
        obtain ⟨x, rfl, hx⟩ := e0 y hy
        rw [comeP_end, decide_eq_false hx]; rfl)]
      have : (leftL got sk l).map (comeP sk) = (leftL got sk l).map id := List.map_congr_left (fun y hy => by
        obtain ⟨x, rfl, hx⟩ := e0 y hy
        exact comeP_twice sk x)
      rw [this, List.map_id]
    have e2 : toldL got sk (leftL got sk l) = [] := by
      show (leftL got sk l).filter (toldC got sk) = []
      rw [List.filter_eq_nil_iff]
      intro y hy
      obtain ⟨x, rfl, hx⟩ := e0 y hy
      unfold toldC
      rw [comeP_has, comeP_end, decide_eq_false hx, Bool.or_false]
      by_cases hh : hasP sk x = true
      · unfold comeP; rw [if_pos hh]; simp [cameP]
      · have : hasP sk x = false := by simpa using hh
        rw [this]; simp
    rw [e1, e2]
theorem told_mem {l : List Prt} {got : Int} {sk : List Sp} (hm : smayB l = true) {i : Nat} (hi : i < (toldL got sk l).length) : (ge (toldL got sk l) i).came = false ∧ POk (ge (toldL got sk l) i) := by
  have h := ge_mem hi
  have h2 := List.mem_filter.1 (show ge (toldL got sk l) i ∈ l.filter (toldC got sk) from h)
  refine ⟨?_, (mem_in hm h2.1).1⟩
  have h3 := h2.2
  unfold toldC at h3
  simp only [Bool.and_eq_true, Bool.not_eq_true'] at h3
  exact h3.2
theorem tellSum_bd {t : List Prt} (h : ∀ i, i < t.length → POk (ge t i)) : ∀ k, k ≤ t.length → 0 ≤ tellSum (t.take k) ∧ tellSum (t.take k) ≤ 1460 * (k : Int) := by
  intro k
  induction k with
  | zero => intro _; exact ⟨by simp [tellSum], by simp [tellSum]⟩
  | succ k ih =>
    intro hk
    have h1 := ih (by omega)
    have h2 := (h k (by omega)).l1
    have h3 := (h k (by omega)).l2
    rw [take_ge (by omega), tellSum_snoc]
    push_cast
    split <;> omega
end Go.Proofs.Ytnbamacdcggaeaa
