/- Package rack: what follows from the answers, as the laws ask it. No program. -/
import Derived.Test.YtlanplobdgchaaaRk
namespace Go.Proofs.Ytlanplobdgchaaa
set_option linter.unusedVariables false
set_option linter.unusedSimpArgs false
section
variable {v : Rkv} {x : Prt} {l : List Prt} {now slack more a b : Int} {k : Nat}

/-! slack -/
theorem moreQ_bd {q : Int} (h0 : 0 ≤ q) (h1 : q ≤ 20) : q ≤ moreQ q ∧ moreQ q ≤ 20 := by unfold moreQ; split <;> omega
theorem slackN_bd {q l : Int} (q0 : 0 ≤ q) (q1 : q ≤ 20) (l0 : 0 ≤ l) : 0 ≤ slackN q l := by
  have h0 : 0 ≤ (q + 1) * l := Int.mul_nonneg (by omega) l0
  unfold slackN; omega
theorem slackN_mono {q p l : Int} (h : q ≤ p) (l0 : 0 ≤ l) : slackN q l ≤ slackN p l := by
  have h0 : (q + 1) * l ≤ (p + 1) * l := Int.mul_le_mul_of_nonneg_right (by omega) l0
  unfold slackN; omega
theorem slack_bd (hb : 0 ≤ b) : 0 ≤ slackR v a b ∧ slackR v a b ≤ b := by
  unfold slackR
  split
  · next h =>
    have hv := (rkmay_iff v).1 h.1
    have ha := (brief_iff a).1 h.2.2.1
    have := slackN_bd hv.q0 hv.q1 ha.1
    split <;> omega
  · omega
theorem twice_may (h : rkmay v = true) : rkmay ⟨v.at_, v.end_, v.took, v.far, v.mixed, moreQ v.quarters⟩ = true := by
  have hv := (rkmay_iff v).1 h
  have := moreQ_bd hv.q0 hv.q1
  exact (rkmay_iff _).2 ⟨hv.a0, hv.a1, hv.k0, hv.k1, hv.e0, hv.f0, hv.e1, hv.f1, by have := hv.q0; dsimp only; omega, by dsimp only; omega⟩
theorem slack_more (h : rkmay v = true) : slackR v a b ≤ slackR ⟨v.at_, v.end_, v.took, v.far, v.mixed, moreQ v.quarters⟩ a b := by
  unfold slackR
  by_cases hk : SlackOk v a b
  · have hv := (rkmay_iff v).1 h
    have ha := (brief_iff a).1 hk.2.2.1
    have hq := moreQ_bd hv.q0 hv.q1
    have hm := slackN_mono (l := a) hq.1 ha.1
    rw [if_pos hk, if_pos (show SlackOk ⟨v.at_, v.end_, v.took, v.far, v.mixed, moreQ v.quarters⟩ a b from ⟨twice_may h, hk.2⟩)]
    dsimp only
    split <;> split <;> omega
  · rw [if_neg hk, if_neg (show ¬ SlackOk ⟨v.at_, v.end_, v.took, v.far, v.mixed, moreQ v.quarters⟩ a b from fun g => hk ⟨h, g.2⟩)]
    exact Int.le_refl _
theorem slack_mix (h : v.mixed = false) : slackR v a b = 0 := by
  unfold slackR; rw [if_neg (fun g => by have := g.2.1; rw [h] at this; cases this)]
theorem slack_none : slackR v a 0 = 0 := by have := slack_bd (v := v) (a := a) (b := 0) (Int.le_refl _); omega
theorem slack_top (h : rkmay v = true) (hm : v.mixed = true) (a0 : 0 ≤ a) (a1 : a ≤ 1073741824) : slackR v a 1099511627776 = (v.quarters + 1) * a / 4 := by
  have hv := (rkmay_iff v).1 h
  have h1 : (v.quarters + 1) * a ≤ 21 * 1073741824 := Int.mul_le_mul (by have := hv.q1; omega) a1 a0 (by omega)
  unfold slackR
  rw [if_pos ⟨h, hm, (brief_iff a).2 ⟨a0, by omega⟩, (brief_iff _).2 ⟨by omega, by omega⟩⟩]
  unfold slackN
  rw [if_neg (by omega)]

/-! lost -/
theorem late_facts (h : lateB v now slack x = true) : x.came = false ∧ x.lost = false ∧ x.at_ ≤ v.at_ ∧ dueR v slack x ≤ now := by
  unfold lateB seenB at h
  simp only [Bool.and_eq_true, Bool.not_eq_true', decide_eq_true_eq] at h
  obtain ⟨⟨⟨h1, h2⟩, h3⟩, h4⟩ := h
  have := (ahead_iff _ _ _ _).1 h3
  exact ⟨h1, h2, by omega, h4⟩
theorem lostP_late (h : lateB v now slack x = true) : lostP v now slack x = { x with lost := true } := if_pos h
theorem lostP_not (h : lateB v now slack x = false) : lostP v now slack x = x := by unfold lostP; rw [h]; rfl
theorem lostP_ne (h : lateB v now slack x = true) : lostP v now slack x ≠ x := by
  rw [lostP_late h]
  intro e
  have := congrArg Prt.lost e
  rw [(late_facts h).2.1] at this
  cases this
theorem lostP_ok (h : POk x) : POk (lostP v now slack x) := by
  cases hl : lateB v now slack x with
  | false => rw [lostP_not hl]; exact h
  | true =>
    rw [lostP_late hl]
    exact ⟨h.seq, h.dsn, h.at_, h.total, h.last, by show (x.came && true) = false; rw [(late_facts hl).1]; rfl, h.l1, h.l2, h.t1, h.t2⟩
theorem lostP_seq : (lostP v now slack x).seq = x.seq := by unfold lostP; split <;> rfl
theorem lostP_end : endP (lostP v now slack x) = endP x := by unfold lostP endP; split <;> rfl
theorem lostP_fly : flyL (lostP v now slack x) ≤ flyL x ∨ x.len < 0 := by
  cases hl : lateB v now slack x with
  | false => rw [lostP_not hl]; exact .inl (Int.le_refl _)
  | true =>
    rw [lostP_late hl]
    have := late_facts hl
    unfold flyL
    rw [this.1, this.2.1]
    show (if (!false && !true) = true then x.len else 0) ≤ (if (!false && !false) = true then x.len else 0) ∨ _
    simp only [Bool.not_true, Bool.not_false, Bool.and_false, Bool.and_self, if_true]
    rw [if_neg (by simp)]
    omega
theorem lost_may (h : smayB l = true) : smayB (lostL v now slack l) = true := by
  obtain ⟨h1, h2⟩ := (smay_iff l).1 h
  refine (smay_iff _).2 ⟨by rw [lostL_len]; exact h1, ?_⟩
  intro i hi
  rw [lostL_len] at hi
  obtain ⟨a, b⟩ := h2 i hi
  refine ⟨by rw [lostL_ge _ _ _ _ hi]; exact lostP_ok a, fun h0 => ?_⟩
  rw [lostL_ge _ _ _ _ hi, lostL_ge _ _ _ _ (by omega : i - 1 < l.length), lostP_seq, lostP_end]
  exact b h0
theorem flySum_cons (x : Prt) (l : List Prt) : flySum (x :: l) = flyL x + flySum l := by
  suffices hh : ∀ (l : List Prt) (n : Int), l.foldl (fun n x => n + flyL x) n = n + flySum l by
    unfold flySum; rw [List.foldl_cons, hh l (0 + flyL x)]; unfold flySum; omega
  intro l
  induction l with
  | nil => intro n; simp [flySum]
  | cons y t ih => intro n; unfold flySum; rw [List.foldl_cons, List.foldl_cons, ih, ih (0 + flyL y)]; omega
theorem lost_fly (h : ∀ x ∈ l, 0 ≤ x.len) : flySum (lostL v now slack l) ≤ flySum l := by
  induction l with
  | nil => exact Int.le_refl _
  | cons y t ih =>
    have e : lostL v now slack (y :: t) = lostP v now slack y :: lostL v now slack t := rfl
    rw [e, flySum_cons, flySum_cons]
    have h1 := ih (fun x hx => h x (by simp [hx]))
    have h2 := h y (by simp)
    rcases lostP_fly (v := v) (x := y) (now := now) (slack := slack) with h3 | h3 <;> omega
theorem part_mem (h : smayB l = true) {x : Prt} (hx : x ∈ l) : POk x := by
  obtain ⟨i, hi, rfl⟩ := List.getElem_of_mem hx
  have := (((smay_iff l).1 h).2 i hi).1
  rwa [ge_eq hi] at this
theorem lost_flight (h : smayB l = true) : flightR (lostL v now slack l) ≤ flightR l := by
  unfold flightR
  rw [if_pos h, if_pos (lost_may h)]
  exact lost_fly (fun x hx => by have := (part_mem h hx).l1; omega)
/-! how many -/
theorem lostN_cons (x : Prt) (l : List Prt) : lostN v now slack (x :: l) = (if lateB v now slack x = true then 1 else 0) + lostN v now slack l := by
  suffices hh : ∀ (l : List Prt) (n : Int), l.foldl (fun n x => if lateB v now slack x = true then n + 1 else n) n = n + lostN v now slack l by
    unfold lostN; rw [List.foldl_cons, hh l]; unfold lostN; split <;> omega
  intro l
  induction l with
  | nil => intro n; simp [lostN]
  | cons y t ih =>
    intro n
    unfold lostN
    rw [List.foldl_cons, List.foldl_cons, ih, ih (if lateB v now slack y = true then 0 + 1 else 0)]
    split <;> omega
theorem lostN_le {now' slack' : Int} (h : ∀ x ∈ l, lateB v now slack x = true → lateB v now' slack' x = true) : lostN v now slack l ≤ lostN v now' slack' l := by
  induction l with
  | nil => exact Int.le_refl _
  | cons y t ih =>
    rw [lostN_cons, lostN_cons]
    have h1 := ih (fun x hx => h x (by simp [hx]))
    have h2 := h y (by simp)
    by_cases c : lateB v now slack y = true
    · rw [if_pos c, if_pos (h2 c)]; omega
    · rw [if_neg c]; split <;> omega
theorem lostN_pos {x : Prt} (hx : x ∈ l) (h : lateB v now slack x = true) : 1 ≤ lostN v now slack l := by
  have hn : ∀ t : List Prt, 0 ≤ lostN v now slack t := fun t => by
    induction t with
    | nil => exact Int.le_refl _
    | cons y t ih => rw [lostN_cons]; split <;> omega
  induction l with
  | nil => cases hx
  | cons y t ih =>
    rw [lostN_cons]
    have := hn t
    rcases List.mem_cons.1 hx with e | hx
    · subst e; rw [if_pos h]; omega
    · have := ih hx; split <;> omega
theorem lostN_zero (h : ∀ x ∈ l, lateB v now slack x = false) : lostN v now slack l = 0 := by
  induction l with
  | nil => rfl
  | cons y t ih => rw [lostN_cons, h y (by simp), ih (fun x hx => h x (by simp [hx]))]; rfl
theorem late_later (hm : 0 ≤ more) (h : lateB v now slack x = true) : lateB v (now + more) slack x = true := by
  unfold lateB at h ⊢
  rw [Bool.and_eq_true, decide_eq_true_eq] at h ⊢
  exact ⟨h.1, by omega⟩
theorem late_less (hm : 0 ≤ more) (h : lateB v now (slack + more) x = true) : lateB v now slack x = true := by
  unfold lateB dueR at h ⊢
  rw [Bool.and_eq_true, decide_eq_true_eq] at h ⊢
  exact ⟨h.1, by omega⟩
theorem late_nothing (hx : POk x) (ha : v.at_ = 0) (he : v.end_ = 0) : lateB v now slack x = false := by
  cases h : lateB v now slack x with
  | false => rfl
  | true =>
    unfold lateB seenB at h
    simp only [Bool.and_eq_true] at h
    have h3 := (ahead_iff _ _ _ _).1 h.1.2
    have h1 := (t60_iff x.at_).1 hx.at_
    have h2 := (t60_iff x.seq).1 hx.seq
    have h4 := hx.l1
    rw [ha, he] at h3
    unfold endP at h3
    omega
theorem lostP_flag : (lostP v now slack x).lost = (x.lost || lateB v now slack x) := by
  cases hl : lateB v now slack x with
  | false => rw [lostP_not hl, Bool.or_false]
  | true => rw [lostP_late hl, Bool.or_true]
/-! when next -/
theorem next_facts (hv : rkmay v = true) (hl : smayB l = true) (hn : 0 ≤ now) (hs : 0 ≤ slack) : nextN v now slack l = 0 ∨ (now < nextN v now slack l ∧ ∃ x ∈ l, waitB v now slack x = true ∧ dueR v slack x = nextN v now slack l) := by
  have hw : ∀ x, waitB v now slack x = true → now < dueR v slack x := fun x h => by
    unfold waitB at h
    simp only [Bool.and_eq_true, Bool.not_eq_true', decide_eq_false_iff_not] at h
    omega
  suffices hh : ∀ (t : List Prt) (n : Int), (n = 0 ∨ now < n) → (t.foldl (fun n x => if waitB v now slack x = true then nextStep n (dueR v slack x) else n) n = n ∨ (now < t.foldl (fun n x => if waitB v now slack x = true then nextStep n (dueR v slack x) else n) n ∧ ∃ x ∈ t, waitB v now slack x = true ∧ dueR v slack x = t.foldl (fun n x => if waitB v now slack x = true then nextStep n (dueR v slack x) else n) n)) by
    exact hh l 0 (.inl rfl)
  intro t
  induction t with
  | nil => intro n _; exact .inl rfl
  | cons y t ih =>
    intro n h0
    rw [List.foldl_cons]
    by_cases c : waitB v now slack y = true
    · rw [if_pos c]
      have hy := hw y c
      by_cases e : n = 0 ∨ dueR v slack y < n
      · have es : nextStep n (dueR v slack y) = dueR v slack y := if_pos e
        rw [es]
        rcases ih (dueR v slack y) (.inr hy) with h | ⟨h1, x, hx, h2, h3⟩
        · rw [h]; exact .inr ⟨hy, y, by simp, c, rfl⟩
        · exact .inr ⟨h1, x, by simp [hx], h2, h3⟩
      · have es : nextStep n (dueR v slack y) = n := if_neg e
        rw [es]
        rcases ih n h0 with h | ⟨h1, x, hx, h2, h3⟩
        · exact .inl h
        · exact .inr ⟨h1, x, by simp [hx], h2, h3⟩
    · rw [if_neg c]
      rcases ih n h0 with h | ⟨h1, x, hx, h2, h3⟩
      · exact .inl h
      · exact .inr ⟨h1, x, by simp [hx], h2, h3⟩
theorem next_lost (hv : rkmay v = true) (hl : smayB l = true) (hn : 0 ≤ now) (hs : 0 ≤ slack) (h : nextN v now slack l ≠ 0) : now < nextN v now slack l ∧ 1 ≤ lostN v (nextN v now slack l) slack (lostL v now slack l) := by
  rcases next_facts hv hl hn hs with h0 | ⟨h1, x, hx, h2, h3⟩
  · exact absurd h0 h
  refine ⟨h1, ?_⟩
  have hl0 : lateB v now slack x = false := by
    unfold waitB at h2; unfold lateB
    simp only [Bool.and_eq_true, Bool.not_eq_true'] at h2
    rw [h2.1, h2.2]; rfl
  have hm : x ∈ lostL v now slack l := by
    unfold lostL
    exact List.mem_map.2 ⟨x, hx, lostP_not hl0⟩
  refine lostN_pos hm ?_
  unfold waitB at h2; unfold lateB
  simp only [Bool.and_eq_true] at h2 ⊢
  exact ⟨h2.1, decide_eq_true (by omega)⟩
end
end Go.Proofs.Ytlanplobdgchaaa
