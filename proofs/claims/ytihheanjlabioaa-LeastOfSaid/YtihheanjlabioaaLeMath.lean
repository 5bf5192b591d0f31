/- Package least: what the laws ask of the answers. No program. -/
import Derived.Test.YtihheanjlabioaaLe
namespace Go.Proofs.Ytihheanjlabioaa
set_option linter.unusedVariables false
set_option linter.unusedSimpArgs false

theorem first_spec {l : List Sp} {f : Sp → Bool} (h : l.Pairwise Rel) {p : Sp} (hf : l.find? f = some p) : p ∈ l ∧ f p = true ∧ ∀ q, q ∈ l → f q = true → p.2 ≤ q.2 := by
  induction l with
  | nil => simp at hf
  | cons a t ih =>
    rw [List.pairwise_cons] at h
    rw [List.find?_cons] at hf
    cases ha : f a with
    | true =>
      rw [ha] at hf
      cases hf
      refine ⟨by simp, ha, fun q hq _ => ?_⟩
      rcases List.mem_cons.1 hq with e | e
      · subst e; exact Int.le_refl _
      · exact Int.le_of_lt (h.1 q e).2
    | false =>
      rw [ha] at hf
      have := ih h.2 hf
      refine ⟨by simp [this.1], this.2.1, fun q hq hfq => ?_⟩
      rcases List.mem_cons.1 hq with e | e
      · subst e; rw [ha] at hfq; cases hfq
      · exact this.2.2 q e hfq
theorem none_spec {l : List Sp} {f : Sp → Bool} (hf : l.find? f = none) {q : Sp} (hq : q ∈ l) : f q = false := by
  rw [List.find?_eq_none] at hf
  have := hf q hq
  simpa using this
theorem cnt_iff (span a : Int) (p : Sp) : cnt span a p = true ↔ a - p.1 ≤ span := by unfold cnt; exact decide_eq_true_iff
theorem cnt_iff' (span a : Int) (p : Sp) : cnt span a p = false ↔ span < a - p.1 := by
  unfold cnt; rw [decide_eq_false_iff_not]; omega
theorem lok_pw {v : Lv} (h : Lok v) : v.l.Pairwise Rel := ((pts_iff v.l).1 h.pts).2
/-- what Of says: the least number of those that count, or that there is none -/
theorem of_spec {v : Lv} (h : Lok v) {a : Int} (h0 : 0 ≤ a) (h1 : a ≤ 1152921504606846976) :
    ((ofR v a).2 = true → ∃ p ∈ v.l, cnt v.span a p = true ∧ (ofR v a).1 = p.2 ∧ ∀ q, q ∈ v.l → cnt v.span a q = true → p.2 ≤ q.2) ∧ ((ofR v a).2 = false → ofR v a = (0, false) ∧ ∀ q, q ∈ v.l → cnt v.span a q = false) := by
  unfold ofR
  rw [if_pos ⟨(lmay_iff v).2 h, h0, h1⟩]
  cases hf : v.l.find? (cnt v.span a) with
  | none =>
    refine ⟨(fun hx => by cases hx), fun _ => ⟨rfl, fun q hq => none_spec hf hq⟩⟩
  | some p =>
    have := first_spec (lok_pw h) hf
    exact ⟨fun _ => ⟨p, this.1, this.2.1, rfl, this.2.2⟩, (fun hx => by cases hx)⟩
/-- later it is no less -/
theorem of_later {v : Lv} (h : Lok v) {a m : Int} (h0 : 0 ≤ a) (hm : 0 ≤ m) (h1 : a + m ≤ 1152921504606846976) (hy : (ofR v (a + m)).2 = true) : (ofR v a).2 = true ∧ (ofR v a).1 ≤ (ofR v (a + m)).1 := by
  obtain ⟨p, hp, hc, he, _⟩ := (of_spec h (by omega) h1).1 hy
  rw [cnt_iff] at hc
  have hc2 : cnt v.span a p = true := by rw [cnt_iff]; omega
  have ho := of_spec h h0 (by omega)
  cases hx : (ofR v a).2 with
  | false => have := (ho.2 hx).2 p hp; rw [hc2] at this; cases this
  | true =>
    obtain ⟨q, hq, hcq, heq, hall⟩ := ho.1 hx
    refine ⟨rfl, ?_⟩
    rw [heq, he]
    exact hall p hp hc2
/-- a list's first one that counts, where all count -/
theorem find_head {f : Sp → Bool} {p : Sp} {t : List Sp} (h : f p = true) : (p :: t).find? f = some p := by rw [List.find?_cons, h]
theorem own_all {v : Lv} {a n : Int} (h : Lok v) {p : Sp} (hp : p ∈ ownR (leftR v a n) a n) : cnt v.span a p = true := by
  have hs := h.s0
  unfold ownR at hp
  split at hp
  · rcases List.mem_append.1 hp with hp | hp
    · rw [cnt_iff]; exact (left_mem hp).2.1
    · simp at hp; subst hp; rw [cnt_iff]; show a - a ≤ v.span; omega
  · rw [cnt_iff]; exact (left_mem hp).2.1
theorem own_ne (l : List Sp) (a n : Int) : ∃ p t, ownR l a n = p :: t ∧ (l = [] → p = (a, n) ∧ t = []) ∧ (l ≠ [] → ∃ t', l = p :: t') := by
  unfold ownR
  cases l with
  | nil => exact ⟨(a, n), [], by simp, fun _ => ⟨rfl, rfl⟩, fun h => absurd rfl h⟩
  | cons p t =>
    split
    · exact ⟨p, t ++ [(a, n)], rfl, (fun h => by cases h), fun _ => ⟨t, rfl⟩⟩
    · exact ⟨p, t, rfl, (fun h => by cases h), fun _ => ⟨t, rfl⟩⟩
/-- what is met is told, if it is less -/
theorem met_of {v : Lv} {a n : Int} (h : MetOk v a n) :
    (ofR (metR v a n).1 a).2 = true ∧ (ofR (metR v a n).1 a).1 ≤ n ∧ ((metR v a n).2.1 = true ∨ (ofR v a).2 = false ∨ (ofR (metR v a n).1 a).1 ≤ (ofR v a).1) ∧ ((metR v a n).2.1 = true ∨ (ofR v a).2 = true ∨ (ofR (metR v a n).1 a).1 = n) := by
  have hv := (lmay_iff v).1 h.1
  have hm := (met_valid h).1
  have h0 := h
  obtain ⟨_, a0, a1, _, _, _⟩ := h0
  have hspan := hv.s0
  by_cases k : highR v a n = 8
  · have e := met_turn h k
    have ho : ofR (metR v a n).1 a = (n, true) := by
      rw [e] at hm ⊢
      unfold ofR
      rw [if_pos ⟨(lmay_iff _).2 hm, a0, a1⟩, find_head (by rw [cnt_iff]; show a - a ≤ v.span; omega)]
      rfl
    rw [ho, e]
    exact ⟨rfl, Int.le_refl _, .inl rfl, .inl rfl⟩
  · have e := met_ok h k
    obtain ⟨p, t, hpt, hnil, hne⟩ := own_ne (leftR v a n) a n
    have hcp : cnt v.span a p = true := own_all hv (by rw [hpt]; simp)
    have ho : ofR (metR v a n).1 a = (p.2, true) := by
      rw [e] at hm ⊢
      unfold ofR
      rw [if_pos ⟨(lmay_iff _).2 hm, a0, a1⟩]
      show fst2 ((ownR (leftR v a n) a n).find? (cnt v.span a)) = _
      rw [hpt, find_head hcp]
      rfl
    rw [ho, e]
    have hof := of_spec hv a0 a1
    by_cases hl : leftR v a n = []
    · obtain ⟨rfl, rfl⟩ := hnil hl
      refine ⟨rfl, Int.le_refl _, .inr ?_, .inr (.inr rfl)⟩
      cases hx : (ofR v a).2 with
      | false => exact .inl rfl
      | true =>
        right
        obtain ⟨q, hq, hcq, heq, _⟩ := hof.1 hx
        rw [heq]
        rcases Int.lt_or_le q.2 n with hlt | hle
        · have : q ∈ leftR v a n := List.mem_filter.2 ⟨hq, by unfold stay; rw [hcq, decide_eq_true hlt]; rfl⟩
          rw [hl] at this; cases this
        · exact hle
    · obtain ⟨t', ht'⟩ := hne hl
      have hp : p ∈ leftR v a n := by rw [ht']; simp
      have hmem := left_mem hp
      refine ⟨rfl, Int.le_of_lt hmem.2.2, .inr ?_, .inr (.inl ?_)⟩
      · cases hx : (ofR v a).2 with
        | false => exact .inl rfl
        | true =>
          right
          obtain ⟨q, hq, hcq, heq, hall⟩ := hof.1 hx
          have hqp := hall p hmem.1 hcp
          rw [heq]
          -- q counts and is less than n: it is in left, behind p
          have hq2 : q ∈ leftR v a n := List.mem_filter.2 ⟨hq, by unfold stay; rw [hcq, decide_eq_true (by have := hmem.2.2; omega)]; rfl⟩
          have hpw := (left_pw (a := a) (n := n) hv).2
          rw [ht'] at hpw hq2
          rcases List.mem_cons.1 hq2 with e2 | e2
          · subst e2; exact Int.le_refl _
          · exact Int.le_of_lt ((List.pairwise_cons.1 hpw).1 q e2).2
      · cases hx : (ofR v a).2 with
        | false => have := (hof.2 hx).2 p hmem.1; rw [hcp] at this; cases this
        | true => rfl
theorem far_turn {v : Lv} {a n : Int} (h : Lok v) (k : highR v a n = 8) : farB v a n = true ∧ v.high = 7 := by
  have := h.h1
  unfold highR at k
  split at k
  · next hf => exact ⟨hf, by omega⟩
  · omega

/-! a series of numbers that are met -/
/-- what is known of the numbers R, the last one at a -/
structure Ser (v : Lv) (R : List Sp) (a : Int) : Prop where
  ok : Lok v
  sub : ∀ p ∈ v.l, p ∈ R
  dom : ∀ r ∈ R, cnt v.span a r = true → ∃ p ∈ v.l, r.1 ≤ p.1 ∧ p.2 ≤ r.2
  late : ∀ r ∈ R, r.1 ≤ a
  len : v.l.length ≤ R.length
theorem ser_nil {v : Lv} (h : Lok v) (hl : v.l = []) : Ser v [] 0 := ⟨h, (fun p hp => by rw [hl] at hp; cases hp), (fun r hr => by cases hr), (fun r hr => by cases hr), by rw [hl]; simp⟩
theorem ser_turn {v : Lv} {a n : Int} (h : MetOk v a n) (k : highR v a n = 8) : Ser (metR v a n).1 [(a, n)] a := by
  have hm := (met_valid h).1
  rw [met_turn h k] at hm ⊢
  exact ⟨hm, fun p hp => hp, fun r hr _ => ⟨r, hr, Int.le_refl _, Int.le_refl _⟩, fun r hr => by simp at hr; subst hr; exact Int.le_refl _, by simp⟩
theorem ser_ok {v : Lv} {R : List Sp} {a0 a n : Int} (s : Ser v R a0) (h : MetOk v a n) (k : ¬ highR v a n = 8) (hR : R.length < 100) (ha : a0 ≤ a) : Ser (metR v a n).1 (R ++ [(a, n)]) a := by
  have hm := (met_valid h).1
  rw [met_ok h k] at hm ⊢
  have hlen : (leftR v a n).length < 100 := Nat.lt_of_le_of_lt (Nat.le_trans (left_len v a n) s.len) hR
  have ho : ownR (leftR v a n) a n = leftR v a n ++ [(a, n)] := if_pos hlen
  rw [ho] at hm ⊢
  refine ⟨hm, fun p hp => ?_, fun r hr hc => ?_, fun r hr => ?_, ?_⟩
  · rcases List.mem_append.1 hp with hp | hp
    · exact List.mem_append.2 (.inl (s.sub p (left_mem hp).1))
    · exact List.mem_append.2 (.inr hp)
  · rcases List.mem_append.1 hr with hr | hr
    · rw [cnt_iff] at hc
      dsimp only at hc
      obtain ⟨p, hp, h1, h2⟩ := s.dom r hr (by rw [cnt_iff]; omega)
      rcases Int.lt_or_le p.2 n with hlt | hle
      · refine ⟨p, List.mem_append.2 (.inl (List.mem_filter.2 ⟨hp, ?_⟩)), h1, h2⟩
        unfold stay
        rw [(cnt_iff v.span a p).2 (by omega), decide_eq_true hlt]
        rfl
      · exact ⟨(a, n), by simp, Int.le_trans (s.late r hr) ha, Int.le_trans hle h2⟩
    · simp at hr; subst hr
      exact ⟨(a, n), by simp, Int.le_refl _, Int.le_refl _⟩
  · rcases List.mem_append.1 hr with hr | hr
    · exact Int.le_trans (s.late r hr) ha
    · simp at hr; subst hr; exact Int.le_refl _
  · have := left_len v a n
    have := s.len
    rw [List.length_append, List.length_append]
    simp; omega
/-- what Of says of a series: the least number of those that count -/
theorem ser_of {v : Lv} {R : List Sp} {a : Int} (s : Ser v R a) (h0 : 0 ≤ a) (h1 : a ≤ 1152921504606846976) {m : Int} (hm : ∃ r ∈ R, cnt v.span a r = true ∧ r.2 = m) (hall : ∀ r ∈ R, cnt v.span a r = true → m ≤ r.2) : ofR v a = (m, true) := by
  obtain ⟨r, hr, hc, rfl⟩ := hm
  have ho := of_spec s.ok h0 h1
  obtain ⟨p, hp, g1, g2⟩ := s.dom r hr hc
  have hcp : cnt v.span a p = true := by rw [cnt_iff] at hc ⊢; omega
  cases hx : (ofR v a).2 with
  | false => have := (ho.2 hx).2 p hp; rw [hcp] at this; cases this
  | true =>
    obtain ⟨q, hq, hcq, heq, hmin⟩ := ho.1 hx
    have h2 := hall q (s.sub q hq) hcq
    have h3 := hmin p hp hcp
    have : (ofR v a).1 = r.2 := by rw [heq]; omega
    rw [← this, ← hx]
end Go.Proofs.Ytihheanjlabioaa
