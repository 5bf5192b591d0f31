/- Package least: windowed minima, when they are valid, and what the answers are. No program. -/
import Derived.Test.YtihheanjlabioaaSp
import Derived.WalkKit
namespace Go.Proofs.Ytihheanjlabioaa
set_option linter.unusedVariables false
set_option linter.unusedSimpArgs false

/-- a windowed minimum -/
structure Lv where
  span : Int
  l : List Sp
  high : Int
def zlv : Lv := ⟨0, [], 0⟩
/-- a time, or a number, that may be -/
def tmB (x : Int) : Bool := decide (0 ≤ x ∧ x ≤ 1152921504606846976)
theorem tmB_iff (x : Int) : tmB x = true ↔ 0 ≤ x ∧ x ≤ 1152921504606846976 := by unfold tmB; exact decide_eq_true_iff
/-- one point, behind the one before it -/
structure PtOk (l : List Sp) (i : Nat) : Prop where
  a0 : 0 ≤ (sp l i).1
  a1 : (sp l i).1 ≤ 1152921504606846976
  n0 : 0 ≤ (sp l i).2
  n1 : (sp l i).2 ≤ 1152921504606846976
  up : 0 < i → (sp l (i - 1)).1 ≤ (sp l i).1 ∧ (sp l (i - 1)).2 < (sp l i).2
def ptB (l : List Sp) (i : Nat) : Bool := decide (0 ≤ (sp l i).1 ∧ (sp l i).1 ≤ 1152921504606846976 ∧ 0 ≤ (sp l i).2 ∧ (sp l i).2 ≤ 1152921504606846976 ∧ (0 < i → (sp l (i - 1)).1 ≤ (sp l i).1 ∧ (sp l (i - 1)).2 < (sp l i).2))
theorem ptB_iff (l : List Sp) (i : Nat) : ptB l i = true ↔ PtOk l i := by
  unfold ptB
  rw [decide_eq_true_eq]
  exact ⟨fun ⟨a, b, c, d, e⟩ => ⟨a, b, c, d, e⟩, fun h => ⟨h.a0, h.a1, h.n0, h.n1, h.up⟩⟩
def PtsOk (l : List Sp) (k : Nat) : Prop := ∀ i, i < k → PtOk l i
def ptsB (l : List Sp) : Bool := (List.range l.length).all fun i => ptB l i
theorem ptsB_iff (l : List Sp) : ptsB l = true ↔ PtsOk l l.length := by
  unfold ptsB PtsOk
  rw [List.all_eq_true]
  exact ⟨fun h i hi => (ptB_iff l i).1 (h i (List.mem_range.2 hi)), fun h i hi => (ptB_iff l i).2 (h i (List.mem_range.1 hi))⟩
def headB (v : Lv) : Bool := decide (1 ≤ v.span ∧ v.span ≤ 1099511627776 ∧ v.l.length ≤ 100 ∧ 0 ≤ v.high ∧ v.high ≤ 7)
def lmay (v : Lv) : Bool := headB v && ptsB v.l
structure Lok (v : Lv) : Prop where
  s0 : 1 ≤ v.span
  s1 : v.span ≤ 1099511627776
  len : v.l.length ≤ 100
  h0 : 0 ≤ v.high
  h1 : v.high ≤ 7
  pts : PtsOk v.l v.l.length
theorem lmay_iff (v : Lv) : lmay v = true ↔ Lok v := by
  unfold lmay headB
  rw [Bool.and_eq_true, decide_eq_true_eq, ptsB_iff]
  exact ⟨fun ⟨⟨a, b, c, d, e⟩, f⟩ => ⟨a, b, c, d, e, f⟩, fun h => ⟨⟨h.s0, h.s1, h.len, h.h0, h.h1⟩, h.pts⟩⟩
theorem lmay_no {v : Lv} (h : ¬ Lok v) : lmay v = false := by
  cases hk : lmay v with
  | false => rfl
  | true => exact absurd ((lmay_iff v).1 hk) h

/-- does a point count -/
def cnt (span at_ : Int) (p : Sp) : Bool := decide (at_ - p.1 ≤ span)
def fst2 (o : Option Sp) : Int × Bool := match o with
  | some p => (p.2, true)
  | none => (0, false)
/-- Of -/
def ofR (v : Lv) (at_ : Int) : Int × Bool := if lmay v = true ∧ 0 ≤ at_ ∧ at_ ≤ 1152921504606846976 then fst2 (v.l.find? (cnt v.span at_)) else (0, false)
/-- may one be met -/
def MetOk (v : Lv) (at_ n : Int) : Prop := lmay v = true ∧ 0 ≤ at_ ∧ at_ ≤ 1152921504606846976 ∧ 0 ≤ n ∧ n ≤ 1152921504606846976 ∧ (0 < v.l.length → (sp v.l (v.l.length - 1)).1 ≤ at_)
instance (v : Lv) (a b : Int) : Decidable (MetOk v a b) := inferInstanceAs (Decidable (_ ∧ _ ∧ _ ∧ _ ∧ _ ∧ _))
def farB (v : Lv) (at_ n : Int) : Bool := (ofR v at_).2 && decide (2 * (ofR v at_).1 < n)
def highR (v : Lv) (at_ n : Int) : Int := if farB v at_ n = true then v.high + 1 else 0
def stay (span at_ n : Int) (p : Sp) : Bool := cnt span at_ p && decide (p.2 < n)
def leftR (v : Lv) (at_ n : Int) : List Sp := v.l.filter (stay v.span at_ n)
def ownR (l : List Sp) (at_ n : Int) : List Sp := if l.length < 100 then l ++ [(at_, n)] else l
/-- Met -/
def metR (v : Lv) (at_ n : Int) : Lv × Bool × Int :=
  if MetOk v at_ n then
    (if highR v at_ n = 8 then (⟨v.span, [(at_, n)], 0⟩, true, 0) else (⟨v.span, ownR (leftR v at_ n) at_ n, highR v at_ n⟩, false, 0))
  else (zlv, false, 1)
theorem met_no {v : Lv} {a n : Int} (h : ¬ MetOk v a n) : metR v a n = (zlv, false, 1) := if_neg h
theorem met_turn {v : Lv} {a n : Int} (h : MetOk v a n) (k : highR v a n = 8) : metR v a n = (⟨v.span, [(a, n)], 0⟩, true, 0) := by unfold metR; rw [if_pos h, if_pos k]
theorem met_ok {v : Lv} {a n : Int} (h : MetOk v a n) (k : ¬ highR v a n = 8) : metR v a n = (⟨v.span, ownR (leftR v a n) a n, highR v a n⟩, false, 0) := by unfold metR; rw [if_pos h, if_neg k]

/-! what follows -/
def Rel (a b : Sp) : Prop := a.1 ≤ b.1 ∧ a.2 < b.2
def Pt (p : Sp) : Prop := (0 ≤ p.1 ∧ p.1 ≤ 1152921504606846976) ∧ 0 ≤ p.2 ∧ p.2 ≤ 1152921504606846976
theorem pts_far {l : List Sp} {n : Nat} (h : PtsOk l n) : ∀ j, j < n → ∀ i, i < j → Rel (sp l i) (sp l j) := by
  intro j
  induction j with
  | zero => intro _ i hi; omega
  | succ j ih =>
    intro hj i hi
    have h1 := (h (j + 1) hj).up (by omega)
    rw [show j + 1 - 1 = j by omega] at h1
    by_cases e : i = j
    · subst e; exact h1
    · have h2 := ih (by omega) i (by omega)
      exact ⟨Int.le_trans h2.1 h1.1, Int.lt_trans h2.2 h1.2⟩
theorem pts_iff (l : List Sp) : PtsOk l l.length ↔ (∀ p ∈ l, Pt p) ∧ l.Pairwise Rel := by
  constructor
  · intro h
    refine ⟨fun p hp => ?_, ?_⟩
    · obtain ⟨i, hi, rfl⟩ := List.getElem_of_mem hp
      have := h i hi
      rw [← sp_eq hi]
      exact ⟨⟨this.a0, this.a1⟩, this.n0, this.n1⟩
    · rw [List.pairwise_iff_getElem]
      intro i j hi hj hij
      have := pts_far h j hj i hij
      rwa [sp_eq hi, sp_eq hj] at this
  · rintro ⟨h1, h2⟩ i hi
    have hp := h1 _ (List.getElem_mem hi)
    rw [← sp_eq hi] at hp
    refine ⟨hp.1.1, hp.1.2, hp.2.1, hp.2.2, fun h0 => ?_⟩
    rw [List.pairwise_iff_getElem] at h2
    have := h2 (i - 1) i (by omega) hi (by omega)
    rwa [← sp_eq (by omega), ← sp_eq hi] at this
theorem last_le {v : Lv} {a : Int} (h : PtsOk v.l v.l.length) (k : 0 < v.l.length → (sp v.l (v.l.length - 1)).1 ≤ a) {p : Sp} (hp : p ∈ v.l) : p.1 ≤ a := by
  obtain ⟨i, hi, rfl⟩ := List.getElem_of_mem hp
  have h1 := k (by omega)
  rw [← sp_eq hi]
  by_cases e : i = v.l.length - 1
  · rw [e]; exact h1
  · exact Int.le_trans (pts_far h (v.l.length - 1) (by omega) i (by omega)).1 h1
theorem left_pw {v : Lv} {a n : Int} (h : Lok v) : (∀ p ∈ leftR v a n, Pt p) ∧ (leftR v a n).Pairwise Rel := by
  have := (pts_iff v.l).1 h.pts
  exact ⟨fun p hp => this.1 p (List.mem_filter.1 hp).1, this.2.filter _⟩
theorem left_len (v : Lv) (a n : Int) : (leftR v a n).length ≤ v.l.length := List.length_filter_le _ _
theorem left_mem {v : Lv} {a n : Int} {p : Sp} (h : p ∈ leftR v a n) : p ∈ v.l ∧ a - p.1 ≤ v.span ∧ p.2 < n := by
  have := List.mem_filter.1 h
  refine ⟨this.1, ?_⟩
  have h2 := this.2
  unfold stay cnt at h2
  rw [Bool.and_eq_true, decide_eq_true_eq, decide_eq_true_eq] at h2
  exact h2
theorem own_ok {v : Lv} {a n : Int} (h : MetOk v a n) : PtsOk (ownR (leftR v a n) a n) (ownR (leftR v a n) a n).length := by
  obtain ⟨h1, h2, h3, h4, h5, h6⟩ := h
  have hv := (lmay_iff v).1 h1
  have hl := left_pw (a := a) (n := n) hv
  rw [pts_iff]
  unfold ownR
  split
  · refine ⟨fun p hp => ?_, ?_⟩
    · rcases List.mem_append.1 hp with hp | hp
      · exact hl.1 p hp
      · simp at hp; subst hp; exact ⟨⟨h2, h3⟩, h4, h5⟩
    · rw [List.pairwise_append]
      refine ⟨hl.2, List.pairwise_singleton _ _, fun p hp q hq => ?_⟩
      simp at hq; subst hq
      have hm := left_mem hp
      exact ⟨last_le hv.pts h6 hm.1, hm.2.2⟩
  · exact hl
theorem own_len {l : List Sp} {a n : Int} (h : l.length ≤ 100) : (ownR l a n).length ≤ 100 := by
  unfold ownR; split
  · rw [List.length_append]; simp; omega
  · exact h
theorem high_bd {v : Lv} (h : Lok v) (a n : Int) : 0 ≤ highR v a n ∧ highR v a n ≤ 8 := by
  have := h.h0; have := h.h1
  unfold highR; split <;> omega
/-- what is met is valid -/
theorem met_valid {v : Lv} {a n : Int} (h : MetOk v a n) : Lok (metR v a n).1 ∧ (metR v a n).2.2 = 0 := by
  have hv := (lmay_iff v).1 h.1
  have hb := high_bd hv a n
  by_cases k : highR v a n = 8
  · rw [met_turn h k]
    refine ⟨⟨hv.s0, hv.s1, by simp, Int.le_refl 0, by show (0 : Int) ≤ 7; decide, ?_⟩, rfl⟩
    intro i hi
    obtain rfl : i = 0 := by simp at hi; omega
    obtain ⟨h1, h2, h3, h4, h5, h6⟩ := h
    exact ⟨h2, h3, h4, h5, fun h0 => absurd h0 (by omega)⟩
  · rw [met_ok h k]
    exact ⟨⟨hv.s0, hv.s1, own_len (Nat.le_trans (left_len v a n) hv.len), hb.1, by dsimp only; omega, own_ok h⟩, rfl⟩
end Go.Proofs.Ytihheanjlabioaa
