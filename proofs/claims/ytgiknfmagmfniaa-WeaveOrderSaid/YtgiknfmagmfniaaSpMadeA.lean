/- The reference's made: its first statements, and what its loop does to lists. -/
import Derived.Test.YtgiknfmagmfniaaSpRef3
import Derived.Test.YtgiknfmagmfniaaSpEndsR
import Derived.Test.YtgiknfmagmfniaaSpMath
import Derived.Lib.AppendZeros
import Derived.Laws.OwnMore
import Derived.RegionTactic
namespace Go.Proofs.Ytgiknfmagmfniaa
open Go.RowKit

theorem run_apps {P : Program} (w : World) {A : Option Addr} {m c : Nat} {l : List Sp} (t ty : TypeId) (base : Nat) (e : TypeId) (ht : P.underlying t = some (.slice e)) (hinfo : (P.info? e).map (fun i => (i.zero, i.size, i.bytes)) = some (some (.agg #[.int .i64 0, .int .i64 0]), 2, 16))
    (v : Value) (n : Nat) (xs : List Sp) (hown : Gots w base e v n xs) (hA : A = none → c = 0) (hr : Rs w A m l) (hsum : (n + m) * 16 ≤ 140737488355328) (hbase : base ≤ w.heap.size) :
    ∃ v' w', (Builtin.append_ #[t, t] ty #[v, .slice A m c]).run P w = .ok v' w' ∧ Gots w' base e v' (n + m) (xs ++ l) ∧ w.grownBy w' v.ownBlock := by
  obtain ⟨i0, hi, hz0, hz1, hz2⟩ := info_parts hinfo
  cases A with
  | none =>
    have hc0 := hA rfl
    have hm0 : m = 0 := by
      rcases Nat.eq_zero_or_pos m with h0 | h0
      · exact h0
      · obtain ⟨b, o', e', _⟩ := hr.at_ h0; cases e'
    subst hm0 hc0
    have hl0 : l = [] := List.eq_nil_of_length_eq_zero hr.len
    subst hl0
    exact ⟨v, w, run_append_owned_none (P := P) (w := w) base t ty e i0 2 ht hi v n _ hown.row, by simpa using hown, World.grownBy.refl w _⟩
  | some ad =>
    have hnews : ∀ j u, (vals l)[j]? = some u → w.cell? (ad.add j) = some u := by
      rcases Nat.eq_zero_or_pos m with h0 | h0
      · subst h0
        have hl0 : l = [] := List.eq_nil_of_length_eq_zero hr.len
        subst hl0
        intro j u hj; simp [vals] at hj
      · obtain ⟨b, o', e', _, hc⟩ := hr.at_ h0
        cases e'
        exact news_of_rs hr.len hc
    obtain ⟨v', w', h1, h2, h3, _⟩ := run_append_own_at (P := P) w base t ty e i0 (.agg #[.int .i64 0, .int .i64 0]) 2 16 ht hi hz0 hz1 hz2 rfl (by omega) v n _ hown.row ad m c (vals l) (by rw [vals_length, hr.len]) hnews (vals_cell l) (by unfold maxLen; omega) (by omega) hbase
    exact ⟨v', w', h1, ⟨by rw [vals_app]; exact h2, wide_app hown.wide hr.wide⟩, h3⟩

/-- append as a step of a region that draws its order -/
theorem step_apps {P : Program} (w : World) {A : Option Addr} {m c : Nat} {l : List Sp} {ops : Array Oper} {o : Oper} {a : Act} {K : Act → World → Prop} {Q : Exit → Act → World → Prop} {E : Prop} (hgd : o.guard = .none) (s x : Operand) (t : TypeId)
    (ho : o.op = .call { callee := .builtin .append, args := #[s, x], argTypes := #[t, t] })
    (base : Nat) (e : TypeId) (ht : P.underlying t = some (.slice e)) (hinfo : (P.info? e).map (fun i => (i.zero, i.size, i.bytes)) = some (some (.agg #[.int .i64 0, .int .i64 0]), 2, 16))
    (v : Value) (n : Nat) (xs : List Sp) (hs : a.eval s = v) (hx : a.eval x = .slice A m c) (hown : Gots w base e v n xs) (hA : A = .none → c = 0) (hr : Rs w A m l) (hsum : (n + m) * 16 ≤ 140737488355328) (hbase : base ≤ w.heap.size)
    (h : ∀ v' w', Gots w' base e v' (n + m) (xs ++ l) → w.grownBy w' v.ownBlock → K (a.put o.dst v') w') :
    if Region.wanted o (yielded ops a.tmps) = true then Oper.wp P o a w K Q else E := by
  have hw : Region.wanted o (yielded ops a.tmps) = true := by simp [Region.wanted, hgd]
  rw [if_pos hw]
  obtain ⟨v', w', hrun, h1, h2⟩ := run_apps (P := P) w t o.type base e ht hinfo v n xs hown hA hr hsum hbase
  exact Lib.wp_append_run w s x t t ho v (.slice A m c) hs hx v' w' hrun (h v' w' h1 h2)

/-! what the loop does to lists -/
def cond (wo : Bool) (l : List Sp) (s : Sp) (n : Int) : Prop := if wo = true then inL l n ∧ ¬ (s.1 ≤ n ∧ n < s.2) else inL l n ∨ (s.1 ≤ n ∧ n < s.2)

/-- after i rounds -/
structure Made (l : List Sp) (s : Sp) (wo : Bool) (e : List Int) (i : Nat) (o : List Sp) : Prop where
  ch : chain (-1) o = true
  last : lastOf (-1) o ≤ it e i
  mem : ∀ n, inL o n ↔ (it e 0 ≤ n ∧ n < it e i) ∧ cond wo l s n
  len : o.length ≤ i

theorem ch_snoc_in {o : List Sp} {p : Sp} (n : Int) : inL (o ++ [p]) n ↔ inL o n ∨ (p.1 ≤ n ∧ n < p.2) := by
  rw [inL_app, inL_cons]
  exact ⟨fun h => h.elim .inl (fun h => h.elim .inr (fun h => absurd h (inL_nil _))), fun h => h.elim .inl (fun h => .inr (.inl h))⟩
theorem last_over {d : Int} {o : List Sp} (h : chain d o = true) {n : Int} (hn : inL o n) : n < lastOf d o := by
  induction o generalizing d with
  | nil => exact absurd hn (inL_nil _)
  | cons p t ih =>
    have h' := h
    rw [ch_cons] at h
    have e : lastOf d (p :: t) = lastOf p.2 t := rfl
    rw [e]
    rcases (inL_cons _ _ _).1 hn with g | g
    · have : p.2 ≤ lastOf p.2 t := by
        have hb := chain_bd h.2.2 h.2.1.2.2
        have := hb.2 (by omega)
        omega
      omega
    · exact ih h.2.2 g

/-- the ends between which all are alike -/
structure Between (l : List Sp) (s : Sp) (e : List Int) : Prop where
  rise : Rise e
  mem : ∀ y, y ∈ e ↔ EndOf (l ++ [s]) y
  low : ∀ y ∈ e, 0 ≤ y ∧ y ≤ 4611686018427387904

theorem alike_one {l : List Sp} {s : Sp} {e : List Int} (h : Between l s e) {i : Nat} (hi : i + 1 < e.length) {n : Int} (h1 : it e i ≤ n) (h2 : n < it e (i + 1)) {p : Sp} (hp : p ∈ l ++ [s]) :
    (p.1 ≤ n ∧ n < p.2) ↔ (p.1 ≤ it e i ∧ it e i < p.2) := by
  have key : ∀ y ∈ e, (y ≤ n ↔ y ≤ it e i) := by
    intro y hy
    obtain ⟨j, hj, rfl⟩ := List.mem_iff_getElem.1 hy
    rw [← it_eq hj]
    rcases Nat.lt_or_ge i j with g | g
    · rcases Nat.lt_or_eq_of_le g with g' | g'
      · have a1 : it e (i + 1) < it e j := rise_lt h.rise g' hj
        have a2 := rise_lt h.rise (show i < i + 1 by omega) hi
        omega
      · rw [← g']
        have a2 := rise_lt h.rise (show i < i + 1 by omega) hi
        show it e (i + 1) ≤ n ↔ it e (i + 1) ≤ it e i
        omega
    · rcases Nat.lt_or_eq_of_le g with g' | g'
      · have a1 := rise_lt h.rise g' (by omega); omega
      · rw [g']; omega
  have k1 := key p.1 ((h.mem _).2 ⟨p, hp, .inl rfl⟩)
  have k2 := key p.2 ((h.mem _).2 ⟨p, hp, .inr rfl⟩)
  omega
theorem alike {l : List Sp} {s : Sp} {e : List Int} (h : Between l s e) (wo : Bool) {i : Nat} (hi : i + 1 < e.length) {n : Int} (h1 : it e i ≤ n) (h2 : n < it e (i + 1)) :
    cond wo l s n ↔ cond wo l s (it e i) := by
  have a1 : inL l n ↔ inL l (it e i) := by
    unfold inL
    constructor
    · rintro ⟨p, hp, hh⟩; exact ⟨p, hp, (alike_one h hi h1 h2 (List.mem_append.2 (.inl hp))).1 hh⟩
    · rintro ⟨p, hp, hh⟩; exact ⟨p, hp, (alike_one h hi h1 h2 (List.mem_append.2 (.inl hp))).2 hh⟩
  have a2 := alike_one h hi h1 h2 (p := s) (List.mem_append.2 (.inr (by simp)))
  unfold cond
  rw [a1, a2]

section
variable {l : List Sp} {s : Sp} {wo : Bool} {e : List Int} {i : Nat} {o : List Sp}
theorem made_zero (h : Between l s e) (h0 : 0 < e.length) : Made l s wo e 0 [] :=
  ⟨rfl, by rw [lastOf_nil]; have := h.low _ (it_mem h0); omega, fun n => ⟨fun h => absurd h (inL_nil _), fun h => by omega⟩, Nat.le_refl _⟩
theorem made_skip (h : Between l s e) (m : Made l s wo e i o) (hi : i + 1 < e.length) (hc : ¬ cond wo l s (it e i)) : Made l s wo e (i + 1) o := by
  have hlt := rise_lt h.rise (show i < i + 1 by omega) hi
  refine ⟨m.ch, by have := m.last; omega, fun n => ?_, by have := m.len; omega⟩
  rw [m.mem]
  constructor
  · rintro ⟨⟨a1, a2⟩, a3⟩; exact ⟨⟨a1, by omega⟩, a3⟩
  · rintro ⟨⟨a1, a2⟩, a3⟩
    refine ⟨⟨a1, ?_⟩, a3⟩
    by_cases g : n < it e i
    · exact g
    · exact absurd ((alike h wo hi (by omega) a2).1 a3) hc
theorem rise_zero (h : Rise e) (hi : i < e.length) : it e 0 ≤ it e i := by
  rcases Nat.eq_zero_or_pos i with g | g
  · subst g; exact Int.le_refl _
  · exact Int.le_of_lt (rise_lt h g hi)
theorem made_push (h : Between l s e) (m : Made l s wo e i o) (hi : i + 1 < e.length) (hc : cond wo l s (it e i)) (hl : lastOf (-1) o < it e i) : Made l s wo e (i + 1) (o ++ [(it e i, it e (i + 1))]) := by
  have hlt := rise_lt h.rise (show i < i + 1 by omega) hi
  have r0 := rise_zero h.rise (show i < e.length by omega)
  have w1 := h.low _ (it_mem (show i < e.length by omega))
  have w2 := h.low _ (it_mem hi)
  refine ⟨?_, by rw [lastOf_snoc]; exact Int.le_refl _, fun n => ?_, by rw [List.length_append, List.length_singleton]; have := m.len; omega⟩
  · rw [chain_snoc, m.ch, decide_eq_true hl, vld_iff.2 ⟨w1.1, hlt, w2.2⟩]; rfl
  · rw [ch_snoc_in, m.mem]
    simp only
    constructor
    · rintro (⟨⟨a1, a2⟩, a3⟩ | ⟨a1, a2⟩)
      · exact ⟨⟨a1, by omega⟩, a3⟩
      · exact ⟨⟨by omega, a2⟩, (alike h wo hi a1 a2).2 hc⟩
    · rintro ⟨⟨a1, a2⟩, a3⟩
      by_cases g : n < it e i
      · exact .inl ⟨⟨a1, g⟩, a3⟩
      · exact .inr ⟨by omega, a2⟩
theorem made_merge {p : Int} (h : Between l s e) (m : Made l s wo e i (o ++ [(p, it e i)])) (hi : i + 1 < e.length) (hc : cond wo l s (it e i)) : Made l s wo e (i + 1) (o ++ [(p, it e (i + 1))]) := by
  have hlt := rise_lt h.rise (show i < i + 1 by omega) hi
  have r0 := rise_zero h.rise (show i < e.length by omega)
  have w2 := h.low _ (it_mem hi)
  have hch := m.ch
  rw [chain_snoc, Bool.and_eq_true, Bool.and_eq_true, decide_eq_true_eq] at hch
  have hv := vld_iff.1 hch.2.2
  have hmem := m.mem
  refine ⟨?_, by rw [lastOf_snoc]; exact Int.le_refl _, fun n => ?_, by have := m.len; rw [List.length_append, List.length_singleton] at *; omega⟩
  · rw [chain_snoc, hch.1, decide_eq_true hch.2.1, vld_iff.2 ⟨hv.1, by simp only at hv ⊢; omega, w2.2⟩]; rfl
  · have hm := hmem n
    rw [ch_snoc_in] at hm ⊢
    simp only at hm hv ⊢
    constructor
    · rintro (a1 | ⟨a1, a2⟩)
      · obtain ⟨⟨b1, b2⟩, b3⟩ := hm.1 (.inl a1); exact ⟨⟨b1, by omega⟩, b3⟩
      · by_cases g : n < it e i
        · obtain ⟨⟨b1, b2⟩, b3⟩ := hm.1 (.inr ⟨a1, g⟩); exact ⟨⟨b1, by omega⟩, b3⟩
        · exact ⟨⟨by omega, a2⟩, (alike h wo hi (by omega) a2).2 hc⟩
    · rintro ⟨⟨a1, a2⟩, a3⟩
      by_cases g : n < it e i
      · exact (hm.2 ⟨⟨a1, g⟩, a3⟩).elim .inl (fun h => .inr ⟨h.1, by omega⟩)
      · exact .inr ⟨by omega, a2⟩
theorem made_end (h : Between l s e) (m : Made l s wo e i o) (hi : i + 1 = e.length) : ∀ n, inL o n ↔ cond wo l s n := by
  intro n
  rw [m.mem]
  refine ⟨fun h => h.2, fun hc => ⟨?_, hc⟩⟩
  have key : ∀ p ∈ l ++ [s], p.1 ≤ n ∧ n < p.2 → it e 0 ≤ n ∧ n < it e i := by
    intro p hp hn
    have m1 := (h.mem p.1).2 ⟨p, hp, .inl rfl⟩
    have m2 := (h.mem p.2).2 ⟨p, hp, .inr rfl⟩
    obtain ⟨j, hj, e1⟩ := List.mem_iff_getElem.1 m1
    obtain ⟨k, hk, e2⟩ := List.mem_iff_getElem.1 m2
    rw [← it_eq hj] at e1
    rw [← it_eq hk] at e2
    have a1 := rise_zero h.rise hj
    have a2 : it e k ≤ it e i := by
      rcases Nat.lt_or_eq_of_le (show k ≤ i by omega) with g | g
      · exact Int.le_of_lt (rise_lt h.rise g (by omega))
      · rw [g]; exact Int.le_refl _
    omega
  unfold cond at hc
  split at hc
  · obtain ⟨⟨p, hp, hh⟩, _⟩ := hc
    exact key p (List.mem_append.2 (.inl hp)) hh
  · rcases hc with ⟨p, hp, hh⟩ | hh
    · exact key p (List.mem_append.2 (.inl hp)) hh
    · exact key s (List.mem_append.2 (.inr (by simp))) hh
end
end Go.Proofs.Ytgiknfmagmfniaa
