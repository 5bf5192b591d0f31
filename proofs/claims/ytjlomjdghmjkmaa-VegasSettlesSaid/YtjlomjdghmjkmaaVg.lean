/- Package vegas: alphas, queues, verdicts, rounds, and what follows of them. No program of the stage. -/
import Derived.Test.YtjlomjdghmjkmaaXm
namespace Go.Proofs.Ytjlomjdghmjkmaa
set_option linter.unusedVariables false
set_option linter.unusedSimpArgs false

def AlOk (l : List Sp) (i total : Int) : Prop := 0 ≤ i ∧ i < (l.length : Int) ∧ l.length ≤ 4 ∧ 1 ≤ total ∧ total ≤ 1048576
instance (l : List Sp) (i t : Int) : Decidable (AlOk l i t) := inferInstanceAs (Decidable (_ ∧ _ ∧ _ ∧ _ ∧ _))
/-- a part of total -/
def flR (l : List Sp) (j : Nat) (total : Int) : Int := if sumW l = 0 then 0 else total * wt (sp l j) / sumW l
def alphaR (l : List Sp) (i total : Int) : Int := if AlOk l i total then max 1 (flR l i.toNat total) else 0
theorem alpha_no {l : List Sp} {i total : Int} (h : ¬ AlOk l i total) : alphaR l i total = 0 := if_neg h
theorem alpha_ok {l : List Sp} {i total : Int} (h : AlOk l i total) : alphaR l i total = max 1 (flR l i.toNat total) := if_pos h
theorem fl_zero {l : List Sp} {j : Nat} {total : Int} (h : sumW l = 0) : flR l j total = 0 := if_pos h
theorem fl_yes {l : List Sp} {j : Nat} {total : Int} (h : ¬ sumW l = 0) : flR l j total = total * wt (sp l j) / sumW l := if_neg h
theorem fl_bd {l : List Sp} {j : Nat} {total : Int} (hj : j < l.length) (h0 : 0 ≤ total) : 0 ≤ flR l j total ∧ flR l j total ≤ total := by
  by_cases hz : sumW l = 0
  · rw [fl_zero hz]; omega
  · have hs := sumW_all l
    have hb := wt_bd (sp l j)
    rw [fl_yes hz]
    exact ⟨Int.ediv_nonneg (Int.mul_nonneg h0 hb.1) hs.1, Int.ediv_le_of_le_mul (by omega) (Int.mul_le_mul_of_nonneg_left (wt_le_sum hj) h0)⟩
def QuOk (cwnd srtt base mss : Int) : Prop := 1 ≤ cwnd ∧ cwnd ≤ 1073741824 ∧ 1 ≤ srtt ∧ srtt ≤ 1099511627776 ∧ 1 ≤ base ∧ base ≤ srtt ∧ 1 ≤ mss ∧ mss ≤ 1460
instance (a b c d : Int) : Decidable (QuOk a b c d) := inferInstanceAs (Decidable (_ ∧ _ ∧ _ ∧ _ ∧ _ ∧ _ ∧ _ ∧ _))
def queueR (cwnd srtt base mss : Int) : Int := if QuOk cwnd srtt base mss then (srtt - base) * cwnd / srtt / mss else 0
theorem queue_no {cwnd srtt base mss : Int} (h : ¬ QuOk cwnd srtt base mss) : queueR cwnd srtt base mss = 0 := if_neg h
theorem queue_ok {cwnd srtt base mss : Int} (h : QuOk cwnd srtt base mss) : queueR cwnd srtt base mss = (srtt - base) * cwnd / srtt / mss := if_pos h
/-- what stands in queues, in bytes -/
theorem qb_bd {cwnd srtt base mss : Int} (h : QuOk cwnd srtt base mss) : 0 ≤ (srtt - base) * cwnd / srtt ∧ (srtt - base) * cwnd / srtt ≤ cwnd := by
  obtain ⟨a, b, c, d, e, f, g, i⟩ := h
  refine ⟨Int.ediv_nonneg (Int.mul_nonneg (by omega) (by omega)) (by omega), Int.ediv_le_of_le_mul (by omega) ?_⟩
  rw [Int.mul_comm cwnd srtt]
  exact Int.mul_le_mul_of_nonneg_right (by omega) (by omega)
def verdR (q a : Int) (slow : Bool) : Int := if slow then (if a < q then 3 else 0) else (if q < a then 1 else if a < q then 2 else 0)
def RdOk (c t q a mss most : Int) : Prop := xmB c t mss most = true ∧ 0 ≤ q ∧ q ≤ 1073741824 ∧ 0 ≤ a ∧ a ≤ 1073741824
instance (c t q a m n : Int) : Decidable (RdOk c t q a m n) := inferInstanceAs (Decidable (_ ∧ _ ∧ _ ∧ _ ∧ _))
def vrndR (c t q a mss most : Int) : Int × Int × Int :=
  if RdOk c t q a mss most then
    (if c < t then (c, if a < q then c else t, 0) else (if q < a then min (c + mss) most else if a < q then max (c - mss) mss else c, t, 0))
  else (0, 0, 1)
theorem vrnd_no {c t q a mss most : Int} (h : ¬ RdOk c t q a mss most) : vrndR c t q a mss most = (0, 0, 1) := if_neg h
theorem vrnd_slow {c t q a mss most : Int} (h : RdOk c t q a mss most) (k : c < t) : vrndR c t q a mss most = (c, if a < q then c else t, 0) := by unfold vrndR; rw [if_pos h, if_pos k]
theorem vrnd_fast {c t q a mss most : Int} (h : RdOk c t q a mss most) (k : ¬ c < t) : vrndR c t q a mss most = (if q < a then min (c + mss) most else if a < q then max (c - mss) mss else c, t, 0) := by unfold vrndR; rw [if_pos h, if_neg k]
/-- a round's window -/
theorem vrnd_facts {c t q a mss most : Int} (h : RdOk c t q a mss most) : ∃ c' t', vrndR c t q a mss most = (c', t', 0) ∧ xmB c' t' mss most = true ∧ c' - c ≤ mss ∧ c - c' ≤ mss ∧ (0 < c' - c → q < a) ∧ (c' - c < 0 → a < q) ∧ (c < t → c' = c ∧ (t' = t ↔ q ≤ a)) ∧ (¬ c < t → t' = t ∧ (q = a → c' = c)) := by
  have hv := (xmB_iff c t mss most).1 h.1
  by_cases k : c < t
  · refine ⟨_, _, vrnd_slow h k, ?_⟩
    refine ⟨(xmB_iff _ _ _ _).2 ?_, by omega, by omega, by omega, by omega, fun _ => ⟨rfl, ?_⟩, fun h => absurd k h⟩
    · split <;> omega
    · split <;> omega
  · refine ⟨_, _, vrnd_fast h k, (xmB_iff _ _ _ _).2 ?_, ?_, ?_, ?_, ?_, fun h => absurd h k, fun _ => ⟨rfl, ?_⟩⟩ <;> (split <;> (try split) <;> omega)
/-- alphas together -/
def alSum (l : List Sp) (total : Int) : Nat → Int
  | 0 => 0
  | k + 1 => alSum l total k + alphaR l (k : Int) total
def flSum (l : List Sp) (total : Int) : Nat → Int
  | 0 => 0
  | k + 1 => flSum l total k + flR l k total
theorem fl_parts {l : List Sp} {total : Int} (hz : ¬ sumW l = 0) : ∀ k, k ≤ l.length → sumW l * flSum l total k ≤ total * sumW (l.take k) := by
  intro k
  induction k with
  | zero => intro _; simp [flSum, sumW]
  | succ k ih =>
    intro hk
    have i1 := ih (by omega)
    have d1 := Int.mul_ediv_self_le (x := total * wt (sp l k)) (k := sumW l) hz
    rw [← fl_yes hz] at d1
    rw [sumW_take (by omega), show flSum l total (k + 1) = flSum l total k + flR l k total from rfl, Int.mul_add, Int.mul_add]
    omega
theorem fl_sum {l : List Sp} {total : Int} (h0 : 0 ≤ total) : flSum l total l.length ≤ total := by
  by_cases hz : sumW l = 0
  · have : ∀ k, flSum l total k = 0 := fun k => by
      induction k with
      | zero => rfl
      | succ k ih => show flSum l total k + flR l k total = 0; rw [ih, fl_zero hz]; rfl
    rw [this]; exact h0
  · have h := fl_parts (total := total) hz l.length (Nat.le_refl _)
    rw [List.take_length, Int.mul_comm total] at h
    exact Int.le_of_mul_le_mul_left h (by have := (sumW_all l).1; omega)
theorem alpha_bd {l : List Sp} {i : Nat} {total : Int} (hi : i < l.length) (h4 : l.length ≤ 4) (h0 : 1 ≤ total) (h1 : total ≤ 1048576) : 1 ≤ alphaR l (i : Int) total ∧ alphaR l (i : Int) total ≤ total ∧ alphaR l (i : Int) total ≤ flR l i total + 1 := by
  have hb := fl_bd (total := total) hi (by omega)
  rw [alpha_ok ⟨by omega, by omega, h4, h0, h1⟩, Int.toNat_natCast]
  omega
theorem al_fl {l : List Sp} {total : Int} (h4 : l.length ≤ 4) (h0 : 1 ≤ total) (h1 : total ≤ 1048576) : ∀ k, k ≤ l.length → 0 ≤ alSum l total k ∧ alSum l total k ≤ flSum l total k + (k : Int) ∧ alSum l total k ≤ 1048576 * (k : Int) := by
  intro k
  induction k with
  | zero => intro _; simp [alSum, flSum]
  | succ k ih =>
    intro hk
    have i1 := ih (by omega)
    have hb := alpha_bd (l := l) (i := k) (total := total) (by omega) h4 h0 h1
    show 0 ≤ alSum l total k + alphaR l (k : Int) total ∧ alSum l total k + alphaR l (k : Int) total ≤ flSum l total k + flR l k total + _ ∧ alSum l total k + alphaR l (k : Int) total ≤ _
    omega
theorem al_sum {l : List Sp} {total : Int} (h4 : l.length ≤ 4) (h0 : 1 ≤ total) (h1 : total ≤ 1048576) : alSum l total l.length ≤ total + (l.length : Int) := by
  have h2 := al_fl h4 h0 h1 l.length (Nat.le_refl _)
  have h3 := fl_sum (l := l) (total := total) (by omega)
  omega
theorem al_k {l : List Sp} {total : Int} (h4 : l.length ≤ 4) (h0 : 1 ≤ total) (h1 : total ≤ 1048576) {k : Nat} (hk : k ≤ l.length) : 0 ≤ alSum l total k ∧ alSum l total k ≤ 4194304 := by
  have h2 := al_fl h4 h0 h1 k hk
  omega
/-- more in all, no less each -/
theorem alpha_more {l : List Sp} {i : Nat} {total : Int} (hi : i < l.length) (h4 : l.length ≤ 4) (h0 : 1 ≤ total) (h1 : total ≤ 1000000) : alphaR l (i : Int) total ≤ alphaR l (i : Int) (total + 1) := by
  rw [alpha_ok ⟨by omega, by omega, h4, h0, by omega⟩, alpha_ok ⟨by omega, by omega, h4, by omega, by omega⟩, Int.toNat_natCast]
  have hb := wt_bd (sp l i)
  have : flR l i total ≤ flR l i (total + 1) := by
    by_cases hz : sumW l = 0
    · rw [fl_zero hz, fl_zero hz]; exact Int.le_refl _
    · have := sumW_all l
      rw [fl_yes hz, fl_yes hz]
      exact Int.ediv_le_ediv (by omega) (Int.mul_le_mul_of_nonneg_right (by omega) hb.1)
  omega
theorem wt_le {p q r : Int} (hp : 1 ≤ p ∧ p ≤ 1073741824) (hr : 1 ≤ r ∧ r ≤ 1048576) (h : q ≤ p) : wt (q, r) ≤ wt (p, r) := by
  by_cases hq : 1 ≤ q
  · rw [wt_yes (by dsimp only; omega), wt_yes (by dsimp only; omega)]
    exact Int.ediv_le_ediv (by dsimp only; omega) (by dsimp only; omega)
  · rw [wt_no (by dsimp only; omega)]; exact (wt_bd _).1
theorem wt_pos {p r : Int} (hp : 1 ≤ p ∧ p ≤ 1073741824) (hr : 1 ≤ r ∧ r ≤ 1048576) : 1 ≤ wt (p, r) := by
  rw [wt_yes (by dsimp only; omega)]
  exact (Int.le_ediv_iff_mul_le (by dsimp only; omega)).2 (by dsimp only; omega)
theorem alpha_mono {l : List Sp} {i k : Nat} {p q r total : Int} (hi : i < l.length) (hk : k < l.length) (h4 : l.length ≤ 4) (h0 : 1 ≤ total) (h1 : total ≤ 1048576) (e1 : sp l i = (p, r)) (e2 : sp l k = (q, r)) (hp : 1 ≤ p ∧ p ≤ 1073741824) (hr : 1 ≤ r ∧ r ≤ 1048576) (h : q ≤ p) : alphaR l (k : Int) total ≤ alphaR l (i : Int) total := by
  rw [alpha_ok ⟨by omega, by omega, h4, h0, h1⟩, alpha_ok ⟨by omega, by omega, h4, h0, h1⟩, Int.toNat_natCast, Int.toNat_natCast]
  have : flR l k total ≤ flR l i total := by
    by_cases hz : sumW l = 0
    · rw [fl_zero hz, fl_zero hz]; exact Int.le_refl _
    · have := sumW_all l
      rw [fl_yes hz, fl_yes hz, e1, e2]
      exact Int.ediv_le_ediv (by omega) (Int.mul_le_mul_of_nonneg_left (wt_le hp hr h) (by omega))
  omega
theorem alpha_alone {l : List Sp} {p r total : Int} (hl : l.length = 1) (h0 : 1 ≤ total) (h1 : total ≤ 1048576) (e1 : sp l 0 = (p, r)) (hp : 1 ≤ p ∧ p ≤ 1073741824) (hr : 1 ≤ r ∧ r ≤ 1048576) : alphaR l 0 total = total := by
  have hs : sumW l = wt (p, r) := by
    have := sumW_take (l := l) (k := 0) (by omega)
    rw [List.take_zero, e1, show 0 + 1 = l.length by omega, List.take_length] at this
    rw [this]
    show 0 + _ = _
    omega
  have hw := wt_pos hp hr
  rw [alpha_ok ⟨by omega, by omega, by omega, h0, h1⟩, show (0 : Int).toNat = 0 from rfl, fl_yes (by omega), e1, hs, Int.mul_ediv_cancel _ (by omega)]
  omega
/-- a greater window has no fewer in queues -/
theorem queue_facts {cwnd more srtt base mss : Int} (h0 : 1 ≤ cwnd) (h1 : 0 ≤ more) (h2 : cwnd ≤ 536870912) (h3 : more ≤ 536870912) (h4 : 1 ≤ mss) (h5 : mss ≤ 1460) (h6 : 1 ≤ srtt) (h7 : srtt ≤ 1099511627776) :
    0 ≤ queueR cwnd srtt base mss ∧ queueR cwnd srtt base mss ≤ cwnd / mss ∧ queueR cwnd srtt base mss ≤ queueR (cwnd + more) srtt base mss ∧ queueR cwnd srtt srtt mss = 0 ∧ (srtt < base → queueR cwnd srtt base mss = 0) := by
  have hc : 0 ≤ cwnd / mss := Int.ediv_nonneg (by omega) (by omega)
  have hself : queueR cwnd srtt srtt mss = 0 := by
    rw [queue_ok ⟨by omega, by omega, by omega, by omega, by omega, by omega, by omega, by omega⟩, Int.sub_self, Int.zero_mul, Int.zero_ediv, Int.zero_ediv]
  by_cases hb : 1 ≤ base ∧ base ≤ srtt
  · have hq : QuOk cwnd srtt base mss := ⟨by omega, by omega, by omega, by omega, hb.1, hb.2, by omega, by omega⟩
    have hq2 : QuOk (cwnd + more) srtt base mss := ⟨by omega, by omega, by omega, by omega, hb.1, hb.2, by omega, by omega⟩
    have hbd := qb_bd hq
    rw [queue_ok hq, queue_ok hq2]
    refine ⟨Int.ediv_nonneg hbd.1 (by omega), Int.ediv_le_ediv (by omega) hbd.2, Int.ediv_le_ediv (by omega) (Int.ediv_le_ediv (by omega) (Int.mul_le_mul_of_nonneg_left (by omega) (by omega))), hself, fun h => by omega⟩
  · have hq : ¬ QuOk cwnd srtt base mss := fun h => hb ⟨h.2.2.2.2.1, h.2.2.2.2.2.1⟩
    have hq2 : ¬ QuOk (cwnd + more) srtt base mss := fun h => hb ⟨h.2.2.2.2.1, h.2.2.2.2.2.1⟩
    rw [queue_no hq, queue_no hq2]
    exact ⟨Int.le_refl _, hc, Int.le_refl _, hself, fun _ => rfl⟩
end Go.Proofs.Ytjlomjdghmjkmaa
