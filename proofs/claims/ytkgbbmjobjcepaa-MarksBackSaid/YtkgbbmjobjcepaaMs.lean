/- Package marks: marks, when they are valid, and what the answers are. No program. -/
import Derived.Test.YtkgbbmjobjcepaaT60
import Derived.WalkKit
namespace Go.Proofs.Ytkgbbmjobjcepaa
set_option linter.unusedVariables false
set_option linter.unusedSimpArgs false

/-- marks -/
structure Ms where
  pk : Int
  bt : Int
  ca : Int
  md : Int
  pt : Int
def zmk : Ms := ⟨0, 0, 0, 0, 0⟩
def mmay (m : Ms) : Bool := t60 m.pk && (t60 m.bt && (t60 m.ca && decide (0 ≤ m.md ∧ m.md ≤ m.ca ∧ 0 ≤ m.pt ∧ m.pt ≤ 1024)))
structure MsOk (m : Ms) : Prop where
  p0 : 0 ≤ m.pk
  p1 : m.pk ≤ 1152921504606846976
  b0 : 0 ≤ m.bt
  b1 : m.bt ≤ 1152921504606846976
  c0 : 0 ≤ m.ca
  c1 : m.ca ≤ 1152921504606846976
  m0 : 0 ≤ m.md
  m1 : m.md ≤ m.ca
  t0 : 0 ≤ m.pt
  t1 : m.pt ≤ 1024
theorem mmay_iff (m : Ms) : mmay m = true ↔ MsOk m := by
  unfold mmay
  rw [Bool.and_eq_true, Bool.and_eq_true, Bool.and_eq_true, t60_iff, t60_iff, t60_iff, decide_eq_true_eq]
  exact ⟨fun ⟨⟨a, b⟩, ⟨c, d⟩, ⟨e, f⟩, g, h, i, j⟩ => ⟨a, b, c, d, e, f, g, h, i, j⟩, fun h => ⟨⟨h.p0, h.p1⟩, ⟨h.b0, h.b1⟩, ⟨h.c0, h.c1⟩, h.m0, h.m1, h.t0, h.t1⟩⟩
theorem mmay_no {m : Ms} (h : ¬ MsOk m) : mmay m = false := by
  cases hk : mmay m with
  | false => rfl
  | true => exact absurd ((mmay_iff m).1 hk) h
/-- Told -/
def toldR (m : Ms) : Int × Int := if mmay m = true then (m.pk % 8, m.bt % 16777216) else (0, 0)
def HeardOk (ace ce packets bytes : Int) : Prop := 0 ≤ ace ∧ ace ≤ 7 ∧ ce < 16777216 ∧ 0 ≤ packets ∧ packets ≤ 1099511627776 ∧ 0 ≤ bytes ∧ bytes ≤ 1099511627776
instance (a b c d : Int) : Decidable (HeardOk a b c d) := inferInstanceAs (Decidable (_ ∧ _ ∧ _ ∧ _ ∧ _ ∧ _ ∧ _))
def n0R (m : Ms) (ace : Int) : Int := (ace - m.pk) % 8
def bR (m : Ms) (ce : Int) : Int := (ce - m.bt) % 16777216
def nR (m : Ms) (ace ce packets : Int) : Int := if 8 ≤ packets ∧ 0 < bR m ce then n0R m ace + (packets - n0R m ace) / 8 * 8 else n0R m ace
def Fits (m : Ms) (ace ce packets bytes : Int) : Prop := m.pk + nR m ace ce packets ≤ 1152921504606846976 ∧ m.bt + bR m ce ≤ 1152921504606846976 ∧ m.ca + bytes ≤ 1152921504606846976
instance (m : Ms) (a b c d : Int) : Decidable (Fits m a b c d) := inferInstanceAs (Decidable (_ ∧ _ ∧ _))
def minM (a b : Int) : Int := if a < b then a else b
/-- Heard -/
def heardR (m : Ms) (ace ce packets bytes : Int) : Ms × Int × Int :=
  if mmay m = true ∧ HeardOk ace ce packets bytes then
    (if Fits m ace ce packets bytes then (⟨m.pk + nR m ace ce packets, m.bt + bR m ce, m.ca + bytes, m.md + minM bytes (bR m ce), m.pt⟩, nR m ace ce packets, 0) else (zmk, 0, 5))
  else (zmk, 0, 1)
theorem heard_no {m : Ms} {a b c d : Int} (h : ¬ (mmay m = true ∧ HeardOk a b c d)) : heardR m a b c d = (zmk, 0, 1) := if_neg h
theorem heard_over {m : Ms} {a b c d : Int} (h : mmay m = true ∧ HeardOk a b c d) (k : ¬ Fits m a b c d) : heardR m a b c d = (zmk, 0, 5) := by unfold heardR; rw [if_pos h, if_neg k]
theorem heard_ok {m : Ms} {a b c d : Int} (h : mmay m = true ∧ HeardOk a b c d) (k : Fits m a b c d) : heardR m a b c d = (⟨m.pk + nR m a b c, m.bt + bR m b, m.ca + d, m.md + minM d (bR m b), m.pt⟩, nR m a b c, 0) := by unfold heardR; rw [if_pos h, if_pos k]
/-- the part behind a round -/
def partR (m : Ms) : Int := if 0 < m.ca then m.pt + (1024 * m.md / m.ca - m.pt) / 16 else m.pt
def roundR (m : Ms) : Ms × Int := if mmay m = true then (⟨m.pk, m.bt, 0, 0, partR m⟩, 0) else (zmk, 1)

/-! bounds -/
theorem n0_bd (m : Ms) (a : Int) : 0 ≤ n0R m a ∧ n0R m a ≤ 7 := by unfold n0R; omega
theorem b_bd (m : Ms) (c : Int) : 0 ≤ bR m c ∧ bR m c < 16777216 := by unfold bR; omega
theorem n_bd {m : Ms} {a c p : Int} (h : 0 ≤ p) : 0 ≤ nR m a c p ∧ (nR m a c p ≤ p ∨ nR m a c p ≤ 7) := by
  have := n0_bd m a
  unfold nR
  split
  · omega
  · omega
theorem quo_bd {m : Ms} (h : MsOk m) (hc : 0 < m.ca) : 0 ≤ 1024 * m.md / m.ca ∧ 1024 * m.md / m.ca ≤ 1024 := by
  have h0 := h.m0; have h1 := h.m1
  constructor
  · exact Int.ediv_nonneg (by omega) (by omega)
  · have : 1024 * m.md / m.ca ≤ 1024 * m.ca / m.ca := Int.ediv_le_ediv hc (by omega)
    rwa [Int.mul_ediv_cancel _ (by omega)] at this
theorem part_bd {m : Ms} (h : MsOk m) : 0 ≤ partR m ∧ partR m ≤ 1024 := by
  have h0 := h.t0; have h1 := h.t1
  unfold partR
  split
  · next hc =>
    have := quo_bd h hc
    generalize 1024 * m.md / m.ca = q at *
    omega
  · omega
theorem heard_valid {m : Ms} {a b c d : Int} (h : mmay m = true ∧ HeardOk a b c d) (k : Fits m a b c d) : MsOk (heardR m a b c d).1 := by
  rw [heard_ok h k]
  have hv := (mmay_iff m).1 h.1
  obtain ⟨h1, h2, h3, h4, h5, h6, h7⟩ := h.2
  obtain ⟨k1, k2, k3⟩ := k
  have hb := b_bd m b
  have hn := n_bd (m := m) (a := a) (c := b) h4
  have q1 := hv.p0; have q2 := hv.b0; have q3 := hv.c0; have q4 := hv.m0; have q5 := hv.m1
  refine ⟨?_, ?_, ?_, ?_, ?_, ?_, ?_, ?_, hv.t0, hv.t1⟩ <;> dsimp only <;> (try unfold minM) <;> (try split) <;> omega
theorem round_valid {m : Ms} (h : MsOk m) : MsOk ⟨m.pk, m.bt, 0, 0, partR m⟩ :=
  ⟨h.p0, h.p1, h.b0, h.b1, Int.le_refl 0, by show (0 : Int) ≤ _; decide, Int.le_refl 0, Int.le_refl 0, (part_bd h).1, (part_bd h).2⟩
end Go.Proofs.Ytkgbbmjobjcepaa
