/- Package marks: what the laws ask of the answers. No program. -/
import Derived.Test.YtkgbbmjobjcepaaMs
namespace Go.Proofs.Ytkgbbmjobjcepaa
set_option linter.unusedVariables false
set_option linter.unusedSimpArgs false

/-! the part -/
theorem part_same {m : Ms} (h : m.ca = 0 ∨ (m.md = 0 ∧ m.pt = 0)) : partR m = m.pt := by
  unfold partR
  split
  · next hc =>
    rcases h with h | ⟨h1, h2⟩
    · omega
    · rw [h1, h2]; simp
  · rfl
theorem part_low {m : Ms} (h : MsOk m) (hm : m.md = 0) : partR m ≤ m.pt := by
  have := h.t0
  unfold partR
  split
  · rw [hm]; simp; omega
  · exact Int.le_refl _
theorem part_high {m : Ms} (h : MsOk m) (hm : m.md = m.ca) : m.pt ≤ partR m := by
  have := h.t1
  unfold partR
  split
  · next hc => rw [hm, Int.mul_ediv_cancel _ (by omega)]; omega
  · exact Int.le_refl _
theorem part_near {m : Ms} (h : MsOk m) : partR m - m.pt ≤ 64 ∧ m.pt - partR m ≤ 64 := by
  have h0 := h.t0; have h1 := h.t1
  unfold partR
  split
  · next hc =>
    have := quo_bd h hc
    generalize 1024 * m.md / m.ca = q at *
    omega
  · omega

theorem told_bd (m : Ms) : 0 ≤ (toldR m).1 ∧ (toldR m).1 ≤ 7 ∧ 0 ≤ (toldR m).2 ∧ (toldR m).2 < 16777216 := by
  unfold toldR; split <;> (dsimp only; omega)

/-! heard again -/
theorem nR_small {m : Ms} {a c p : Int} (h : p ≤ 7) : nR m a c p = n0R m a := by unfold nR; rw [if_neg (by omega)]
theorem told_heard {m : Ms} {a c p b : Int} (h : mmay m = true ∧ HeardOk a c p b) (hc : 0 ≤ c) (k : Fits m a c p b) (hp : p ≤ 7) :
    toldR (heardR m a c p b).1 = (a, c) ∧ mmay (heardR m a c p b).1 = true ∧ heardR (heardR m a c p b).1 a c p 0 = ((heardR m a c p b).1, 0, 0) := by
  have hv := heard_valid h k
  have hm := (mmay_iff _).2 hv
  have h2 := h.2
  obtain ⟨g1, g2, g3, g4, g5, g6, g7⟩ := h2
  have v := (mmay_iff m).1 h.1
  rw [heard_ok h k] at hv hm ⊢
  rw [nR_small hp] at hv hm ⊢
  have q0 := v.p0; have q1 := v.b0
  have hok : mmay ⟨m.pk + n0R m a, m.bt + bR m c, m.ca + b, m.md + minM b (bR m c), m.pt⟩ = true ∧ HeardOk a c p 0 := ⟨hm, g1, g2, g3, g4, g5, Int.le_refl 0, by decide⟩
  have e1 : (m.pk + n0R m a) % 8 = a := by unfold n0R; omega
  have e2 : (m.bt + bR m c) % 16777216 = c := by unfold bR; omega
  have n0 : n0R ⟨m.pk + n0R m a, m.bt + bR m c, m.ca + b, m.md + minM b (bR m c), m.pt⟩ a = 0 := by
    show (a - (m.pk + n0R m a)) % 8 = 0
    omega
  have b0 : bR ⟨m.pk + n0R m a, m.bt + bR m c, m.ca + b, m.md + minM b (bR m c), m.pt⟩ c = 0 := by
    show (c - (m.bt + bR m c)) % 16777216 = 0
    omega
  have hf : Fits ⟨m.pk + n0R m a, m.bt + bR m c, m.ca + b, m.md + minM b (bR m c), m.pt⟩ a c p 0 := by
    unfold Fits
    rw [nR_small hp, n0, b0]
    have i1 := hv.p1; have i2 := hv.b1; have i3 := hv.c1
    dsimp only at i1 i2 i3 ⊢
    omega
  refine ⟨?_, hm, ?_⟩
  · unfold toldR; rw [if_pos hm]; dsimp only; rw [e1, e2]
  · rw [heard_ok hok hf, nR_small hp, n0, b0]
    dsimp only
    have : minM 0 0 = 0 := rfl
    rw [this]
    simp
/-- what is told is heard -/
theorem back_spec {m : Ms} {p k X Y : Int} (h : mmay m = true) (h1 : m.pk ≤ 1000000000000) (h2 : m.bt ≤ 1000000000000) (h3 : m.ca ≤ 1000000000000) (hp0 : 0 ≤ p) (hp1 : p ≤ 1000000) (hk0 : 0 ≤ k) (hk1 : k ≤ p) (hX0 : 0 ≤ X) (hX1 : X < 16777216) (hXY : X ≤ Y) (hY : Y ≤ 1000000000000) (hkX : 0 < k → 0 < X) (hgo : ¬ (8 ≤ p ∧ 7 < p - k)) :
    toldR ⟨m.pk + k, m.bt + X, m.ca, m.md, m.pt⟩ = ((m.pk + k) % 8, (m.bt + X) % 16777216) ∧ ∃ h', heardR m ((m.pk + k) % 8) ((m.bt + X) % 16777216) p Y = (h', k, 0) ∧ h'.pk = m.pk + k ∧ h'.bt = m.bt + X ∧ h'.md = m.md + X := by
  have v := (mmay_iff m).1 h
  have q0 := v.p0; have q1 := v.b0; have q2 := v.c0
  constructor
  · have hm : mmay ⟨m.pk + k, m.bt + X, m.ca, m.md, m.pt⟩ = true := (mmay_iff _).2 ⟨by dsimp only; omega, by dsimp only; omega, by dsimp only; omega, by dsimp only; omega, by dsimp only; omega, by dsimp only; omega, v.m0, v.m1, v.t0, v.t1⟩
    unfold toldR; rw [if_pos hm]
  · have hok : mmay m = true ∧ HeardOk ((m.pk + k) % 8) ((m.bt + X) % 16777216) p Y := ⟨h, by omega, by omega, by omega, hp0, by omega, by omega, by omega⟩
    have hb : bR m ((m.bt + X) % 16777216) = X := by unfold bR; omega
    have hn : nR m ((m.pk + k) % 8) ((m.bt + X) % 16777216) p = k := by
      unfold nR
      rw [hb]
      have hn0 : n0R m ((m.pk + k) % 8) = k % 8 := by unfold n0R; omega
      rw [hn0]
      split
      · omega
      · next hne =>
        have : p < 8 := by
          rcases Int.lt_or_le p 8 with h | h
          · exact h
          · have : 0 < X := hkX (by omega)
            exact absurd ⟨h, this⟩ hne
        omega
    have hf : Fits m ((m.pk + k) % 8) ((m.bt + X) % 16777216) p Y := by unfold Fits; rw [hb, hn]; omega
    refine ⟨⟨m.pk + k, m.bt + X, m.ca + Y, m.md + X, m.pt⟩, ?_, rfl, rfl, rfl⟩
    rw [heard_ok hok hf, hb, hn]
    have : minM Y X = X := by unfold minM; split <;> omega
    rw [this]

/-! rounds -/
def up1 (x : Int) : Int := x + (1024 - x) / 16
def dn1 (x : Int) : Int := x + (0 - x) / 16
def step (all : Bool) (x : Int) : Int := if all = true then up1 x else dn1 x
def steps (all : Bool) (x : Int) : Nat → Int
  | 0 => x
  | k + 1 => step all (steps all x k)
theorem steps_succ (all : Bool) (x : Int) (k : Nat) : steps all x (k + 1) = step all (steps all x k) := rfl
theorem step_part (all : Bool) (x : Int) : partR ⟨0, 0, 50, if all = true then 50 else 0, x⟩ = step all x := by
  unfold partR step up1 dn1
  cases all <;> simp
theorem step_bd {all : Bool} {x : Int} (h0 : 0 ≤ x) (h1 : x ≤ 1024) : 0 ≤ step all x ∧ step all x ≤ 1024 := by
  unfold step up1 dn1; cases all <;> simp <;> omega
theorem steps_bd {all : Bool} {x : Int} (h0 : 0 ≤ x) (h1 : x ≤ 1024) (k : Nat) : 0 ≤ steps all x k ∧ steps all x k ≤ 1024 := by
  induction k with
  | zero => exact ⟨h0, h1⟩
  | succ k ih => exact step_bd ih.1 ih.2
theorem step_mono {all : Bool} {x y : Int} (h : x ≤ y) : step all x ≤ step all y := by
  unfold step up1 dn1; cases all <;> simp <;> omega
theorem steps_mono {all : Bool} {x y : Int} (h : x ≤ y) (k : Nat) : steps all x k ≤ steps all y k := by
  induction k with
  | zero => exact h
  | succ k ih => exact step_mono ih
theorem up_far : 1009 ≤ steps true 0 100 := by decide +kernel
theorem dn_far : steps false 1024 100 ≤ 100 := by decide +kernel
theorem steps_end {x : Int} (h0 : 0 ≤ x) (h1 : x ≤ 1024) : 1009 ≤ steps true x 100 ∧ steps false x 100 ≤ 100 :=
  ⟨Int.le_trans up_far (steps_mono h0 100), Int.le_trans (steps_mono h1 100) dn_far⟩
theorem step_dir {x : Int} (h0 : 0 ≤ x) (h1 : x ≤ 1024) : x ≤ step true x ∧ step false x ≤ x ∧ (0 < x → step false x ≠ x) := by
  unfold step up1 dn1; simp; omega
end Go.Proofs.Ytkgbbmjobjcepaa
