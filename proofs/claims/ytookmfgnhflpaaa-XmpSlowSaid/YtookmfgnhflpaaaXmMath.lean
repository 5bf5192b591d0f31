/- Package xmp: what follows of the answers. No program of the stage. -/
import Derived.Test.YtookmfgnhflpaaaXm
namespace Go.Proofs.Ytookmfgnhflpaaa
set_option linter.unusedVariables false

theorem slow_facts {c t b mss most : Int} (h : xmB c t mss most = true) (h0 : 0 ≤ b) (h1 : b ≤ 1099511627776) : ∃ a, slowR c t b mss most = (a, t, 0) ∧ c ≤ a ∧ (a = c ∨ a ≤ t) ∧ xmB a t mss most = true := by
  have hv := (xmB_iff c t mss most).1 h
  by_cases k : t ≤ c
  · exact ⟨c, slow_stay ⟨h, h0, h1⟩ k, Int.le_refl _, .inl rfl, h⟩
  · exact ⟨_, slow_ok ⟨h, h0, h1⟩ k, by omega, .inr (by omega), (xmB_iff _ _ _ _).2 (by omega)⟩
theorem rnd_facts {c t b mss most : Int} (h : xmB c t mss most = true) (h0 : 0 ≤ b) (h1 : b ≤ mss) : ∃ a, rndR c t b mss most = (a, t, 0) ∧ c ≤ a ∧ a - c ≤ mss ∧ xmB a t mss most = true := by
  have hv := (xmB_iff c t mss most).1 h
  by_cases k : c < t
  · exact ⟨c, rnd_stay ⟨h, h0, h1⟩ k, Int.le_refl _, by omega, h⟩
  · exact ⟨_, rnd_ok ⟨h, h0, h1⟩ k, by omega, by omega, (xmB_iff _ _ _ _).2 (by omega)⟩
theorem cut_facts {c t b mss most : Int} (h : xmB c t mss most = true) (h0 : 0 ≤ b) (h1 : b ≤ 1024) : ∃ z, cutR c t b mss most = (z, z, 0) ∧ z ≤ c ∧ c ≤ 2 * z ∧ (b = 0 → z = c) ∧ xmB z z mss most = true ∧ z = max mss (c - c * b / 2048) := by
  have hv := (xmB_iff c t mss most).1 h
  obtain ⟨u0, u1, u2, u3⟩ := cut_bd (c := c) (b := b) (by omega) h0 h1
  have hz : b = 0 → c * b / 2048 = 0 := fun e => by subst e; simp
  refine ⟨_, cut_ok ⟨h, h0, h1⟩, by omega, by omega, fun e => by have := hz e; omega, (xmB_iff _ _ _ _).2 (by omega), rfl⟩
theorem loss_facts {c t mss most : Int} {all : Bool} (h : xmB c t mss most = true) : ∃ z m, lossR c t all mss most = (z, m, 0) ∧ z ≤ m ∧ (all = true → z = mss) ∧ xmB z m mss most = true := by
  have hv := (xmB_iff c t mss most).1 h
  have hl : mss ≤ lossN c mss most ∧ lossN c mss most ≤ most := by unfold lossN; omega
  refine ⟨_, _, loss_ok h, ?_, fun e => by rw [e]; rfl, ?_⟩
  · cases all <;> simp <;> omega
  · refine (xmB_iff _ _ _ _).2 ?_
    cases all <;> simp <;> omega
/-- more marks, no greater window -/
theorem cut_more {c a b mss : Int} (h0 : 0 ≤ c) (ha : 0 ≤ a) (hb : 0 ≤ b) : max mss (c - c * (a + b) / 2048) ≤ max mss (c - c * a / 2048) := by
  have h1 : c * a ≤ c * (a + b) := Int.mul_le_mul_of_nonneg_left (by omega) h0
  have h2 : c * a / 2048 ≤ c * (a + b) / 2048 := Int.ediv_le_ediv (by omega) h1
  omega
/-- bytes in two goes are as bytes in one -/
theorem slow_two {c t a b mss most : Int} (h : xmB c t mss most = true) (a0 : 0 ≤ a) (a1 : a ≤ 1000000000) (b0 : 0 ≤ b) (b1 : b ≤ 1000000000) : ∃ x, slowR c t a mss most = (x, t, 0) ∧ slowR x t b mss most = slowR c t (a + b) mss most ∧ ∃ y, slowR c t (a + b) mss most = (y, t, 0) ∧ (t ≤ c → y = c) := by
  have hv := (xmB_iff c t mss most).1 h
  obtain ⟨x, hx, x1, x2, x3⟩ := slow_facts h a0 (by omega)
  obtain ⟨y, hy, y1, y2, y3⟩ := slow_facts h (b := a + b) (by omega) (by omega)
  refine ⟨x, hx, ?_, y, hy, ?_⟩
  · by_cases k : t ≤ c
    · rw [slow_stay ⟨h, a0, by omega⟩ k] at hx
      cases hx
      rw [slow_stay ⟨h, b0, by omega⟩ k, slow_stay ⟨h, by omega, by omega⟩ k]
    · rw [slow_ok ⟨h, a0, by omega⟩ k] at hx
      have hx1 : min (c + a) t = x := congrArg (·.1) hx
      rw [slow_ok ⟨h, by omega, by omega⟩ k]
      by_cases k2 : t ≤ x
      · rw [slow_stay ⟨x3, b0, by omega⟩ k2, show x = min (c + (a + b)) t by omega]
      · rw [slow_ok ⟨x3, b0, by omega⟩ k2, show min (x + b) t = min (c + (a + b)) t by omega]
  · intro k
    rw [slow_stay ⟨h, by omega, by omega⟩ k] at hy
    exact (congrArg (·.1) hy).symm
theorem rnd_below {c t mss most : Int} (h : xmB c t mss most = true) : ∃ a, rndR c t mss mss most = (a, t, 0) ∧ (c < t → a = c) := by
  have hv := (xmB_iff c t mss most).1 h
  by_cases k : c < t
  · exact ⟨c, rnd_stay ⟨h, by omega, by omega⟩ k, fun _ => rfl⟩
  · exact ⟨_, rnd_ok ⟨h, by omega, by omega⟩ k, fun h => absurd h k⟩
end Go.Proofs.Ytookmfgnhflpaaa
