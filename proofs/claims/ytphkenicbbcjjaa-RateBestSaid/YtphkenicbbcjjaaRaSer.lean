/- Package rate: a series of samples all the same. No program. -/
import Derived.Test.YtphkenicbbcjjaaRaMath
namespace Go.Proofs.Ytphkenicbbcjjaa
set_option linter.unusedVariables false
def Stq (l : List Int) (q : Int) : Prop := l.length ≤ 10 ∧ ∀ x ∈ l, x = q
theorem stq_push {l : List Int} {q : Int} (h : Stq l q) : Stq (pushR l q) q := ⟨push_len h.1, fun x hx => (push_mem hx).elim (h.2 x) id⟩
theorem stq_may {l : List Int} {q t a : Int} (h : Stq l q) (q0 : 0 ≤ q) (q1 : q ≤ 1152921504606846976) (t0 : 0 ≤ t) (t1 : t ≤ 1152921504606846976) (a0 : 0 ≤ a) (a1 : a ≤ 1152921504606846976) : ramay ⟨t, a, l⟩ = true :=
  (ramay_iff _).2 ⟨(all_mem l).2 (fun x hx => by rw [h.2 x hx]; exact (t60_iff _).2 ⟨q0, q1⟩), t0, t1, a0, a1, h.1⟩
theorem mx_le {l : List Int} {q : Int} (q0 : 0 ≤ q) (h : ∀ x ∈ l, x ≤ q) : mx l ≤ q := by
  suffices hh : ∀ (l : List Int) (n : Int), n ≤ q → (∀ x ∈ l, x ≤ q) → l.foldl (fun n x => if n < x then x else n) n ≤ q from hh l 0 q0 h
  intro l
  induction l with
  | nil => intro n hn _; exact hn
  | cons y t ih =>
    intro n hn hl
    have hy := hl y (by simp)
    exact ih _ (by dsimp only; split <;> omega) (fun x hx => hl x (by simp [hx]))
theorem stq_best {l : List Int} {q t a : Int} (h : Stq l q) (q0 : 0 ≤ q) (hm : ramay ⟨t, a, pushR l q⟩ = true) : bestR ⟨t, a, pushR l q⟩ = q := by
  unfold bestR
  rw [if_pos hm]
  have h1 := mx_ge (push_in (l := l) (n := q))
  have h2 := mx_le q0 (fun x hx => by rw [(stq_push h).2 x hx]; exact Int.le_refl _)
  dsimp only
  omega
theorem came_is {t a b later : Int} {l : List Int} (hm : ramay ⟨t, a, l⟩ = true) (h0 : 0 ≤ later) (a0 : 0 ≤ a) (h1 : a + later ≤ 1152921504606846976) (b0 : 0 ≤ b) (b1 : b ≤ 1099511627776) (ht : t + b ≤ 1152921504606846976) : cameR ⟨t, a, l⟩ (a + later) b = (⟨t + b, a + later, l⟩, 0) :=
  came_ok ⟨hm, by dsimp only; omega, (t60_iff _).2 ⟨by omega, h1⟩, b0, b1⟩ ht
theorem samp_is {t a b later q : Int} {l : List Int} (hm : ramay ⟨t + b, a + later, l⟩ = true) (h0 : 1 ≤ later) (a0 : 0 ≤ a) (t0 : 0 ≤ t) (b0 : 0 ≤ b) (hq : 1000000 * b / later = q) (q1 : q ≤ 1152921504606846976) : sampR ⟨t + b, a + later, l⟩ t a = (⟨t + b, a + later, pushR l q⟩, q, 0) := by
  rw [samp_ok ⟨hm, t0, by dsimp only; omega, a0, by dsimp only; omega⟩ (by dsimp only; omega)]
  have e1 : t + b - t = b := by omega
  have e2 : a + later - a = later := by omega
  dsimp only
  rw [e1, e2]
  have : numR b later = q := by unfold numR; rw [hq, if_neg (by omega)]
  rw [this]
end Go.Proofs.Ytphkenicbbcjjaa
