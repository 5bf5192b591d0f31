/- The reference of package sent: Span, Flight, Same as contracts of the calls. -/
import Derived.Test.YtlanplobdgchaaaStRef2
namespace Go.Proofs.Ytlanplobdgchaaa
open Go.RowKit
set_option linter.unusedVariables false
set_option linter.unusedSimpArgs false

theorem flyL_bd {x : Prt} (h : POk x) : 0 ≤ flyL x ∧ flyL x ≤ 1460 ∧ flyL x ≤ x.len := by
  have := h.l1; have := h.l2; unfold flyL; split <;> omega
theorem flySum_nil : flySum [] = 0 := rfl
theorem flySum_bd {l : List Prt} (h : ChainTo l l.length) : ∀ k, k ≤ l.length → 0 ≤ flySum (l.take k) ∧ flySum (l.take k) ≤ 1460 * (k : Int) := by
  intro k
  induction k with
  | zero => intro _; exact ⟨by simp [flySum_nil], by simp [flySum_nil]⟩
  | succ k ih =>
    intro hk
    have h1 := ih (by omega)
    have h2 := flyL_bd (h k (by omega)).1
    rw [take_ge (by omega), flySum_snoc]
    push_cast
    omega

end Go.Proofs.Ytlanplobdgchaaa
