/- A block of a literal, or of a row of the call's own, as a slice of elements. No program. -/
import Derived.Test.YtmclffbjdkoneaaRo
namespace Go.Proofs.Ytmclffbjdkoneaa
open Go.RowKit
theorem bx_se {α : Type} [El α] {W : World} {B : Nat} {t : TypeId} {l : List α} {n : Nat} (h : Bx W B t (evals l)) (hn : l.length = n) (hm : n ≤ maxLen) (ho : AllOk l) : Se W (some ⟨B, 0, none⟩) n n l := by
  refine ⟨Nat.le_refl _, hm, (fun e => by cases e), hn, ho, fun h0 => ⟨B, 0, rfl, h.lt, fun i hi j u hu => ?_⟩⟩
  rw [Nat.zero_add]
  exact h.cell _ (evals_at l i j u (by omega) hu)
end Go.Proofs.Ytmclffbjdkoneaa
