/- The reference's Has, Size, Gap: every list. -/
import Derived.Test.YtgiknfmagmfniaaSpRef2
namespace Go.Proofs.Ytgiknfmagmfniaa
open Go.RowKit

theorem rsize_aux {l : List Sp} (h : chain (-1) l = true) {k : Nat} (hk : k < l.length) :
    0 ≤ size (l.take k) ∧ size (l.take k) ≤ 4611686018427387904 ∧ 0 ≤ (sp l k).1 ∧ (sp l k).1 < (sp l k).2 ∧ (sp l k).2 ≤ 4611686018427387904 ∧ size (l.take (k + 1)) = size (l.take k) + ((sp l k).2 - (sp l k).1) ∧ size (l.take k) + (sp l k).2 ≤ 9223372036854775807 := by
  have h1 := chain_take h (k + 1)
  rw [take_sp hk] at h1
  rw [chain_snoc, Bool.and_eq_true, Bool.and_eq_true, decide_eq_true_eq] at h1
  have hv := vld_iff.1 h1.2.2
  have hb := (chain_bd h1.1 (by omega)).2 (by omega)
  rw [take_sp hk, size_snoc]
  have := h1.2.1
  omega

end Go.Proofs.Ytgiknfmagmfniaa
