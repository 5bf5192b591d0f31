/- Package spans: what the laws want of the answers. No program. -/
import Derived.Test.YtgiknfmagmfniaaSpMath
namespace Go.Proofs.Ytgiknfmagmfniaa

theorem addR_bad {l : List Sp} {s : Sp} (h : (mayB l && vld s.1 s.2) = false) : addR l s = ([], 1) := by unfold addR told; rw [h]; rfl
theorem cutR_bad {l : List Sp} {s : Sp} (h : (mayB l && vld s.1 s.2) = false) : cutR l s = ([], 1) := by unfold cutR told; rw [h]; rfl
theorem addR_ok {l : List Sp} {s : Sp} (hm : mayB l = true) (hv : vld s.1 s.2 = true) (hl : l.length ≤ 999) : addR l s = (ins l s, 0) := by
  unfold addR told
  rw [hm, hv, addL_ins (mayB_parts hm).2, Bool.and_self, if_pos rfl, if_pos (by have := ins_len l s; omega)]
theorem cutR_ok {l : List Sp} {s : Sp} (hm : mayB l = true) (hv : vld s.1 s.2 = true) (hl : l.length ≤ 999) : cutR l s = (cutL l s, 0) := by
  unfold cutR told
  rw [hm, hv, Bool.and_self, if_pos rfl, if_pos (by have := cutL_len1 (s := s) (mayB_parts hm).2 (vld_iff.1 hv).2.1; omega)]
theorem ins_may {l : List Sp} {s : Sp} (hm : mayB l = true) (hv : vld s.1 s.2 = true) (hl : l.length ≤ 999) : mayB (ins l s) = true := by
  unfold mayB
  rw [ins_ch (mayB_parts hm).2 hv (by have := vld_iff.1 hv; omega), decide_eq_true (by have := ins_len l s; omega)]
  rfl
theorem cut_may {l : List Sp} {s : Sp} (hm : mayB l = true) (hv : vld s.1 s.2 = true) (hl : l.length ≤ 999) : mayB (cutL l s) = true := by
  unfold mayB
  rw [cutL_ch (mayB_parts hm).2 (vld_iff.1 hv).2.1, decide_eq_true (by have := cutL_len1 (s := s) (mayB_parts hm).2 (vld_iff.1 hv).2.1; omega)]
  rfl
theorem may_eq {l m : List Sp} (hl : mayB l = true) (hm : mayB m = true) (h : ∀ n, inL l n ↔ inL m n) : l = m := ch_unique (mayB_parts hl).2 (mayB_parts hm).2 h
theorem ins_in' {l : List Sp} {s : Sp} (hm : mayB l = true) (hv : vld s.1 s.2 = true) (n : Int) : inL (ins l s) n ↔ inL l n ∨ (s.1 ≤ n ∧ n < s.2) := ins_in (mayB_parts hm).2 (vld_iff.1 hv).2.1 n
theorem cut_in' {l : List Sp} {s : Sp} (hv : vld s.1 s.2 = true) (n : Int) : inL (cutL l s) n ↔ inL l n ∧ ¬ (s.1 ≤ n ∧ n < s.2) := cutL_in l (vld_iff.1 hv).2.1 n
theorem hasB_of {l : List Sp} {a b : Int} (hm : mayB l = true) (hv : vld a b = true) : hasB l a b = hasIn l a b := by unfold hasB; rw [hm, hv]; rfl
theorem gapF_of {l : List Sp} {n : Int} (hm : mayB l = true) (hn : 0 ≤ n) : gapF l n = gapIn l n := by
  unfold gapF; rw [if_pos hm, show max n 0 = n by omega]
end Go.Proofs.Ytgiknfmagmfniaa
