/- Package weave: a Put, place by place. No program. -/
import Derived.Test.YtgiknfmagmfniaaWvLaw
namespace Go.Proofs.Ytgiknfmagmfniaa
set_option linter.unusedVariables false

/-- the bytes after j places from lo on -/
structure Pz (w : Wv) (p lo : Int) (bs : List Int) (j : Nat) (l : List Int) : Prop where
  len0 : w.b.length ≤ l.length
  len1 : l.length ≤ max w.b.length (lo + j - w.base).toNat
  at_ : ∀ i : Nat, byt l i = if newB w.got lo (lo + j) (w.base + i) = true then byt bs (w.base + i - p).toNat else byt w.b i
  has : ∀ i : Nat, newB w.got lo (lo + j) (w.base + i) = true → i < l.length
theorem newB_zero (g : List Sp) (lo x : Int) : newB g lo (lo + (0 : Nat)) x = false := by
  cases h : newB g lo (lo + (0 : Nat)) x with
  | false => rfl
  | true => have := newB_iff.1 h; omega
theorem newB_succ {g : List Sp} {lo : Int} {j : Nat} {x : Int} (hx : x ≠ lo + j) : newB g lo (lo + (j + 1 : Nat)) x = newB g lo (lo + j) x := by
  rw [Bool.eq_iff_iff, newB_iff, newB_iff]
  constructor
  · rintro ⟨h1, h2, h3⟩; exact ⟨h1, by omega, h3⟩
  · rintro ⟨h1, h2, h3⟩; exact ⟨h1, by omega, h3⟩
theorem newB_in {g : List Sp} {lo : Int} {j : Nat} {x : Int} (hx : inL g x) : newB g lo (lo + (j : Nat)) x = false := by
  cases h : newB g lo (lo + (j : Nat)) x with
  | false => rfl
  | true => exact absurd hx (newB_iff.1 h).2.2
theorem pz_zero (w : Wv) (p lo : Int) (bs : List Int) : Pz w p lo bs 0 w.b :=
  ⟨Nat.le_refl _, by omega, fun i => by rw [newB_zero]; rfl, fun i h => by rw [newB_zero] at h; cases h⟩
theorem pz_skip {w : Wv} {p lo : Int} {bs : List Int} {j : Nat} {l : List Int} (h : Pz w p lo bs j l) (hin : inL w.got (lo + j)) : Pz w p lo bs (j + 1) l := by
  have e : ∀ i : Nat, newB w.got lo (lo + (j + 1 : Nat)) (w.base + i) = newB w.got lo (lo + j) (w.base + i) := fun i => by
    by_cases hx : w.base + (i : Int) = lo + j
    · rw [hx, newB_in hin, newB_in hin]
    · exact newB_succ hx
  exact ⟨h.len0, by have := h.len1; omega, fun i => by rw [e i]; exact h.at_ i, fun i hi => by rw [e i] at hi; exact h.has i hi⟩
theorem byt_pad (l : List Int) (t i : Nat) : byt (l ++ List.replicate t 0) i = byt l i := by
  unfold byt
  rw [List.getD_eq_getElem?_getD, List.getD_eq_getElem?_getD]
  by_cases h : i < l.length
  · rw [List.getElem?_append_left h]
  · rw [List.getElem?_append_right (by omega), List.getElem?_eq_none (l := l) (by omega)]
    by_cases h2 : i - l.length < t
    · rw [List.getElem?_replicate, if_pos h2]; rfl
    · rw [List.getElem?_eq_none (by simp; omega)]
theorem byt_set {l : List Int} {k : Nat} (hk : k < l.length) (x : Int) (i : Nat) : byt (l.set k x) i = if i = k then x else byt l i := by
  unfold byt
  rw [List.getD_eq_getElem?_getD, List.getD_eq_getElem?_getD, List.getElem?_set]
  by_cases h : k = i
  · subst h; rw [if_pos rfl, if_pos hk, if_pos rfl]; rfl
  · rw [if_neg h, if_neg (fun e => h e.symm)]
theorem pz_put {w : Wv} {p lo : Int} {bs : List Int} {j t k : Nat} {l : List Int} (h : Pz w p lo bs j l) (hout : ¬ inL w.got (lo + j)) (hk : w.base + (k : Int) = lo + j) (ht : l.length + t = max l.length (k + 1)) :
    Pz w p lo bs (j + 1) ((l ++ List.replicate t 0).set k (byt bs (lo + j - p).toNat)) := by
  have hlen : (l ++ List.replicate t 0).length = max l.length (k + 1) := by rw [List.length_append, List.length_replicate]; exact ht
  refine ⟨?_, ?_, fun i => ?_, fun i hi => ?_⟩
  · rw [List.length_set, hlen]; have := h.len0; omega
  · rw [List.length_set, hlen]; have := h.len1; omega
  · rw [byt_set (by omega), byt_pad]
    by_cases hi : i = k
    · rw [if_pos hi, hi, hk, if_pos (newB_iff.2 ⟨by omega, by omega, hout⟩)]
    · rw [if_neg hi, newB_succ (by omega)]
      exact h.at_ i
  · rw [List.length_set, hlen]
    by_cases hik : i = k
    · omega
    · rw [newB_succ (by omega)] at hi
      have := h.has i hi; omega
theorem pz_end {w : Wv} {p : Int} {bs : List Int} {l : List Int} (hv : Va w) (hlt : lowP w p < highP w p bs.length) (h : Pz w p (lowP w p) bs (highP w p bs.length - lowP w p).toNat l) : l = putB w p bs := by
  have e : lowP w p + ((highP w p bs.length - lowP w p).toNat : Nat) = highP w p bs.length := by omega
  have hb := (low_ge w p).1
  have hbl := hv.blen
  have h1 := h.len1
  rw [e] at h1
  have hlen : l.length = max w.b.length (highP w p bs.length - w.base).toNat := by
    by_cases hc : w.b.length < (highP w p bs.length - w.base).toNat
    · have h2 := h.has (highP w p bs.length - w.base - 1).toNat (newB_iff.2 ⟨by omega, by omega, fun hin => by have := (up_in hv hin).2; omega⟩)
      omega
    · have := h.len0; omega
  refine byt_ext (by rw [hlen, putB_len]) (fun i hi => ?_)
  rw [putB_at _ _ _ (by rw [putB_len, ← hlen]; exact hi), h.at_ i, e]
theorem putN_zero' (g : List Sp) (lo : Int) : putN g lo (lo + (0 : Nat)) = 0 := by
  unfold putN; rw [show (lo + ((0 : Nat) : Int) - lo).toNat = 0 by omega]; rfl
theorem putN_succ (g : List Sp) (lo : Int) (j : Nat) : putN g lo (lo + (j + 1 : Nat)) = putN g lo (lo + j) + (if inB g (lo + j) = true then 0 else 1) := by
  unfold putN
  rw [show (lo + ((j + 1 : Nat) : Int) - lo).toNat = j + 1 by omega, show (lo + (j : Int) - lo).toNat = j by omega, List.range_succ, List.filter_append, List.length_append]
  congr 1
  cases h : inB g (lo + (j : Int)) <;> simp [h]
theorem small_set {l : List Int} (h : Small l) {k : Nat} {x : Int} (h0 : 0 ≤ x) (h1 : x < 256) : Small (l.set k x) := by
  intro y hy
  rcases List.mem_or_eq_of_mem_set hy with h2 | h2
  · exact h y h2
  · rw [h2]; exact ⟨h0, h1⟩
theorem small_pad {l : List Int} (h : Small l) (t : Nat) : Small (l ++ List.replicate t 0) := small_app h (fun x hx => by rw [(List.mem_replicate.1 hx).2]; omega)
end Go.Proofs.Ytgiknfmagmfniaa
