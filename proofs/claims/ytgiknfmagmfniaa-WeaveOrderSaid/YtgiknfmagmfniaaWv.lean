/- Package weave: buffers, when they are valid, and what the answers are. No program. -/
import Derived.Test.YtgiknfmagmfniaaSpMath
import Derived.Test.YtgiknfmagmfniaaSpLawP
import Derived.Test.YtgiknfmagmfniaaCk
namespace Go.Proofs.Ytgiknfmagmfniaa

/-- a receive buffer -/
structure Wv where
  base : Int
  b : List Int
  got : List Sp
  cap : Int
  en : Int
def zw : Wv := ⟨0, [], [], 0, 0⟩
/-- where Got ends -/
def upW (w : Wv) : Int := lastOf w.base w.got
/-- the edge -/
def edW (w : Wv) : Int := min (w.base + w.cap) 2305843009213693952
def okW (w : Wv) : Bool := (List.range w.b.length).all fun i => decide (byt w.b i = 0) || inB w.got (w.base + i)
def wmay (w : Wv) : Bool := decide (w.got.length ≤ 1000 ∧ 0 ≤ w.cap ∧ w.cap ≤ 65536 ∧ 0 ≤ w.base ∧ w.base ≤ 2305843009213693952 ∧ upW w ≤ edW w ∧ (w.b.length : Int) = upW w - w.base ∧ (w.en = -1 ∨ upW w ≤ w.en)) && (chain (w.base - 1) w.got && okW w)

structure Va (w : Wv) : Prop where
  len : w.got.length ≤ 1000
  cap0 : 0 ≤ w.cap
  cap1 : w.cap ≤ 65536
  base0 : 0 ≤ w.base
  base1 : w.base ≤ 2305843009213693952
  up : upW w ≤ edW w
  blen : (w.b.length : Int) = upW w - w.base
  en : w.en = -1 ∨ upW w ≤ w.en
  ch : chain (w.base - 1) w.got = true
  ok : ∀ i : Nat, i < w.b.length → byt w.b i = 0 ∨ inL w.got (w.base + i)
theorem okW_iff (w : Wv) : okW w = true ↔ ∀ i : Nat, i < w.b.length → byt w.b i = 0 ∨ inL w.got (w.base + i) := by
  unfold okW
  rw [List.all_eq_true]
  constructor
  · intro h i hi
    have := h i (List.mem_range.2 hi)
    rw [Bool.or_eq_true, decide_eq_true_eq, inB_iff] at this
    exact this
  · intro h i hi
    have := h i (List.mem_range.1 hi)
    rw [Bool.or_eq_true, decide_eq_true_eq, inB_iff]
    exact this
theorem wmay_iff (w : Wv) : wmay w = true ↔ Va w := by
  unfold wmay
  rw [Bool.and_eq_true, Bool.and_eq_true, decide_eq_true_eq, okW_iff]
  constructor
  · rintro ⟨⟨h1, h2, h3, h4, h5, h6, h7, h8⟩, h9, ha⟩
    exact ⟨h1, h2, h3, h4, h5, h6, h7, h8, h9, ha⟩
  · rintro ⟨h1, h2, h3, h4, h5, h6, h7, h8, h9, ha⟩
    exact ⟨⟨h1, h2, h3, h4, h5, h6, h7, h8⟩, h9, ha⟩

/-! where a list ends -/
theorem last_cons (d : Int) (p : Sp) (t : List Sp) : lastOf d (p :: t) = lastOf p.2 t := rfl
theorem last_ge {d : Int} {l : List Sp} (h : chain d l = true) : d ≤ lastOf d l := by
  induction l generalizing d with
  | nil => exact Int.le_refl _
  | cons p t ih =>
    rw [ch_cons] at h
    have := ih h.2.2
    rw [last_cons]; omega
theorem last_in {d : Int} {l : List Sp} (h : chain d l = true) {n : Int} (hn : inL l n) : n < lastOf d l := by
  induction l generalizing d with
  | nil => exact absurd hn (inL_nil n)
  | cons p t ih =>
    rw [ch_cons] at h
    rw [last_cons]
    rcases (inL_cons p t n).1 hn with h1 | h1
    · have := last_ge h.2.2; omega
    · exact ih h.2.2 h1
theorem last_mem {d : Int} {l : List Sp} (h : chain d l = true) (hl : l ≠ []) : inL l (lastOf d l - 1) := by
  induction l generalizing d with
  | nil => exact absurd rfl hl
  | cons p t ih =>
    rw [ch_cons] at h
    rw [last_cons, inL_cons]
    cases t with
    | nil => left; rw [lastOf_nil]; omega
    | cons q r => right; exact ih h.2.2 (by simp)
theorem last_any {d e : Int} {l : List Sp} (hl : l ≠ []) : lastOf d l = lastOf e l := by
  cases l with
  | nil => exact absurd rfl hl
  | cons p t => rfl
theorem not_nil {l : List Sp} {n : Int} (h : inL l n) : l ≠ [] := fun e => by subst e; exact inL_nil n h
theorem low_in {d : Int} {l : List Sp} (h : chain d l = true) {n : Int} (hn : inL l n) : d < n := (ch_in h hn).1

section
variable {w : Wv}
theorem Va.may (h : Va w) : mayB w.got = true := by
  unfold mayB
  rw [decide_eq_true h.len, ch_weak h.ch (by have := h.base0; omega)]; rfl
theorem Va.chm (h : Va w) : chain (-1) w.got = true := (mayB_parts h.may).2
theorem up_ge (h : Va w) : w.base ≤ upW w := by
  have := h.blen; omega
theorem up_in (h : Va w) {n : Int} (hn : inL w.got n) : w.base ≤ n ∧ n < upW w := by
  have h1 := low_in h.ch hn
  have h2 := last_in h.ch hn
  have h3 : lastOf (w.base - 1) w.got = upW w := last_any (not_nil hn)
  omega
theorem up_last (h : Va w) (hl : w.got ≠ []) : inL w.got (upW w - 1) := by
  have := last_mem h.ch hl
  rw [show lastOf (w.base - 1) w.got = upW w from last_any hl] at this
  exact this
theorem up_nil (hl : w.got = []) : upW w = w.base := by unfold upW; rw [hl, lastOf_nil]
theorem up_top (h : Va w) : upW w ≤ 2305843009213693952 := by have := h.up; unfold edW at this; omega
theorem b_small (h : Va w) : w.b.length ≤ 65536 := by have := h.up; have := h.blen; have := h.cap1; unfold edW at *; omega
end
theorem byt_out {l : List Int} {i : Nat} (h : l.length ≤ i) : byt l i = 0 := by
  unfold byt; rw [List.getD_eq_getElem?_getD, List.getElem?_eq_none h]; rfl
theorem byt_map_range (f : Nat → Int) (n i : Nat) (h : i < n) : byt ((List.range n).map f) i = f i := by
  unfold byt; rw [List.getD_eq_getElem?_getD, List.getElem?_map, List.getElem?_range h]; rfl

/-! the answers -/
def lowP (w : Wv) (p : Int) : Int := max p w.base
def highP (w : Wv) (p : Int) (n : Nat) : Int := min (p + n) (edW w)
def newB (g : List Sp) (lo hi p : Int) : Bool := decide (lo ≤ p) && (decide (p < hi) && !(inB g p))
theorem newB_iff {g : List Sp} {lo hi p : Int} : newB g lo hi p = true ↔ lo ≤ p ∧ p < hi ∧ ¬ inL g p := by
  unfold newB
  rw [Bool.and_eq_true, Bool.and_eq_true, decide_eq_true_eq, decide_eq_true_eq, Bool.not_eq_true', ← Bool.not_eq_true, inB_iff]
def putB (w : Wv) (p : Int) (bs : List Int) : List Int :=
  (List.range (max w.b.length (highP w p bs.length - w.base).toNat)).map fun (i : Nat) =>
    if newB w.got (lowP w p) (highP w p bs.length) (w.base + i) = true then byt bs (w.base + i - p).toNat else byt w.b i
def putN (g : List Sp) (lo hi : Int) : Nat := ((List.range (hi - lo).toNat).filter fun (i : Nat) => !(inB g (lo + i))).length
def putR (w : Wv) (p : Int) (bs : List Int) : Wv × Int × Int :=
  if wmay w = true ∧ 0 ≤ p ∧ p ≤ 2305843009213693952 then
    if 0 ≤ w.en ∧ w.en < p + bs.length then (zw, 0, 5)
    else if highP w p bs.length ≤ lowP w p then (w, 0, 0)
    else if (addR w.got (lowP w p, highP w p bs.length)).2 = 0 then
      (⟨w.base, putB w p bs, (addR w.got (lowP w p, highP w p bs.length)).1, w.cap, w.en⟩, (putN w.got (lowP w p) (highP w p bs.length) : Nat), 0)
    else (zw, 0, (addR w.got (lowP w p, highP w p bs.length)).2)
  else (zw, 0, 1)
def wshutR (w : Wv) (p : Int) : Wv × Int :=
  if wmay w = true ∧ 0 ≤ p ∧ p ≤ 2305843009213693952 then
    if (0 ≤ w.en ∧ w.en ≠ p) ∨ p < upW w then (zw, 5) else (⟨w.base, w.b, w.got, w.cap, p⟩, 0)
  else (zw, 1)
def rdyW (w : Wv) : Nat := ((List.range w.b.length).takeWhile fun (i : Nat) => inB w.got (w.base + i)).length
def readyR (w : Wv) : Int := if wmay w = true then (rdyW w : Int) else 0
def cutK (g : List Sp) (base : Int) (k : Nat) : List Sp := if k = 0 then g else cutL g (base, base + k)
def cutW (w : Wv) (k : Nat) : Wv := ⟨w.base + k, w.b.drop k, cutK w.got w.base k, w.cap, w.en⟩
def readR (w : Wv) (n : Int) : Wv × List Int × Int :=
  if wmay w = true ∧ 0 ≤ n then (cutW w (min (rdyW w) n.toNat), w.b.take (min (rdyW w) n.toNat), 0) else (zw, [], 1)
def overR (w : Wv) : Bool := wmay w && decide (w.en = w.base)
def edgeR (w : Wv) : Int := if wmay w = true then edW w else 0
def newR (room : Int) : Wv × Int := if 0 ≤ room ∧ room ≤ 65536 then (⟨0, [], [], room, -1⟩, 0) else (zw, 1)

/-! Ready -/
theorem takeWhile_len_spec (f : Nat → Bool) (n : Nat) : ((List.range n).takeWhile f).length ≤ n ∧ (∀ i, i < ((List.range n).takeWhile f).length → f i = true) ∧ (((List.range n).takeWhile f).length < n → f ((List.range n).takeWhile f).length = false) := by
  have h0 : ∀ l : List Nat, (l.takeWhile f).length ≤ l.length ∧ (∀ i, i < (l.takeWhile f).length → ∃ x, l[i]? = some x ∧ f x = true) ∧ ((l.takeWhile f).length < l.length → ∃ x, l[(l.takeWhile f).length]? = some x ∧ f x = false) := by
    intro l
    induction l with
    | nil => exact ⟨Nat.le_refl _, fun i hi => by simp at hi, fun h => by simp at h⟩
    | cons a t ih =>
      obtain ⟨i1, i2, i3⟩ := ih
      rw [List.takeWhile_cons]
      by_cases ha : f a = true
      · rw [if_pos ha]
        refine ⟨by simpa using i1, fun i hi => ?_, fun h => ?_⟩
        · cases i with
          | zero => exact ⟨a, rfl, ha⟩
          | succ j => exact i2 j (by simpa using hi)
        · exact i3 (by simpa using h)
      · rw [if_neg ha]
        exact ⟨Nat.zero_le _, fun i hi => by simp at hi, fun h => ⟨a, rfl, by simpa using ha⟩⟩
  obtain ⟨h1, h2, h3⟩ := h0 (List.range n)
  rw [List.length_range] at h1 h3
  refine ⟨h1, fun i hi => ?_, fun h => ?_⟩
  · obtain ⟨x, hx, hf⟩ := h2 i hi
    rw [List.getElem?_range (by omega)] at hx
    cases hx; exact hf
  · obtain ⟨x, hx, hf⟩ := h3 h
    rw [List.getElem?_range h] at hx
    cases hx; exact hf
theorem rdy_le (w : Wv) : rdyW w ≤ w.b.length := (takeWhile_len_spec _ _).1
theorem rdy_in (w : Wv) {i : Nat} (h : i < rdyW w) : inL w.got (w.base + i) := (inB_iff _ _).1 ((takeWhile_len_spec (fun (i : Nat) => inB w.got (w.base + i)) w.b.length).2.1 i h)
theorem rdy_out (w : Wv) (h : rdyW w < w.b.length) : ¬ inL w.got (w.base + rdyW w) := fun hi => by
  have := (takeWhile_len_spec (fun (i : Nat) => inB w.got (w.base + i)) w.b.length).2.2 h
  have h2 := (inB_iff _ _).2 hi
  change inB w.got (w.base + (rdyW w : Nat)) = false at this
  rw [h2] at this
  cases this
theorem rdy_of {w : Wv} {r : Nat} (h1 : r ≤ w.b.length) (h2 : ∀ i : Nat, i < r → inL w.got (w.base + i)) (h3 : r < w.b.length → ¬ inL w.got (w.base + r)) : rdyW w = r := by
  rcases Nat.lt_trichotomy (rdyW w) r with h | h | h
  · exact absurd (h2 _ h) (rdy_out w (by omega))
  · exact h
  · exact absurd (rdy_in w h) (h3 (by have := rdy_le w; omega))
theorem rdy_mono {u w : Wv} (hb : u.base = w.base) (hl : w.b.length ≤ u.b.length) (hg : ∀ n, inL w.got n → inL u.got n) : rdyW w ≤ rdyW u := by
  rcases Nat.lt_or_ge (rdyW u) (rdyW w) with h | h
  · have := hg _ (rdy_in w h)
    rw [← hb] at this
    exact absurd this (rdy_out u (by have := rdy_le w; omega))
  · exact h
end Go.Proofs.Ytgiknfmagmfniaa
