/- Package weave: what a Read does to a buffer. No program. -/
import Derived.Test.YtgiknfmagmfniaaWvPut
namespace Go.Proofs.Ytgiknfmagmfniaa
set_option linter.unusedVariables false

/-- places in a row lie in one span -/
theorem run_one {d : Int} {p : Sp} {t : List Sp} (h : chain d (p :: t) = true) {a : Int} {k : Nat} (hp : p.1 ≤ a) (hk : 0 < k) (hr : ∀ i : Nat, i < k → inL (p :: t) (a + i)) (h0 : a < p.2) : a + k ≤ p.2 := by
  rcases Int.lt_or_le p.2 (a + k) with h1 | h1
  · exfalso
    have h2 := hr (p.2 - a).toNat (by omega)
    rw [show a + ((p.2 - a).toNat : Nat) = p.2 by omega] at h2
    exact end_out h List.mem_cons_self h2
  · exact h1
/-- the first span of a list that begins with base, if base is there -/
theorem head_base {base : Int} {l : List Sp} (h : chain (base - 1) l = true) (hb : inL l base) : ∃ q t, l = (base, q) :: t ∧ base < q := by
  cases l with
  | nil => exact absurd hb (inL_nil _)
  | cons p t =>
    obtain ⟨p1, p2⟩ := p
    have hc := ch_cons.1 h
    simp only at hc
    rcases (inL_cons _ _ _).1 hb with h1 | h1
    · simp only at h1
      exact ⟨p2, t, by rw [show p1 = base by omega], by omega⟩
    · have := low_in hc.2.2 h1; omega

section
variable {w : Wv} {k : Nat}
/-- what Got is behind a read of k places -/
theorem cut_form (h : Va w) (hk : k ≤ rdyW w) (h0 : 0 < k) : ∃ q t, w.got = (w.base, q) :: t ∧ w.base + k ≤ q ∧ chain q t = true ∧
    cutK w.got w.base k = (if w.base + k < q then [(w.base + k, q)] else []) ++ t := by
  have hin : ∀ i : Nat, i < k → inL w.got (w.base + i) := fun i hi => rdy_in w (by omega)
  have hb : inL w.got w.base := by have := hin 0 h0; simpa using this
  obtain ⟨q, t, e, hq⟩ := head_base h.ch hb
  have hch := h.ch
  rw [e] at hch
  have hc := ch_cons.1 hch
  simp only at hc
  have hle : w.base + k ≤ q := run_one hch (p := (w.base, q)) (Int.le_refl _) h0 (by rw [← e]; exact hin) hq
  refine ⟨q, t, e, hle, hc.2.2, ?_⟩
  unfold cutK
  rw [if_neg (by omega), e, cutL_cons, cutL_past hc.2.2 (by show w.base < w.base + k; omega) hle]
  congr 1
  unfold lft
  simp only
  rw [if_neg (by omega), show max w.base (w.base + (k : Int)) = w.base + k by omega]
  rfl
theorem cut_in_iff (h : Va w) (hk : k ≤ rdyW w) (n : Int) : inL (cutW w k).got n ↔ inL w.got n ∧ w.base + k ≤ n := by
  show inL (cutK w.got w.base k) n ↔ _
  by_cases h0 : k = 0
  · unfold cutK
    rw [if_pos h0, h0]
    constructor
    · intro hn; exact ⟨hn, by have := (up_in h hn).1; omega⟩
    · exact fun hn => hn.1
  · unfold cutK
    rw [if_neg h0, cutL_in _ (show w.base < w.base + (k : Int) by omega)]
    constructor
    · rintro ⟨h1, h2⟩
      refine ⟨h1, ?_⟩
      have := (up_in h h1).1
      simp only at h2
      omega
    · rintro ⟨h1, h2⟩
      refine ⟨h1, fun h3 => ?_⟩
      simp only at h3; omega
theorem cut_chain (h : Va w) (hk : k ≤ rdyW w) : chain (w.base + k - 1) (cutW w k).got = true := by
  show chain _ (cutK w.got w.base k) = true
  by_cases h0 : k = 0
  · unfold cutK; rw [if_pos h0, h0]; simpa using h.ch
  · obtain ⟨q, t, e, hle, hc, ec⟩ := cut_form h hk (by omega)
    rw [ec]
    have hq : q ≤ 4611686018427387904 ∧ 0 ≤ w.base := by
      have := h.ch
      rw [e] at this
      have := ch_cons.1 this
      simp only at this
      exact ⟨this.2.1.2.2, this.2.1.1⟩
    by_cases h1 : w.base + k < q
    · rw [if_pos h1, List.singleton_append, ch_cons]
      exact ⟨by simp only; omega, ⟨by simp only; omega, h1, hq.1⟩, hc⟩
    · rw [if_neg h1, List.nil_append]
      exact ch_weak hc (by omega)
theorem cut_up (h : Va w) (hk : k ≤ rdyW w) : upW (cutW w k) = upW w := by
  by_cases h0 : k = 0
  · have e : (cutW w k).got = w.got := by show cutK w.got w.base k = _; unfold cutK; rw [if_pos h0]
    unfold upW
    rw [e, h0]
    show lastOf (w.base + (0 : Nat)) w.got = _
    rw [show w.base + ((0 : Nat) : Int) = w.base by omega]
  · obtain ⟨q, t, e, hle, hc, ec⟩ := cut_form h hk (by omega)
    unfold upW
    rw [show (cutW w k).got = _ from ec, e, last_cons]
    show lastOf (w.base + k) _ = lastOf q t
    by_cases h1 : w.base + k < q
    · rw [if_pos h1, List.singleton_append, last_cons]
    · rw [if_neg h1, List.nil_append, show w.base + (k : Int) = q by omega]
theorem cut_len (h : Va w) (hk : k ≤ rdyW w) : (cutW w k).got.length ≤ w.got.length := by
  show (cutK w.got w.base k).length ≤ _
  by_cases h0 : k = 0
  · unfold cutK; rw [if_pos h0]; exact Nat.le_refl _
  · obtain ⟨q, t, e, hle, hc, ec⟩ := cut_form h hk (by omega)
    rw [ec, e, List.length_append, List.length_cons]
    split <;> simp <;> omega
/-- it is valid again -/
theorem cut_va (h : Va w) (hk : k ≤ rdyW w) : Va (cutW w k) := by
  have hup := cut_up h hk
  have hrl := rdy_le w
  have hbl := h.blen
  have htop := up_top h
  refine ⟨Nat.le_trans (cut_len h hk) h.len, h.cap0, h.cap1, ?_, ?_, ?_, ?_, ?_, cut_chain h hk, fun i hi => ?_⟩
  · show 0 ≤ w.base + (k : Int); have := h.base0; omega
  · show w.base + (k : Int) ≤ _; omega
  · rw [hup]
    have := h.up
    unfold edW at *
    show upW w ≤ min (w.base + (k : Int) + w.cap) _
    omega
  · rw [hup]
    show ((w.b.drop k).length : Int) = upW w - (w.base + k)
    rw [List.length_drop]; omega
  · rw [hup]; exact h.en
  · have hi' : i < (w.b.drop k).length := hi
    rw [List.length_drop] at hi'
    show byt (w.b.drop k) i = 0 ∨ inL (cutW w k).got (w.base + k + i)
    rw [byt_drop]
    rcases h.ok (k + i) (by omega) with h1 | h1
    · exact .inl h1
    · right
      rw [cut_in_iff h hk]
      exact ⟨by rw [show w.base + (k : Int) + i = w.base + ((k + i : Nat) : Int) by omega]; exact h1, by omega⟩
theorem cut_edge (h : Va w) (hk : k ≤ rdyW w) : edW w ≤ edW (cutW w k) := by
  unfold edW; show _ ≤ min (w.base + (k : Int) + w.cap) _; omega
/-- one place more -/
theorem cut_step (h : Va w) (hk : k + 1 ≤ rdyW w) : cutR (cutW w k).got (w.base + k, w.base + k + 1) = ((cutW w (k + 1)).got, 0) := by
  have hv := cut_va h (show k ≤ rdyW w by omega)
  have hv2 := cut_va h hk
  have hb0 := h.base0
  have hrl := rdy_le w
  have hbl := h.blen
  have htop := up_top h
  have hvl : vld (w.base + (k : Int)) (w.base + k + 1) = true := by rw [vld_iff]; omega
  have hun : cutL (cutW w k).got (w.base + k, w.base + k + 1) = (cutW w (k + 1)).got := by
    refine ch_unique (d := -1) (cutL_ch hv.chm (by show w.base + (k : Int) < w.base + k + 1; omega)) hv2.chm (fun n => ?_)
    rw [cut_in' hvl n, cut_in_iff h (by omega), cut_in_iff h hk]
    constructor
    · rintro ⟨⟨h1, h2⟩, h3⟩
      simp only at h3
      exact ⟨h1, by omega⟩
    · rintro ⟨h1, h2⟩
      refine ⟨⟨h1, by omega⟩, fun h3 => ?_⟩
      simp only at h3; omega
  unfold cutR told
  rw [hv.may, hvl, hun, Bool.and_self, if_pos rfl, if_pos hv2.len]
end

/-- the two answers of a Read -/
theorem read_cases (w : Wv) (n : Int) :
    (readR w n = (zw, [], 1) ∧ ¬ (Va w ∧ 0 ≤ n)) ∨
    (readR w n = (cutW w (min (rdyW w) n.toNat), w.b.take (min (rdyW w) n.toNat), 0) ∧ Va w ∧ 0 ≤ n) := by
  unfold readR
  by_cases h : Va w ∧ 0 ≤ n
  · right; exact ⟨if_pos ⟨(wmay_iff w).2 h.1, h.2⟩, h⟩
  · left; exact ⟨if_neg (fun h1 => h ⟨(wmay_iff w).1 h1.1, h1.2⟩), h⟩
theorem zw_va : Va zw := (wmay_iff zw).1 (by decide)
theorem zw_put (p : Int) (bs : List Int) : (putR zw p bs).2.1 = 0 := by
  rcases put_cases zw p bs with h | h | h | h | h
  · rw [h.1]
  · rw [h.1]
  · rw [h.1]
  · rw [h.1]
  · exfalso
    have h1 := h.2.lt
    have h2 := high_le zw p bs.length
    have h3 := (low_ge zw p).1
    have h4 : edW zw = 0 := by decide
    have h5 : zw.base = 0 := rfl
    omega

/-- WeaveTwice: what the second Put of as many bytes answers, and what is behind -/
theorem twice_spec (w : Wv) (p : Int) (bs cs : List Int) (hl : bs.length = cs.length) :
    ((putR w p bs).2.2 ≠ 0 → (putR w p bs).2.1 = 0 ∧ (putR (putR w p bs).1 p cs).2.1 = 0) ∧
    ((putR w p bs).2.2 = 0 → putR (putR w p bs).1 p cs = ((putR w p bs).1, 0, 0) ∧ 0 ≤ (putR w p bs).2.1 ∧ (putR w p bs).2.1 ≤ bs.length ∧ Va (putR w p bs).1 ∧ Va w ∧
      edW (putR w p bs).1 = edW w ∧ rdyW w ≤ rdyW (putR w p bs).1) := by
  rcases put_cases w p bs with h | h | h | h | h
  · rw [h.1]; exact ⟨fun _ => ⟨rfl, zw_put p cs⟩, fun h => absurd h (by simp)⟩
  · rw [h.1]; exact ⟨fun _ => ⟨rfl, zw_put p cs⟩, fun h => absurd h (by simp)⟩
  · rw [h.1]
    refine ⟨fun h => absurd rfl h, fun _ => ⟨?_, Int.le_refl _, Int.natCast_nonneg _, h.2.1.1, h.2.1.1, rfl, Nat.le_refl _⟩⟩
    have h2 := h.2.2.1
    have h3 := h.2.2.2
    rw [hl] at h2 h3
    rcases put_cases w p cs with k | k | k | k | k
    · exact absurd h.2.1 k.2
    · exact absurd k.2.2 h2
    · exact k.1
    · exact absurd h3 k.2.2.2.1
    · have := k.2.lt; omega
  · rw [h.1]; exact ⟨fun _ => ⟨rfl, zw_put p cs⟩, fun h => absurd h (by simp)⟩
  · rw [h.1]
    have hp := h.2
    refine ⟨fun h => absurd rfl h, fun _ => ⟨put_twice hp hl, Int.natCast_nonneg _, ?_, hp.res, hp.va, rfl, ?_⟩⟩
    · show ((putN w.got (lowP w p) (highP w p bs.length) : Nat) : Int) ≤ bs.length
      have := putN_le w.got (lowP w p) (highP w p bs.length)
      have := high_le' w p bs.length
      have := (low_ge w p).2
      omega
    · refine rdy_mono rfl ?_ (fun n hn => (hp.in_iff n).2 (.inl hn))
      show w.b.length ≤ (putB w p bs).length
      rw [putB_len]; omega
end Go.Proofs.Ytgiknfmagmfniaa
