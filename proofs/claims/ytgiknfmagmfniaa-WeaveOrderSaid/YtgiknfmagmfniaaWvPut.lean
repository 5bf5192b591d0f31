/- Package weave: what a Put does to a buffer. No program. -/
import Derived.Test.YtgiknfmagmfniaaWv
namespace Go.Proofs.Ytgiknfmagmfniaa

/-- what is put really: at least one place -/
structure PutOk (w : Wv) (p : Int) (bs : List Int) : Prop where
  va : Va w
  p0 : 0 ≤ p
  p1 : p ≤ 2305843009213693952
  en : w.en < 0 ∨ p + bs.length ≤ w.en
  lt : lowP w p < highP w p bs.length
  few : (ins w.got (lowP w p, highP w p bs.length)).length ≤ 1000

/-- the buffer behind it -/
def putW (w : Wv) (p : Int) (bs : List Int) : Wv := ⟨w.base, putB w p bs, ins w.got (lowP w p, highP w p bs.length), w.cap, w.en⟩

section
variable {w : Wv} {p : Int} {bs : List Int}
theorem high_le (w : Wv) (p : Int) (n : Nat) : highP w p n ≤ edW w := by unfold highP; omega
theorem high_le' (w : Wv) (p : Int) (n : Nat) : highP w p n ≤ p + n := by unfold highP; omega
theorem high_top (w : Wv) (p : Int) (n : Nat) : highP w p n ≤ 2305843009213693952 := by unfold highP edW; omega
theorem low_ge (w : Wv) (p : Int) : w.base ≤ lowP w p ∧ p ≤ lowP w p := by unfold lowP; omega
theorem PutOk.vld (h : PutOk w p bs) : vld (lowP w p) (highP w p bs.length) = true := by
  rw [vld_iff]
  have := low_ge w p
  have := high_top w p bs.length
  have := h.lt
  have := h.va.base0
  omega
theorem PutOk.add (h : PutOk w p bs) : addR w.got (lowP w p, highP w p bs.length) = (ins w.got (lowP w p, highP w p bs.length), 0) := by
  unfold addR told
  rw [h.va.may, h.vld, addL_ins h.va.chm, Bool.and_self, if_pos rfl, if_pos h.few]
theorem PutOk.in_iff (h : PutOk w p bs) (n : Int) : inL (putW w p bs).got n ↔ inL w.got n ∨ (lowP w p ≤ n ∧ n < highP w p bs.length) := ins_in' h.va.may h.vld n
theorem PutOk.chn (h : PutOk w p bs) : chain (w.base - 1) (putW w p bs).got = true := ins_ch h.va.ch h.vld (by have := (low_ge w p).1; show w.base - 1 < lowP w p; omega)
theorem PutOk.up (h : PutOk w p bs) : upW (putW w p bs) = max (upW w) (highP w p bs.length) := by
  have hlt := h.lt
  have hlo := (low_ge w p).1
  have hne : (putW w p bs).got ≠ [] := not_nil ((h.in_iff (lowP w p)).2 (.inr ⟨Int.le_refl _, hlt⟩))
  have e1 : lastOf (w.base - 1) (putW w p bs).got = upW (putW w p bs) := last_any hne
  have hlast := last_mem h.chn hne
  rw [e1] at hlast
  have h1 := last_in h.chn ((h.in_iff (highP w p bs.length - 1)).2 (.inr ⟨by omega, by omega⟩))
  rw [e1] at h1
  have h2 : upW w ≤ upW (putW w p bs) := by
    by_cases hn : w.got = []
    · rw [up_nil hn]
      have := low_in h.chn hlast; omega
    · have := last_in h.chn ((h.in_iff (upW w - 1)).2 (.inl (up_last h.va hn)))
      rw [e1] at this; omega
  rcases (h.in_iff _).1 hlast with h3 | h3
  · have := (up_in h.va h3).2; omega
  · omega
theorem putB_len (w : Wv) (p : Int) (bs : List Int) : (putB w p bs).length = max w.b.length (highP w p bs.length - w.base).toNat := by unfold putB; rw [List.length_map, List.length_range]
theorem putB_at (w : Wv) (p : Int) (bs : List Int) {i : Nat} (h : i < (putB w p bs).length) :
    byt (putB w p bs) i = if newB w.got (lowP w p) (highP w p bs.length) (w.base + i) = true then byt bs (w.base + i - p).toNat else byt w.b i := by
  rw [putB_len] at h
  unfold putB
  rw [byt_map_range _ _ _ h]
theorem PutOk.blen (h : PutOk w p bs) : ((putB w p bs).length : Int) = upW (putW w p bs) - w.base := by
  rw [putB_len, h.up]
  have := h.va.blen
  have := (low_ge w p).1
  have := h.lt
  omega
/-- it is valid again -/
theorem PutOk.res (h : PutOk w p bs) : Va (putW w p bs) := by
  have hup := h.up
  refine ⟨h.few, h.va.cap0, h.va.cap1, h.va.base0, h.va.base1, ?_, h.blen, ?_, h.chn, fun i hi => ?_⟩
  · rw [hup]
    have := h.va.up
    have := high_le w p bs.length
    show _ ≤ edW w
    omega
  · rw [hup]
    have h1 := h.va.en
    have h2 := h.en
    have := high_le' w p bs.length
    have := up_ge h.va
    have := h.va.base0
    show w.en = -1 ∨ _ ≤ w.en
    omega
  · have hi' : i < (putB w p bs).length := hi
    rw [show (putW w p bs).b = putB w p bs from rfl, putB_at w p bs hi']
    by_cases hn : newB w.got (lowP w p) (highP w p bs.length) (w.base + i) = true
    · right
      have := newB_iff.1 hn
      exact (h.in_iff _).2 (.inr ⟨this.1, this.2.1⟩)
    · rw [if_neg hn]
      by_cases hl : i < w.b.length
      · rcases h.va.ok i hl with h1 | h1
        · exact .inl h1
        · exact .inr ((h.in_iff _).2 (.inl h1))
      · exact .inl (byt_out (by omega))
end

/-- the four answers of a Put -/
theorem put_cases (w : Wv) (p : Int) (bs : List Int) :
    (putR w p bs = (zw, 0, 1) ∧ ¬ (Va w ∧ 0 ≤ p ∧ p ≤ 2305843009213693952)) ∨
    (putR w p bs = (zw, 0, 5) ∧ (Va w ∧ 0 ≤ p ∧ p ≤ 2305843009213693952) ∧ 0 ≤ w.en ∧ w.en < p + bs.length) ∨
    (putR w p bs = (w, 0, 0) ∧ (Va w ∧ 0 ≤ p ∧ p ≤ 2305843009213693952) ∧ ¬ (0 ≤ w.en ∧ w.en < p + bs.length) ∧ highP w p bs.length ≤ lowP w p) ∨
    (putR w p bs = (zw, 0, 4) ∧ (Va w ∧ 0 ≤ p ∧ p ≤ 2305843009213693952) ∧ ¬ (0 ≤ w.en ∧ w.en < p + bs.length) ∧ ¬ highP w p bs.length ≤ lowP w p ∧ 1000 < (ins w.got (lowP w p, highP w p bs.length)).length) ∨
    (putR w p bs = (putW w p bs, ((putN w.got (lowP w p) (highP w p bs.length) : Nat) : Int), 0) ∧ PutOk w p bs) := by
  by_cases h1 : Va w ∧ 0 ≤ p ∧ p ≤ 2305843009213693952
  · have h1' : wmay w = true ∧ 0 ≤ p ∧ p ≤ 2305843009213693952 := ⟨(wmay_iff w).2 h1.1, h1.2⟩
    right
    by_cases h2 : 0 ≤ w.en ∧ w.en < p + bs.length
    · left; exact ⟨by unfold putR; rw [if_pos h1', if_pos h2], h1, h2⟩
    · right
      by_cases h3 : highP w p bs.length ≤ lowP w p
      · left; exact ⟨by unfold putR; rw [if_pos h1', if_neg h2, if_pos h3], h1, h2, h3⟩
      · right
        have hv : vld (lowP w p) (highP w p bs.length) = true := by
          rw [vld_iff]
          have := low_ge w p
          have := high_top w p bs.length
          have := h1.1.base0
          omega
        have ha : addR w.got (lowP w p, highP w p bs.length) = told true (ins w.got (lowP w p, highP w p bs.length)) := by
          unfold addR; rw [h1.1.may, hv, addL_ins h1.1.chm]; rfl
        by_cases h4 : (ins w.got (lowP w p, highP w p bs.length)).length ≤ 1000
        · right
          have hok : PutOk w p bs := ⟨h1.1, h1.2.1, h1.2.2, by omega, by omega, h4⟩
          refine ⟨?_, hok⟩
          unfold putR
          rw [if_pos h1', if_neg h2, if_neg h3, hok.add, if_pos rfl]; rfl
        · left
          refine ⟨?_, h1, h2, h3, by omega⟩
          have : addR w.got (lowP w p, highP w p bs.length) = ([], 4) := by rw [ha]; unfold told; rw [if_pos rfl, if_neg h4]
          unfold putR
          rw [if_pos h1', if_neg h2, if_neg h3, this, if_neg (by simp)]
  · left
    exact ⟨by unfold putR; rw [if_neg (fun h => h1 ⟨(wmay_iff w).1 h.1, h.2⟩)], h1⟩

theorem putN_le (g : List Sp) (lo hi : Int) : putN g lo hi ≤ (hi - lo).toNat := by
  unfold putN
  have := List.length_filter_le (fun (i : Nat) => !(inB g (lo + i))) (List.range (hi - lo).toNat)
  rwa [List.length_range] at this
theorem putN_zero {g : List Sp} {lo hi : Int} (h : ∀ n, lo ≤ n → n < hi → inL g n) : putN g lo hi = 0 := by
  unfold putN
  rw [List.length_eq_zero_iff, List.filter_eq_nil_iff]
  intro i hi'
  have := List.mem_range.1 hi'
  rw [(inB_iff g (lo + i)).2 (h _ (by omega) (by omega))]
  simp

/-- put again at the same place: nothing comes -/
theorem put_twice {w : Wv} {p : Int} {bs cs : List Int} (h : PutOk w p bs) (hl : bs.length = cs.length) : putR (putW w p bs) p cs = (putW w p bs, 0, 0) := by
  have hlo : lowP (putW w p bs) p = lowP w p := rfl
  have hhi : highP (putW w p bs) p cs.length = highP w p bs.length := by rw [← hl]; rfl
  have hv := h.res
  have hsame : ins (putW w p bs).got (lowP w p, highP w p bs.length) = (putW w p bs).got := by
    refine ch_unique (d := w.base - 1) (ins_ch h.chn h.vld (by have := (low_ge w p).1; show w.base - 1 < lowP w p; omega)) h.chn (fun n => ?_)
    rw [ins_in' hv.may h.vld n, h.in_iff n]
    constructor
    · rintro (h1 | h1)
      · exact h1
      · exact .inr h1
    · exact fun h1 => .inl h1
  have hok : PutOk (putW w p bs) p cs := ⟨hv, h.p0, h.p1, by rw [← hl]; exact h.en, by rw [hlo, hhi]; exact h.lt, by rw [hlo, hhi, hsame]; exact h.few⟩
  rcases put_cases (putW w p bs) p cs with hc | hc | hc | hc | hc
  · exact absurd ⟨hv, h.p0, h.p1⟩ hc.2
  · exfalso
    have h2 := h.en
    have h3 := hc.2.2
    rw [← hl] at h3
    have h4 : (putW w p bs).en = w.en := rfl
    rw [h4] at h3
    omega
  · exfalso; have := hc.2.2.2; have := hok.lt; omega
  · exfalso; have := hc.2.2.2.2; have := hok.few; omega
  · rw [hc.1]
    have hin : ∀ n, lowP w p ≤ n → n < highP w p bs.length → inL (putW w p bs).got n := fun n h1 h2 => (h.in_iff n).2 (.inr ⟨h1, h2⟩)
    have hn : putN (putW w p bs).got (lowP (putW w p bs) p) (highP (putW w p bs) p cs.length) = 0 := putN_zero (by rw [hlo, hhi]; exact hin)
    rw [hn]
    have hb : putB (putW w p bs) p cs = (putW w p bs).b := by
      have hbl := h.blen
      have hup := h.up
      have e1 : (putB (putW w p bs) p cs).length = (putW w p bs).b.length := by
        rw [putB_len, hhi]
        show max (putB w p bs).length (highP w p bs.length - w.base).toNat = (putB w p bs).length
        omega
      refine byt_ext e1 (fun i hi => ?_)
      rw [putB_at _ _ _ hi, if_neg]
      intro hnew
      have := newB_iff.1 hnew
      rw [hlo, hhi] at this
      exact this.2.2 (hin _ this.1 this.2.1)
    show (putW (putW w p bs) p cs, ((0 : Nat) : Int), (0 : Int)) = _
    have : putW (putW w p bs) p cs = putW w p bs := by
      show (⟨w.base, putB (putW w p bs) p cs, ins (putW w p bs).got (lowP (putW w p bs) p, highP (putW w p bs) p cs.length), w.cap, w.en⟩ : Wv) = _
      rw [hb, hlo, hhi, hsame]; rfl
    rw [this]; rfl
end Go.Proofs.Ytgiknfmagmfniaa
