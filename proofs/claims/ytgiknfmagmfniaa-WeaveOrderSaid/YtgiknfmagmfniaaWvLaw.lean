/- Package weave: what the laws want: parts in whichever order, an end, a new one. No program. -/
import Derived.Test.YtgiknfmagmfniaaWvRead
namespace Go.Proofs.Ytgiknfmagmfniaa
set_option linter.unusedVariables false

theorem chain_count {d : Int} {l : List Sp} (h : chain d l = true) : (l.length : Int) ≤ lastOf d l - d := by
  induction l generalizing d with
  | nil => rw [lastOf_nil]; simp
  | cons p t ih =>
    rw [ch_cons] at h
    have := ih h.2.2
    rw [last_cons, List.length_cons]; omega

/-- what is held while parts of 'all' come in and 'out' has been read -/
structure Ordd (all : List Int) (w : Wv) (out : List Int) : Prop where
  va : Va w
  cap : w.cap = 65536
  en : w.en = -1
  base : w.base = out.length
  outv : out = all.take out.length
  ol : out.length ≤ all.length
  fit : ∀ n : Int, inL w.got n → n < all.length ∧ byt w.b (n - w.base).toNat = byt all n.toNat
theorem ord_new (all : List Int) : Ordd all ⟨0, [], [], 65536, -1⟩ [] :=
  ⟨(wmay_iff _).1 (by decide), rfl, rfl, rfl, rfl, Nat.zero_le _, fun n hn => absurd hn (inL_nil n)⟩
section
variable {all : List Int} {w : Wv} {out : List Int}
theorem ord_up (h : Ordd all w out) : upW w ≤ all.length := by
  by_cases hn : w.got = []
  · rw [up_nil hn, h.base]; have := h.ol; omega
  · have := (h.fit _ (up_last h.va hn)).1; omega
theorem ord_put (h : Ordd all w out) (h3 : all.length ≤ 300) {a m : Nat} (ha : a + m ≤ all.length) :
    (putR w a ((all.take (a + m)).drop a)).2.2 = 0 ∧ Ordd all (putR w a ((all.take (a + m)).drop a)).1 out ∧ edW (putR w a ((all.take (a + m)).drop a)).1 = edW w := by
  have hlen : ((all.take (a + m)).drop a).length = m := by rw [List.length_drop, List.length_take]; omega
  have hup := ord_up h
  have hcnt := chain_count h.va.chm
  have hlast : lastOf (-1) w.got ≤ 300 := by
    by_cases hn : w.got = []
    · rw [hn, lastOf_nil]; omega
    · rw [show lastOf (-1) w.got = upW w from last_any hn]; omega
  rcases put_cases w a ((all.take (a + m)).drop a) with k | k | k | k | k
  · exact absurd ⟨h.va, by omega, by omega⟩ k.2
  · have := k.2.2.1; have := h.en; omega
  · rw [k.1]; exact ⟨rfl, h, rfl⟩
  · exfalso
    have h5 := ins_len w.got (lowP w (a : Int), highP w (a : Int) ((all.take (a + m)).drop a).length)
    have h6 := k.2.2.2.2
    omega
  · rw [k.1]
    have hp := k.2
    refine ⟨rfl, ⟨hp.res, h.cap, h.en, h.base, h.outv, h.ol, fun n hn => ?_⟩, rfl⟩
    have hb0 := (up_in hp.res hn)
    have hbl := hp.blen
    have hi : (n - w.base).toNat < (putB w a ((all.take (a + m)).drop a)).length := by
      have h1 : w.base ≤ n := hb0.1
      have h2 := hb0.2
      omega
    have hnb : w.base + ((n - w.base).toNat : Nat) = n := by have h1 : w.base ≤ n := hb0.1; omega
    show n < all.length ∧ byt (putB w a ((all.take (a + m)).drop a)) (n - w.base).toNat = _
    rw [putB_at _ _ _ hi, hnb]
    by_cases ho : inL w.got n
    · rw [if_neg (fun hnew => (newB_iff.1 hnew).2.2 ho)]
      exact h.fit n ho
    · have hr : lowP w a ≤ n ∧ n < highP w a ((all.take (a + m)).drop a).length := ((hp.in_iff n).1 hn).resolve_left ho
      rw [if_pos (newB_iff.2 ⟨hr.1, hr.2, ho⟩)]
      have h1 := (low_ge w (a : Int)).2
      have h2 := high_le' w (a : Int) ((all.take (a + m)).drop a).length
      rw [hlen] at h2
      rw [hlen] at hr
      refine ⟨by omega, ?_⟩
      rw [byt_drop, byt_take (by omega)]
      congr 1; omega
theorem ord_read (h : Ordd all w out) (h3 : all.length ≤ 300) {k : Nat} (hk : k ≤ rdyW w) : Ordd all (cutW w k) (out ++ w.b.take k) ∧ edW (cutW w k) = edW w + k := by
  have hrl := rdy_le w
  have hup := ord_up h
  have hbl := h.va.blen
  have hb := h.base
  have hlen : (w.b.take k).length = k := by rw [List.length_take]; omega
  have hall : out.length + k ≤ all.length := by omega
  have hv : w.b.take k = (all.drop out.length).take k := by
    refine byt_ext (by rw [hlen, List.length_take, List.length_drop]; omega) (fun i hi => ?_)
    rw [hlen] at hi
    rw [byt_take hi, byt_take hi, byt_drop]
    have := (h.fit _ (rdy_in w (show i < rdyW w by omega))).2
    rw [show (w.base + (i : Int) - w.base).toNat = i by omega, show (w.base + (i : Int)).toNat = out.length + i by omega] at this
    exact this
  refine ⟨⟨cut_va h.va hk, h.cap, h.en, ?_, ?_, ?_, fun n hn => ?_⟩, ?_⟩
  · show w.base + (k : Int) = ((out ++ w.b.take k).length : Nat)
    rw [List.length_append, hlen]; omega
  · rw [List.length_append, hlen, hv, List.take_add]
    congr 1
    exact h.outv
  · rw [List.length_append, hlen]; exact hall
  · have h1 := (cut_in_iff h.va hk n).1 hn
    have h2 := h.fit n h1.1
    refine ⟨h2.1, ?_⟩
    show byt (w.b.drop k) (n - (w.base + (k : Int))).toNat = _
    rw [byt_drop, show k + (n - (w.base + (k : Int))).toNat = (n - w.base).toNat by omega]
    exact h2.2
  · have hc := h.cap
    unfold edW
    show min (w.base + (k : Int) + w.cap) _ = min (w.base + w.cap) _ + (k : Int)
    rw [hc]; omega
end

/-! an end -/
def endW (w : Wv) (p : Int) : Wv := ⟨w.base, w.b, w.got, w.cap, p⟩
theorem shut_cases (w : Wv) (p : Int) :
    (wshutR w p = (zw, 1) ∧ ¬ (Va w ∧ 0 ≤ p ∧ p ≤ 2305843009213693952)) ∨
    (wshutR w p = (zw, 5) ∧ (Va w ∧ 0 ≤ p ∧ p ≤ 2305843009213693952) ∧ ((0 ≤ w.en ∧ w.en ≠ p) ∨ p < upW w)) ∨
    (wshutR w p = (endW w p, 0) ∧ (Va w ∧ 0 ≤ p ∧ p ≤ 2305843009213693952) ∧ ¬ ((0 ≤ w.en ∧ w.en ≠ p) ∨ p < upW w)) := by
  by_cases h1 : Va w ∧ 0 ≤ p ∧ p ≤ 2305843009213693952
  · have h1' : wmay w = true ∧ 0 ≤ p ∧ p ≤ 2305843009213693952 := ⟨(wmay_iff w).2 h1.1, h1.2⟩
    right
    by_cases h2 : (0 ≤ w.en ∧ w.en ≠ p) ∨ p < upW w
    · left; exact ⟨by unfold wshutR; rw [if_pos h1', if_pos h2], h1, h2⟩
    · right; exact ⟨by unfold wshutR; rw [if_pos h1', if_neg h2]; rfl, h1, h2⟩
  · left; exact ⟨by unfold wshutR; rw [if_neg (fun h => h1 ⟨(wmay_iff w).1 h.1, h.2⟩)], h1⟩
theorem end_va {w : Wv} {p : Int} (h : Va w) (hp : upW w ≤ p) : Va (endW w p) := ⟨h.len, h.cap0, h.cap1, h.base0, h.base1, h.up, h.blen, .inr hp, h.ch, h.ok⟩
theorem end_put {w : Wv} {p : Int} (h : Va w) (hp : upW w ≤ p) (h0 : 0 ≤ p) {bs : List Int} (hb : 0 < bs.length) : (putR (endW w p) p bs).2.2 ≠ 0 := by
  have hen : (endW w p).en = p := rfl
  rcases put_cases (endW w p) p bs with k | k | k | k | k
  · rw [k.1]; simp
  · rw [k.1]; simp
  · exfalso; have := k.2.2.1; rw [hen] at this; omega
  · rw [k.1]; simp
  · exfalso; have := k.2.en; rw [hen] at this; omega
theorem end_same {w : Wv} {p : Int} (h : Va w) (hp : upW w ≤ p) (h0 : 0 ≤ p) (h1 : p ≤ 2305843009213693952) : wshutR (endW w p) p = (endW w p, 0) := by
  have hen : (endW w p).en = p := rfl
  have hup : upW (endW w p) = upW w := rfl
  rcases shut_cases (endW w p) p with k | k | k
  · exact absurd ⟨end_va h hp, h0, h1⟩ k.2
  · exfalso; have := k.2.2; rw [hen, hup] at this; omega
  · exact k.1
theorem end_other {w : Wv} {p : Int} (h0 : 0 ≤ p) : (wshutR (endW w p) (p + 1)).2 ≠ 0 := by
  have hen : (endW w p).en = p := rfl
  rcases shut_cases (endW w p) (p + 1) with k | k | k
  · rw [k.1]; simp
  · rw [k.1]; simp
  · exfalso; have := k.2.2; rw [hen] at this; omega
theorem end_read {w : Wv} {p : Int} (h : Va w) (hp : upW w ≤ p) :
    readR (endW w p) 70000 = (cutW (endW w p) (rdyW w), w.b.take (rdyW w), 0) ∧ overR (cutW (endW w p) (rdyW w)) = decide (w.base + rdyW w = p) ∧
    (w.base + rdyW w = p → readyR (cutW (endW w p) (rdyW w)) = 0) := by
  have hv := end_va h hp
  have hr : rdyW (endW w p) = rdyW w := rfl
  have hc := cut_va hv (k := rdyW w) (by rw [hr]; exact Nat.le_refl _)
  have hbs := b_small h
  have hrl := rdy_le w
  refine ⟨?_, ?_, fun he => ?_⟩
  · rcases read_cases (endW w p) 70000 with k | k
    · exact absurd ⟨hv, by omega⟩ k.2
    · rw [k.1, hr, show min (rdyW w) (70000 : Int).toNat = rdyW w by omega]; rfl
  · unfold overR
    rw [(wmay_iff _).2 hc, Bool.true_and]
    show decide (p = w.base + (rdyW w : Int)) = _
    rw [decide_eq_decide]; omega
  · unfold readyR
    rw [if_pos ((wmay_iff _).2 hc)]
    have h1 := rdy_le (cutW (endW w p) (rdyW w))
    have h2 : (cutW (endW w p) (rdyW w)).b.length = 0 := by
      show (w.b.drop (rdyW w)).length = 0
      rw [List.length_drop]
      have := h.blen
      omega
    omega

/-! a new one -/
theorem new_va {r : Int} (h0 : 0 ≤ r) (h1 : r ≤ 65536) : Va ⟨0, [], [], r, -1⟩ :=
  ⟨by simp, h0, h1, Int.le_refl _, by simp, by unfold upW edW; simp [lastOf_nil]; omega, by unfold upW; simp [lastOf_nil], .inl rfl, rfl, fun i hi => by simp at hi⟩
theorem new_shut {r : Int} (h0 : 0 ≤ r) (h1 : r ≤ 65536) (p : Int) :
    (0 ≤ p ∧ p ≤ 2305843009213693952 → wshutR ⟨0, [], [], r, -1⟩ p = (⟨0, [], [], r, p⟩, 0) ∧ overR ⟨0, [], [], r, p⟩ = decide (p = 0)) ∧
    (¬ (0 ≤ p ∧ p ≤ 2305843009213693952) → wshutR ⟨0, [], [], r, -1⟩ p = (zw, 1)) := by
  have hv := new_va h0 h1
  have hup : upW ⟨0, [], [], r, -1⟩ = 0 := rfl
  constructor
  · intro hp
    rcases shut_cases ⟨0, [], [], r, -1⟩ p with k | k | k
    · exact absurd ⟨hv, hp⟩ k.2
    · exfalso; have := k.2.2; rw [hup] at this; simp only at this; omega
    · refine ⟨k.1, ?_⟩
      have : Va ⟨0, [], [], r, p⟩ := end_va hv (by rw [hup]; exact hp.1)
      unfold overR
      rw [(wmay_iff _).2 this, Bool.true_and]
  · intro hp
    rcases shut_cases ⟨0, [], [], r, -1⟩ p with k | k | k
    · exact k.1
    · exact absurd k.2.1.2 hp
    · exact absurd k.2.1.2 hp
theorem new_ready {r : Int} (h0 : 0 ≤ r) (h1 : r ≤ 65536) : readyR ⟨0, [], [], r, -1⟩ = 0 ∧ edgeR ⟨0, [], [], r, -1⟩ = r ∧ overR ⟨0, [], [], r, -1⟩ = false ∧ wmay ⟨0, [], [], r, -1⟩ = true := by
  have hm := (wmay_iff _).2 (new_va h0 h1)
  refine ⟨by unfold readyR; rw [if_pos hm]; rfl, ?_, by unfold overR; rw [hm]; rfl, hm⟩
  unfold edgeR
  rw [if_pos hm]
  unfold edW
  simp only; omega
end Go.Proofs.Ytgiknfmagmfniaa
