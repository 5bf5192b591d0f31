/- Package weave: gaps between spans, bytes laid over bytes, how many numbers a Put adds. No program. -/
import Derived.Test.YtgiknfmagmfniaaWvStep
import Derived.Laws.CopyOwn
namespace Go.Proofs.Ytgiknfmagmfniaa
set_option linter.unusedVariables false

theorem last_take {d : Int} {l : List Sp} {k : Nat} (h : k < l.length) : lastOf d (l.take (k + 1)) = (sp l k).2 := by rw [take_sp h, lastOf_snoc]
theorem ch_split {d : Int} {l : List Sp} (h : chain d l = true) {k : Nat} (hk : k < l.length) : chain d (l.take k) = true ∧ lastOf d (l.take k) < (sp l k).1 ∧ (0 ≤ (sp l k).1 ∧ (sp l k).1 < (sp l k).2 ∧ (sp l k).2 ≤ 4611686018427387904) ∧ chain (sp l k).2 (l.drop (k + 1)) = true := by
  have e : l = l.take k ++ l.drop k := (List.take_append_drop k l).symm
  rw [e, chain_app, Bool.and_eq_true, drop_sp hk, ch_cons] at h
  exact ⟨h.1, h.2.1, h.2.2.1, h.2.2.2⟩
theorem last_split {d : Int} {l : List Sp} (h : chain d l = true) {k : Nat} (hk : k < l.length) : (sp l k).2 ≤ lastOf d l := by
  have h1 := (ch_split h hk).2.2.1
  have hin : inL l ((sp l k).2 - 1) := ⟨sp l k, by rw [sp_eq hk]; exact List.getElem_mem hk, by omega, by omega⟩
  have := last_in h hin
  omega
theorem span_in {l : List Sp} {k : Nat} (hk : k < l.length) {q : Int} (h1 : (sp l k).1 ≤ q) (h2 : q < (sp l k).2) : inL l q := ⟨sp l k, by rw [sp_eq hk]; exact List.getElem_mem hk, h1, h2⟩
theorem take_in {l : List Sp} {k : Nat} (hk : k < l.length) (q : Int) : inL (l.take (k + 1)) q ↔ inL (l.take k) q ∨ ((sp l k).1 ≤ q ∧ q < (sp l k).2) := by
  rw [take_sp hk, inL_app, inL_cons]
  constructor
  · rintro (h | h | h)
    · exact .inl h
    · exact .inr h
    · exact absurd h (inL_nil q)
  · rintro (h | h)
    · exact .inl h
    · exact .inr (.inl h)
theorem gap_free {d : Int} {l : List Sp} (h : chain d l = true) {k : Nat} (hk : k < l.length) {q : Int} (h1 : lastOf d (l.take k) ≤ q) (h2 : q < (sp l k).1) : ¬ inL l q := by
  obtain ⟨c1, c2, c3, c4⟩ := ch_split h hk
  intro hq
  rw [show l = l.take k ++ l.drop k from (List.take_append_drop k l).symm, inL_app, drop_sp hk, inL_cons] at hq
  rcases hq with hq | hq | hq
  · have := last_in c1 hq; omega
  · omega
  · have := low_in c4 hq; omega
theorem last_base (base : Int) (l : List Sp) : lastOf (base - 1) l ≤ lastOf base l := by
  cases l with
  | nil => rw [lastOf_nil, lastOf_nil]; omega
  | cons p t => exact Int.le_refl _
theorem last_base_ge {base : Int} {l : List Sp} (h : chain (base - 1) l = true) (k : Nat) : base ≤ lastOf base (l.take k) := by
  cases hl : l.take k with
  | nil => rw [lastOf_nil]; exact Int.le_refl _
  | cons p t =>
    have hc := chain_take h k
    rw [hl] at hc
    have := ch_cons.1 hc
    have := last_ge this.2.2
    rw [last_cons]; omega

/-- all places ahead of the end of the first k spans are 0 or in the list -/
def Cl (gl : List Sp) (bl : List Int) (base : Int) (k : Nat) : Prop := ∀ i : Nat, base + i < lastOf base (gl.take k) → byt bl i = 0 ∨ inL gl (base + i)
theorem cl_zero (gl : List Sp) (bl : List Int) (base : Int) : Cl gl bl base 0 := fun i h => by rw [List.take_zero, lastOf_nil] at h; omega
theorem cl_succ {gl : List Sp} {bl : List Int} {base : Int} {k : Nat} (hk : k < gl.length) (h : Cl gl bl base k) (hz : ∀ i : Nat, lastOf base (gl.take k) ≤ base + i → base + i < (sp gl k).1 → byt bl i = 0) : Cl gl bl base (k + 1) := fun i hi => by
  rw [last_take hk] at hi
  by_cases h1 : base + (i : Int) < lastOf base (gl.take k)
  · exact h i h1
  · by_cases h2 : base + (i : Int) < (sp gl k).1
    · exact .inl (hz i (by omega) h2)
    · exact .inr (span_in hk (by omega) hi)
theorem cl_end {gl : List Sp} {bl : List Int} {base cap en : Int} (h : Cl gl bl base gl.length) (hU : lastOf base gl = base + bl.length) : okW ⟨base, bl, gl, cap, en⟩ = true := by
  rw [okW_iff]
  intro i hi
  have hi' : i < bl.length := hi
  exact h i (by rw [List.take_length, hU]; omega)
theorem cl_bad {gl : List Sp} {bl : List Int} {base cap en : Int} (hc : chain (base - 1) gl = true) {k i : Nat} (hk : k < gl.length) (h1 : lastOf base (gl.take k) ≤ base + i) (h2 : base + i < (sp gl k).1) (hi : i < bl.length) (hne : byt bl i ≠ 0) : okW ⟨base, bl, gl, cap, en⟩ = false := by
  cases ho : okW ⟨base, bl, gl, cap, en⟩ with
  | false => rfl
  | true =>
    rcases (okW_iff _).1 ho i hi with h | h
    · exact absurd h hne
    · exact absurd h (gap_free hc hk (q := base + i) (by have := last_base base (gl.take k); omega) h2)

theorem splice_map {α β : Type} (g : α → β) (L : List α) (o : Nat) (cs : List α) : (splice L o cs).map g = splice (L.map g) o (cs.map g) := by
  unfold splice; simp [List.map_take, List.map_drop]
theorem byt_app (a b : List Int) (i : Nat) : byt (a ++ b) i = if i < a.length then byt a i else byt b (i - a.length) := by
  unfold byt
  rw [List.getD_eq_getElem?_getD, List.getD_eq_getElem?_getD, List.getD_eq_getElem?_getD]
  by_cases h : i < a.length
  · rw [if_pos h, List.getElem?_append_left h]
  · rw [if_neg h, List.getElem?_append_right (by omega)]
theorem byt_splice {L cs : List Int} {o : Nat} (h : o + cs.length ≤ L.length) (i : Nat) : byt (splice L o cs) i = if o ≤ i ∧ i < o + cs.length then byt cs (i - o) else byt L i := by
  unfold splice
  rw [byt_app, byt_app, List.length_take, show min o L.length = o by omega]
  by_cases h1 : i < o
  · rw [if_pos h1, if_neg (by omega), byt_take h1]
  · rw [if_neg h1]
    by_cases h2 : i - o < cs.length
    · rw [if_pos h2, if_pos ⟨by omega, by omega⟩]
    · rw [if_neg h2, if_neg (by omega), byt_drop]
      congr 1; omega
theorem byt_zeros (N i : Nat) : byt (List.replicate N 0) i = 0 := by
  unfold byt
  rw [List.getD_eq_getElem?_getD, List.getElem?_replicate]
  split <;> rfl

/-- the bytes of the first k spans over b, which begins at f, over zeros -/
def wovB (gl : List Sp) (k : Nat) (base : Int) (bl b : List Int) (f N : Nat) : List Int := (List.range N).map fun (i : Nat) =>
  if inB (gl.take k) (base + i) = true then byt bl i else if f ≤ i ∧ i < f + b.length then byt b (i - f) else 0
theorem wov_len (gl : List Sp) (k : Nat) (base : Int) (bl b : List Int) (f N : Nat) : (wovB gl k base bl b f N).length = N := by unfold wovB; simp
theorem wov_at (gl : List Sp) (k : Nat) (base : Int) (bl b : List Int) (f N : Nat) {i : Nat} (h : i < N) : byt (wovB gl k base bl b f N) i = if inB (gl.take k) (base + i) = true then byt bl i else if f ≤ i ∧ i < f + b.length then byt b (i - f) else 0 := by
  unfold wovB; rw [byt_map_range _ _ _ h]
theorem wov_zero (gl : List Sp) (base : Int) (bl b : List Int) (f N : Nat) (h : f + b.length ≤ N) : splice (List.replicate N 0) f b = wovB gl 0 base bl b f N := by
  have hl : (splice (List.replicate N 0) f b).length = N := by rw [length_splice _ _ _ (by rw [List.length_replicate]; exact h), List.length_replicate]
  refine byt_ext (by rw [hl, wov_len]) (fun i hi => ?_)
  rw [hl] at hi
  rw [byt_splice (by rw [List.length_replicate]; exact h), wov_at _ _ _ _ _ _ _ hi, byt_zeros, if_neg (show ¬ inB (gl.take 0) (base + (i : Int)) = true by rw [List.take_zero]; simp [inB])]
theorem wov_succ {gl : List Sp} {base : Int} {bl b : List Int} {f N k o u : Nat} (hc : chain (base - 1) gl = true) (hk : k < gl.length) (ho : (sp gl k).1 = base + o) (hu : (sp gl k).2 = base + u) (hub : u ≤ bl.length) (hbN : bl.length ≤ N) :
    splice (wovB gl k base bl b f N) o ((bl.take u).drop o) = wovB gl (k + 1) base bl b f N := by
  have hs := (ch_split hc hk).2.2.1
  have hcl : ((bl.take u).drop o).length = u - o := by rw [List.length_drop, List.length_take]; omega
  have hfit : o + ((bl.take u).drop o).length ≤ (wovB gl k base bl b f N).length := by rw [hcl, wov_len]; omega
  have hl := length_splice _ _ _ hfit
  rw [wov_len] at hl
  refine byt_ext (by rw [hl, wov_len]) (fun i hi => ?_)
  rw [hl] at hi
  rw [byt_splice hfit, wov_at _ _ _ _ _ _ _ hi, wov_at _ _ _ _ _ _ _ hi, hcl]
  by_cases h1 : o ≤ i ∧ i < o + (u - o)
  · rw [if_pos h1, if_pos ((inB_iff _ _).2 ((take_in hk _).2 (.inr ⟨by omega, by omega⟩))), byt_drop, byt_take (by omega)]
    congr 1; omega
  · rw [if_neg h1]
    have e : inB (gl.take (k + 1)) (base + i) = inB (gl.take k) (base + i) := by
      rw [Bool.eq_iff_iff, inB_iff, inB_iff, take_in hk]
      constructor
      · rintro (h | h)
        · exact h
        · exact absurd ⟨by omega, by omega⟩ h1
      · exact .inl
    rw [e]
theorem wov_small {gl : List Sp} {k : Nat} {base : Int} {bl b : List Int} {f N : Nat} (h1 : Small bl) (h2 : Small b) : Small (wovB gl k base bl b f N) := by
  intro x hx
  unfold wovB at hx
  obtain ⟨i, hi, rfl⟩ := List.mem_map.1 hx
  split
  · exact byt_bd h1 i
  · split
    · exact byt_bd h2 _
    · omega
theorem wov_end {w : Wv} {p : Int} {bs : List Int} {f N kk jj : Nat} (hv : Va w) (hlt : lowP w p < highP w p bs.length) (hf : lowP w p = w.base + f) (hN : N = max w.b.length (highP w p bs.length - w.base).toNat) (hkk : lowP w p = p + kk) (hjj : highP w p bs.length = p + jj) :
    wovB w.got w.got.length w.base w.b ((bs.take jj).drop kk) f N = putB w p bs := by
  have hh := high_le' w p bs.length
  have hcl : ((bs.take jj).drop kk).length = jj - kk := by rw [List.length_drop, List.length_take]; omega
  refine byt_ext (by rw [wov_len, putB_len, hN]) (fun i hi => ?_)
  rw [wov_len] at hi
  rw [wov_at _ _ _ _ _ _ _ hi, putB_at _ _ _ (by rw [putB_len]; omega), List.take_length, hcl]
  by_cases hin : inB w.got (w.base + i) = true
  · rw [if_pos hin, if_neg (fun h => (newB_iff.1 h).2.2 ((inB_iff _ _).1 hin))]
  · rw [if_neg hin]
    have hni : ¬ inL w.got (w.base + i) := fun h => hin ((inB_iff _ _).2 h)
    by_cases h1 : f ≤ i ∧ i < f + (jj - kk)
    · rw [if_pos h1, if_pos (newB_iff.2 ⟨by omega, by omega, hni⟩), byt_drop, byt_take (by omega)]
      congr 1; omega
    · rw [if_neg h1, if_neg (fun h => h1 (by have := newB_iff.1 h; omega))]
      rcases Nat.lt_or_ge i w.b.length with h2 | h2
      · rcases hv.ok i h2 with h3 | h3
        · exact h3.symm
        · exact absurd h3 hni
      · exact (byt_out h2).symm

theorem ov_succ {l : List Sp} {d : Int} (h : chain d l = true) (lo : Int) (j : Nat) : ov (lo, lo + (j + 1 : Nat)) l = ov (lo, lo + j) l + (if inB l (lo + j) = true then 1 else 0) := by
  induction l generalizing d with
  | nil => rw [ov, ov]; simp [inB]
  | cons p t ih =>
    rw [ch_cons] at h
    rw [ov, ov, ih h.2.2]
    by_cases hp : p.1 ≤ lo + j ∧ lo + j < p.2
    · have e1 : inB (p :: t) (lo + j) = true := (inB_iff _ _).2 ((inL_cons _ _ _).2 (.inl hp))
      have e2 : ¬ inB t (lo + j) = true := fun h3 => by have := low_in h.2.2 ((inB_iff _ _).1 h3); omega
      rw [if_pos e1, if_neg e2]
      unfold ov1; simp only; omega
    · have e1 : inB (p :: t) (lo + j) = inB t (lo + j) := by
        rw [Bool.eq_iff_iff, inB_iff, inB_iff, inL_cons]
        constructor
        · rintro (h3 | h3)
          · exact absurd h3 hp
          · exact h3
        · exact .inr
      rw [e1]
      unfold ov1; simp only; omega
theorem putN_ov {l : List Sp} {d : Int} (h : chain d l = true) (lo : Int) (j : Nat) : ((putN l lo (lo + j) : Nat) : Int) + ov (lo, lo + j) l = j := by
  induction j with
  | zero =>
    rw [putN_zero']
    have : ∀ t : List Sp, ov (lo, lo + (0 : Nat)) t = 0 := by
      intro t
      induction t with
      | nil => rfl
      | cons p r ih => rw [ov, ih]; unfold ov1; simp only; omega
    rw [this]; omega
  | succ j ih =>
    rw [putN_succ, ov_succ h]
    split <;> simp <;> omega
theorem size_put {l : List Sp} {d lo hi : Int} (h : chain d l = true) (hlt : lo < hi) : size (ins l (lo, hi)) - size l = (putN l lo hi : Nat) := by
  rw [ins_size h hlt]
  obtain ⟨j, rfl⟩ : ∃ j : Nat, hi = lo + j := ⟨(hi - lo).toNat, by omega⟩
  have := putN_ov h lo j
  simp only; omega
end Go.Proofs.Ytgiknfmagmfniaa
