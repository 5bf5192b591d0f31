/- Le Ms It Ra Xm XmMath Vg Gr. -/
import Derived.Test.YtbijhkhkigdddaaGreatP01
set_option linter.all false
set_option maxRecDepth 100000
set_option maxHeartbeats 32000000
namespace Go.Proofs.YtbijhkhkigdddaaGreat
structure Lv where
 span : Int
 l : List Sp
 high : Int
def zlv : Lv := ⟨0, [], 0⟩
def ltmB (x : Int) : Bool := decide (0 ≤ x ∧ x ≤ 1152921504606846976)
theorem ltmB_iff (x : Int) : ltmB x = true ↔ 0 ≤ x ∧ x ≤ 1152921504606846976 := by unfold ltmB; exact decide_eq_true_iff
structure PtOk (l : List Sp) (i : Nat) : Prop where
 a0 : 0 ≤ (sp l i).1
 a1 : (sp l i).1 ≤ 1152921504606846976
 n0 : 0 ≤ (sp l i).2
 n1 : (sp l i).2 ≤ 1152921504606846976
 up : 0 < i → (sp l (i - 1)).1 ≤ (sp l i).1 ∧ (sp l (i - 1)).2 < (sp l i).2
def ptB (l : List Sp) (i : Nat) : Bool := decide (0 ≤ (sp l i).1 ∧ (sp l i).1 ≤ 1152921504606846976 ∧ 0 ≤ (sp l i).2 ∧ (sp l i).2 ≤ 1152921504606846976 ∧ (0 < i → (sp l (i - 1)).1 ≤ (sp l i).1 ∧ (sp l (i - 1)).2 < (sp l i).2))
theorem ptB_iff (l : List Sp) (i : Nat) : ptB l i = true ↔ PtOk l i := by
 unfold ptB
 rw [decide_eq_true_eq]
 exact ⟨fun ⟨a, b, c, d, e⟩ => ⟨a, b, c, d, e⟩, fun h => ⟨h.a0, h.a1, h.n0, h.n1, h.up⟩⟩
def PtsOk (l : List Sp) (k : Nat) : Prop := ∀ i, i < k → PtOk l i
def ptsB (l : List Sp) : Bool := (List.range l.length).all fun i => ptB l i
theorem ptsB_iff (l : List Sp) : ptsB l = true ↔ PtsOk l l.length := by
 unfold ptsB PtsOk
 rw [List.all_eq_true]
 exact ⟨fun h i hi => (ptB_iff l i).1 (h i (List.mem_range.2 hi)), fun h i hi => (ptB_iff l i).2 (h i (List.mem_range.1 hi))⟩
def headB (v : Lv) : Bool := decide (1 ≤ v.span ∧ v.span ≤ 1099511627776 ∧ v.l.length ≤ 100 ∧ 0 ≤ v.high ∧ v.high ≤ 7)
def lmay (v : Lv) : Bool := headB v && ptsB v.l
structure Lok (v : Lv) : Prop where
 s0 : 1 ≤ v.span
 s1 : v.span ≤ 1099511627776
 len : v.l.length ≤ 100
 h0 : 0 ≤ v.high
 h1 : v.high ≤ 7
 pts : PtsOk v.l v.l.length
theorem lmay_iff (v : Lv) : lmay v = true ↔ Lok v := by
 unfold lmay headB
 rw [Bool.and_eq_true, decide_eq_true_eq, ptsB_iff]
 exact ⟨fun ⟨⟨a, b, c, d, e⟩, f⟩ => ⟨a, b, c, d, e, f⟩, fun h => ⟨⟨h.s0, h.s1, h.len, h.h0, h.h1⟩, h.pts⟩⟩
def cnt (span at_ : Int) (p : Sp) : Bool := decide (at_ - p.1 ≤ span)
def fst2 (o : Option Sp) : Int × Bool := match o with
 | some p => (p.2, true)
 | none => (0, false)
def ofR (v : Lv) (at_ : Int) : Int × Bool := if lmay v = true ∧ 0 ≤ at_ ∧ at_ ≤ 1152921504606846976 then fst2 (v.l.find? (cnt v.span at_)) else (0, false)
def MetOk (v : Lv) (at_ n : Int) : Prop := lmay v = true ∧ 0 ≤ at_ ∧ at_ ≤ 1152921504606846976 ∧ 0 ≤ n ∧ n ≤ 1152921504606846976 ∧ (0 < v.l.length → (sp v.l (v.l.length - 1)).1 ≤ at_)
instance (v : Lv) (a b : Int) : Decidable (MetOk v a b) := inferInstanceAs (Decidable (_ ∧ _ ∧ _ ∧ _ ∧ _ ∧ _))
def farB (v : Lv) (at_ n : Int) : Bool := (ofR v at_).2 && decide (2 * (ofR v at_).1 < n)
def highR (v : Lv) (at_ n : Int) : Int := if farB v at_ n = true then v.high + 1 else 0
def stay (span at_ n : Int) (p : Sp) : Bool := cnt span at_ p && decide (p.2 < n)
def leftR (v : Lv) (at_ n : Int) : List Sp := v.l.filter (stay v.span at_ n)
def ownR (l : List Sp) (at_ n : Int) : List Sp := if l.length < 100 then l ++ [(at_, n)] else l
def metR (v : Lv) (at_ n : Int) : Lv × Bool × Int :=
 if MetOk v at_ n then
  (if highR v at_ n = 8 then (⟨v.span, [(at_, n)], 0⟩, true, 0) else (⟨v.span, ownR (leftR v at_ n) at_ n, highR v at_ n⟩, false, 0))
 else (zlv, false, 1)
theorem met_no {v : Lv} {a n : Int} (h : ¬ MetOk v a n) : metR v a n = (zlv, false, 1) := if_neg h
theorem met_turn {v : Lv} {a n : Int} (h : MetOk v a n) (k : highR v a n = 8) : metR v a n = (⟨v.span, [(a, n)], 0⟩, true, 0) := by unfold metR; rw [if_pos h, if_pos k]
theorem met_ok {v : Lv} {a n : Int} (h : MetOk v a n) (k : ¬ highR v a n = 8) : metR v a n = (⟨v.span, ownR (leftR v a n) a n, highR v a n⟩, false, 0) := by unfold metR; rw [if_pos h, if_neg k]
def Rel (a b : Sp) : Prop := a.1 ≤ b.1 ∧ a.2 < b.2
def Pt (p : Sp) : Prop := (0 ≤ p.1 ∧ p.1 ≤ 1152921504606846976) ∧ 0 ≤ p.2 ∧ p.2 ≤ 1152921504606846976
theorem pts_far {l : List Sp} {n : Nat} (h : PtsOk l n) : ∀ j, j < n → ∀ i, i < j → Rel (sp l i) (sp l j) := by
 intro j
 induction j with
 | zero => intro _ i hi; omega
 | succ j ih =>
  intro hj i hi
  have h1 := (h (j + 1) hj).up (by omega)
  rw [show j + 1 - 1 = j by omega] at h1
  by_cases e : i = j
  ·subst e; exact h1
  ·have h2 := ih (by omega) i (by omega)
   exact ⟨Int.le_trans h2.1 h1.1, Int.lt_trans h2.2 h1.2⟩
theorem pts_iff (l : List Sp) : PtsOk l l.length ↔ (∀ p ∈ l, Pt p) ∧ l.Pairwise Rel := by
 constructor
 ·intro h
  refine ⟨fun p hp => ?_, ?_⟩
  ·obtain ⟨i, hi, rfl⟩ := List.getElem_of_mem hp
   have := h i hi
   rw [← sp_eq hi]
   exact ⟨⟨this.a0, this.a1⟩, this.n0, this.n1⟩
  ·rw [List.pairwise_iff_getElem]
   intro i j hi hj hij
   have := pts_far h j hj i hij
   rwa [sp_eq hi, sp_eq hj] at this
 ·rintro ⟨h1, h2⟩ i hi
  have hp := h1 _ (List.getElem_mem hi)
  rw [← sp_eq hi] at hp
  refine ⟨hp.1.1, hp.1.2, hp.2.1, hp.2.2, fun h0 => ?_⟩
  rw [List.pairwise_iff_getElem] at h2
  have := h2 (i - 1) i (by omega) hi (by omega)
  rwa [← sp_eq (by omega), ← sp_eq hi] at this
theorem last_le {v : Lv} {a : Int} (h : PtsOk v.l v.l.length) (k : 0 < v.l.length → (sp v.l (v.l.length - 1)).1 ≤ a) {p : Sp} (hp : p ∈ v.l) : p.1 ≤ a := by
 obtain ⟨i, hi, rfl⟩ := List.getElem_of_mem hp
 have h1 := k (by omega)
 rw [← sp_eq hi]
 by_cases e : i = v.l.length - 1
 ·rw [e]; exact h1
 ·exact Int.le_trans (pts_far h (v.l.length - 1) (by omega) i (by omega)).1 h1
theorem left_pw {v : Lv} {a n : Int} (h : Lok v) : (∀ p ∈ leftR v a n, Pt p) ∧ (leftR v a n).Pairwise Rel := by
 have := (pts_iff v.l).1 h.pts
 exact ⟨fun p hp => this.1 p (List.mem_filter.1 hp).1, this.2.filter _⟩
theorem left_len (v : Lv) (a n : Int) : (leftR v a n).length ≤ v.l.length := List.length_filter_le _ _
theorem left_mem {v : Lv} {a n : Int} {p : Sp} (h : p ∈ leftR v a n) : p ∈ v.l ∧ a - p.1 ≤ v.span ∧ p.2 < n := by
 have := List.mem_filter.1 h
 refine ⟨this.1, ?_⟩
 have h2 := this.2
 unfold stay cnt at h2
 rw [Bool.and_eq_true, decide_eq_true_eq, decide_eq_true_eq] at h2
 exact h2
theorem own_ok {v : Lv} {a n : Int} (h : MetOk v a n) : PtsOk (ownR (leftR v a n) a n) (ownR (leftR v a n) a n).length := by
 obtain ⟨h1, h2, h3, h4, h5, h6⟩ := h
 have hv := (lmay_iff v).1 h1
 have hl := left_pw (a := a) (n := n) hv
 rw [pts_iff]
 unfold ownR
 split
 ·refine ⟨fun p hp => ?_, ?_⟩
  ·rcases List.mem_append.1 hp with hp | hp
   ·exact hl.1 p hp
   ·simp at hp; subst hp; exact ⟨⟨h2, h3⟩, h4, h5⟩
  ·rw [List.pairwise_append]
   refine ⟨hl.2, List.pairwise_singleton _ _, fun p hp q hq => ?_⟩
   simp at hq; subst hq
   have hm := left_mem hp
   exact ⟨last_le hv.pts h6 hm.1, hm.2.2⟩
 ·exact hl
theorem own_len {l : List Sp} {a n : Int} (h : l.length ≤ 100) : (ownR l a n).length ≤ 100 := by
 unfold ownR; split
 ·rw [List.length_append]; simp; omega
 ·exact h
theorem high_bd {v : Lv} (h : Lok v) (a n : Int) : 0 ≤ highR v a n ∧ highR v a n ≤ 8 := by
 have := h.h0; have := h.h1
 unfold highR; split <;> omega
theorem met_valid {v : Lv} {a n : Int} (h : MetOk v a n) : Lok (metR v a n).1 ∧ (metR v a n).2.2 = 0 := by
 have hv := (lmay_iff v).1 h.1
 have hb := high_bd hv a n
 by_cases k : highR v a n = 8
 ·rw [met_turn h k]
  refine ⟨⟨hv.s0, hv.s1, by simp, Int.le_refl 0, by show (0 : Int) ≤ 7; decide, ?_⟩, rfl⟩
  intro i hi
  obtain rfl : i = 0 := by simp at hi; omega
  obtain ⟨h1, h2, h3, h4, h5, h6⟩ := h
  exact ⟨h2, h3, h4, h5, fun h0 => absurd h0 (by omega)⟩
 ·rw [met_ok h k]
  exact ⟨⟨hv.s0, hv.s1, own_len (Zn (left_len v a n) hv.len), hb.1, by dsimp only; omega, own_ok h⟩, rfl⟩
structure Ms where
 pk : Int
 bt : Int
 ca : Int
 md : Int
 pt : Int
def zmk : Ms := ⟨0, 0, 0, 0, 0⟩
def mmay (m : Ms) : Bool := t60 m.pk && (t60 m.bt && (t60 m.ca && decide (0 ≤ m.md ∧ m.md ≤ m.ca ∧ 0 ≤ m.pt ∧ m.pt ≤ 1024)))
structure MsOk (m : Ms) : Prop where
 p0 : 0 ≤ m.pk
 p1 : m.pk ≤ 1152921504606846976
 b0 : 0 ≤ m.bt
 b1 : m.bt ≤ 1152921504606846976
 c0 : 0 ≤ m.ca
 c1 : m.ca ≤ 1152921504606846976
 m0 : 0 ≤ m.md
 m1 : m.md ≤ m.ca
 t0 : 0 ≤ m.pt
 t1 : m.pt ≤ 1024
theorem mmay_iff (m : Ms) : mmay m = true ↔ MsOk m := by
 unfold mmay
 rw [Bool.and_eq_true, Bool.and_eq_true, Bool.and_eq_true, t60_iff, t60_iff, t60_iff, decide_eq_true_eq]
 exact ⟨fun ⟨⟨a, b⟩, ⟨c, d⟩, ⟨e, f⟩, g, h, i, j⟩ => ⟨a, b, c, d, e, f, g, h, i, j⟩, fun h => ⟨⟨h.p0, h.p1⟩, ⟨h.b0, h.b1⟩, ⟨h.c0, h.c1⟩, h.m0, h.m1, h.t0, h.t1⟩⟩
def HeardOk (ace ce packets bytes : Int) : Prop := 0 ≤ ace ∧ ace ≤ 7 ∧ ce < 16777216 ∧ 0 ≤ packets ∧ packets ≤ 1099511627776 ∧ 0 ≤ bytes ∧ bytes ≤ 1099511627776
instance (a b c d : Int) : Decidable (HeardOk a b c d) := inferInstanceAs (Decidable (_ ∧ _ ∧ _ ∧ _ ∧ _ ∧ _ ∧ _))
def n0R (m : Ms) (ace : Int) : Int := (ace - m.pk) % 8
def bR (m : Ms) (ce : Int) : Int := (ce - m.bt) % 16777216
def nR (m : Ms) (ace ce packets : Int) : Int := if 8 ≤ packets ∧ 0 < bR m ce then n0R m ace + (packets - n0R m ace) / 8 * 8 else n0R m ace
def Fits (m : Ms) (ace ce packets bytes : Int) : Prop := m.pk + nR m ace ce packets ≤ 1152921504606846976 ∧ m.bt + bR m ce ≤ 1152921504606846976 ∧ m.ca + bytes ≤ 1152921504606846976
instance (m : Ms) (a b c d : Int) : Decidable (Fits m a b c d) := inferInstanceAs (Decidable (_ ∧ _ ∧ _))
def minM (a b : Int) : Int := if a < b then a else b
def mheardR (m : Ms) (ace ce packets bytes : Int) : Ms × Int × Int :=
 if mmay m = true ∧ HeardOk ace ce packets bytes then
  (if Fits m ace ce packets bytes then (⟨m.pk + nR m ace ce packets, m.bt + bR m ce, m.ca + bytes, m.md + minM bytes (bR m ce), m.pt⟩, nR m ace ce packets, 0) else (zmk, 0, 5))
 else (zmk, 0, 1)
theorem mheard_no {m : Ms} {a b c d : Int} (h : ¬ (mmay m = true ∧ HeardOk a b c d)) : mheardR m a b c d = (zmk, 0, 1) := if_neg h
theorem mheard_over {m : Ms} {a b c d : Int} (h : mmay m = true ∧ HeardOk a b c d) (k : ¬ Fits m a b c d) : mheardR m a b c d = (zmk, 0, 5) := by unfold mheardR; rw [if_pos h, if_neg k]
theorem mheard_ok {m : Ms} {a b c d : Int} (h : mmay m = true ∧ HeardOk a b c d) (k : Fits m a b c d) : mheardR m a b c d = (⟨m.pk + nR m a b c, m.bt + bR m b, m.ca + d, m.md + minM d (bR m b), m.pt⟩, nR m a b c, 0) := by unfold mheardR; rw [if_pos h, if_pos k]
def partR (m : Ms) : Int := if 0 < m.ca then m.pt + (1024 * m.md / m.ca - m.pt) / 16 else m.pt
def roundR (m : Ms) : Ms × Int := if mmay m = true then (⟨m.pk, m.bt, 0, 0, partR m⟩, 0) else (zmk, 1)
theorem n0_bd (m : Ms) (a : Int) : 0 ≤ n0R m a ∧ n0R m a ≤ 7 := by unfold n0R; omega
theorem b_bd (m : Ms) (c : Int) : 0 ≤ bR m c ∧ bR m c < 16777216 := by unfold bR; omega
theorem n_bd {m : Ms} {a c p : Int} (h : 0 ≤ p) : 0 ≤ nR m a c p ∧ (nR m a c p ≤ p ∨ nR m a c p ≤ 7) := by
 have := n0_bd m a
 unfold nR
 split
 ·omega
 ·omega
theorem quo_bd {m : Ms} (h : MsOk m) (hc : 0 < m.ca) : 0 ≤ 1024 * m.md / m.ca ∧ 1024 * m.md / m.ca ≤ 1024 := by
 have h0 := h.m0; have h1 := h.m1
 constructor
 ·exact Int.ediv_nonneg (by omega) (by omega)
 ·have : 1024 * m.md / m.ca ≤ 1024 * m.ca / m.ca := Int.ediv_le_ediv hc (by omega)
  rwa [Int.mul_ediv_cancel _ (by omega)] at this
theorem part_bd {m : Ms} (h : MsOk m) : 0 ≤ partR m ∧ partR m ≤ 1024 := by
 have h0 := h.t0; have h1 := h.t1
 unfold partR
 split
 ·next hc =>
  have := quo_bd h hc
  generalize 1024 * m.md / m.ca = q at *
  omega
 ·omega
theorem mheard_valid {m : Ms} {a b c d : Int} (h : mmay m = true ∧ HeardOk a b c d) (k : Fits m a b c d) : MsOk (mheardR m a b c d).1 := by
 rw [mheard_ok h k]
 have hv := (mmay_iff m).1 h.1
 obtain ⟨h1, h2, h3, h4, h5, h6, h7⟩ := h.2
 obtain ⟨k1, k2, k3⟩ := k
 have hb := b_bd m b
 have hn := n_bd (m := m) (a := a) (c := b) h4
 have q1 := hv.p0; have q2 := hv.b0; have q3 := hv.c0; have q4 := hv.m0; have q5 := hv.m1
 refine ⟨?_, ?_, ?_, ?_, ?_, ?_, ?_, ?_, hv.t0, hv.t1⟩ <;> dsimp only <;> (try unfold minM) <;> (try split) <;> omega
theorem round_valid {m : Ms} (h : MsOk m) : MsOk ⟨m.pk, m.bt, 0, 0, partR m⟩ :=
 ⟨h.p0, h.p1, h.b0, h.b1, Int.le_refl 0, by show (0 : Int) ≤ _; decide, Int.le_refl 0, Int.le_refl 0, (part_bd h).1, (part_bd h).2⟩
end Go.Proofs.YtbijhkhkigdddaaGreat
namespace Go.Proofs.YtbijhkhkigdddaaGreat
open Go.RowKit
def it (l : List Int) (i : Nat) : Int := l.getD i 0
theorem it_eq {l : List Int} {i : Nat} (h : i < l.length) : it l i = l[i] := by unfold it; rw [List.getD_eq_getElem?_getD, List.getElem?_eq_getElem h]; rfl
theorem it_mem {l : List Int} {i : Nat} (h : i < l.length) : it l i ∈ l := by rw [it_eq h]; exact List.getElem_mem h
theorem it_drop (l : List Int) (k i : Nat) : it (l.drop k) i = it l (k + i) := by
 unfold it; rw [List.getD_eq_getElem?_getD, List.getElem?_drop, List.getD_eq_getElem?_getD]
def WideI (l : List Int) : Prop := ∀ x ∈ l, W64 x
structure Ri (w : World) (A : Option Addr) (n : Nat) (l : List Int) : Prop where
 len : l.length = n
 wide : WideI l
 at_ : 0 < n → ∃ b o, A = some ⟨b, o, none⟩ ∧ b < w.heap.size ∧ ∀ i, i < n → w.cell? ⟨b, o + i, none⟩ = some (.int .i64 (it l i))
structure Si (w : World) (A : Option Addr) (n c : Nat) (l : List Int) : Prop where
 le : n ≤ c
 max : c ≤ maxLen
 nil : A = none → c = 0
 rd : Ri w A n l
section
variable {w w' : World} {A : Option Addr} {n c : Nat} {l : List Int}
theorem Ri.keep (h : Ri w A n l) (hb : Below w.heap.size w w') : Ri w' A n l :=
 ⟨h.len, h.wide, fun hn => by
  obtain ⟨b, o, e, hl, hc⟩ := h.at_ hn
  exact ⟨b, o, e, Nat.lt_of_lt_of_le hl hb.size, fun i hi => (hb.cell (p := ⟨b, o + i, none⟩) hl).trans (hc i hi)⟩⟩
theorem Ri.empty (w : World) (A : Option Addr) : Ri w A 0 [] := ⟨rfl, fun _ hx => by simp at hx, fun hn => absurd hn (by omega)⟩
theorem Si.keep (h : Si w A n c l) (hb : Below w.heap.size w w') : Si w' A n c l := ⟨h.le, h.max, h.nil, h.rd.keep hb⟩
theorem Si.none (w : World) : Si w none 0 0 [] := ⟨Nat.le_refl _, Nat.zero_le _, fun _ => rfl, Ri.empty _ _⟩
def cutI (A : Option Addr) (k c : Nat) : Option Addr := if c = k then A else A.map (·.add k)
theorem Si.cut {k m d : Nat} (h : Si w A n c l) (hn : n = m + k) (hc : c = d + k) : Si w (cutI A k c) m d (l.drop k) := by
 have hn' := h.nil
 have hle := h.le
 have hmx := h.max
 refine ⟨by omega, by omega, ?_, by rw [List.length_drop, h.rd.len]; omega, fun x hx => h.rd.wide x (List.mem_of_mem_drop hx), fun h0 => ?_⟩
 ·intro e
  unfold cutI at e
  split at e
  ·have := hn' e; omega
  ·cases A with
   | none => have := hn' rfl; omega
   | some a => cases e
 ·obtain ⟨b, o, e, hl, hcl⟩ := h.rd.at_ (by omega)
  refine ⟨b, o + k, ?_, hl, fun i hi => ?_⟩
  ·unfold cutI; rw [if_neg (by omega), e]; simp only [Option.map_some, Addr.add]
   split <;> simp_all
  ·rw [Nat.add_assoc, hcl (k + i) (by omega), it_drop]
structure Goti (w : World) (base e : Nat) (v : Value) (n : Nat) (l : List Int) : Prop where
 row : w.ownsRow base e 1 v n (l.map (Value.int .i64))
 wide : WideI l
theorem Goti.si {base e : Nat} {v : Value} (h : Goti w base e v n l) : ∃ A c, v = .slice A n c ∧ Si w A n c l := by
 have hlen : l.length = n := by have := h.row.1; simpa using this
 rcases h.row.2 with ⟨rfl, rfl⟩ | ⟨g, cap, cur, rfl, hg, hh, hnc, hcm, hcs, htake⟩
 ·exact ⟨_, 0, rfl, Nat.le_refl _, Nat.zero_le _, fun _ => rfl, hlen, h.wide, fun h0 => by omega⟩
 ·refine ⟨some ⟨g, 0, .none⟩, cap, rfl, hnc, hcm, (fun e => by cases e), hlen, h.wide, fun h0 => ⟨g, 0, rfl, ?_, fun i hi => ?_⟩⟩
  ·rcases Nat.lt_or_ge g w.heap.size with hlt | hge
   ·exact hlt
   ·rw [Array.getElem?_eq_none hge] at hh; cases hh
  ·rw [Nat.zero_add, h.row.cellAt i (by omega), List.getElem?_map, List.getElem?_eq_getElem (by omega), it_eq (by omega)]
   rfl
theorem wpList_appi {P : Program} (w : World) {A : Option Addr} {m c : Nat} {l : List Int} {ops : Array Oper} {rest : List Oper} {o : Oper} {a : Act} {Q : Exit → Act → World → Prop} (hgd : o.guard = .none) (s x : Operand) (t : TypeId)
  (ho : o.op = .call { callee := .builtin .append, args := #[s, x], argTypes := #[t, t] })
  (base : Nat) (e : TypeId) (ht : P.underlying t = some (.slice e)) (hinfo : (P.info? e).map (fun i => (i.zero, i.size, i.bytes)) = some (some (.int .i64 0), 1, 8))
  (v : Value) (n : Nat) (xs : List Int) (hs : a.eval s = v) (hown : Goti w base e v n xs)
  (hx : a.eval x = .slice A m c) (hA : A = .none → c = 0) (hr : Ri w A m l) (hsum : (n + m) * 8 ≤ 140737488355328) (hbase : base ≤ w.heap.size)
  (h : ∀ v' w', Goti w' base e v' (n + m) (xs ++ l) → w.grownBy w' v.ownBlock → (v'.ownBlock = v.ownBlock ∨ v'.ownBlock = some w.heap.size) → wpList P ops Q rest (a.put o.dst v') w') :
  wpList P ops Q (o :: rest) a w := by
 obtain ⟨i0, hi, hz0, hz1, hz2⟩ := info_parts hinfo
 have hw : WideI (xs ++ l) := fun y hy => (List.mem_append.1 hy).elim (hown.wide y) (hr.wide y)
 cases A with
 | none =>
  have hc0 := hA rfl
  have hm0 : m = 0 := by
   rcases Nat.eq_zero_or_pos m with h0 | h0
   ·exact h0
   ·obtain ⟨b, o', e', _⟩ := hr.at_ h0; cases e'
  subst hm0 hc0
  have hl0 : l = [] := List.eq_nil_of_length_eq_zero hr.len
  subst hl0
  exact wpList_append_own_none hgd s x t ho base e i0 1 ht hi v n _ hs hown.row hx (h v w (by simpa using hown) (World.grownBy.refl w _) (.inl rfl))
 | some ad =>
  refine wpList_append_own_at w hgd s x t ho base e i0 (.int .i64 0) 1 8 ht hi hz0 hz1 hz2 rfl (by omega) v n _ hs hown.row ad m c (l.map (Value.int .i64)) hx (by simp [hr.len]) ?_ (ints_oneCell _ _) (by unfold maxLen; omega) (by omega) hbase (fun v' w' h1 h2 _ h4 => h v' w' ⟨by rw [List.map_append]; exact h1, hw⟩ h2 h4)
  intro j u hj
  have hjm : j < m := by
   have := (List.getElem?_eq_some_iff.1 hj).1
   rw [List.length_map, hr.len] at this
   exact this
  obtain ⟨b, o', e', _, hc⟩ := hr.at_ (by omega)
  cases e'
  have hcell := hc j hjm
  rw [List.getElem?_map, List.getElem?_eq_getElem (by rw [hr.len]; exact hjm)] at hj
  have hu : u = .int .i64 (it l j) := by
   simp only [Option.map_some, Option.some.injEq] at hj
   rw [← hj, it_eq (by rw [hr.len]; exact hjm)]
  rw [hu, ← hcell]
  unfold Addr.add
  split
  ·next h => subst h; rfl
  ·rfl
theorem Goti.alloc {base e : Nat} {v : Value} (h : Goti w base e v n l) (o : Obj) : Goti (w.alloc o) base e v n l := ⟨h.row.alloc o, h.wide⟩
theorem Goti.nil (w : World) (base e : Nat) : Goti w base e (.slice .none 0 0) 0 [] := ⟨World.ownsRow_nil _ _ _ _, fun _ hx => by simp at hx⟩
theorem ri_one (w : World) {x : Int} (hx : W64 x) (t : TypeId) : Ri (w.alloc (.cells #[x] t)) (some ⟨w.heap.size, 0, .none⟩) 1 [x] :=
 ⟨rfl, fun y hy => by rw [List.mem_singleton] at hy; subst hy; exact hx, fun _ => ⟨w.heap.size, 0, rfl, by simp, fun i hi => by
  obtain rfl : i = 0 := by omega
  rw [Nat.zero_add, World.cell?_alloc_new]; rfl⟩⟩
end
theorem run_cutI (P : Program) (t e : TypeId) (ht : P.underlying t = some (.slice e)) (hinfo : (P.info? e).map (fun i => (i.zero, i.size, i.bytes)) = some (some (.int .i64 0), 1, 8)) (A : Option Addr) (k m d : Nat) (w : World) (hk : k ≤ 1000000) (_ : m ≤ d) :
  (Instr.slice t (.slice A (m + k) (d + k)) (some (.int .i64 (k : Int))) none none).run P w = .ok (.slice (cutI A k (d + k)) m d) w := by
 obtain ⟨i0, hi, hz0, hz1, hz2⟩ := info_parts hinfo
 have ht' : P.underlying t = some (.slice (P.elem t)) := by simp [Program.elem, ht]
 have he : P.elem t = e := by simp [Program.elem, ht]
 have hz : ∀ w, (Go.sizeOf e).run P w = .ok 1 w := fun w => by simp [Go.sizeOf, typeInfo, hi, hz1]
 rw [run_slice_l w t _ _ _ ht' .i64 _ (by omega) (by omega), he, hz]
 simp [Result.andThen, sliced, cutI]
theorem info_int : (Tryz.prog.info? 3).map (fun i => (i.zero, i.size, i.bytes)) = some (some (.int .i64 0), 1, 8) := by kernel_rfl
end Go.Proofs.YtbijhkhkigdddaaGreat
namespace Go.Proofs.YtbijhkhkigdddaaGreat
structure Rv where
 total : Int
 last : Int
 l : List Int
def zrv : Rv := ⟨0, 0, []⟩
def AllB (l : List Int) (k : Nat) : Prop := ∀ i, i < k → t60 (it l i) = true
theorem all_snoc {l : List Int} {k : Nat} (h : AllB l k) (hk : t60 (it l k) = true) : AllB l (k + 1) := fun i hi => by
 by_cases e : i = k
 ·subst e; exact hk
 ·exact h i (by omega)
def allB (l : List Int) : Bool := l.all t60
theorem allB_iff (l : List Int) : allB l = true ↔ AllB l l.length := by
 unfold allB
 rw [List.all_eq_true]
 constructor
 ·intro h i hi; exact h _ (it_mem hi)
 ·intro h x hx
  obtain ⟨i, hi, rfl⟩ := List.getElem_of_mem hx
  have := h i hi
  rwa [it_eq hi] at this
def ramay (v : Rv) : Bool := allB v.l && (t60 v.total && (t60 v.last && decide (v.l.length ≤ 10)))
structure RaOk (v : Rv) : Prop where
 all : AllB v.l v.l.length
 t0 : 0 ≤ v.total
 t1 : v.total ≤ 1152921504606846976
 a0 : 0 ≤ v.last
 a1 : v.last ≤ 1152921504606846976
 len : v.l.length ≤ 10
theorem ramay_iff (v : Rv) : ramay v = true ↔ RaOk v := by
 unfold ramay
 rw [Bool.and_eq_true, Bool.and_eq_true, Bool.and_eq_true, allB_iff, t60_iff, t60_iff, decide_eq_true_eq]
 exact ⟨fun ⟨a, ⟨b, c⟩, ⟨d, e⟩, f⟩ => ⟨a, b, c, d, e, f⟩, fun h => ⟨h.all, ⟨h.t0, h.t1⟩, ⟨h.a0, h.a1⟩, h.len⟩⟩
def CameOk (v : Rv) (at_ bytes : Int) : Prop := ramay v = true ∧ v.last ≤ at_ ∧ t60 at_ = true ∧ 0 ≤ bytes ∧ bytes ≤ 1099511627776
instance (v : Rv) (a b : Int) : Decidable (CameOk v a b) := inferInstanceAs (Decidable (_ ∧ _ ∧ _ ∧ _ ∧ _))
def cameR (v : Rv) (at_ bytes : Int) : Rv × Int := if CameOk v at_ bytes then (if v.total + bytes ≤ 1152921504606846976 then (⟨v.total + bytes, at_, v.l⟩, 0) else (zrv, 5)) else (zrv, 1)
theorem came_no {v : Rv} {a b : Int} (h : ¬ CameOk v a b) : cameR v a b = (zrv, 1) := if_neg h
theorem came_over {v : Rv} {a b : Int} (h : CameOk v a b) (k : ¬ v.total + b ≤ 1152921504606846976) : cameR v a b = (zrv, 5) := by unfold cameR; rw [if_pos h, if_neg k]
theorem came_ok {v : Rv} {a b : Int} (h : CameOk v a b) (k : v.total + b ≤ 1152921504606846976) : cameR v a b = (⟨v.total + b, a, v.l⟩, 0) := by unfold cameR; rw [if_pos h, if_pos k]
def SampOk (v : Rv) (total last : Int) : Prop := ramay v = true ∧ 0 ≤ total ∧ total ≤ v.total ∧ 0 ≤ last ∧ last ≤ v.last
instance (v : Rv) (a b : Int) : Decidable (SampOk v a b) := inferInstanceAs (Decidable (_ ∧ _ ∧ _ ∧ _ ∧ _))
def numR (a d : Int) : Int := if 1152921504606846976 < 1000000 * a / d then 1152921504606846976 else 1000000 * a / d
def pushR (l : List Int) (n : Int) : List Int := if 10 < l.length + 1 then (l ++ [n]).drop 1 else l ++ [n]
def sampR (v : Rv) (total last : Int) : Rv × Int × Int :=
 if SampOk v total last then
  (if v.last - last ≤ 0 then (v, 0, 0) else (⟨v.total, v.last, pushR v.l (numR (v.total - total) (v.last - last))⟩, numR (v.total - total) (v.last - last), 0))
 else (zrv, 0, 1)
theorem push_full {l : List Int} {n : Int} (h : l.length = 10) : pushR l n = (l ++ [n]).drop 1 := if_pos (by omega)
theorem push_room {l : List Int} {n : Int} (h : l.length < 10) : pushR l n = l ++ [n] := if_neg (by omega)
theorem samp_no {v : Rv} {a b : Int} (h : ¬ SampOk v a b) : sampR v a b = (zrv, 0, 1) := if_neg h
theorem samp_same {v : Rv} {a b : Int} (h : SampOk v a b) (k : v.last - b ≤ 0) : sampR v a b = (v, 0, 0) := by unfold sampR; rw [if_pos h, if_pos k]
theorem samp_ok {v : Rv} {a b : Int} (h : SampOk v a b) (k : ¬ v.last - b ≤ 0) : sampR v a b = (⟨v.total, v.last, pushR v.l (numR (v.total - a) (v.last - b))⟩, numR (v.total - a) (v.last - b), 0) := by unfold sampR; rw [if_pos h, if_neg k]
theorem num_bd {a d : Int} (h0 : 0 ≤ a) (h1 : 0 < d) : 0 ≤ numR a d ∧ numR a d ≤ 1152921504606846976 := by
 have hq : 0 ≤ 1000000 * a / d := Int.ediv_nonneg (by omega) (by omega)
 unfold numR
 generalize 1000000 * a / d = q at *
 split <;> omega
theorem push_len {l : List Int} {n : Int} (h : l.length ≤ 10) : (pushR l n).length ≤ 10 := by
 unfold pushR; split
 ·rw [List.length_drop, List.length_append]; simp; omega
 ·rw [List.length_append]; simp; omega
theorem push_mem {l : List Int} {n x : Int} (h : x ∈ pushR l n) : x ∈ l ∨ x = n := by
 unfold pushR at h
 split at h
 ·have := List.mem_of_mem_drop h
  simpa using this
 ·simpa using h
theorem all_mem (l : List Int) : AllB l l.length ↔ ∀ x ∈ l, t60 x = true := by rw [← allB_iff]; unfold allB; exact List.all_eq_true
theorem came_valid {v : Rv} {a b : Int} (h : CameOk v a b) (k : v.total + b ≤ 1152921504606846976) : RaOk ⟨v.total + b, a, v.l⟩ := by
 have hv := (ramay_iff v).1 h.1
 obtain ⟨_, h2, h3, h4, h5⟩ := h
 have h6 := (t60_iff a).1 h3
 have := hv.t0
 exact ⟨hv.all, by dsimp only; omega, k, h6.1, h6.2, hv.len⟩
theorem samp_valid {v : Rv} {a b : Int} (h : SampOk v a b) : RaOk (sampR v a b).1 := by
 have hv := (ramay_iff v).1 h.1
 by_cases k : v.last - b ≤ 0
 ·rw [samp_same h k]; exact hv
 ·rw [samp_ok h k]
  have hn := num_bd (a := v.total - a) (d := v.last - b) (by have := h.2.2.1; omega) (by omega)
  refine ⟨?_, hv.t0, hv.t1, hv.a0, hv.a1, push_len hv.len⟩
  rw [all_mem]
  intro x hx
  rcases push_mem hx with hx | hx
  ·exact (all_mem v.l).1 hv.all x hx
  ·subst hx; exact (t60_iff _).2 hn
end Go.Proofs.YtbijhkhkigdddaaGreat
namespace Go.Proofs.YtbijhkhkigdddaaGreat
open Go.RowKit
def xmB (c t mss most : Int) : Bool := decide (1 ≤ mss ∧ mss ≤ 1460 ∧ mss ≤ most ∧ most ≤ 1073741824 ∧ mss ≤ c ∧ c ≤ most ∧ mss ≤ t ∧ t ≤ most)
theorem xmB_iff (c t mss most : Int) : xmB c t mss most = true ↔ 1 ≤ mss ∧ mss ≤ 1460 ∧ mss ≤ most ∧ most ≤ 1073741824 ∧ mss ≤ c ∧ c ≤ most ∧ mss ≤ t ∧ t ≤ most := decide_eq_true_iff
def slowR (c t bytes mss most : Int) : Int × Int × Int := if xmB c t mss most = true ∧ 0 ≤ bytes ∧ bytes ≤ 1099511627776 then (if t ≤ c then (c, t, 0) else (min (c + bytes) t, t, 0)) else (0, 0, 1)
def rndR (c t growth mss most : Int) : Int × Int × Int := if xmB c t mss most = true ∧ 0 ≤ growth ∧ growth ≤ mss then (if c < t then (c, t, 0) else (min (c + growth) most, t, 0)) else (0, 0, 1)
def xcutR (c t part mss most : Int) : Int × Int × Int := if xmB c t mss most = true ∧ 0 ≤ part ∧ part ≤ 1024 then (max mss (c - c * part / 2048), max mss (c - c * part / 2048), 0) else (0, 0, 1)
def lossN (c mss most : Int) : Int := min (max (c / 2) (2 * mss)) most
def lossR (c t : Int) (all : Bool) (mss most : Int) : Int × Int × Int := if xmB c t mss most = true then (if all then mss else lossN c mss most, lossN c mss most, 0) else (0, 0, 1)
theorem slow_stay {c t b mss most : Int} (h : xmB c t mss most = true ∧ 0 ≤ b ∧ b ≤ 1099511627776) (k : t ≤ c) : slowR c t b mss most = (c, t, 0) := by unfold slowR; rw [if_pos h, if_pos k]
theorem slow_ok {c t b mss most : Int} (h : xmB c t mss most = true ∧ 0 ≤ b ∧ b ≤ 1099511627776) (k : ¬ t ≤ c) : slowR c t b mss most = (min (c + b) t, t, 0) := by unfold slowR; rw [if_pos h, if_neg k]
theorem rnd_stay {c t b mss most : Int} (h : xmB c t mss most = true ∧ 0 ≤ b ∧ b ≤ mss) (k : c < t) : rndR c t b mss most = (c, t, 0) := by unfold rndR; rw [if_pos h, if_pos k]
theorem rnd_ok {c t b mss most : Int} (h : xmB c t mss most = true ∧ 0 ≤ b ∧ b ≤ mss) (k : ¬ c < t) : rndR c t b mss most = (min (c + b) most, t, 0) := by unfold rndR; rw [if_pos h, if_neg k]
theorem cut_ok {c t b mss most : Int} (h : xmB c t mss most = true ∧ 0 ≤ b ∧ b ≤ 1024) : xcutR c t b mss most = (max mss (c - c * b / 2048), max mss (c - c * b / 2048), 0) := if_pos h
theorem loss_ok {c t mss most : Int} {all : Bool} (h : xmB c t mss most = true) : lossR c t all mss most = (if all then mss else lossN c mss most, lossN c mss most, 0) := if_pos h
theorem cut_bd {c b : Int} (h0 : 0 ≤ c) (h1 : 0 ≤ b) (h2 : b ≤ 1024) : 0 ≤ c * b / 2048 ∧ 2 * (c * b / 2048) ≤ c ∧ c * b ≤ c * 1024 ∧ 0 ≤ c * b := by
 have h3 : c * b ≤ c * 1024 := Int.mul_le_mul_of_nonneg_left h2 h0
 have h4 : 0 ≤ c * b := Int.mul_nonneg h0 h1
 omega
end Go.Proofs.YtbijhkhkigdddaaGreat
namespace Go.Proofs.YtbijhkhkigdddaaGreat
theorem slow_facts {c t b mss most : Int} (h : xmB c t mss most = true) (h0 : 0 ≤ b) (h1 : b ≤ 1099511627776) : ∃ a, slowR c t b mss most = (a, t, 0) ∧ c ≤ a ∧ (a = c ∨ a ≤ t) ∧ xmB a t mss most = true := by
 have hv := (xmB_iff c t mss most).1 h
 by_cases k : t ≤ c
 ·exact ⟨c, slow_stay ⟨h, h0, h1⟩ k, Int.le_refl _, .inl rfl, h⟩
 ·exact ⟨_, slow_ok ⟨h, h0, h1⟩ k, by omega, .inr (by omega), (xmB_iff _ _ _ _).2 (by omega)⟩
theorem rnd_facts {c t b mss most : Int} (h : xmB c t mss most = true) (h0 : 0 ≤ b) (h1 : b ≤ mss) : ∃ a, rndR c t b mss most = (a, t, 0) ∧ c ≤ a ∧ a - c ≤ mss ∧ xmB a t mss most = true := by
 have hv := (xmB_iff c t mss most).1 h
 by_cases k : c < t
 ·exact ⟨c, rnd_stay ⟨h, h0, h1⟩ k, Int.le_refl _, by omega, h⟩
 ·exact ⟨_, rnd_ok ⟨h, h0, h1⟩ k, by omega, by omega, (xmB_iff _ _ _ _).2 (by omega)⟩
theorem cut_facts {c t b mss most : Int} (h : xmB c t mss most = true) (h0 : 0 ≤ b) (h1 : b ≤ 1024) : ∃ z, xcutR c t b mss most = (z, z, 0) ∧ z ≤ c ∧ c ≤ 2 * z ∧ (b = 0 → z = c) ∧ xmB z z mss most = true ∧ z = max mss (c - c * b / 2048) := by
 have hv := (xmB_iff c t mss most).1 h
 obtain ⟨u0, u1, u2, u3⟩ := cut_bd (c := c) (b := b) (by omega) h0 h1
 have hz : b = 0 → c * b / 2048 = 0 := fun e => by subst e; simp
 refine ⟨_, cut_ok ⟨h, h0, h1⟩, by omega, by omega, fun e => by have := hz e; omega, (xmB_iff _ _ _ _).2 (by omega), rfl⟩
theorem loss_facts {c t mss most : Int} {all : Bool} (h : xmB c t mss most = true) : ∃ z m, lossR c t all mss most = (z, m, 0) ∧ z ≤ m ∧ (all = true → z = mss) ∧ xmB z m mss most = true := by
 have hv := (xmB_iff c t mss most).1 h
 have hl : mss ≤ lossN c mss most ∧ lossN c mss most ≤ most := by unfold lossN; omega
 refine ⟨_, _, loss_ok h, ?_, fun e => by rw [e]; rfl, ?_⟩
 ·cases all <;> simp <;> omega
 ·refine (xmB_iff _ _ _ _).2 ?_
  cases all <;> simp <;> omega
def QuOk (cwnd srtt base mss : Int) : Prop := 1 ≤ cwnd ∧ cwnd ≤ 1073741824 ∧ 1 ≤ srtt ∧ srtt ≤ 1099511627776 ∧ 1 ≤ base ∧ base ≤ srtt ∧ 1 ≤ mss ∧ mss ≤ 1460
instance (a b c d : Int) : Decidable (QuOk a b c d) := inferInstanceAs (Decidable (_ ∧ _ ∧ _ ∧ _ ∧ _ ∧ _ ∧ _ ∧ _))
def queueR (cwnd srtt base mss : Int) : Int := if QuOk cwnd srtt base mss then (srtt - base) * cwnd / srtt / mss else 0
theorem queue_no {cwnd srtt base mss : Int} (h : ¬ QuOk cwnd srtt base mss) : queueR cwnd srtt base mss = 0 := if_neg h
theorem queue_ok {cwnd srtt base mss : Int} (h : QuOk cwnd srtt base mss) : queueR cwnd srtt base mss = (srtt - base) * cwnd / srtt / mss := if_pos h
theorem qb_bd {cwnd srtt base mss : Int} (h : QuOk cwnd srtt base mss) : 0 ≤ (srtt - base) * cwnd / srtt ∧ (srtt - base) * cwnd / srtt ≤ cwnd := by
 obtain ⟨a, b, c, d, e, f, g, i⟩ := h
 refine ⟨Int.ediv_nonneg (Int.mul_nonneg (by omega) (by omega)) (by omega), Int.ediv_le_of_le_mul (by omega) ?_⟩
 rw [Int.mul_comm cwnd srtt]
 exact Int.mul_le_mul_of_nonneg_right (by omega) (by omega)
def verdR (q a : Int) (slow : Bool) : Int := if slow then (if a < q then 3 else 0) else (if q < a then 1 else if a < q then 2 else 0)
def RdOk (c t q a mss most : Int) : Prop := xmB c t mss most = true ∧ 0 ≤ q ∧ q ≤ 1073741824 ∧ 0 ≤ a ∧ a ≤ 1073741824
instance (c t q a m n : Int) : Decidable (RdOk c t q a m n) := inferInstanceAs (Decidable (_ ∧ _ ∧ _ ∧ _ ∧ _))
def vrndR (c t q a mss most : Int) : Int × Int × Int :=
 if RdOk c t q a mss most then
  (if c < t then (c, if a < q then c else t, 0) else (if q < a then min (c + mss) most else if a < q then max (c - mss) mss else c, t, 0))
 else (0, 0, 1)
theorem vrnd_no {c t q a mss most : Int} (h : ¬ RdOk c t q a mss most) : vrndR c t q a mss most = (0, 0, 1) := if_neg h
theorem vrnd_slow {c t q a mss most : Int} (h : RdOk c t q a mss most) (k : c < t) : vrndR c t q a mss most = (c, if a < q then c else t, 0) := by unfold vrndR; rw [if_pos h, if_pos k]
theorem vrnd_fast {c t q a mss most : Int} (h : RdOk c t q a mss most) (k : ¬ c < t) : vrndR c t q a mss most = (if q < a then min (c + mss) most else if a < q then max (c - mss) mss else c, t, 0) := by unfold vrndR; rw [if_pos h, if_neg k]
theorem vrnd_facts {c t q a mss most : Int} (h : RdOk c t q a mss most) : ∃ c' t', vrndR c t q a mss most = (c', t', 0) ∧ xmB c' t' mss most = true ∧ c' - c ≤ mss ∧ c - c' ≤ mss ∧ (0 < c' - c → q < a) ∧ (c' - c < 0 → a < q) ∧ (c < t → c' = c ∧ (t' = t ↔ q ≤ a)) ∧ (¬ c < t → t' = t ∧ (q = a → c' = c)) := by
 have hv := (xmB_iff c t mss most).1 h.1
 by_cases k : c < t
 ·refine ⟨_, _, vrnd_slow h k, ?_⟩
  refine ⟨(xmB_iff _ _ _ _).2 ?_, by omega, by omega, by omega, by omega, fun _ => ⟨rfl, ?_⟩, fun h => absurd k h⟩
  ·split <;> omega
  ·split <;> omega
 ·refine ⟨_, _, vrnd_fast h k, (xmB_iff _ _ _ _).2 ?_, ?_, ?_, ?_, ?_, fun h => absurd h k, fun _ => ⟨rfl, ?_⟩⟩ <;> (split <;> (try split) <;> omega)
def d18 (x : Int) : Bool := decide (0 ≤ x ∧ x ≤ 262144)
theorem d18_iff (x : Int) : d18 x = true ↔ 0 ≤ x ∧ x ≤ 262144 := decide_eq_true_iff
def AllD (l : List Int) (k : Nat) : Prop := ∀ i, i < k → d18 (it l i) = true
theorem alld_snoc {l : List Int} {k : Nat} (h : AllD l k) (hk : d18 (it l k) = true) : AllD l (k + 1) := fun i hi => by
 by_cases e : i = k
 ·subst e; exact hk
 ·exact h i (by omega)
def allD (l : List Int) : Bool := l.all d18
theorem allD_iff (l : List Int) : allD l = true ↔ AllD l l.length := by
 unfold allD
 rw [List.all_eq_true]
 constructor
 ·intro h i hi; exact h _ (it_mem hi)
 ·intro h x hx
  obtain ⟨i, hi, rfl⟩ := List.getElem_of_mem hx
  have := h i hi
  rwa [it_eq hi] at this
def mayG (l : List Int) : Bool := allD l && decide (l.length ≤ 16)
theorem mayG_iff (l : List Int) : mayG l = true ↔ AllD l l.length ∧ l.length ≤ 16 := by unfold mayG; rw [Bool.and_eq_true, allD_iff, decide_eq_true_eq]
def AddOk (l : List Int) (d : Int) : Prop := mayG l = true ∧ 0 ≤ d ∧ d ≤ 262144
instance (l : List Int) (d : Int) : Decidable (AddOk l d) := inferInstanceAs (Decidable (_ ∧ _ ∧ _))
def pushG (l : List Int) (d : Int) : List Int := if 16 < l.length + 1 then (l ++ [d]).drop 1 else l ++ [d]
def addG (l : List Int) (d : Int) : List Int × Int := if AddOk l d then (pushG l d, 0) else ([], 1)
theorem add_no {l : List Int} {d : Int} (h : ¬ AddOk l d) : addG l d = ([], 1) := if_neg h
theorem add_ok {l : List Int} {d : Int} (h : AddOk l d) : addG l d = (pushG l d, 0) := if_pos h
end Go.Proofs.YtbijhkhkigdddaaGreat
