/- StH StMath StOnce Rt Tm TmMath Rk RkMath. -/
import Derived.Test.YtbijhkhkigdddaaGreatP01
set_option linter.all false
set_option maxRecDepth 100000
set_option maxHeartbeats 32000000
namespace Go.Proofs.YtbijhkhkigdddaaGreat
open Go.RowKit
def hasP (sk : List Sp) (x : Prt) : Bool := hasB sk x.seq (endP x)
def toldC (got : Int) (sk : List Sp) (x : Prt) : Bool := (hasP sk x || decide (endP x ≤ got)) && !x.came
def toldL (got : Int) (sk : List Sp) (l : List Prt) : List Prt := l.filter (toldC got sk)
def cameP (x : Prt) : Prt := { x with came := true, lost := false }
def comeP (sk : List Sp) (x : Prt) : Prt := if hasP sk x = true then cameP x else x
def leftL (got : Int) (sk : List Sp) (l : List Prt) : List Prt := (l.filter fun x => !decide (endP x ≤ got)).map (comeP sk)
def outP (s : Int × Int) (p : Sp) : Bool := decide (p.1 < s.1) || decide (s.2 < p.2)
def outB (s : Int × Int) (sk : List Sp) : Bool := sk.any (outP s)
def heardR (l : List Prt) (got : Int) (sk : List Sp) : List Prt × List Prt × Int :=
 if smayB l = true ∧ mayB sk = true then
  (if l.length = 0 ∨ got < (spanR l).1 ∨ (spanR l).2 < got ∨ outB (spanR l) sk = true then ([], [], 3)
   else (leftL got sk l, toldL got sk l, 0))
 else ([], [], 1)
theorem heard_no {l : List Prt} {got : Int} {sk : List Sp} (h : ¬ (smayB l = true ∧ mayB sk = true)) : heardR l got sk = ([], [], 1) := if_neg h
theorem heard_none {l : List Prt} {got : Int} {sk : List Sp} (h : smayB l = true ∧ mayB sk = true) (k : l.length = 0 ∨ got < (spanR l).1 ∨ (spanR l).2 < got ∨ outB (spanR l) sk = true) : heardR l got sk = ([], [], 3) := by unfold heardR; rw [if_pos h, if_pos k]
theorem heard_ok {l : List Prt} {got : Int} {sk : List Sp} (h : smayB l = true ∧ mayB sk = true) (k : ¬ (l.length = 0 ∨ got < (spanR l).1 ∨ (spanR l).2 < got ∨ outB (spanR l) sk = true)) : heardR l got sk = (leftL got sk l, toldL got sk l, 0) := by unfold heardR; rw [if_pos h, if_neg k]
theorem toldL_snoc (got : Int) (sk : List Sp) (l : List Prt) (x : Prt) : toldL got sk (l ++ [x]) = toldL got sk l ++ (if toldC got sk x = true then [x] else []) := by
 unfold toldL; rw [List.filter_append]; cases h : toldC got sk x <;> simp [List.filter_cons, h]
theorem leftL_snoc (got : Int) (sk : List Sp) (l : List Prt) (x : Prt) : leftL got sk (l ++ [x]) = leftL got sk l ++ (if endP x ≤ got then [] else [comeP sk x]) := by
 unfold leftL
 rw [List.filter_append, List.map_append]
 by_cases h : endP x ≤ got
 ·rw [if_pos h]; simp [List.filter_cons, h]
 ·rw [if_neg h]; simp [List.filter_cons, h]
theorem told_len (got : Int) (sk : List Sp) (l : List Prt) : (toldL got sk l).length ≤ l.length := List.length_filter_le _ _
theorem left_lenP (got : Int) (sk : List Sp) (l : List Prt) : (leftL got sk l).length ≤ l.length := by unfold leftL; rw [List.length_map]; exact List.length_filter_le _ _
theorem cameP_w {x : Prt} (h : PrtW x) : PrtW (cameP x) := ⟨h.seq, h.len, h.dsn, h.at_, h.tries, h.total, h.last⟩
end Go.Proofs.YtbijhkhkigdddaaGreat
namespace Go.Proofs.YtbijhkhkigdddaaGreat
theorem chain_lt {l : List Prt} {n : Nat} (h : ChainTo l n) : ∀ j, j < n → ∀ i, i < j → endP (ge l i) ≤ (ge l j).seq := by
 intro j
 induction j with
 | zero => intro _ i hi; omega
 | succ j ih =>
  intro hj i hi
  have h1 := (h (j + 1) hj).2 (by omega)
  rw [show j + 1 - 1 = j by omega] at h1
  by_cases e : i = j
  ·subst e; omega
  ·have h2 := ih (by omega) i (by omega)
   have h3 := (h j (by omega)).1.l1
   unfold endP at h1 h2 ⊢
   omega
theorem seq_lt {l : List Prt} {n : Nat} (h : ChainTo l n) {i j : Nat} (hij : i < j) (hj : j < n) : (ge l i).seq < (ge l j).seq := by
 have h1 := chain_lt h j hj i hij
 have h2 := (h i (by omega)).1.l1
 unfold endP at h1
 omega
theorem pok_end {x : Prt} (h : POk x) : 0 ≤ x.seq ∧ x.seq ≤ 1152921504606846976 ∧ x.seq + 1 ≤ endP x ∧ endP x ≤ x.seq + 1460 ∧ endP x = x.seq + x.len := by
 have := (t60_iff _).1 h.seq; have := h.l1; have := h.l2; unfold endP; omega
theorem span_eq {l : List Prt} (hm : smayB l = true) (h0 : 0 < l.length) : spanR l = ((ge l 0).seq, endP (ge l (l.length - 1))) := by unfold spanR; rw [if_pos ⟨h0, hm⟩]
theorem span_zero {l : List Prt} (h : ¬ (0 < l.length ∧ smayB l = true)) : spanR l = (0, 0) := by unfold spanR; rw [if_neg h]
theorem span_in {l : List Prt} (hm : smayB l = true) {i : Nat} (hi : i < l.length) : (spanR l).1 ≤ (ge l i).seq ∧ endP (ge l i) ≤ (spanR l).2 := by
 have hc := ((smay_iff l).1 hm).2
 rw [span_eq hm (by omega)]
 refine ⟨?_, ?_⟩
 ·rcases Nat.eq_zero_or_pos i with h | h
  ·subst h; exact Int.le_refl _
  ·exact Int.le_of_lt (seq_lt hc h hi)
 ·by_cases h : i = l.length - 1
  ·rw [← h]; exact Int.le_refl _
  ·have h1 := chain_lt hc (l.length - 1) (by omega) i (by omega)
   have h2 := pok_end (hc (l.length - 1) (by omega)).1
   dsimp only
   omega
theorem flySum_foldl (l : List Prt) : ∀ n : Int, l.foldl (fun n x => n + flyL x) n = n + flySum l := by
 unfold flySum
 induction l with
 | nil => intro n; simp
 | cons p t ih =>
  intro n
  rw [List.foldl_cons, List.foldl_cons, ih, ih (0 + flyL p)]
  omega
theorem flySum_app (a b : List Prt) : flySum (a ++ b) = flySum a + flySum b := by
 show (a ++ b).foldl (fun n x => n + flyL x) 0 = _
 rw [List.foldl_append, flySum_foldl b]
 rfl
theorem flySum_cons (p : Prt) (t : List Prt) : flySum (p :: t) = flyL p + flySum t := by
 have := flySum_app [p] t
 rw [List.singleton_append] at this
 rw [this]
 show (0 + flyL p) + flySum t = _
 omega
theorem flySum_set {l : List Prt} {k : Nat} (hk : k < l.length) (y : Prt) : flySum (l.set k y) = flySum l - flyL (ge l k) + flyL y := by
 have h1 : l = l.take k ++ ge l k :: l.drop (k + 1) := by rw [← drop_ge hk, List.take_append_drop]
 have h2 : l.set k y = l.take k ++ y :: l.drop (k + 1) := by rw [List.set_eq_take_append_cons_drop, if_pos hk]
 have e1 : flySum l = flySum (l.take k) + (flyL (ge l k) + flySum (l.drop (k + 1))) := by
  conv => lhs; rw [h1]
  rw [flySum_app, flySum_cons]
 rw [h2, e1, flySum_app, flySum_cons]
 omega
theorem fly_bd0 {x : Prt} (h : POk x) : 0 ≤ flyL x ∧ flyL x ≤ x.len := by
 have := h.l1; unfold flyL; split <;> omega
theorem fly_span {l : List Prt} (hm : smayB l = true) : 0 ≤ flySum l ∧ flySum l ≤ (spanR l).2 - (spanR l).1 := by
 have hc := ((smay_iff l).1 hm).2
 have key : ∀ k, k ≤ l.length → 0 ≤ flySum (l.take k) ∧ (0 < k → flySum (l.take k) ≤ endP (ge l (k - 1)) - (ge l 0).seq) := by
  intro k
  induction k with
  | zero => intro _; exact ⟨by simp [flySum], fun h => absurd h (by omega)⟩
  | succ k ih =>
   intro hk
   have h1 := ih (by omega)
   have hp := (hc k (by omega)).1
   have h2 := fly_bd0 hp
   have h3 := pok_end hp
   rw [take_ge (by omega), flySum_snoc]
   refine ⟨by omega, fun _ => ?_⟩
   rw [show k + 1 - 1 = k by omega]
   rcases Nat.eq_zero_or_pos k with h | h
   ·subst h
    have : flySum (l.take 0) = 0 := rfl
    omega
   ·have h4 := h1.2 h
    have h5 := (hc k (by omega)).2 h
    omega
 have h := key l.length Zr
 rw [List.take_length] at h
 by_cases h0 : 0 < l.length
 ·rw [span_eq hm h0]
  exact ⟨h.1, h.2 h0⟩
 ·rw [span_zero (fun k => h0 k.1)]
  have : l = [] := List.eq_nil_of_length_eq_zero (by omega)
  subst this
  exact ⟨Int.le_refl _, Int.le_refl _⟩
theorem mem_ge {l : List Prt} {x : Prt} (hx : x ∈ l) : ∃ i, i < l.length ∧ ge l i = x := by
 obtain ⟨i, hi, rfl⟩ := List.getElem_of_mem hx
 exact ⟨i, hi, ge_eq hi⟩
theorem mem_in {l : List Prt} (hm : smayB l = true) {x : Prt} (hx : x ∈ l) : POk x ∧ (spanR l).1 ≤ x.seq ∧ endP x ≤ (spanR l).2 := by
 obtain ⟨i, hi, rfl⟩ := mem_ge hx
 exact ⟨(((smay_iff l).1 hm).2 i hi).1, span_in hm hi⟩
theorem ge_map {α β : Type} [El α] [El β] (f : α → β) {l : List α} {i : Nat} (h : i < l.length) : ge (l.map f) i = f (ge l i) := by
 rw [ge_eq (by rw [List.length_map]; exact h), List.getElem_map, ge_eq h]
theorem comeP_seq (sk : List Sp) (x : Prt) : (comeP sk x).seq = x.seq ∧ (comeP sk x).len = x.len := by unfold comeP; split <;> exact ⟨rfl, rfl⟩
theorem comeP_end (sk : List Sp) (x : Prt) : endP (comeP sk x) = endP x := by unfold endP; rw [(comeP_seq sk x).1, (comeP_seq sk x).2]
theorem comeP_ok {sk : List Sp} {x : Prt} (h : POk x) : POk (comeP sk x) := by
 unfold comeP
 split
 ·exact ⟨h.seq, h.dsn, h.at_, h.total, h.last, rfl, h.l1, h.l2, h.t1, h.t2⟩
 ·exact h
theorem stay_drop (got : Int) : ∀ l : List Prt, (l.Pairwise fun x y => endP x < endP y) → ∃ j, j ≤ l.length ∧ l.filter (fun x => !decide (endP x ≤ got)) = l.drop j := by
 intro l
 induction l with
 | nil => intro _; exact ⟨0, Nat.le_refl _, rfl⟩
 | cons p t ih =>
  intro h
  rw [List.pairwise_cons] at h
  by_cases hp : endP p ≤ got
  ·obtain ⟨j, hj, e⟩ := ih h.2
   refine ⟨j + 1, by simpa using hj, ?_⟩
   rw [List.filter_cons, Zt hp]
   simpa using e
  ·refine ⟨0, Nat.zero_le _, ?_⟩
   rw [List.drop_zero, List.filter_eq_self]
   intro x hx
   have : ¬ endP x ≤ got := by
    rcases List.mem_cons.1 hx with e | e
    ·rw [e]; exact hp
    ·have := h.1 x e; omega
   simp [this]
theorem chain_pw {l : List Prt} (h : ChainTo l l.length) : l.Pairwise fun x y => endP x < endP y := by
 rw [List.pairwise_iff_getElem]
 intro i j hi hj hij
 have h1 := chain_lt h j hj i hij
 have h2 := pok_end (h j hj).1
 rw [← ge_eq hi, ← ge_eq hj]
 omega
theorem left_may {l : List Prt} {got : Int} {sk : List Sp} (hm : smayB l = true) : smayB (leftL got sk l) = true := by
 obtain ⟨h1, h2⟩ := (smay_iff l).1 hm
 rw [smay_iff]
 refine ⟨Zn (left_lenP got sk l) h1, ?_⟩
 obtain ⟨j, hj, e⟩ := stay_drop got l (chain_pw h2)
 have hL : leftL got sk l = (l.drop j).map (comeP sk) := by unfold leftL; rw [e]
 rw [hL]
 intro i hi
 rw [List.length_map, List.length_drop] at hi
 have hlen : (l.drop j).length = l.length - j := List.length_drop
 have h3 := h2 (j + i) (by omega)
 refine ⟨by rw [ge_map _ (by omega), ge_drop]; exact comeP_ok h3.1, fun h0 => ?_⟩
 have h4 := h3.2 (by omega)
 rw [ge_map _ (by omega), ge_map _ (by omega), ge_drop, ge_drop, comeP_end, (comeP_seq _ _).1]
 rw [show j + (i - 1) = j + i - 1 by omega]
 exact h4
def tellSum (t : List Prt) : Int := t.foldl (fun n x => if (!x.lost) = true then n + x.len else n) 0
theorem tellSum_snoc (t : List Prt) (x : Prt) : tellSum (t ++ [x]) = if (!x.lost) = true then tellSum t + x.len else tellSum t := by unfold tellSum; rw [List.foldl_append]; rfl
theorem left_fly (got : Int) (sk : List Sp) (l : List Prt) : ∀ k, k ≤ l.length → flySum (leftL got sk (l.take k)) = flySum (l.take k) - tellSum (toldL got sk (l.take k)) := by
 intro k
 induction k with
 | zero => intro _; rfl
 | succ k ih =>
  intro hk
  have h := ih (by omega)
  rw [take_ge (by omega), leftL_snoc, toldL_snoc, flySum_snoc]
  obtain ⟨p, hp⟩ : ∃ p, ge l k = p := ⟨_, rfl⟩
  rw [hp]
  by_cases he : endP p ≤ got
  ·rw [if_pos he, List.append_nil, h]
   cases hc : p.came with
   | true =>
    have ht : toldC got sk p = false := by unfold toldC; rw [hc]; simp
    rw [ht, if_neg (by simp), List.append_nil]
    unfold flyL
    rw [hc]
    simp
   | false =>
    have ht : toldC got sk p = true := by unfold toldC; rw [hc, Zt he]; simp
    rw [ht, if_pos rfl, tellSum_snoc]
    unfold flyL
    rw [hc]
    cases hl : p.lost <;> simp <;> omega
  ·rw [if_neg he, flySum_snoc, h]
   by_cases hh : hasP sk p = true
   ·have hcm : flyL (comeP sk p) = 0 := by unfold comeP; rw [if_pos hh]; rfl
    rw [hcm]
    cases hc : p.came with
    | true =>
     have ht : toldC got sk p = false := by unfold toldC; rw [hc]; simp
     rw [ht, if_neg (by simp), List.append_nil]
     unfold flyL
     rw [hc]
     simp
    | false =>
     have ht : toldC got sk p = true := by unfold toldC; rw [hc, hh]; simp
     rw [ht, if_pos rfl, tellSum_snoc]
     unfold flyL
     rw [hc]
     cases hl : p.lost <;> simp <;> omega
   ·have hh' : hasP sk p = false := by simpa using hh
    have hcm : comeP sk p = p := by unfold comeP; rw [if_neg hh]
    have ht : toldC got sk p = false := by unfold toldC; rw [hh', Zf he]; rfl
    rw [hcm, ht, if_neg (by simp), List.append_nil]
    omega
theorem tellSum_bd {t : List Prt} (h : ∀ i, i < t.length → POk (ge t i)) : ∀ k, k ≤ t.length → 0 ≤ tellSum (t.take k) ∧ tellSum (t.take k) ≤ 1460 * (k : Int) := by
 intro k
 induction k with
 | zero => intro _; exact ⟨by simp [tellSum], by simp [tellSum]⟩
 | succ k ih =>
  intro hk
  have h1 := ih (by omega)
  have h2 := (h k (by omega)).l1
  have h3 := (h k (by omega)).l2
  rw [take_ge (by omega), tellSum_snoc]
  push_cast
  split <;> omega
structure Rt where
 has : Bool
 srtt : Int
 vr : Int
 rto : Int
 shift : Int
def zrt : Rt := ⟨false, 0, 0, 0, 0⟩
def rtB (r : Rt) : Bool := decide (0 ≤ r.srtt ∧ r.srtt ≤ 1152921504606846976 ∧ 0 ≤ r.vr ∧ r.vr ≤ 1152921504606846976 ∧ 0 ≤ r.rto ∧ r.rto ≤ 1152921504606846976 ∧ 0 ≤ r.shift ∧ r.shift ≤ 16 ∧ (r.has = true ∨ (r.srtt = 0 ∧ r.vr = 0)))
structure RtOk (r : Rt) : Prop where
 s0 : 0 ≤ r.srtt
 s1 : r.srtt ≤ 1152921504606846976
 v0 : 0 ≤ r.vr
 v1 : r.vr ≤ 1152921504606846976
 o0 : 0 ≤ r.rto
 o1 : r.rto ≤ 1152921504606846976
 h0 : 0 ≤ r.shift
 h1 : r.shift ≤ 16
 z : r.has = true ∨ (r.srtt = 0 ∧ r.vr = 0)
theorem rtB_iff (r : Rt) : rtB r = true ↔ RtOk r := by
 unfold rtB
 rw [decide_eq_true_eq]
 exact ⟨fun ⟨a, b, c, d, e, f, g, h, i⟩ => ⟨a, b, c, d, e, f, g, h, i⟩, fun h => ⟨h.s0, h.s1, h.v0, h.v1, h.o0, h.o1, h.h0, h.h1, h.z⟩⟩
def ArgOk (took least most : Int) : Prop := 0 ≤ took ∧ took ≤ 1099511627776 ∧ 1 ≤ least ∧ least ≤ most ∧ most ≤ 1099511627776
instance (a b c : Int) : Decidable (ArgOk a b c) := inferInstanceAs (Decidable (_ ∧ _ ∧ _ ∧ _ ∧ _))
def offI (a b : Int) : Int := if a - b < 0 then -(a - b) else a - b
def clI (n low high : Int) : Int := if n < low ∨ high < low then low else if high < n then high else n
def smS (r : Rt) (took : Int) : Int := if r.has = true then (7 * r.srtt + took) / 8 else took
def smV (r : Rt) (took : Int) : Int := if r.has = true then (3 * r.vr + offI r.srtt took) / 4 else took / 2
def smM (r : Rt) (took : Int) : Int := if 4 * smV r took < 1000 then 1000 else 4 * smV r took
def smp (r : Rt) (took least most : Int) : Rt × Int := if rtB r = true ∧ ArgOk took least most then (⟨true, smS r took, smV r took, clI (smS r took + smM r took) least most, 0⟩, 0) else (zrt, 1)
def upS (n : Int) : Int := if n < 16 then n + 1 else n
def dbl (r : Rt) : Rt × Int := if rtB r = true then (⟨r.has, r.srtt, r.vr, r.rto, upS r.shift⟩, 0) else (zrt, 1)
def base (r : Rt) : Int := if r.has = true then r.rto else 1000000
def mostOk (most : Int) : Prop := 1 ≤ most ∧ most ≤ 1099511627776
instance (a : Int) : Decidable (mostOk a) := inferInstanceAs (Decidable (_ ∧ _))
def minI (a b : Int) : Int := if b < a then b else a
def wt (r : Rt) (most : Int) : Int := if rtB r = true ∧ mostOk most then minI (base r * 2 ^ r.shift.toNat) most else 0
theorem smV_bd {r : Rt} (h : RtOk r) {took : Int} (h0 : 0 ≤ took) (h1 : took ≤ 1099511627776) : 0 ≤ smV r took ∧ smV r took ≤ 1152921504606846976 := by
 have := h.v0; have := h.v1; have := h.s0; have := h.s1
 unfold smV offI
 split
 ·split <;> omega
 ·omega
theorem smS_bd {r : Rt} (h : RtOk r) {took : Int} (h0 : 0 ≤ took) (h1 : took ≤ 1099511627776) : 0 ≤ smS r took ∧ smS r took ≤ 1152921504606846976 := by
 have := h.s0; have := h.s1
 unfold smS
 split <;> omega
theorem cl_bd {n low high : Int} (h : low ≤ high) : low ≤ clI n low high ∧ clI n low high ≤ high := by
 unfold clI
 split
 ·omega
 ·split <;> omega
theorem smp_ok {r : Rt} {took least most : Int} (h : rtB r = true) (ha : ArgOk took least most) : smp r took least most = (⟨true, smS r took, smV r took, clI (smS r took + smM r took) least most, 0⟩, 0) := if_pos ⟨h, ha⟩
theorem smp_no {r : Rt} {took least most : Int} (h : ¬ (rtB r = true ∧ ArgOk took least most)) : smp r took least most = (zrt, 1) := if_neg h
theorem smp_valid {r : Rt} (h : RtOk r) {took least most : Int} (ha : ArgOk took least most) : RtOk ⟨true, smS r took, smV r took, clI (smS r took + smM r took) least most, 0⟩ := by
 obtain ⟨a0, a1, a2, a3, a4⟩ := ha
 have hv := smV_bd h a0 a1
 have hs := smS_bd h a0 a1
 have hc := cl_bd (n := smS r took + smM r took) a3
 exact ⟨hs.1, hs.2, hv.1, hv.2, by dsimp only; omega, by dsimp only; omega, by dsimp only; omega, by dsimp only; omega, Or.inl rfl⟩
theorem pow_pos2 (n : Nat) : (1 : Int) ≤ 2 ^ n := by
 have : (0 : Int) < 2 ^ n := Int.pow_pos (by decide)
 omega
theorem base_nn {r : Rt} (h : RtOk r) : 0 ≤ base r := by have := h.o0; unfold base; split <;> omega
theorem wt_bd {r : Rt} {most : Int} (h : RtOk r) (hm : mostOk most) : 0 ≤ wt r most ∧ wt r most ≤ most := by
 have hb := base_nn h
 have hp := pow_pos2 r.shift.toNat
 have hn : 0 ≤ base r * 2 ^ r.shift.toNat := Int.mul_nonneg hb (by omega)
 unfold wt minI
 rw [if_pos ⟨(rtB_iff r).2 h, hm⟩]
 unfold mostOk at hm
 split <;> omega
theorem dbl_valid {r : Rt} (h : RtOk r) : RtOk ⟨r.has, r.srtt, r.vr, r.rto, upS r.shift⟩ := by
 have := h.h0; have := h.h1
 exact ⟨h.s0, h.s1, h.v0, h.v1, h.o0, h.o1, by dsimp only; unfold upS; split <;> omega, by dsimp only; unfold upS; split <;> omega, h.z⟩
end Go.Proofs.YtbijhkhkigdddaaGreat
namespace Go.Proofs.YtbijhkhkigdddaaGreat
open Go.RowKit
structure Tmr where
 kd : Int
 at_ : Int
deriving DecidableEq
def ztm : Tmr := ⟨0, 0⟩
structure TmOk (t : Tmr) : Prop where
 k0 : 0 ≤ t.kd
 k1 : t.kd ≤ 2
 a0 : 0 ≤ t.at_
 a1 : t.at_ ≤ 2305843009213693952
 z : 0 < t.kd ∨ t.at_ = 0
def tmB (t : Tmr) : Bool := decide (0 ≤ t.kd ∧ t.kd ≤ 2 ∧ 0 ≤ t.at_ ∧ t.at_ ≤ 2305843009213693952 ∧ (0 < t.kd ∨ t.at_ = 0))
theorem tmB_iff (t : Tmr) : tmB t = true ↔ TmOk t := by
 unfold tmB
 rw [decide_eq_true_eq]
 exact ⟨fun ⟨a, b, c, d, e⟩ => ⟨a, b, c, d, e⟩, fun h => ⟨h.k0, h.k1, h.a0, h.a1, h.z⟩⟩
def tdueR (t : Tmr) (now : Int) : Int := if tmB t = true ∧ t.at_ ≤ now then t.kd else 0
def toutB (x : Prt) : Bool := !x.came && !x.lost
def lastStep (a : Int) (x : Prt) : Int := if toutB x = true ∧ a < x.at_ then x.at_ else a
def lastR (l : List Prt) : Int := l.foldl lastStep (-1)
theorem lastR_take {l : List Prt} {k : Nat} (h : k < l.length) : lastR (l.take (k + 1)) = lastStep (lastR (l.take k)) (ge l k) := by
 unfold lastR; rw [take_ge h, List.foldl_append]; rfl
def SetOk (r : Rt) (l : List Prt) (now most : Int) : Prop := rtB r = true ∧ smayB l = true ∧ 0 ≤ now ∧ now ≤ 1152921504606846976 ∧ 1 ≤ most ∧ most ≤ 1099511627776
instance (r : Rt) (l : List Prt) (a b : Int) : Decidable (SetOk r l a b) := inferInstanceAs (Decidable (_ ∧ _ ∧ _ ∧ _ ∧ _ ∧ _))
def endAt (l : List Prt) (now : Int) : Int := if now < lastR l then now else lastR l
def soonT (r : Rt) : Int := if 2 * r.srtt < 1000 then 1000 else 2 * r.srtt
def probeT (r : Rt) (most : Int) : Int := if soonT r < wt r most then soonT r else wt r most
def setT (r : Rt) (l : List Prt) (probed : Bool) (now most : Int) : Tmr :=
 if lastR l < 0 then ztm
 else if (probed || !r.has) = true then ⟨2, endAt l now + wt r most⟩
 else ⟨1, endAt l now + probeT r most⟩
def setR (r : Rt) (l : List Prt) (probed : Bool) (now most : Int) : Tmr × Int := if SetOk r l now most then (setT r l probed now most, 0) else (ztm, 1)
theorem set_no {r : Rt} {l : List Prt} {p : Bool} {now most : Int} (h : ¬ SetOk r l now most) : setR r l p now most = (ztm, 1) := if_neg h
theorem set_ok {r : Rt} {l : List Prt} {p : Bool} {now most : Int} (h : SetOk r l now most) : setR r l p now most = (setT r l p now most, 0) := if_pos h
theorem lastR_bd {l : List Prt} (h : ∀ x ∈ l, 0 ≤ x.at_ ∧ x.at_ ≤ 1152921504606846976) : -1 ≤ lastR l ∧ lastR l ≤ 1152921504606846976 := by
 suffices hh : ∀ (l : List Prt) (a : Int), (∀ x ∈ l, 0 ≤ x.at_ ∧ x.at_ ≤ 1152921504606846976) → -1 ≤ a → a ≤ 1152921504606846976 → -1 ≤ l.foldl lastStep a ∧ l.foldl lastStep a ≤ 1152921504606846976 from hh l (-1) h (by omega) (by omega)
 intro l
 induction l with
 | nil => intro a _ h1 h2; exact ⟨h1, h2⟩
 | cons y t ih =>
  intro a h h1 h2
  rw [List.foldl_cons]
  have := h y (by simp)
  refine ih _ (fun x hx => h x (by simp [hx])) ?_ ?_ <;> unfold lastStep <;> split <;> omega
def anyO (l : List Prt) : Bool := l.any toutB
theorem lastStep_ge (a : Int) (x : Prt) : a ≤ lastStep a x := by unfold lastStep; split <;> omega
theorem lastR_ge : ∀ (l : List Prt) (a : Int), a ≤ l.foldl lastStep a
 | [], a => Int.le_refl _
 | x :: l, a => Int.le_trans (lastStep_ge a x) (lastR_ge l _)
theorem lastR_no : ∀ (l : List Prt) (a : Int), anyO l = false → l.foldl lastStep a = a
 | [], a, _ => rfl
 | x :: l, a, h => by
  unfold anyO at h
  rw [List.any_cons, Bool.or_eq_false_iff] at h
  rw [List.foldl_cons]
  have : lastStep a x = a := by unfold lastStep; rw [if_neg (fun k => by rw [h.1] at k; cases k.1)]
  rw [this]
  exact lastR_no l a h.2
theorem lastR_some : ∀ (l : List Prt) (a : Int), (∀ x ∈ l, 0 ≤ x.at_) → -1 ≤ a → anyO l = true → 0 ≤ l.foldl lastStep a
 | [], a, _, _, h => by cases h
 | x :: l, a, hp, ha, h => by
  rw [List.foldl_cons]
  unfold anyO at h
  rw [List.any_cons, Bool.or_eq_true] at h
  have h0 := hp x (by simp)
  have hs := lastStep_ge a x
  by_cases c : toutB x = true
  ·have : 0 ≤ lastStep a x := by
    unfold lastStep
    by_cases d : a < x.at_
    ·rw [if_pos ⟨c, d⟩]; exact h0
    ·rw [if_neg (fun k => d k.2)]; omega
   exact Int.le_trans this (lastR_ge l _)
  ·exact lastR_some l _ (fun y hy => hp y (by simp [hy])) (by omega) (h.resolve_left c)
theorem may_parts {l : List Prt} (h : smayB l = true) : ∀ x ∈ l, POk x := by
 intro x hx
 obtain ⟨i, hi, rfl⟩ := List.getElem_of_mem hx
 have := (((smay_iff l).1 h).2 i hi).1
 rwa [ge_eq hi] at this
theorem last_sign {l : List Prt} (h : smayB l = true) : decide (lastR l < 0) = !(anyO l) := by
 have hp := may_parts h
 cases hc : anyO l with
 | false => rw [show lastR l = -1 from lastR_no l (-1) hc]; decide
 | true =>
  have := lastR_some l (-1) (fun x hx => ((t60_iff _).1 (hp x hx).at_).1) (by omega) hc
  show decide (l.foldl lastStep (-1) < 0) = _
  exact Zf (by omega)
theorem set_none {r : Rt} {l : List Prt} {pb : Bool} {now most : Int} (h : smayB l = true) (hn : anyO l = false) : setT r l pb now most = ztm := by
 have := last_sign h
 rw [hn] at this
 unfold setT
 rw [if_pos (by simpa using this)]
theorem set_some {r : Rt} {l : List Prt} {pb : Bool} {now most : Int} (h : smayB l = true) (hn : anyO l = true) :
  setT r l pb now most = if (pb || !r.has) = true then ⟨2, endAt l now + wt r most⟩ else ⟨1, endAt l now + probeT r most⟩ := by
 have := last_sign h
 rw [hn] at this
 unfold setT
 rw [if_neg (by simpa using this)]
theorem end_bd {l : List Prt} {now : Int} (h : smayB l = true) (hn : anyO l = true) (h0 : 0 ≤ now) : 0 ≤ endAt l now ∧ endAt l now ≤ now := by
 have hs := last_sign h
 rw [hn] at hs
 have : ¬ lastR l < 0 := by simpa using hs
 unfold endAt
 split <;> omega
theorem probe_bd {r : Rt} {most : Int} (h : RtOk r) (hm : mostOk most) : 0 ≤ probeT r most ∧ probeT r most ≤ wt r most := by
 have := wt_bd h hm
 have := h.s0
 unfold probeT soonT
 split <;> split <;> omega
structure TwoT (a b : Tmr) (has pb : Bool) (now most : Int) : Prop where
 may : tmB a = true
 le : a.at_ ≤ b.at_
 far : b.at_ ≤ now + most
 kd : a.kd = if (pb || !has) = true then 2 else 1
 kb : b.kd = 2
theorem set_two {r : Rt} {l : List Prt} {pb : Bool} {now most : Int} (h : SetOk r l now most) (hn : anyO l = true) : TwoT (setT r l pb now most) (setT r l true now most) r.has pb now most := by
 obtain ⟨h1, h2, h3, h4, h5, h6⟩ := h
 have hr := (rtB_iff r).1 h1
 have hw := wt_bd hr ⟨h5, h6⟩
 have hp := probe_bd hr ⟨h5, h6⟩
 have he := end_bd h2 hn h3
 have e2 : setT r l true now most = ⟨2, endAt l now + wt r most⟩ := by rw [set_some h2 hn]; rfl
 rw [e2, set_some h2 hn]
 by_cases c : (pb || !r.has) = true
 ·rw [if_pos c]
  exact ⟨(tmB_iff _).2 ⟨by dsimp only; omega, by dsimp only; omega, by dsimp only; omega, by dsimp only; omega, .inl (by dsimp only; omega)⟩, Int.le_refl _, by dsimp only; omega, (if_pos c).symm, rfl⟩
 ·rw [if_neg c]
  exact ⟨(tmB_iff _).2 ⟨by dsimp only; omega, by dsimp only; omega, by dsimp only; omega, by dsimp only; omega, .inl (by dsimp only; omega)⟩, by dsimp only; omega, by dsimp only; omega, (if_neg c).symm, rfl⟩
end Go.Proofs.YtbijhkhkigdddaaGreat
namespace Go.Proofs.YtbijhkhkigdddaaGreat
structure Rkv where
 at_ : Int
 end_ : Int
 took : Int
 far : Int
 mixed : Bool
 quarters : Int
deriving DecidableEq
def zrk : Rkv := ⟨0, 0, 0, 0, false, 0⟩
def brief (x : Int) : Bool := decide (0 ≤ x ∧ x ≤ 1099511627776)
theorem brief_iff (x : Int) : brief x = true ↔ 0 ≤ x ∧ x ≤ 1099511627776 := by unfold brief; exact decide_eq_true_iff
structure RkOk (v : Rkv) : Prop where
 a0 : 0 ≤ v.at_
 a1 : v.at_ ≤ 1152921504606846976
 k0 : 0 ≤ v.took
 k1 : v.took ≤ 1152921504606846976
 e0 : 0 ≤ v.end_
 f0 : 0 ≤ v.far
 e1 : v.end_ ≤ 2305843009213693952
 f1 : v.far ≤ 2305843009213693952
 q0 : 0 ≤ v.quarters
 q1 : v.quarters ≤ 20
def rkmay (v : Rkv) : Bool := t60 v.at_ && (t60 v.took && (decide (0 ≤ v.end_) && (decide (0 ≤ v.far) && (decide (v.end_ ≤ 2305843009213693952) && (decide (v.far ≤ 2305843009213693952) && (decide (0 ≤ v.quarters) && decide (v.quarters ≤ 20)))))))
theorem rkmay_iff (v : Rkv) : rkmay v = true ↔ RkOk v := by
 unfold rkmay
 simp only [Bool.and_eq_true, decide_eq_true_eq, t60_iff]
 exact ⟨fun ⟨⟨a, b⟩, ⟨c, d⟩, e, f, g, h, i, j⟩ => ⟨a, b, c, d, e, f, g, h, i, j⟩, fun h => ⟨⟨h.a0, h.a1⟩, ⟨h.k0, h.k1⟩, h.e0, h.f0, h.e1, h.f1, h.q0, h.q1⟩⟩
def aheadB (a e b u : Int) : Bool := decide (a < b ∨ a = b ∧ e < u)
theorem ahead_iff (a e b u : Int) : aheadB a e b u = true ↔ a < b ∨ a = b ∧ e < u := by unfold aheadB; exact decide_eq_true_iff
def RkCameOk (v : Rkv) (x : Prt) (now least : Int) : Prop := rkmay v = true ∧ oneB x = true ∧ x.at_ ≤ now ∧ t60 now = true ∧ brief least = true
instance (v : Rkv) (x : Prt) (a b : Int) : Decidable (RkCameOk v x a b) := inferInstanceAs (Decidable (_ ∧ _ ∧ _ ∧ _ ∧ _))
def mixR (v : Rkv) (x : Prt) : Bool := if x.tries = 1 ∧ endP x < v.far then true else v.mixed
def farR (v : Rkv) (x : Prt) : Int := if v.far < endP x then endP x else v.far
def soonR (x : Prt) (now least : Int) : Bool := decide (1 < x.tries ∧ now - x.at_ < least)
def newR (v : Rkv) (x : Prt) (now least : Int) : Rkv :=
 if soonR x now least = true then ⟨v.at_, v.end_, v.took, farR v x, mixR v x, v.quarters⟩
 else if aheadB v.at_ v.end_ x.at_ (endP x) = true then ⟨x.at_, endP x, now - x.at_, farR v x, mixR v x, v.quarters⟩
 else ⟨v.at_, v.end_, v.took, farR v x, mixR v x, v.quarters⟩
def rkcameR (v : Rkv) (x : Prt) (now least : Int) : Rkv × Int := if RkCameOk v x now least then (newR v x now least, 0) else (zrk, 1)
def SlackOk (v : Rkv) (least srtt : Int) : Prop := rkmay v = true ∧ v.mixed = true ∧ brief least = true ∧ brief srtt = true
instance (v : Rkv) (a b : Int) : Decidable (SlackOk v a b) := inferInstanceAs (Decidable (_ ∧ _ ∧ _ ∧ _))
def slackN (q least : Int) : Int := (q + 1) * least / 4
def slackR (v : Rkv) (least srtt : Int) : Int := if SlackOk v least srtt then (if srtt < slackN v.quarters least then srtt else slackN v.quarters least) else 0
def seenB (v : Rkv) (x : Prt) : Bool := !x.came && !x.lost && aheadB x.at_ (endP x) v.at_ v.end_
def dueR (v : Rkv) (slack : Int) (x : Prt) : Int := x.at_ + v.took + slack
def lateB (v : Rkv) (now slack : Int) (x : Prt) : Bool := seenB v x && decide (dueR v slack x ≤ now)
def waitB (v : Rkv) (now slack : Int) (x : Prt) : Bool := seenB v x && !decide (dueR v slack x ≤ now)
def lostP (v : Rkv) (now slack : Int) (x : Prt) : Prt := if lateB v now slack x = true then { x with lost := true } else x
def lostL (v : Rkv) (now slack : Int) (l : List Prt) : List Prt := l.map (lostP v now slack)
def lostN (v : Rkv) (now slack : Int) (l : List Prt) : Int := l.foldl (fun n x => if lateB v now slack x = true then n + 1 else n) 0
def nextStep (n a : Int) : Int := if n = 0 ∨ a < n then a else n
def nextN (v : Rkv) (now slack : Int) (l : List Prt) : Int := l.foldl (fun n x => if waitB v now slack x = true then nextStep n (dueR v slack x) else n) 0
def LostOk (v : Rkv) (l : List Prt) (now slack : Int) : Prop := rkmay v = true ∧ smayB l = true ∧ t60 now = true ∧ brief slack = true
instance (v : Rkv) (l : List Prt) (a b : Int) : Decidable (LostOk v l a b) := inferInstanceAs (Decidable (_ ∧ _ ∧ _ ∧ _))
def lostR (v : Rkv) (l : List Prt) (now slack : Int) : List Prt × Int × Int × Int :=
 if LostOk v l now slack then (lostL v now slack l, lostN v now slack l, nextN v now slack l, 0) else ([], 0, 0, 1)
theorem lostN_snoc (v : Rkv) (now slack : Int) (l : List Prt) (x : Prt) : lostN v now slack (l ++ [x]) = if lateB v now slack x = true then lostN v now slack l + 1 else lostN v now slack l := by unfold lostN; rw [List.foldl_append]; rfl
theorem nextN_snoc (v : Rkv) (now slack : Int) (l : List Prt) (x : Prt) : nextN v now slack (l ++ [x]) = if waitB v now slack x = true then nextStep (nextN v now slack l) (dueR v slack x) else nextN v now slack l := by unfold nextN; rw [List.foldl_append]; rfl
theorem lostN_take {l : List Prt} {k : Nat} (v : Rkv) (now slack : Int) (h : k < l.length) : lostN v now slack (l.take (k + 1)) = if lateB v now slack (ge l k) = true then lostN v now slack (l.take k) + 1 else lostN v now slack (l.take k) := by rw [take_ge h, lostN_snoc]
theorem nextN_take {l : List Prt} {k : Nat} (v : Rkv) (now slack : Int) (h : k < l.length) : nextN v now slack (l.take (k + 1)) = if waitB v now slack (ge l k) = true then nextStep (nextN v now slack (l.take k)) (dueR v slack (ge l k)) else nextN v now slack (l.take k) := by rw [take_ge h, nextN_snoc]
theorem lostL_len (v : Rkv) (now slack : Int) (l : List Prt) : (lostL v now slack l).length = l.length := by unfold lostL; rw [List.length_map]
theorem lostL_ge (v : Rkv) (now slack : Int) (l : List Prt) {i : Nat} (h : i < l.length) : ge (lostL v now slack l) i = lostP v now slack (ge l i) := by
 have h' : i < (lostL v now slack l).length := by rw [lostL_len]; exact h
 rw [ge_eq h', ge_eq h]; exact List.getElem_map _
def lostTo (v : Rkv) (now slack : Int) (l : List Prt) (k : Nat) : List Prt := lostL v now slack (l.take k) ++ l.drop k
theorem lostTo_zero (v : Rkv) (now slack : Int) (l : List Prt) : lostTo v now slack l 0 = l := rfl
theorem lostTo_all (v : Rkv) (now slack : Int) (l : List Prt) : lostTo v now slack l l.length = lostL v now slack l := by
 unfold lostTo; rw [List.take_length, List.drop_length, List.append_nil]
theorem lostTo_set (v : Rkv) (now slack : Int) (l : List Prt) {k : Nat} (h : k < l.length) : (lostTo v now slack l k).set k (lostP v now slack (ge l k)) = lostTo v now slack l (k + 1) := by
 have e : (lostL v now slack (l.take k)).length = k := by rw [lostL_len, List.length_take]; omega
 unfold lostTo
 rw [List.set_append_right k _ (by omega), e, Nat.sub_self, drop_ge h, List.set_cons_zero, take_ge h]
 unfold lostL
 rw [List.map_append, List.append_assoc]; rfl
theorem lostTo_same (v : Rkv) (now slack : Int) (l : List Prt) {k : Nat} (h : k < l.length) (hb : lateB v now slack (ge l k) = false) : lostTo v now slack l k = lostTo v now slack l (k + 1) := by
 have hp : lostP v now slack (ge l k) = ge l k := by unfold lostP; rw [hb]; rfl
 unfold lostTo
 rw [take_ge h, drop_ge h]
 unfold lostL
 rw [List.map_append, List.append_assoc, List.map_cons, hp]; rfl
section
variable {v : Rkv} {x : Prt} {l : List Prt} {now slack more a b : Int} {k : Nat}
theorem slackN_bd {q l : Int} (q0 : 0 ≤ q) (q1 : q ≤ 20) (l0 : 0 ≤ l) : 0 ≤ slackN q l := by
 have h0 : 0 ≤ (q + 1) * l := Int.mul_nonneg (by omega) l0
 unfold slackN; omega
theorem slack_bd (hb : 0 ≤ b) : 0 ≤ slackR v a b ∧ slackR v a b ≤ b := by
 unfold slackR
 split
 ·next h =>
  have hv := (rkmay_iff v).1 h.1
  have ha := (brief_iff a).1 h.2.2.1
  have := slackN_bd hv.q0 hv.q1 ha.1
  split <;> omega
 ·omega
theorem late_facts (h : lateB v now slack x = true) : x.came = false ∧ x.lost = false ∧ x.at_ ≤ v.at_ ∧ dueR v slack x ≤ now := by
 unfold lateB seenB at h
 simp only [Bool.and_eq_true, Bool.not_eq_true', decide_eq_true_eq] at h
 obtain ⟨⟨⟨h1, h2⟩, h3⟩, h4⟩ := h
 have := (ahead_iff _ _ _ _).1 h3
 exact ⟨h1, h2, by omega, h4⟩
theorem lostP_late (h : lateB v now slack x = true) : lostP v now slack x = { x with lost := true } := if_pos h
theorem lostP_not (h : lateB v now slack x = false) : lostP v now slack x = x := by unfold lostP; rw [h]; rfl
theorem lostP_ok (h : POk x) : POk (lostP v now slack x) := by
 cases hl : lateB v now slack x with
 | false => rw [lostP_not hl]; exact h
 | true =>
  rw [lostP_late hl]
  exact ⟨h.seq, h.dsn, h.at_, h.total, h.last, by show (x.came && true) = false; rw [(late_facts hl).1]; rfl, h.l1, h.l2, h.t1, h.t2⟩
theorem lostP_seq : (lostP v now slack x).seq = x.seq := by unfold lostP; split <;> rfl
theorem lostP_end : endP (lostP v now slack x) = endP x := by unfold lostP endP; split <;> rfl
theorem lostP_fly : flyL (lostP v now slack x) ≤ flyL x ∨ x.len < 0 := by
 cases hl : lateB v now slack x with
 | false => rw [lostP_not hl]; exact .inl (Int.le_refl _)
 | true =>
  rw [lostP_late hl]
  have := late_facts hl
  unfold flyL
  rw [this.1, this.2.1]
  show (if (!false && !true) = true then x.len else 0) ≤ (if (!false && !false) = true then x.len else 0) ∨ _
  simp only [Bool.not_true, Bool.not_false, Bool.and_false, Bool.and_self, if_true]
  rw [if_neg (by simp)]
  omega
theorem lost_may (h : smayB l = true) : smayB (lostL v now slack l) = true := by
 obtain ⟨h1, h2⟩ := (smay_iff l).1 h
 refine (smay_iff _).2 ⟨by rw [lostL_len]; exact h1, ?_⟩
 intro i hi
 rw [lostL_len] at hi
 obtain ⟨a, b⟩ := h2 i hi
 refine ⟨by rw [lostL_ge _ _ _ _ hi]; exact lostP_ok a, fun h0 => ?_⟩
 rw [lostL_ge _ _ _ _ hi, lostL_ge _ _ _ _ (by omega : i - 1 < l.length), lostP_seq, lostP_end]
 exact b h0
theorem rk_flySum_cons (x : Prt) (l : List Prt) : flySum (x :: l) = flyL x + flySum l := by
 suffices hh : ∀ (l : List Prt) (n : Int), l.foldl (fun n x => n + flyL x) n = n + flySum l by
  unfold flySum; rw [List.foldl_cons, hh l (0 + flyL x)]; unfold flySum; omega
 intro l
 induction l with
 | nil => intro n; simp [flySum]
 | cons y t ih => intro n; unfold flySum; rw [List.foldl_cons, List.foldl_cons, ih, ih (0 + flyL y)]; omega
theorem lost_fly (h : ∀ x ∈ l, 0 ≤ x.len) : flySum (lostL v now slack l) ≤ flySum l := by
 induction l with
 | nil => exact Int.le_refl _
 | cons y t ih =>
  have e : lostL v now slack (y :: t) = lostP v now slack y :: lostL v now slack t := rfl
  rw [e, rk_flySum_cons, rk_flySum_cons]
  have h1 := ih (fun x hx => h x (by simp [hx]))
  have h2 := h y (by simp)
  rcases lostP_fly (v := v) (x := y) (now := now) (slack := slack) with h3 | h3 <;> omega
theorem part_mem (h : smayB l = true) {x : Prt} (hx : x ∈ l) : POk x := by
 obtain ⟨i, hi, rfl⟩ := List.getElem_of_mem hx
 have := (((smay_iff l).1 h).2 i hi).1
 rwa [ge_eq hi] at this
theorem lost_flight (h : smayB l = true) : flightR (lostL v now slack l) ≤ flightR l := by
 unfold flightR
 rw [if_pos h, if_pos (lost_may h)]
 exact lost_fly (fun x hx => by have := (part_mem h hx).l1; omega)
end
end Go.Proofs.YtbijhkhkigdddaaGreat
