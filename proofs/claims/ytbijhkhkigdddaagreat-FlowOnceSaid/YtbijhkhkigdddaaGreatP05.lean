/- FoMath Tail StRef2 StRef3 StInfo Tail2 RoB StL1. -/
import Derived.Test.YtbijhkhkigdddaaGreatP04
import Derived.Deep.SlicePairs
import Derived.Lib.AppendZeros
import Derived.Lib.SmallJoins
import Derived.StillTail
set_option linter.all false
set_option maxRecDepth 100000
set_option maxHeartbeats 32000000
namespace Go.Proofs.YtbijhkhkigdddaaGreat
open Go.RowKit
theorem chain_snoc_p {l : List Prt} {x : Prt} (h : ChainTo l l.length) (hx : POk x) (he : 0 < l.length → x.seq = endP (ge l (l.length - 1))) : ChainTo (l ++ [x]) (l ++ [x]).length := by
 intro i hi
 rw [List.length_append, List.length_singleton] at hi
 by_cases e : i = l.length
 ·subst e
  refine ⟨by rw [ge_snoc]; exact hx, fun h0 => ?_⟩
  rw [ge_snoc, ge_app (by omega)]
  exact he h0
 ·have := h i (by omega)
  refine ⟨by rw [ge_app (by omega)]; exact this.1, fun h0 => ?_⟩
  rw [ge_app (by omega), ge_app (by omega)]
  exact this.2 h0
theorem span_snoc {l : List Prt} {x : Prt} (h : smayB (l ++ [x]) = true) : (spanR (l ++ [x])).2 = endP x := by
 rw [span_eq h (by simp), List.length_append, List.length_singleton, Nat.add_sub_cancel, ge_snoc]
theorem span_last {l : List Prt} (h : smayB l = true) (h0 : 0 < l.length) : (spanR l).2 = endP (ge l (l.length - 1)) := by rw [span_eq h h0]
theorem flight_eq {l : List Prt} (h : smayB l = true) : flightR l = flySum l := if_pos h
theorem set_may {l : List Prt} {i : Nat} {y : Prt} (h : smayB l = true) (hi : i < l.length) (hy : POk y) (hs : y.seq = (ge l i).seq) (he : endP y = endP (ge l i)) : smayB (l.set i y) = true := by
 obtain ⟨h1, h2⟩ := (smay_iff l).1 h
 refine (smay_iff _).2 ⟨by rw [List.length_set]; exact h1, fun j hj => ?_⟩
 rw [List.length_set] at hj
 have g := h2 j hj
 refine ⟨?_, fun h0 => ?_⟩
 ·rw [ge_set hi]; split
  ·exact hy
  ·exact g.1
 ·have g2 := g.2 h0
  rw [ge_set hi, ge_set hi]
  split
  ·next e => subst e; rw [if_neg (by omega), hs]; exact g2
  ·split
   ·next e => rw [he, e]; exact g2
   ·exact g2
theorem span_set {l : List Prt} {i : Nat} {y : Prt} (h : smayB l = true) (hi : i < l.length) (hy : POk y) (hs : y.seq = (ge l i).seq) (he : endP y = endP (ge l i)) : (spanR (l.set i y)).2 = (spanR l).2 := by
 rw [span_last (set_may h hi hy hs he) (by rw [List.length_set]; omega), span_last h (by omega), List.length_set, ge_set hi]
 split
 ·next e => rw [he, e]
 ·rfl
theorem map_may {l : List Prt} (f : Prt → Prt) (hs : ∀ x, (f x).seq = x.seq) (he : ∀ x, endP (f x) = endP x) (hp : ∀ x, POk x → POk (f x)) (h : smayB l = true) : smayB (l.map f) = true ∧ (0 < l.length → (spanR (l.map f)).2 = (spanR l).2) := by
 obtain ⟨h1, h2⟩ := (smay_iff l).1 h
 have hm : smayB (l.map f) = true := by
  refine (smay_iff _).2 ⟨by rw [List.length_map]; exact h1, fun i hi => ?_⟩
  rw [List.length_map] at hi
  have g := h2 i hi
  refine ⟨by rw [ge_map _ hi]; exact hp _ g.1, fun h0 => ?_⟩
  rw [ge_map _ hi, ge_map _ (by omega), hs, he]
  exact g.2 h0
 refine ⟨hm, fun h0 => ?_⟩
 rw [span_last hm (by rw [List.length_map]; exact h0), span_last h h0, List.length_map, ge_map _ (by omega), he]
theorem fly_map {l : List Prt} (f : Prt → Prt) (h : ∀ x ∈ l, flyL (f x) ≤ flyL x) : flySum (l.map f) ≤ flySum l := by
 induction l with
 | nil => exact Int.le_refl _
 | cons y t ih =>
  rw [List.map_cons, flySum_cons, flySum_cons]
  have h1 := ih (fun x hx => h x (by simp [hx]))
  have h2 := h y (by simp)
  omega
theorem new_ok {c : Cf} (h : CfOk c) : FvOk (newFv c) c := by
 have := h.m0; have := h.m1; have := h.w0; have := h.w1
 refine ⟨h, (by decide : smayB [] = true), (by decide : rtB zrt = true), ?_, (by decide : mmay zmk = true), (by decide : ramay zrv = true), (by decide : rkmay zrk = true), ?_, (by decide : tmB ztm = true), (by decide : mayG [] = true), (by decide : t60 0 = true), (by decide : t60 0 = true), fun h0 => absurd h0 (Nat.lt_irrefl 0)⟩
 ·exact (lmay_iff _).2 ⟨h.s0, h.s1, Nat.zero_le _, Int.le_refl _, by show (0 : Int) ≤ 7; omega, fun i hi => absurd hi (Nat.not_lt_zero _)⟩
 ·refine (xmB_iff _ _ _ _).2 ?_
  show _ ∧ _ ∧ _ ∧ _ ∧ c.mss ≤ min (10 * c.mss) c.most ∧ min (10 * c.mss) c.most ≤ c.most ∧ c.mss ≤ c.most ∧ c.most ≤ c.most
  omega
theorem set_tm {r : Rt} {l : List Prt} {pb : Bool} {now most : Int} (h : SetOk r l now most) : tmB (setR r l pb now most).1 = true := by
 rw [set_ok h]
 cases hn : anyO l with
 | false => rw [set_none h.2.1 hn]; decide
 | true => exact (set_two h hn).may
theorem setOk_of {f : Fv} {c : Cf} {now : Int} (h : FvOk f c) (hn : t60 now = true) : SetOk f.r f.l now c.longest := by
 have hn := (t60_iff now).1 hn
 have := h.fine.l0; have := h.fine.l1
 exact ⟨h.r, h.l, hn.1, hn.2, by omega, h.fine.l2⟩
theorem setF_ok {f : Fv} {c : Cf} {now : Int} (h : FvOk f c) (hn : t60 now = true) : FvOk (setF f c now) c :=
 ⟨h.fine, h.l, h.r, h.b, h.m, h.d, h.k, h.w, set_tm (setOk_of h hn), h.g, h.next, h.rd, h.link⟩
theorem part_ok {f : Fv} {c : Cf} {dsn n now : Int} (h : SendOk f c dsn n now) : POk (partF f dsn n now) ∧ endP (partF f dsn n now) = f.next + n := by
 obtain ⟨h1, h2, h3, h4, h5, h6⟩ := h
 have hf := (fmay_iff f c).1 h1
 have hd := (ramay_iff _).1 hf.d
 have := hf.fine.m1
 exact ⟨⟨hf.next, h4, h5, (t60_iff _).2 ⟨hd.t0, hd.t1⟩, (t60_iff _).2 ⟨hd.a0, hd.a1⟩, rfl, h2, by show n ≤ 1460; omega, by show (1 : Int) ≤ 1; omega, by show (1 : Int) ≤ 1000; omega⟩, rfl⟩
theorem sentL_may {f : Fv} {c : Cf} {dsn n now : Int} (h : SendOk f c dsn n now) (hl : ¬ 500 ≤ f.l.length) : smayB (f.l ++ [partF f dsn n now]) = true := by
 have hf := (fmay_iff f c).1 h.1
 obtain ⟨hp, _⟩ := part_ok h
 refine (smay_iff _).2 ⟨by rw [List.length_append, List.length_singleton]; omega, chain_snoc_p ((smay_iff _).1 hf.l).2 hp (fun h0 => ?_)⟩
 rw [← span_last hf.l h0]
 exact (hf.link h0).symm
theorem sent_ok {f : Fv} {c : Cf} {dsn n now : Int} (h : SendOk f c dsn n now) (hl : ¬ 500 ≤ f.l.length) : FvOk (sentF f c dsn n now) c := by
 have hf := (fmay_iff f c).1 h.1
 obtain ⟨hp, he⟩ := part_ok h
 have hm := sentL_may h hl
 have hn := (t60_iff _).1 hf.next
 obtain ⟨h1, h2, h3, h4, h5, h6⟩ := h
 refine setF_ok ⟨hf.fine, hm, hf.r, hf.b, hf.m, hf.d, hf.k, hf.w, hf.t, hf.g, (t60_iff _).2 ⟨by show 0 ≤ f.next + n; omega, h6⟩, hf.rd, fun _ => ?_⟩ h5
 show (spanR (f.l ++ [partF f dsn n now])).2 = f.next + n
 rw [span_snoc hm, he]
theorem sent_fly {f : Fv} {c : Cf} {dsn n now : Int} (h : SendOk f c dsn n now) (hl : ¬ 500 ≤ f.l.length) : flightR (sentF f c dsn n now).l = flightR f.l + n := by
 have hf := (fmay_iff f c).1 h.1
 show flightR (f.l ++ [partF f dsn n now]) = _
 rw [flight_eq (sentL_may h hl), flight_eq hf.l, flySum_snoc]
 rfl
structure AgOk (f : Fv) (c : Cf) (now : Int) (i : Nat) (x y : Prt) : Prop where
 lt : i < f.l.length
 eq : ge f.l i = x
 lost : x.lost = true
 came : x.came = false
 tries : x.tries < 1000
 eqy : y = againP x now
 l : (againFv f c now).l = f.l.set i y
 ok : FvOk (againFv f c now) c
 fly : flightR (againFv f c now).l = flightR f.l + x.len
theorem find_ge {l : List Prt} {i : Nat} (h : smayB l = true) (hi : i < l.length) : findSeq l (ge l i).seq = i := by
 have hc := ((smay_iff l).1 h).2
 unfold findSeq
 rw [List.findIdx_eq hi]
 refine ⟨by rw [← ge_eq hi]; simp, fun j hj => ?_⟩
 have := seq_lt hc hj hi
 rw [← ge_eq (by omega)]
 exact Zf (by omega)
theorem again_ok {f : Fv} {c : Cf} {now : Int} (h : FvOk f c) (hn : t60 now = true) (hi : firstLost f.l < f.l.length) : AgOk f c now (firstLost f.l) (ge f.l (firstLost f.l)) (againP (ge f.l (firstLost f.l)) now) := by
 obtain ⟨i, hii⟩ : ∃ i, firstLost f.l = i := ⟨_, rfl⟩
 have hlo : lostOne (ge f.l i) = true := by
  have h2 : f.l.findIdx lostOne = i := hii
  rw [hii] at hi
  rw [ge_eq hi]
  exact ((List.findIdx_eq hi).1 h2).1
 rw [hii] at hi ⊢
 unfold lostOne at hlo
 rw [Bool.and_eq_true, decide_eq_true_eq] at hlo
 have hp := (((smay_iff _).1 h.l).2 i hi).1
 have hcm : (ge f.l i).came = false := by
  have := hp.not
  rw [hlo.1] at this
  simpa using this
 have hR : againR f.l (ge f.l i).seq now = (f.l.set i (againP (ge f.l i) now), 0) := by
  unfold againR
  rw [if_pos ⟨h.l, hn⟩, find_ge h.l hi, if_pos hi, if_neg (by rw [hcm]; rintro (h | h); cases h; omega)]
 have hy : POk (againP (ge f.l i) now) := ⟨hp.seq, hp.dsn, hn, hp.total, hp.last, by show ((ge f.l i).came && false) = false; simp, hp.l1, hp.l2, by have := hp.t1; show 1 ≤ (ge f.l i).tries + 1; omega, by show (ge f.l i).tries + 1 ≤ 1000; omega⟩
 have hL : (againFv f c now).l = f.l.set i (againP (ge f.l i) now) := by
  unfold againFv setF
  show (againR f.l (ge f.l (firstLost f.l)).seq now).1 = _
  rw [hii, hR]
 have hm := set_may h.l hi hy rfl rfl
 refine ⟨hi, rfl, hlo.1, hcm, hlo.2, rfl, hL, ?_, ?_⟩
 ·unfold againFv
  refine setF_ok ⟨h.fine, ?_, h.r, h.b, h.m, h.d, h.k, h.w, h.t, h.g, h.next, h.rd, ?_⟩ hn
  ·show smayB (againR f.l (ge f.l (firstLost f.l)).seq now).1 = true
   rw [hii, hR]; exact hm
  ·intro h0
   show (spanR (againR f.l (ge f.l (firstLost f.l)).seq now).1).2 = f.next
   rw [hii, hR]
   show (spanR (f.l.set i (againP (ge f.l i) now))).2 = f.next
   rw [span_set h.l hi hy rfl rfl]
   exact h.link (by omega)
 ·rw [hL, flight_eq hm, flight_eq h.l, flySum_set hi]
  have e1 : flyL (ge f.l i) = 0 := by unfold flyL; rw [hlo.1]; simp
  have e2 : flyL (againP (ge f.l i) now) = (ge f.l i).len := by
   unfold flyL againP
   show (if (!(ge f.l i).came && !false) = true then (ge f.l i).len else 0) = _
   rw [hcm]; rfl
  omega
end Go.Proofs.YtbijhkhkigdddaaGreat
namespace Go.Proofs.YtbijhkhkigdddaaGreat
open Go
section
variable {P : Program} {ops : Array Oper} {md : Region.Mode} {Q : Exit → Act → World → Prop} {S : World → Prop}
def wpAnyT (P : Program) (md : Region.Mode) (ops : Array Oper) (Q : Exit → Act → World → Prop) (S : World → Prop) (n : Nat) (L : Array Bool → Act → World → Prop) : Nat → Array Bool → Act → World → Prop
 | 0, listed, a, w => L listed a w
 | f + 1, listed, a, w =>
  Region.ready md ops listed ≠ [] ∧ ∀ i ∈ Region.ready md ops listed, i < n ∧ wpOp P ops Q i (fun a' w' => S w' ∧ wpAnyT P md ops Q S n L f (listed.setIfInBounds i true) a' w') a w
theorem wpAny_of_headT {n g : Nat} {L : Array Bool → Act → World → Prop} (hL : ∀ listed a w, L listed a w → wpAny P md ops Q g listed a w) :
  ∀ (f : Nat) (listed : Array Bool) (a : Act) (w : World), wpAnyT P md ops Q S n L f listed a w → wpAny P md ops Q (f + g) listed a w
 | 0, listed, a, w, h => by rw [Nat.zero_add]; exact hL _ _ _ h
 | f + 1, listed, a, w, h => by
  rw [show f + 1 + g = (f + g) + 1 by omega]
  exact ⟨fun h0 => absurd h0 h.1, fun i hi => wpOp_mono (fun a' w' h' => wpAny_of_headT hL f _ a' w' h'.2) (h.2 i hi).2⟩
theorem wpAnyT_first {n i : Nat} {oi : Oper} {v : Value} {L : Array Bool → Act → World → Prop} (hi : ops[i]? = some oi) (hsel : ∀ (j : Nat) (o : Oper) cs b, ops[j]? = some o → o.op ≠ .select cs b)
  (hQ : ∀ c a w, Q (.panic c) (a.put oi.dst v) w → Q (.panic c) a w)
  (hs : Region.sinkB md ops n = true) (hc : Region.chainB md ops n = true) (hn : n < ops.size) (hin : i < n)
  (hdone : ∀ listed a w, L listed a w → ∀ j ∈ Region.ready md ops listed, n ≤ j) :
  ∀ (f : Nat) (listed : Array Bool) (a : Act) (w : World), HeadInv md ops n listed →
   (∀ j oj, ops[j]? = some oj → j ≠ i → listed.getD j true = false → (∀ e ∈ oj.after, Region.binds md e = true → e.on ≠ i) → oi.apart ops oj = true) →
   i ∈ Region.ready md ops listed → YieldsIf P ops S oi v a → S w →
   wpAnyT P md ops Q S n L f (listed.setIfInBounds i true) (a.put oi.dst v) w → wpAnyT P md ops Q S n L (f + 1) listed a w := by
 intro f
 induction f with
 | zero =>
  intro listed a w inv _ hr hy hS H
  have hun := (mem_ready.1 hr).1
  refine ⟨fun h => (by rw [h] at hr; cases hr), fun j hj => ?_⟩
  have hjn : j < n := by
   rcases Nat.lt_or_ge j n with h | h
   ·exact h
   ·exact absurd hj (tail_waits hs hc hn inv _ i rfl hin hun j h)
  refine ⟨hjn, ?_⟩
  by_cases hji : j = i
  ·subst hji; exact hy.wpOp hi hS ⟨hS, H⟩
  ·have := hdone _ _ _ H j (ready_mono hj hji)
   omega
 | succ f ih =>
  intro listed a w inv hfree hr hy hS H
  have hun := (mem_ready.1 hr).1
  refine ⟨fun h => (by rw [h] at hr; cases hr), fun j hj => ?_⟩
  have hjn : j < n := by
   rcases Nat.lt_or_ge j n with h | h
   ·exact h
   ·exact absurd hj (tail_waits hs hc hn inv _ i rfl hin hun j h)
  refine ⟨hjn, ?_⟩
  by_cases hji : j = i
  ·subst hji; exact hy.wpOp hi hS ⟨hS, H⟩
  ·have h1 := (H.2 j (ready_mono hj hji)).2
   obtain ⟨hjun, oj, hoj, hall⟩ := mem_ready.1 hj
   have hnot : ∀ e ∈ oj.after, Region.binds md e = true → e.on ≠ i := fun e he hb heq => by
    have h1 := hall e he hb
    rw [heq, getD_both hun] at h1
    cases h1
   have h2 := wpOp_putIf hoj (hfree j oj hoj hji hjun hnot) (fun cs b => hsel i oi cs b hi) (fun cs b => hsel j oj cs b hoj) hQ hy h1
   have hfree' : ∀ k ok, ops[k]? = some ok → k ≠ i → (listed.setIfInBounds j true).getD k true = false →
     (∀ e ∈ ok.after, Region.binds md e = true → e.on ≠ i) → oi.apart ops ok = true := fun k ok hk hki hun hno => by
    refine hfree k ok hk hki ?_ hno
    by_cases hjk : j = k
    ·subst hjk; exact hjun
    ·rw [getD_set_ne true hjk] at hun; exact hun
   refine wpOp_mono (fun a' w' h3 => ⟨h3.2.1, ih (listed.setIfInBounds j true) a' w' (inv.set hj hjn) hfree' (ready_mono hr (Ne.symm hji)) h3.1 h3.2.1 ?_⟩) h2
   rw [Array.setIfInBounds_comm _ _ hji]
   exact h3.2.2
def headInvB (md : Region.Mode) (ops : Array Oper) (n : Nat) (listed : Array Bool) : Bool :=
 decide (listed.size = ops.size) && ((List.range ops.size).all fun j => match ops[j]? with
  | some oj => !(listed.getD j false) || oj.after.all fun e => !(Region.binds md e) || listed.getD e.on false
  | none => true) && (List.range ops.size).all fun t => decide (t < n) || !(listed.getD t true)
theorem headInvB_spec {n : Nat} {listed : Array Bool} (h : headInvB md ops n listed = true) : HeadInv md ops n listed := by
 unfold headInvB at h
 simp only [Bool.and_eq_true, decide_eq_true_eq] at h
 obtain ⟨⟨h1, h2⟩, h3⟩ := h
 refine ⟨h1, fun j oj hj hl e he hb => ?_, fun t ht ht' => ?_⟩
 ·have hjs : j < ops.size := (Array.getElem?_eq_some_iff.1 hj).1
  have := List.all_eq_true.1 h2 j (List.mem_range.2 hjs)
  simp only [hj, hl, Bool.not_true, Bool.false_or] at this
  have h4 := Array.all_eq_true'.1 this e he
  simp only [hb, Bool.not_true, Bool.false_or] at h4
  exact h4
 ·have := List.all_eq_true.1 h3 t (List.mem_range.2 ht')
  simp only [Bool.or_eq_true, decide_eq_true_eq, Bool.not_eq_true'] at this
  rcases this with h | h
  ·omega
  ·exact h
def tailL (P : Program) (md : Region.Mode) (l : List Oper) (Q : Exit → Act → World → Prop) (n : Nat) (listed : Array Bool) (a : Act) (w : World) : Prop :=
 Region.seqB md l.toArray (l.length - n) n listed = true ∧ wpList P l.toArray Q (l.drop n) a w
def takeB (md : Region.Mode) (ops : Array Oper) (n : Nat) (listed : Array Bool) (i : Nat) : Bool :=
 Region.noSelect ops && Region.free md ops listed i && (Region.ready md ops listed).contains i && Region.sinkB md ops n && Region.chainB md ops n && decide (n < ops.size) && decide (i < n) && headInvB md ops n listed
theorem wpAnyT_take {l : List Oper} {n i : Nat} {oi : Oper} {v : Value} {f : Nat} {listed : Array Bool} {a : Act} {w : World} (hi' : l[i]? = some oi)
  (hB : takeB md l.toArray n listed i = true)
  (hQ : ∀ c a w, Q (.panic c) (a.put oi.dst v) w → Q (.panic c) a w) (hy : YieldsIf P l.toArray S oi v a) (hS : S w)
  (h : wpAnyT P md l.toArray Q S n (tailL P md l Q n) f (listed.setIfInBounds i true) (a.put oi.dst v) w) : wpAnyT P md l.toArray Q S n (tailL P md l Q n) (f + 1) listed a w := by
 have hi : l.toArray[i]? = some oi := by simpa using hi'
 simp only [takeB, Bool.and_eq_true, decide_eq_true_eq] at hB
 obtain ⟨⟨⟨⟨⟨⟨⟨b0, b1⟩, b2⟩, b3⟩, b4⟩, b5⟩, b6⟩, b7⟩ := hB
 exact wpAnyT_first hi (Region.noSelect_spec b0) hQ b3 b4 b5 b6 (fun listed a w hL => seqB_ready hL.1) f listed a w (headInvB_spec b7) (Region.free_spec hi b1) (by simpa using b2) hy hS h
theorem wpAnyT_one {l : List Oper} {n k : Nat} {o : Oper} {f : Nat} {listed : Array Bool} {a : Act} {w : World} {L : Array Bool → Act → World → Prop} (hk' : l[k]? = some o)
  (hr : Region.ready md l.toArray listed = [k]) (hkn : k < n)
  (h : ∀ K : Act → World → Prop, (∀ a' w', S w' → wpAnyT P md l.toArray Q S n L f (listed.setIfInBounds k true) a' w' → K a' w') → if Region.wanted o (yielded l.toArray a.tmps) = true then Oper.wp P o a w K Q else K (a.put o.dst undef) w) :
  wpAnyT P md l.toArray Q S n L (f + 1) listed a w := by
 have hk : l.toArray[k]? = some o := by simpa using hk'
 refine ⟨fun h0 => (by rw [hr] at h0; cases h0), fun i hi => ?_⟩
 rw [hr] at hi
 obtain rfl : i = k := by simpa using hi
 refine ⟨hkn, ?_⟩
 have := h (fun a' w' => S w' ∧ wpAnyT P md l.toArray Q S n L f (listed.setIfInBounds i true) a' w') (fun a' w' h1 h2 => ⟨h1, h2⟩)
 unfold wpOp
 simp only [hk]
 split
 ·next hw => rw [if_pos hw] at this; exact .inl this
 ·next hw => rw [if_neg hw] at this; exact this
theorem wp_region_tail {id : Nat} {a : Act} {w : World} {l : List Oper} (n m : Nat) (S : World → Prop) (hm : P.follows .mixedOrders = true) (hl : l.length = m) (hn : n ≤ m)
  (h : wpAnyT P .any l.toArray Q S n (tailL P .any l Q n) n (Array.replicate m false) a w.drew) : (Code.region id l.toArray true).wp P Q a w := by
 refine wp_region_any hm ?_
 have := wpAny_of_headT (g := l.length - n) (fun listed a' w' hL => by
  have h0 := wpAny_of_seq (md := .any) (Q' := Q) (l.drop n) n listed a' w' (fun j => by simp [List.getElem?_drop]) (by rw [List.length_drop]; exact hL.1) hL.2
  rwa [List.length_drop] at h0) _ _ _ _ h
 rw [show n + (l.length - n) = l.length by omega, ← hl] at this
 simpa using this
end
end Go.Proofs.YtbijhkhkigdddaaGreat
namespace Go.Proofs.YtbijhkhkigdddaaGreat
open Go.RowKit
def Nine (w : World) (b o : Nat) (x : Prt) : Prop := w.cell? ⟨b, o, none⟩ = some (.int .i64 x.seq) ∧ w.cell? ⟨b, o + 1, none⟩ = some (.int .i64 x.len) ∧ w.cell? ⟨b, o + 2, none⟩ = some (.int .i64 x.dsn) ∧ w.cell? ⟨b, o + 3, none⟩ = some (.int .i64 x.at_) ∧ w.cell? ⟨b, o + 4, none⟩ = some (.int .i64 x.tries) ∧ w.cell? ⟨b, o + 5, none⟩ = some (.bool x.came) ∧ w.cell? ⟨b, o + 6, none⟩ = some (.bool x.lost) ∧ w.cell? ⟨b, o + 7, none⟩ = some (.int .i64 x.total) ∧ w.cell? ⟨b, o + 8, none⟩ = some (.int .i64 x.last)
theorem PrtAt.nine {w : World} {b o : Nat} {x : Prt} (h : PrtAt w b o x) : Nine w b o x := ⟨h.c0, h.c1, h.c2, h.c3, h.c4, h.c5, h.c6, h.c7, h.c8⟩
theorem PrtAt.drew {w : World} {b o : Nat} {x : Prt} (h : PrtAt w b o x) : PrtAt w.drew b o x := ⟨h.c0, h.c1, h.c2, h.c3, h.c4, h.c5, h.c6, h.c7, h.c8⟩
theorem ends_bd {x : Prt} (h : POk x) : 0 ≤ x.seq ∧ x.seq ≤ 1152921504606846976 ∧ 1 ≤ x.len ∧ x.len ≤ 1460 := by
 have := (t60_iff _).1 h.seq; have := h.l1; have := h.l2; omega
theorem info_sg : (Tryz.prog.info? 74).map (·.size) = some 2 := by kernel_rfl
theorem sg_struct : ∃ fs, Tryz.prog.underlying 74 = some (.struct fs) := ⟨_, Tryz.underlying74⟩
section
variable {W : World} {B : Nat} {t : TypeId} {cs : List Value}
def sg_put := @g_put
def sg_grown := @g_grown
theorem sg_store {ops : Array Oper} {rest : List Oper} {o : Oper} {a : Act} {Q : Exit → Act → World → Prop} (hgd : o.guard = none) (x y : Operand) (ho : o.op = .store 74 x y) (hx : a.eval x = .pointer (some ⟨B, 0, none⟩))
  (vs : List Value) (hy : a.eval y = .agg vs.toArray) (h : Bx W B t cs) (hl : cs.length = 2) (hv : vs.length = 2) (h1 : vs.all (·.oneCell') = true) (k : wpList Tryz.prog ops Q rest (a.put o.dst undef) (W.setRow B vs.toArray)) : wpList Tryz.prog ops Q (o :: rest) a W :=
 wpList_store_row hgd _ x y ho B vs.toArray hx hy t cs.toArray h (by rw [info_sg]; simp [hv]) (by simp [hl, hv]) (by simpa using h1) k
def sg_var := @g_var 74 2 sg_struct info_sg
variable {fn : Func} {tmps : Array Value} {R : Ending → World → Prop} {v u : Value} {ds : List Deferred} {p q r : Tmp}
def sg_end1 := @g_end1 74 2 sg_struct info_sg
end
theorem flyL_bd {x : Prt} (h : POk x) : 0 ≤ flyL x ∧ flyL x ≤ 1460 ∧ flyL x ≤ x.len := by
 have := h.l1; have := h.l2; unfold flyL; split <;> omega
theorem flySum_nil : flySum [] = 0 := rfl
theorem flySum_bd {l : List Prt} (h : ChainTo l l.length) : ∀ k, k ≤ l.length → 0 ≤ flySum (l.take k) ∧ flySum (l.take k) ≤ 1460 * (k : Int) := by
 intro k
 induction k with
 | zero => intro _; exact ⟨by simp [flySum_nil], by simp [flySum_nil]⟩
 | succ k ih =>
  intro hk
  have h1 := ih (by omega)
  have h2 := flyL_bd (h k (by omega)).1
  rw [take_ge (by omega), flySum_snoc]
  push_cast
  omega
theorem info_prt : (Tryz.prog.info? 57).map (fun i => (i.zero, i.size, i.bytes)) = some (some (.agg #[.int .i64 0, .int .i64 0, .int .i64 0, .int .i64 0, .int .i64 0, .bool false, .bool false, .int .i64 0, .int .i64 0]), El.k Prt, 64) := by kernel_rfl
end Go.Proofs.YtbijhkhkigdddaaGreat
namespace Go.Proofs.YtbijhkhkigdddaaGreat
open Go
section
variable {P : Program} {md : Region.Mode} {Q : Exit → Act → World → Prop} {S : World → Prop}
theorem wpAnyT_two {l : List Oper} {n k1 k2 : Nat} {o1 o2 : Oper} {f : Nat} {listed : Array Bool} {a : Act} {w : World} {L : Array Bool → Act → World → Prop} (hk1' : l[k1]? = some o1) (hk2' : l[k2]? = some o2)
  (hr : Region.ready md l.toArray listed = [k1, k2]) (hkn1 : k1 < n) (hkn2 : k2 < n)
  (h1 : ∀ K : Act → World → Prop, (∀ a' w', S w' → wpAnyT P md l.toArray Q S n L f (listed.setIfInBounds k1 true) a' w' → K a' w') → if Region.wanted o1 (yielded l.toArray a.tmps) = true then Oper.wp P o1 a w K Q else K (a.put o1.dst undef) w)
  (h2 : ∀ K : Act → World → Prop, (∀ a' w', S w' → wpAnyT P md l.toArray Q S n L f (listed.setIfInBounds k2 true) a' w' → K a' w') → if Region.wanted o2 (yielded l.toArray a.tmps) = true then Oper.wp P o2 a w K Q else K (a.put o2.dst undef) w) :
  wpAnyT P md l.toArray Q S n L (f + 1) listed a w := by
 have hk1 : l.toArray[k1]? = some o1 := by simpa using hk1'
 have hk2 : l.toArray[k2]? = some o2 := by simpa using hk2'
 refine ⟨fun h0 => (by rw [hr] at h0; cases h0), fun i hi => ?_⟩
 rw [hr] at hi
 rcases (by simpa using hi : i = k1 ∨ i = k2) with rfl | rfl
 ·refine ⟨hkn1, ?_⟩
  have := h1 (fun a' w' => S w' ∧ wpAnyT P md l.toArray Q S n L f (listed.setIfInBounds i true) a' w') (fun a' w' h1 h2 => ⟨h1, h2⟩)
  unfold wpOp
  simp only [hk1]
  split
  ·next hw => rw [if_pos hw] at this; exact .inl this
  ·next hw => rw [if_neg hw] at this; exact this
 ·refine ⟨hkn2, ?_⟩
  have := h2 (fun a' w' => S w' ∧ wpAnyT P md l.toArray Q S n L f (listed.setIfInBounds i true) a' w') (fun a' w' h1 h2 => ⟨h1, h2⟩)
  unfold wpOp
  simp only [hk2]
  split
  ·next hw => rw [if_pos hw] at this; exact .inl this
  ·next hw => rw [if_neg hw] at this; exact this
end
end Go.Proofs.YtbijhkhkigdddaaGreat
namespace Go.Proofs.YtbijhkhkigdddaaGreat
open Go.RowKit
theorem bx_se {α : Type} [El α] {W : World} {B : Nat} {t : TypeId} {l : List α} {n : Nat} (h : Bx W B t (evals l)) (hn : l.length = n) (hm : n ≤ maxLen) (ho : AllOk l) : Se W (some ⟨B, 0, none⟩) n n l := by
 refine ⟨Nat.le_refl _, hm, (fun e => by cases e), hn, ho, fun h0 => ⟨B, 0, rfl, h.lt, fun i hi j u hu => ?_⟩⟩
 rw [Nat.zero_add]
 exact h.cell _ (evals_at l i j u (by omega) hu)
def winB (n lo hi : Int) : Bool := decide (lo ≤ n) && decide (n ≤ hi)
theorem win_iff (n lo hi : Int) : winB n lo hi = true ↔ lo ≤ n ∧ n ≤ hi := by unfold winB; simp
theorem win60 (x : Int) : winB x 0 1152921504606846976 = t60 x := by rw [Bool.eq_iff_iff, win_iff, t60_iff]
theorem within_any (n lo hi : Int) (w : World) :
  Calls Tryz.prog 118 #[n, lo, hi] w fun e w' => e = .returned (.bool (winB n lo hi)) ∧ w = w' := by
 by_cases h1 : lo ≤ n
 ·have e1 : winB n lo hi = decide (n ≤ hi) := by unfold winB; rw [Zt h1]; rfl
  rw [e1]
  clear e1
  have d1 : decide (lo ≤ n) = true := Zt h1
  go_enter Tryz.func118, Tryz.ntmps118
  go_wp2
  go_ret
  exact ⟨rfl, rfl⟩
 ·have e1 : winB n lo hi = false := by unfold winB; rw [Zf h1]; rfl
  rw [e1]
  clear e1
  have d1 : decide (lo ≤ n) = false := Zf h1
  go_enter Tryz.func118, Tryz.ntmps118
  go_wp2
  go_ret
  exact ⟨rfl, rfl⟩
theorem within60 (x : Int) (w : World) :
  Calls Tryz.prog 118 #[x, .int .i64 0, .int .i64 1152921504606846976] w fun e w' => e = .returned (.bool (t60 x)) ∧ w = w' := by
 rw [← win60]; exact within_any _ _ _ _
def EndOk (x : Prt) : Prop := -9223372036854775808 ≤ x.seq + x.len ∧ x.seq + x.len ≤ 9223372036854775807
theorem endOk {x : Prt} (h : POk x) : EndOk x := by
 obtain ⟨z0, z1, z2, z3⟩ := ends_bd h
 unfold EndOk; omega
theorem stend_any (x : Prt) (w : World) (h : EndOk x) :
  Calls Tryz.prog 98 #[.agg #[x.seq, x.len, x.dsn, x.at_, x.tries, x.came, x.lost, x.total, x.last]] w fun e w' => e = .returned (.int .i64 (endP x)) ∧ Below w.heap.size w w' := by
 obtain ⟨B, hB⟩ : ∃ B, w.heap.size = B := ⟨_, rfl⟩
 have e0 := Bx.new w 57 [x.seq, x.len, x.dsn, x.at_, x.tries, x.came, x.lost, x.total, x.last]
 rw [hB] at e0 ⊢
 have b0 : Below B w (w.alloc (.cells #[x.seq, x.len, x.dsn, x.at_, x.tries, x.came, x.lost, x.total, x.last] 57)) := by rw [← hB]; exact (Zb).alloc Zr _
 have hs1 : IntKind.i64.wrap (x.seq + x.len) = x.seq + x.len := IntWalk.i64_in _ h
 have c0 := e0.cell 0 rfl; have c1 := e0.cell 1 rfl
 go_enter Tryz.func98, Tryz.ntmps98
 go_wp2
 go_ret
 exact ⟨rfl, b0⟩
def fld (x : Prt) : Nat → Int
 | 0 => x.seq
 | 1 => x.dsn
 | 2 => x.at_
 | 3 => x.total
 | _ => x.last
theorem fld_no {x : Prt} {k : Nat} (hk : k < 5) (h : t60 (fld x k) = false) : oneB x = false := by
 refine Bool.eq_false_iff.2 (fun hv => ?_)
 have q := (oneB_iff x).1 hv
 rcases (show k = 0 ∨ k = 1 ∨ k = 2 ∨ k = 3 ∨ k = 4 by omega) with rfl | rfl | rfl | rfl | rfl
 ·rw [show fld x 0 = x.seq from rfl, q.seq] at h; cases h
 ·rw [show fld x 1 = x.dsn from rfl, q.dsn] at h; cases h
 ·rw [show fld x 2 = x.at_ from rfl, q.at_] at h; cases h
 ·rw [show fld x 3 = x.total from rfl, q.total] at h; cases h
 ·rw [show fld x 4 = x.last from rfl, q.last] at h; cases h
theorem fld_all {x : Prt} (h : ∀ i, i < 5 → t60 (fld x i) = true) : oneB x = (winB x.len 1 1460 && (winB x.tries 1 1000 && !(x.came && x.lost))) := by
 have h0 : t60 x.seq = true := h 0 (by omega)
 have h1 : t60 x.dsn = true := h 1 (by omega)
 have h2 : t60 x.at_ = true := h 2 (by omega)
 have h3 : t60 x.total = true := h 3 (by omega)
 have h4 : t60 x.last = true := h 4 (by omega)
 rw [Bool.eq_iff_iff, oneB_iff]
 simp only [Bool.and_eq_true, Bool.not_eq_true', win_iff]
 exact ⟨fun q => ⟨⟨q.l1, q.l2⟩, ⟨q.t1, q.t2⟩, q.not⟩, fun ⟨⟨a, b⟩, ⟨c, d⟩, e⟩ => ⟨h0, h1, h2, h3, h4, e, a, b, c, d⟩⟩
theorem stvalid_any (x : Prt) (w : World) :
  Calls Tryz.prog 159 #[.agg #[x.seq, x.len, x.dsn, x.at_, x.tries, x.came, x.lost, x.total, x.last]] w fun e w' => e = .returned (.bool (oneB x)) ∧ Below w.heap.size w w' := by
 obtain ⟨B, hB⟩ : ∃ B, w.heap.size = B := ⟨_, rfl⟩
 have e0 := Bx.new w 57 [x.seq, x.len, x.dsn, x.at_, x.tries, x.came, x.lost, x.total, x.last]
 rw [hB] at e0 ⊢
 have b0 : Below B w (w.alloc (.cells #[x.seq, x.len, x.dsn, x.at_, x.tries, x.came, x.lost, x.total, x.last] 57)) := by rw [← hB]; exact (Zb).alloc Zr _
 obtain ⟨q, hq⟩ : ∃ q, oneB x = q := ⟨_, rfl⟩
 rw [hq]
 have HQ := Zh hq; clear hq
 have c0 := e0.cell 0 rfl; have c1 := e0.cell 1 rfl; have c2 := e0.cell 2 rfl; have c3 := e0.cell 3 rfl; have c4 := e0.cell 4 rfl
 have c5 := e0.cell 5 rfl; have c6 := e0.cell 6 rfl; have c7 := e0.cell 7 rfl; have c8 := e0.cell 8 rfl
 have ix0 : ∀ w, (Instr.index 190 (.agg #[x.seq, x.dsn, x.at_, x.total, x.last]) (.int .i64 0)).run Tryz.prog w = .ok (.int .i64 x.seq) w := fun _ => by kernel_rfl
 have ix1 : ∀ w, (Instr.index 190 (.agg #[x.seq, x.dsn, x.at_, x.total, x.last]) (.int .i64 1)).run Tryz.prog w = .ok (.int .i64 x.dsn) w := fun _ => by kernel_rfl
 have ix2 : ∀ w, (Instr.index 190 (.agg #[x.seq, x.dsn, x.at_, x.total, x.last]) (.int .i64 2)).run Tryz.prog w = .ok (.int .i64 x.at_) w := fun _ => by kernel_rfl
 have ix3 : ∀ w, (Instr.index 190 (.agg #[x.seq, x.dsn, x.at_, x.total, x.last]) (.int .i64 3)).run Tryz.prog w = .ok (.int .i64 x.total) w := fun _ => by kernel_rfl
 have ix4 : ∀ w, (Instr.index 190 (.agg #[x.seq, x.dsn, x.at_, x.total, x.last]) (.int .i64 4)).run Tryz.prog w = .ok (.int .i64 x.last) w := fun _ => by kernel_rfl
 go_enter Tryz.func159, Tryz.ntmps159
 go_upto_region 1 with fail
 change Code.wp _ _ _ _ (w.alloc (.cells #[x.seq, x.len, x.dsn, x.at_, x.tries, x.came, x.lost, x.total, x.last] 57))
 generalize w.alloc (.cells #[x.seq, x.len, x.dsn, x.at_, x.tries, x.came, x.lost, x.total, x.last] 57) = w1 at e0 b0 c0 c1 c2 c3 c4 c5 c6 c7 c8 ⊢
 go_wp2_with fail
 go_loopw [16] (fun i wr => ∃ k : Nat, k ≤ 5 ∧ i = .int .i64 (k : Int) ∧ Hid (∀ i, i < k → t60 (fld x i) = true) ∧ w1 = wr) (fun i _ => 5 - (intOf i).toNat)
 case atStart => exact ⟨0, by omega, rfl, Zh (fun i hi => absurd hi (by omega)), rfl⟩
 case round =>
  obtain ⟨k, hk, rfl, hok, rfl⟩ := hrel
  by_cases hlt : k < 5
  ·rcases (show k = 0 ∨ k = 1 ∨ k = 2 ∨ k = 3 ∨ k = 4 by omega) with rfl | rfl | rfl | rfl | rfl
   ·push_cast
    cases ht : t60 x.seq with
    | true =>
     have hok2 : Hid (∀ i, i < 1 → t60 (fld x i) = true) := Zh (fun i hi => by
      by_cases e : i = 0
      ·subst e; exact ht
      ·exact hok.out i (by omega))
     go_wp2_with (go_at_call 118; refine (ht ▸ within60 x.seq _).mono ?_; rintro e wx ⟨rfl, rfl⟩)
     go_roundw
     case rel => exact ⟨1, by omega, by first | rfl | go_num, hok2, by first | rfl | trivial⟩
     case measure => simp [intOf]
    | false =>
     have hF : q = false := by rw [← HQ.out]; exact fld_no (k := 0) (by omega) ht
     subst hF
     go_wp2_with (go_at_call 118; refine (ht ▸ within60 x.seq _).mono ?_; rintro e wx ⟨rfl, rfl⟩)
     go_ret
     exact ⟨rfl, b0⟩
   ·push_cast
    cases ht : t60 x.dsn with
    | true =>
     have hok2 : Hid (∀ i, i < 2 → t60 (fld x i) = true) := Zh (fun i hi => by
      by_cases e : i = 1
      ·subst e; exact ht
      ·exact hok.out i (by omega))
     go_wp2_with (go_at_call 118; refine (ht ▸ within60 x.dsn _).mono ?_; rintro e wx ⟨rfl, rfl⟩)
     go_roundw
     case rel => exact ⟨2, by omega, by first | rfl | go_num, hok2, by first | rfl | trivial⟩
     case measure => simp [intOf]
    | false =>
     have hF : q = false := by rw [← HQ.out]; exact fld_no (k := 1) (by omega) ht
     subst hF
     go_wp2_with (go_at_call 118; refine (ht ▸ within60 x.dsn _).mono ?_; rintro e wx ⟨rfl, rfl⟩)
     go_ret
     exact ⟨rfl, b0⟩
   ·push_cast
    cases ht : t60 x.at_ with
    | true =>
     have hok2 : Hid (∀ i, i < 3 → t60 (fld x i) = true) := Zh (fun i hi => by
      by_cases e : i = 2
      ·subst e; exact ht
      ·exact hok.out i (by omega))
     go_wp2_with (go_at_call 118; refine (ht ▸ within60 x.at_ _).mono ?_; rintro e wx ⟨rfl, rfl⟩)
     go_roundw
     case rel => exact ⟨3, by omega, by first | rfl | go_num, hok2, by first | rfl | trivial⟩
     case measure => simp [intOf]
    | false =>
     have hF : q = false := by rw [← HQ.out]; exact fld_no (k := 2) (by omega) ht
     subst hF
     go_wp2_with (go_at_call 118; refine (ht ▸ within60 x.at_ _).mono ?_; rintro e wx ⟨rfl, rfl⟩)
     go_ret
     exact ⟨rfl, b0⟩
   ·push_cast
    cases ht : t60 x.total with
    | true =>
     have hok2 : Hid (∀ i, i < 4 → t60 (fld x i) = true) := Zh (fun i hi => by
      by_cases e : i = 3
      ·subst e; exact ht
      ·exact hok.out i (by omega))
     go_wp2_with (go_at_call 118; refine (ht ▸ within60 x.total _).mono ?_; rintro e wx ⟨rfl, rfl⟩)
     go_roundw
     case rel => exact ⟨4, by omega, by first | rfl | go_num, hok2, by first | rfl | trivial⟩
     case measure => simp [intOf]
    | false =>
     have hF : q = false := by rw [← HQ.out]; exact fld_no (k := 3) (by omega) ht
     subst hF
     go_wp2_with (go_at_call 118; refine (ht ▸ within60 x.total _).mono ?_; rintro e wx ⟨rfl, rfl⟩)
     go_ret
     exact ⟨rfl, b0⟩
   ·push_cast
    cases ht : t60 x.last with
    | true =>
     have hok2 : Hid (∀ i, i < 5 → t60 (fld x i) = true) := Zh (fun i hi => by
      by_cases e : i = 4
      ·subst e; exact ht
      ·exact hok.out i (by omega))
     go_wp2_with (go_at_call 118; refine (ht ▸ within60 x.last _).mono ?_; rintro e wx ⟨rfl, rfl⟩)
     go_roundw
     case rel => exact ⟨5, by omega, by first | rfl | go_num, hok2, by first | rfl | trivial⟩
     case measure => simp [intOf]
    | false =>
     have hF : q = false := by rw [← HQ.out]; exact fld_no (k := 4) (by omega) ht
     subst hF
     go_wp2_with (go_at_call 118; refine (ht ▸ within60 x.last _).mono ?_; rintro e wx ⟨rfl, rfl⟩)
     go_ret
     exact ⟨rfl, b0⟩
  ·obtain rfl : k = 5 := by omega
   push_cast
   have hall := fld_all hok.out
   rw [HQ.out] at hall
   have HALL := Zh hall
   clear HQ hok hall
   cases h1 : winB x.len 1 1460 with
   | false =>
    have hF : q = false := by rw [HALL.out, h1]; rfl
    subst hF
    go_wp2_with (go_at_call 118; refine (within_any _ _ _ _).mono ?_; rintro e wx ⟨rfl, rfl⟩)
    go_ret
    exact ⟨rfl, b0⟩
   | true =>
   cases h2 : winB x.tries 1 1000 with
   | false =>
    have hF : q = false := by rw [HALL.out, h1, h2]; rfl
    subst hF
    go_wp2_with (go_at_call 118; refine (within_any _ _ _ _).mono ?_; rintro e wx ⟨rfl, rfl⟩)
    go_ret
    exact ⟨rfl, b0⟩
   | true =>
    clear c0 c2 c3 c7 c8
    cases h3 : x.came with
    | false =>
     have hF : q = true := by rw [HALL.out, h1, h2, h3]; rfl
     subst hF
     rw [h3] at c5
     go_wp2_with (go_at_call 118; refine (within_any _ _ _ _).mono ?_; rintro e wx ⟨rfl, rfl⟩)
     go_ret
     exact ⟨rfl, b0⟩
    | true =>
     have hF : q = !x.lost := by rw [HALL.out, h1, h2, h3]; simp
     subst hF
     rw [h3] at c5
     go_wp2_with (go_at_call 118; refine (within_any _ _ _ _).mono ?_; rintro e wx ⟨rfl, rfl⟩)
     go_ret
     exact ⟨by simp, b0⟩
end Go.Proofs.YtbijhkhkigdddaaGreat
