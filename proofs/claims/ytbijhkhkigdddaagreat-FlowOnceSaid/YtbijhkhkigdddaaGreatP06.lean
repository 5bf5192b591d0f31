/- TailV TailW Tail3 Tk. -/
import Derived.Test.YtbijhkhkigdddaaGreatP05
set_option linter.all false
set_option maxRecDepth 100000
set_option maxHeartbeats 32000000
namespace Go.Proofs.YtbijhkhkigdddaaGreat
open Go
section
variable {P : Program} {ops : Array Oper} {md : Region.Mode} {Q : Exit → Act → World → Prop} {S : World → Prop}
def cleanB (bk : List Nat) (listed : Array Bool) : Bool := bk.all fun b => !(listed.getD b false)
theorem clean_set {bk : List Nat} {listed : Array Bool} {i : Nat} (h : i ∉ bk) : cleanB bk (listed.setIfInBounds i true) = cleanB bk listed := by
 unfold cleanB
 rw [Bool.eq_iff_iff, List.all_eq_true, List.all_eq_true]
 have hne : ∀ b ∈ bk, i ≠ b := fun b hb e => h (by rw [e]; exact hb)
 exact ⟨fun k b hb => by have := k b hb; rwa [getD_set_ne false (hne b hb)] at this, fun k b hb => by rw [getD_set_ne false (hne b hb)]; exact k b hb⟩
def wpAnyV (P : Program) (md : Region.Mode) (ops : Array Oper) (Q : Exit → Act → World → Prop) (S : World → Prop) (bk : List Nat) : Nat → Array Bool → Act → World → Prop
 | 0, listed, a, w => Region.ready md ops listed = [] ∧ Q .normal a w
 | fuel + 1, listed, a, w =>
  (Region.ready md ops listed = [] → Q .normal a w) ∧
  ∀ i ∈ Region.ready md ops listed, wpOp P ops Q i (fun a' w' => (cleanB bk (listed.setIfInBounds i true) = true → S w') ∧ wpAnyV P md ops Q S bk fuel (listed.setIfInBounds i true) a' w') a w
theorem wpAny_of_V {bk : List Nat} : ∀ (fuel : Nat) (listed : Array Bool) (a : Act) (w : World), wpAnyV P md ops Q S bk fuel listed a w → wpAny P md ops Q fuel listed a w
 | 0, _, _, _, h => h
 | fuel + 1, _, _, _, h => ⟨h.1, fun i hi => wpOp_mono (fun a' w' h' => wpAny_of_V fuel _ a' w' h'.2) (h.2 i hi)⟩
theorem wpAnyV_first {bk : List Nat} {i : Nat} {oi : Oper} {v : Value} (hi : ops[i]? = some oi) (hsel : ∀ (j : Nat) (o : Oper) cs b, ops[j]? = some o → o.op ≠ .select cs b)
  (hQ : ∀ c a w, Q (.panic c) (a.put oi.dst v) w → Q (.panic c) a w) (hib : i ∉ bk) (hbw : ∀ b ∈ bk, Region.waitsFor md ops b i = true) :
  ∀ (fuel : Nat) (listed : Array Bool) (a : Act) (w : World), cleanB bk listed = true →
   (∀ j oj, ops[j]? = some oj → j ≠ i → listed.getD j true = false → (∀ e ∈ oj.after, Region.binds md e = true → e.on ≠ i) → oi.apart ops oj = true) →
   i ∈ Region.ready md ops listed → YieldsIf P ops S oi v a → S w →
   wpAnyV P md ops Q S bk fuel (listed.setIfInBounds i true) (a.put oi.dst v) w → wpAnyV P md ops Q S bk (fuel + 1) listed a w := by
 intro fuel
 induction fuel with
 | zero =>
  intro listed a w _ _ hr hy hS H
  refine ⟨fun h => (by rw [h] at hr; cases hr), fun j hj => ?_⟩
  by_cases hji : j = i
  ·subst hji; exact hy.wpOp hi hS ⟨fun _ => hS, H⟩
  ·have := ready_mono hj hji
   rw [H.1] at this; cases this
 | succ f ih =>
  intro listed a w hcl hfree hr hy hS H
  have hun := (mem_ready.1 hr).1
  refine ⟨fun h => (by rw [h] at hr; cases hr), fun j hj => ?_⟩
  by_cases hji : j = i
  ·subst hji; exact hy.wpOp hi hS ⟨fun _ => hS, H⟩
  ·have h1 := H.2 j (ready_mono hj hji)
   obtain ⟨hjun, oj, hoj, hall⟩ := mem_ready.1 hj
   have hnot : ∀ e ∈ oj.after, Region.binds md e = true → e.on ≠ i := fun e he hb heq => by
    have h1 := hall e he hb
    rw [heq, getD_both hun] at h1
    cases h1
   have hjb : j ∉ bk := fun hb => by
    obtain ⟨o', ho', e, he, hbi, hon⟩ := Region.waitsFor_spec (hbw j hb)
    have : o' = oj := Zo (ho'.symm.trans hoj)
    subst this
    exact hnot e he hbi hon
   have hc1 : cleanB bk (listed.setIfInBounds j true) = true := by rw [clean_set hjb]; exact hcl
   have hc2 : cleanB bk ((listed.setIfInBounds i true).setIfInBounds j true) = true := by rw [clean_set hjb, clean_set hib]; exact hcl
   have h2 := wpOp_putIf hoj (hfree j oj hoj hji hjun hnot) (fun cs b => hsel i oi cs b hi) (fun cs b => hsel j oj cs b hoj) hQ hy h1
   have hfree' : ∀ k ok, ops[k]? = some ok → k ≠ i → (listed.setIfInBounds j true).getD k true = false →
     (∀ e ∈ ok.after, Region.binds md e = true → e.on ≠ i) → oi.apart ops ok = true := fun k ok hk hki hun hno => by
    refine hfree k ok hk hki ?_ hno
    by_cases hjk : j = k
    ·subst hjk; exact hjun
    ·rw [getD_set_ne true hjk] at hun; exact hun
   refine wpOp_mono (fun a' w' h3 => ?_) h2
   obtain ⟨hya, hsa, hva⟩ := h3
   have hS' := hsa hc2
   refine ⟨fun _ => hS', ih (listed.setIfInBounds j true) a' w' hc1 hfree' (ready_mono hr (Ne.symm hji)) hya hS' ?_⟩
   rw [Array.setIfInBounds_comm _ _ hji]
   exact hva
theorem wpAnyV_firstU {bk : List Nat} {i : Nat} {oi : Oper} {v : Value} (hi : ops[i]? = some oi) (hsel : ∀ (j : Nat) (o : Oper) cs b, ops[j]? = some o → o.op ≠ .select cs b)
  (hQ : ∀ c a w, Q (.panic c) (a.put oi.dst v) w → Q (.panic c) a w) (hib : i ∉ bk) :
  ∀ (fuel : Nat) (listed : Array Bool) (a : Act) (w : World), (cleanB bk listed = true → S w) →
   (∀ j oj, ops[j]? = some oj → j ≠ i → listed.getD j true = false → (∀ e ∈ oj.after, Region.binds md e = true → e.on ≠ i) → oi.apart ops oj = true) →
   i ∈ Region.ready md ops listed → YieldsIf P ops (fun _ => True) oi v a →
   wpAnyV P md ops Q S bk fuel (listed.setIfInBounds i true) (a.put oi.dst v) w → wpAnyV P md ops Q S bk (fuel + 1) listed a w := by
 intro fuel
 induction fuel with
 | zero =>
  intro listed a w hS _ hr hy H
  refine ⟨fun h => (by rw [h] at hr; cases hr), fun j hj => ?_⟩
  by_cases hji : j = i
  ·subst hji; exact hy.wpOp hi trivial ⟨fun h => hS (by rwa [clean_set hib] at h), H⟩
  ·have := ready_mono hj hji
   rw [H.1] at this; cases this
 | succ f ih =>
  intro listed a w hS hfree hr hy H
  have hun := (mem_ready.1 hr).1
  refine ⟨fun h => (by rw [h] at hr; cases hr), fun j hj => ?_⟩
  by_cases hji : j = i
  ·subst hji; exact hy.wpOp hi trivial ⟨fun h => hS (by rwa [clean_set hib] at h), H⟩
  ·have h1 := H.2 j (ready_mono hj hji)
   obtain ⟨hjun, oj, hoj, hall⟩ := mem_ready.1 hj
   have hnot : ∀ e ∈ oj.after, Region.binds md e = true → e.on ≠ i := fun e he hb heq => by
    have h1 := hall e he hb
    rw [heq, getD_both hun] at h1
    cases h1
   have hc : cleanB bk ((listed.setIfInBounds i true).setIfInBounds j true) = cleanB bk (listed.setIfInBounds j true) := by rw [← Array.setIfInBounds_comm _ _ hji, clean_set hib]
   have h2 := wpOp_putIf hoj (hfree j oj hoj hji hjun hnot) (fun cs b => hsel i oi cs b hi) (fun cs b => hsel j oj cs b hoj) hQ hy h1
   have hfree' : ∀ k ok, ops[k]? = some ok → k ≠ i → (listed.setIfInBounds j true).getD k true = false →
     (∀ e ∈ ok.after, Region.binds md e = true → e.on ≠ i) → oi.apart ops ok = true := fun k ok hk hki hun hno => by
    refine hfree k ok hk hki ?_ hno
    by_cases hjk : j = k
    ·subst hjk; exact hjun
    ·rw [getD_set_ne true hjk] at hun; exact hun
   refine wpOp_mono (fun a' w' h3 => ?_) h2
   obtain ⟨hya, hsa, hva⟩ := h3
   rw [hc] at hsa
   refine ⟨hsa, ih (listed.setIfInBounds j true) a' w' hsa hfree' (ready_mono hr (Ne.symm hji)) hya ?_⟩
   rw [Array.setIfInBounds_comm _ _ hji]
   exact hva
def takeVB (md : Region.Mode) (ops : Array Oper) (bk : List Nat) (listed : Array Bool) (i : Nat) : Bool :=
 Region.noSelect ops && Region.free md ops listed i && (Region.ready md ops listed).contains i && !(bk.contains i) && bk.all (fun b => Region.waitsFor md ops b i) && cleanB bk listed
def takeUB (md : Region.Mode) (ops : Array Oper) (bk : List Nat) (listed : Array Bool) (i : Nat) : Bool :=
 Region.noSelect ops && Region.free md ops listed i && (Region.ready md ops listed).contains i && !(bk.contains i)
variable {l : List Oper} {bk : List Nat} {i k : Nat} {oi o : Oper} {v : Value} {f : Nat} {listed : Array Bool} {a : Act} {w : World}
theorem wpAnyV_take (hi' : l[i]? = some oi) (hB : takeVB md l.toArray bk listed i = true) (hQ : ∀ c a w, Q (.panic c) (a.put oi.dst v) w → Q (.panic c) a w) (hy : YieldsIf P l.toArray S oi v a) (hS : S w)
  (h : wpAnyV P md l.toArray Q S bk f (listed.setIfInBounds i true) (a.put oi.dst v) w) : wpAnyV P md l.toArray Q S bk (f + 1) listed a w := by
 have hi : l.toArray[i]? = some oi := by simpa using hi'
 simp only [takeVB, Bool.and_eq_true, Bool.not_eq_true'] at hB
 obtain ⟨⟨⟨⟨⟨b0, b1⟩, b2⟩, b3⟩, b4⟩, b5⟩ := hB
 exact wpAnyV_first hi (Region.noSelect_spec b0) hQ (by simpa using b3) (fun b hb => List.all_eq_true.1 b4 b hb) f listed a w b5 (Region.free_spec hi b1) (by simpa using b2) hy hS h
theorem wpAnyV_takeU (hi' : l[i]? = some oi) (hB : takeUB md l.toArray bk listed i = true) (hQ : ∀ c a w, Q (.panic c) (a.put oi.dst v) w → Q (.panic c) a w) (hy : YieldsIf P l.toArray (fun _ => True) oi v a) (hS : S w)
  (h : wpAnyV P md l.toArray Q S bk f (listed.setIfInBounds i true) (a.put oi.dst v) w) : wpAnyV P md l.toArray Q S bk (f + 1) listed a w := by
 have hi : l.toArray[i]? = some oi := by simpa using hi'
 simp only [takeUB, Bool.and_eq_true, Bool.not_eq_true'] at hB
 obtain ⟨⟨⟨b0, b1⟩, b2⟩, b3⟩ := hB
 exact wpAnyV_firstU hi (Region.noSelect_spec b0) hQ (by simpa using b3) f listed a w (fun _ => hS) (Region.free_spec hi b1) (by simpa using b2) hy h
theorem wpAnyV_takeN (hi' : l[i]? = some oi) (hB : (takeUB md l.toArray bk listed i && !(cleanB bk listed)) = true) (hQ : ∀ c a w, Q (.panic c) (a.put oi.dst v) w → Q (.panic c) a w) (hy : YieldsIf P l.toArray (fun _ => True) oi v a)
  (h : wpAnyV P md l.toArray Q S bk f (listed.setIfInBounds i true) (a.put oi.dst v) w) : wpAnyV P md l.toArray Q S bk (f + 1) listed a w := by
 have hi : l.toArray[i]? = some oi := by simpa using hi'
 simp only [takeUB, Bool.and_eq_true, Bool.not_eq_true'] at hB
 obtain ⟨⟨⟨⟨b0, b1⟩, b2⟩, b3⟩, b5⟩ := hB
 exact wpAnyV_firstU hi (Region.noSelect_spec b0) hQ (by simpa using b3) f listed a w (fun h => by rw [b5] at h; cases h) (Region.free_spec hi b1) (by simpa using b2) hy h
theorem wpAnyV_one (hk' : l[k]? = some o) (hr : Region.ready md l.toArray listed = [k])
  (h : ∀ K : Act → World → Prop, (∀ a' w', S w' → wpAnyV P md l.toArray Q S bk f (listed.setIfInBounds k true) a' w' → K a' w') → if Region.wanted o (yielded l.toArray a.tmps) = true then Oper.wp P o a w K Q else K (a.put o.dst undef) w) :
  wpAnyV P md l.toArray Q S bk (f + 1) listed a w := by
 have hk : l.toArray[k]? = some o := by simpa using hk'
 refine ⟨fun h0 => (by rw [hr] at h0; cases h0), fun i hi => ?_⟩
 rw [hr] at hi
 obtain rfl : i = k := by simpa using hi
 have := h (fun a' w' => (cleanB bk (listed.setIfInBounds i true) = true → S w') ∧ wpAnyV P md l.toArray Q S bk f (listed.setIfInBounds i true) a' w') (fun a' w' h1 h2 => ⟨fun _ => h1, h2⟩)
 unfold wpOp
 simp only [hk]
 split
 ·next hw => rw [if_pos hw] at this; exact .inl this
 ·next hw => rw [if_neg hw] at this; exact this
theorem wpAnyV_end (hk' : l[k]? = some o) (hr : (decide (Region.ready md l.toArray listed = [k]) && !(cleanB bk (listed.setIfInBounds k true))) = true)
  (h : ∀ K : Act → World → Prop, (∀ a' w', wpAnyV P md l.toArray Q S bk f (listed.setIfInBounds k true) a' w' → K a' w') → if Region.wanted o (yielded l.toArray a.tmps) = true then Oper.wp P o a w K Q else K (a.put o.dst undef) w) :
  wpAnyV P md l.toArray Q S bk (f + 1) listed a w := by
 have hk : l.toArray[k]? = some o := by simpa using hk'
 simp only [Bool.and_eq_true, decide_eq_true_eq, Bool.not_eq_true'] at hr
 obtain ⟨hr, hc⟩ := hr
 refine ⟨fun h0 => (by rw [hr] at h0; cases h0), fun i hi => ?_⟩
 rw [hr] at hi
 obtain rfl : i = k := by simpa using hi
 have := h (fun a' w' => (cleanB bk (listed.setIfInBounds i true) = true → S w') ∧ wpAnyV P md l.toArray Q S bk f (listed.setIfInBounds i true) a' w') (fun a' w' h2 => ⟨fun h => absurd (hc.symm.trans h) (by simp), h2⟩)
 unfold wpOp
 simp only [hk]
 split
 ·next hw => rw [if_pos hw] at this; exact .inl this
 ·next hw => rw [if_neg hw] at this; exact this
theorem wp_region_V {id : Nat} (bk : List Nat) (m : Nat) (S : World → Prop) (hm : P.follows .mixedOrders = true) (hl : l.length = m)
  (h : wpAnyV P .any l.toArray Q S bk m (Array.replicate m false) a w.drew) : (Code.region id l.toArray true).wp P Q a w := by
 refine wp_region_any hm ?_
 have := wpAny_of_V _ _ _ _ h
 rw [← hl] at this
 simpa using this
end
open Go
section
variable {P : Program} {md : Region.Mode} {Q : Exit → Act → World → Prop} {S : World → Prop} {l : List Oper} {bk : List Nat} {k k1 k2 : Nat} {o o1 o2 : Oper} {f : Nat} {listed : Array Bool} {a : Act} {w : World}
theorem wpOp_pick (hk' : l[k]? = some o)
  (h : ∀ K : Act → World → Prop, (∀ a' w', S w' → wpAnyV P md l.toArray Q S bk f (listed.setIfInBounds k true) a' w' → K a' w') → if Region.wanted o (yielded l.toArray a.tmps) = true then Oper.wp P o a w K Q else K (a.put o.dst undef) w) :
  wpOp P l.toArray Q k (fun a' w' => (cleanB bk (listed.setIfInBounds k true) = true → S w') ∧ wpAnyV P md l.toArray Q S bk f (listed.setIfInBounds k true) a' w') a w := by
 have hk : l.toArray[k]? = some o := by simpa using hk'
 have := h (fun a' w' => (cleanB bk (listed.setIfInBounds k true) = true → S w') ∧ wpAnyV P md l.toArray Q S bk f (listed.setIfInBounds k true) a' w') (fun a' w' h1 h2 => ⟨fun _ => h1, h2⟩)
 unfold wpOp
 simp only [hk]
 split
 ·next hw => rw [if_pos hw] at this; exact .inl this
 ·next hw => rw [if_neg hw] at this; exact this
theorem wpAnyV_two (hk1 : l[k1]? = some o1) (hk2 : l[k2]? = some o2) (hr : Region.ready md l.toArray listed = [k1, k2])
  (h1 : ∀ K : Act → World → Prop, (∀ a' w', S w' → wpAnyV P md l.toArray Q S bk f (listed.setIfInBounds k1 true) a' w' → K a' w') → if Region.wanted o1 (yielded l.toArray a.tmps) = true then Oper.wp P o1 a w K Q else K (a.put o1.dst undef) w)
  (h2 : ∀ K : Act → World → Prop, (∀ a' w', S w' → wpAnyV P md l.toArray Q S bk f (listed.setIfInBounds k2 true) a' w' → K a' w') → if Region.wanted o2 (yielded l.toArray a.tmps) = true then Oper.wp P o2 a w K Q else K (a.put o2.dst undef) w) :
  wpAnyV P md l.toArray Q S bk (f + 1) listed a w := by
 refine ⟨fun h0 => (by rw [hr] at h0; cases h0), fun i hi => ?_⟩
 rw [hr] at hi
 rcases List.mem_cons.1 hi with rfl | hi
 ·exact wpOp_pick hk1 h1
 ·obtain rfl := List.mem_singleton.1 hi
  exact wpOp_pick hk2 h2
end
theorem cutP {P Q : Prop} (h : RowKit.Hid P → Q) (hP : P) : Q := h (Zh hP)
open Go
section
variable {P : Program} {md : Region.Mode} {Q : Exit → Act → World → Prop} {S : World → Prop}
theorem wpAnyT_three {l : List Oper} {n k1 k2 k3 : Nat} {o1 o2 o3 : Oper} {f : Nat} {listed : Array Bool} {a : Act} {w : World} {L : Array Bool → Act → World → Prop} (hk1' : l[k1]? = some o1) (hk2' : l[k2]? = some o2) (hk3' : l[k3]? = some o3)
  (hr : Region.ready md l.toArray listed = [k1, k2, k3]) (hkn1 : k1 < n) (hkn2 : k2 < n) (hkn3 : k3 < n)
  (h1 : ∀ K : Act → World → Prop, (∀ a' w', S w' → wpAnyT P md l.toArray Q S n L f (listed.setIfInBounds k1 true) a' w' → K a' w') → if Region.wanted o1 (yielded l.toArray a.tmps) = true then Oper.wp P o1 a w K Q else K (a.put o1.dst undef) w)
  (h2 : ∀ K : Act → World → Prop, (∀ a' w', S w' → wpAnyT P md l.toArray Q S n L f (listed.setIfInBounds k2 true) a' w' → K a' w') → if Region.wanted o2 (yielded l.toArray a.tmps) = true then Oper.wp P o2 a w K Q else K (a.put o2.dst undef) w)
  (h3 : ∀ K : Act → World → Prop, (∀ a' w', S w' → wpAnyT P md l.toArray Q S n L f (listed.setIfInBounds k3 true) a' w' → K a' w') → if Region.wanted o3 (yielded l.toArray a.tmps) = true then Oper.wp P o3 a w K Q else K (a.put o3.dst undef) w) :
  wpAnyT P md l.toArray Q S n L (f + 1) listed a w := by
 have hk1 : l.toArray[k1]? = some o1 := by simpa using hk1'
 have hk2 : l.toArray[k2]? = some o2 := by simpa using hk2'
 have hk3 : l.toArray[k3]? = some o3 := by simpa using hk3'
 have one : ∀ (k : Nat) (o : Oper), l.toArray[k]? = some o → (∀ K : Act → World → Prop, (∀ a' w', S w' → wpAnyT P md l.toArray Q S n L f (listed.setIfInBounds k true) a' w' → K a' w') → if Region.wanted o (yielded l.toArray a.tmps) = true then Oper.wp P o a w K Q else K (a.put o.dst undef) w) → wpOp P l.toArray Q k (fun a' w' => S w' ∧ wpAnyT P md l.toArray Q S n L f (listed.setIfInBounds k true) a' w') a w := by
  intro k o hk h
  have := h (fun a' w' => S w' ∧ wpAnyT P md l.toArray Q S n L f (listed.setIfInBounds k true) a' w') (fun a' w' h1 h2 => ⟨h1, h2⟩)
  unfold wpOp
  simp only [hk]
  split
  ·next hw => rw [if_pos hw] at this; exact .inl this
  ·next hw => rw [if_neg hw] at this; exact this
 refine ⟨fun h0 => (by rw [hr] at h0; cases h0), fun i hi => ?_⟩
 rw [hr] at hi
 rcases (by simpa using hi : i = k1 ∨ i = k2 ∨ i = k3) with rfl | rfl | rfl
 ·exact ⟨hkn1, one _ _ hk1 h1⟩
 ·exact ⟨hkn2, one _ _ hk2 h2⟩
 ·exact ⟨hkn3, one _ _ hk3 h3⟩
end
end Go.Proofs.YtbijhkhkigdddaaGreat
namespace Go.Proofs.YtbijhkhkigdddaaGreat
open Go Go.RowKit
section
variable {P : Program} {md : Region.Mode} {Q : Exit → Act → World → Prop} {S : World → Prop} {l : List Oper} {bk : List Nat} {oi : Oper} {v : Value} {f : Nat} {listed : Array Bool} {a a' : Act} {w : World}
theorem kU (i : Nat) (hS : S w) (h : wpAnyV P md l.toArray Q S bk f (listed.setIfInBounds i true) a' w)
  (hi : l[i]? = some oi := by rfl) (hB : takeUB md l.toArray bk listed i = true := by kernel_rfl) (hQ : ∀ c a w, Q (.panic c) (a.put oi.dst v) w → Q (.panic c) a w := by exact fun _ _ _ h => h)
  (hw : Region.wanted oi (yielded l.toArray a.tmps) = true := by rfl) (hy : ∀ w, (execOp a.eval oi).run P w = .ok (.value v) w := by (intro w; go_simp; try with_reducible rfl))
  (ha : a.put oi.dst v = a' := by (first | (simp only [Act.put, List.setIfInBounds_toArray, List.set_cons_zero, List.set_cons_succ]; rfl) | rfl)) : wpAnyV P md l.toArray Q S bk (f + 1) listed a w := by
 subst ha
 exact wpAnyV_takeU hi hB hQ (Or.inl ⟨hw, fun w _ => hy w⟩) hS h
theorem kUv (i : Nat) (v : Value) (hS : S w) (h : wpAnyV P md l.toArray Q S bk f (listed.setIfInBounds i true) a' w)
  (hi : l[i]? = some oi := by rfl) (hB : takeUB md l.toArray bk listed i = true := by kernel_rfl) (hQ : ∀ c a w, Q (.panic c) (a.put oi.dst v) w → Q (.panic c) a w := by exact fun _ _ _ h => h)
  (hw : Region.wanted oi (yielded l.toArray a.tmps) = true := by rfl) (hy : ∀ w, (execOp a.eval oi).run P w = .ok (.value v) w := by (intro w; go_simp))
  (ha : a.put oi.dst v = a' := by (first | (simp only [Act.put, List.setIfInBounds_toArray, List.set_cons_zero, List.set_cons_succ]; rfl) | rfl)) : wpAnyV P md l.toArray Q S bk (f + 1) listed a w := by
 subst ha
 exact wpAnyV_takeU hi hB hQ (Or.inl ⟨hw, fun w _ => hy w⟩) hS h
theorem kN (i : Nat) (h : wpAnyV P md l.toArray Q S bk f (listed.setIfInBounds i true) a' w)
  (hi : l[i]? = some oi := by rfl) (hB : (takeUB md l.toArray bk listed i && !(cleanB bk listed)) = true := by kernel_rfl) (hQ : ∀ c a w, Q (.panic c) (a.put oi.dst v) w → Q (.panic c) a w := by exact fun _ _ _ h => h)
  (hw : Region.wanted oi (yielded l.toArray a.tmps) = true := by rfl) (hy : ∀ w, (execOp a.eval oi).run P w = .ok (.value v) w := by (intro w; go_simp; try with_reducible rfl))
  (ha : a.put oi.dst v = a' := by (first | (simp only [Act.put, List.setIfInBounds_toArray, List.set_cons_zero, List.set_cons_succ]; rfl) | rfl)) : wpAnyV P md l.toArray Q S bk (f + 1) listed a w := by
 subst ha
 exact wpAnyV_takeN hi hB hQ (Or.inl ⟨hw, fun w _ => hy w⟩) h
theorem kC (i : Nat) {p : Addr} (hc : ∀ w, S w → w.cell? p = some v) (hS : S w) (h : wpAnyV P md l.toArray Q S bk f (listed.setIfInBounds i true) a' w)
  (hi : l[i]? = some oi := by rfl) (hB : takeVB md l.toArray bk listed i = true := by kernel_rfl) (hQ : ∀ c a w, Q (.panic c) (a.put oi.dst v) w → Q (.panic c) a w := by exact fun _ _ _ h => h)
  (hw : Region.wanted oi (yielded l.toArray a.tmps) = true := by rfl) (hy : ∀ w, w.cell? p = some v → (execOp a.eval oi).run P w = .ok (.value v) w := by (intro w cc; go_simp))
  (ha : a.put oi.dst v = a' := by (first | (simp only [Act.put, List.setIfInBounds_toArray, List.set_cons_zero, List.set_cons_succ]; rfl) | rfl)) : wpAnyV P md l.toArray Q S bk (f + 1) listed a w := by
 subst ha
 exact wpAnyV_take hi hB hQ (Or.inl ⟨hw, fun w hs => hy w (hc w hs)⟩) hS h
theorem kS (i : Nat) (hi : l[i]? = some oi) (hy : YieldsIf P l.toArray S oi v a) (hS : S w) (h : wpAnyV P md l.toArray Q S bk f (listed.setIfInBounds i true) a' w)
  (hB : takeVB md l.toArray bk listed i = true := by kernel_rfl) (hQ : ∀ c a w, Q (.panic c) (a.put oi.dst v) w → Q (.panic c) a w := by exact fun _ _ _ h => h)
  (ha : a.put oi.dst v = a' := by (first | (simp only [Act.put, List.setIfInBounds_toArray, List.set_cons_zero, List.set_cons_succ]; rfl) | rfl)) : wpAnyV P md l.toArray Q S bk (f + 1) listed a w := by
 subst ha
 exact wpAnyV_take hi hB hQ hy hS h
theorem kK {V : Array Bool → Act → World → Prop} {K : Act → World → Prop} (hK : ∀ a' w', S w' → V listed a' w' → K a' w') (hs : S w) (h : S w → V listed a' w)
  (ha : a = a' := by (first | (simp only [Act.put, List.setIfInBounds_toArray, List.set_cons_zero, List.set_cons_succ]; rfl) | rfl)) : K a w := by
 subst ha
 exact hK _ _ hs (h hs)
theorem kP {V : Array Bool → Act → World → Prop} {K : Act → World → Prop} (hK : ∀ a' w', S w' → V listed a' w' → K a' w') (hs : S w) (h : V listed a' w)
  (ha : a = a' := by (first | (simp only [Act.put, List.setIfInBounds_toArray, List.set_cons_zero, List.set_cons_succ]; rfl) | rfl)) : K a w := by
 subst ha
 exact hK _ _ hs h
theorem kW {V : Array Bool → Act → World → Prop} {K : Act → World → Prop} (hK : ∀ a' w', S w' → V listed a' w' → K a' w') (w : World) (hs : S w) (h : V listed a' w)
  (ha : a = a' := by (first | (simp only [Act.put, List.setIfInBounds_toArray, List.set_cons_zero, List.set_cons_succ]; rfl) | rfl)) : K a w := by
 subst ha
 exact hK _ _ hs h
variable {n : Nat}
theorem tF (i : Nat) (hS : S w) (h : wpAnyT P md l.toArray Q S n (tailL P md l Q n) f (listed.setIfInBounds i true) a' w)
  (hi : l[i]? = some oi := by rfl) (hB : takeB md l.toArray n listed i = true := by kernel_rfl) (hQ : ∀ c a w, Q (.panic c) (a.put oi.dst undef) w → Q (.panic c) a w := by exact fun _ _ _ h => h)
  (hw : Region.wanted oi (yielded l.toArray a.tmps) = false := by kernel_rfl)
  (ha : a.put oi.dst undef = a' := by (first | (simp only [Act.put, List.setIfInBounds_toArray, List.set_cons_zero, List.set_cons_succ]; rfl) | rfl)) : wpAnyT P md l.toArray Q S n (tailL P md l Q n) (f + 1) listed a w := by
 subst ha
 exact wpAnyT_take hi hB hQ (Or.inr ⟨hw, rfl⟩) hS h
theorem tU (i : Nat) (hS : S w) (h : wpAnyT P md l.toArray Q S n (tailL P md l Q n) f (listed.setIfInBounds i true) a' w)
  (hi : l[i]? = some oi := by rfl) (hB : takeB md l.toArray n listed i = true := by kernel_rfl) (hQ : ∀ c a w, Q (.panic c) (a.put oi.dst v) w → Q (.panic c) a w := by exact fun _ _ _ h => h)
  (hw : Region.wanted oi (yielded l.toArray a.tmps) = true := by rfl) (hy : ∀ w, S w → (execOp a.eval oi).run P w = .ok (.value v) w := by (intro w hSw; (try dsimp only at hSw); go_simp; try with_reducible rfl))
  (ha : a.put oi.dst v = a' := by (first | (simp only [Act.put, List.setIfInBounds_toArray, List.set_cons_zero, List.set_cons_succ]; rfl) | rfl)) : wpAnyT P md l.toArray Q S n (tailL P md l Q n) (f + 1) listed a w := by
 subst ha
 exact wpAnyT_take hi hB hQ (Or.inl ⟨hw, hy⟩) hS h
theorem tV (i : Nat) (v : Value) (hy : ∀ w, S w → (execOp a.eval oi).run P w = .ok (.value v) w) (hS : S w) (h : wpAnyT P md l.toArray Q S n (tailL P md l Q n) f (listed.setIfInBounds i true) a' w)
  (hi : l[i]? = some oi := by rfl) (hB : takeB md l.toArray n listed i = true := by kernel_rfl) (hQ : ∀ c a w, Q (.panic c) (a.put oi.dst v) w → Q (.panic c) a w := by exact fun _ _ _ h => h)
  (hw : Region.wanted oi (yielded l.toArray a.tmps) = true := by rfl)
  (ha : a.put oi.dst v = a' := by (first | (simp only [Act.put, List.setIfInBounds_toArray, List.set_cons_zero, List.set_cons_succ]; rfl) | rfl)) : wpAnyT P md l.toArray Q S n (tailL P md l Q n) (f + 1) listed a w := by
 subst ha
 exact wpAnyT_take hi hB hQ (Or.inl ⟨hw, hy⟩) hS h
theorem tS (i : Nat) (hi : l[i]? = some oi) (hy : YieldsIf P l.toArray S oi v a) (hS : S w) (h : wpAnyT P md l.toArray Q S n (tailL P md l Q n) f (listed.setIfInBounds i true) a' w)
  (hB : takeB md l.toArray n listed i = true := by kernel_rfl) (hQ : ∀ c a w, Q (.panic c) (a.put oi.dst v) w → Q (.panic c) a w := by exact fun _ _ _ h => h)
  (ha : a.put oi.dst v = a' := by (first | (simp only [Act.put, List.setIfInBounds_toArray, List.set_cons_zero, List.set_cons_succ]; rfl) | rfl)) : wpAnyT P md l.toArray Q S n (tailL P md l Q n) (f + 1) listed a w := by
 subst ha
 exact wpAnyT_take hi hB hQ hy hS h
theorem tO {o : Oper} {L : Array Bool → Act → World → Prop} (k : Nat) (h : ∀ K : Act → World → Prop, (∀ a' w', S w' → wpAnyT P md l.toArray Q S n L f (listed.setIfInBounds k true) a' w' → K a' w') → if Region.wanted o (yielded l.toArray a.tmps) = true then Oper.wp P o a w K Q else K (a.put o.dst undef) w)
  (hk : l[k]? = some o := by rfl) (hr : Region.ready md l.toArray listed = [k] := by kernel_rfl) (hn : k < n := by decide) : wpAnyT P md l.toArray Q S n L (f + 1) listed a w := wpAnyT_one hk hr hn h
variable {id : Nat}
theorem kB (bk : List Nat) (m : Nat) (S : World → Prop) (hs : S w.drew) (h : S w.drew → wpAnyV P .any l.toArray Q S bk m (Array.replicate m false) a w.drew)
  (hm : P.follows .mixedOrders = true := by kernel_rfl) (hl : l.length = m := by rfl) : (Code.region id l.toArray true).wp P Q a w := wp_region_V bk m S hm hl (h hs)
theorem tB (n m : Nat) (S : World → Prop) (hs : S w.drew) (h : S w.drew → wpAnyT P .any l.toArray Q S n (tailL P .any l Q n) n (Array.replicate m false) a w.drew)
  (hm : P.follows .mixedOrders = true := by kernel_rfl) (hl : l.length = m := by rfl) (hn : n ≤ m := by decide) : (Code.region id l.toArray true).wp P Q a w := wp_region_tail n m S hm hl hn (h hs)
end
end Go.Proofs.YtbijhkhkigdddaaGreat
