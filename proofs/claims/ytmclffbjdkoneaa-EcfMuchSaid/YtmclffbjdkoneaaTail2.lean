/- A region that draws its order: two operations alone may come up. No program. -/
import Derived.Test.YtmclffbjdkoneaaTail
namespace Go.Proofs.Ytmclffbjdkoneaa
open Go

section
variable {P : Program} {md : Region.Mode} {Q : Exit → Act → World → Prop} {S : World → Prop}
theorem wpAnyT_two {l : List Oper} {n k1 k2 : Nat} {o1 o2 : Oper} {f : Nat} {listed : Array Bool} {a : Act} {w : World} {L : Array Bool → Act → World → Prop} (hk1' : l[k1]? = some o1) (hk2' : l[k2]? = some o2)
    (hr : Region.ready md l.toArray listed = [k1, k2]) (hkn1 : k1 < n) (hkn2 : k2 < n)
    (h1 : ∀ K : Act → World → Prop, (∀ a' w', S w' → wpAnyT P md l.toArray Q S n L f (listed.setIfInBounds k1 true) a' w' → K a' w') → if Region.wanted o1 (yielded l.toArray a.tmps) = true then Oper.wp P o1 a w K Q else K (a.put o1.dst undef) w)
    (h2 : ∀ K : Act → World → Prop, (∀ a' w', S w' → wpAnyT P md l.toArray Q S n L f (listed.setIfInBounds k2 true) a' w' → K a' w') → if Region.wanted o2 (yielded l.toArray a.tmps) = true then Oper.wp P o2 a w K Q else K (a.put o2.dst undef) w) :
    wpAnyT P md l.toArray Q S n L (f + 1) listed a w := by
  have hk1 : l.toArray[k1]? = some o1 := by simpa using hk1'
  have hk2 : l.toArray[k2]? = some o2 := by simpa using hk2'
  refine ⟨fun h0 => (by rw [hr] at h0; cases h0), fun i hi => ?_⟩
  rw [hr] at hi
  rcases (by simpa using hi : i = k1 ∨ i = k2) with rfl | rfl
  · refine ⟨hkn1, ?_⟩
    have := h1 (fun a' w' => S w' ∧ wpAnyT P md l.toArray Q S n L f (listed.setIfInBounds i true) a' w') (fun a' w' h1 h2 => ⟨h1, h2⟩)
    unfold wpOp
    simp only [hk1]
    split
    · next hw => rw [if_pos hw] at this; exact .inl this
    · next hw => rw [if_neg hw] at this; exact this
  · refine ⟨hkn2, ?_⟩
    have := h2 (fun a' w' => S w' ∧ wpAnyT P md l.toArray Q S n L f (listed.setIfInBounds i true) a' w') (fun a' w' h1 h2 => ⟨h1, h2⟩)
    unfold wpOp
    simp only [hk2]
    split
    · next hw => rw [if_pos hw] at this; exact .inl this
    · next hw => rw [if_neg hw] at this; exact this
end
end Go.Proofs.Ytmclffbjdkoneaa
