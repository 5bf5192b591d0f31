/- Rows of slices of ints: what lists of lists of ints in memory read as. No program of a stage. -/
import Derived.Test.YtbaaglgoodckmaaIt
namespace Go.Proofs.Ytbaaglgoodckmaa
open Go.RowKit
set_option linter.unusedVariables false

def li (L : List (List Int)) (i : Nat) : List Int := L.getD i []
theorem li_eq {L : List (List Int)} {i : Nat} (h : i < L.length) : li L i = L[i] := by unfold li; rw [List.getD_eq_getElem?_getD, List.getElem?_eq_getElem h]; rfl
/-- a slice of slices of ints -/
structure Ll (w : World) (A : Option Addr) (n c : Nat) (L : List (List Int)) : Prop where
  le : n ≤ c
  max : c ≤ maxLen
  nil : A = none → c = 0
  len : L.length = n
  at_ : 0 < n → ∃ b o, A = some ⟨b, o, none⟩ ∧ b < w.heap.size ∧ ∀ i, i < n → ∃ R m d, w.cell? ⟨b, o + i, none⟩ = some (.slice R m d) ∧ Si w R m d (li L i)
section
variable {w w' : World} {A : Option Addr} {n c : Nat} {L : List (List Int)}
theorem Ll.keep (h : Ll w A n c L) (hb : Below w.heap.size w w') : Ll w' A n c L :=
  ⟨h.le, h.max, h.nil, h.len, fun hn => by
    obtain ⟨b, o, e, hl, hc⟩ := h.at_ hn
    refine ⟨b, o, e, Nat.lt_of_lt_of_le hl hb.size, fun i hi => ?_⟩
    obtain ⟨R, m, d, h1, h2⟩ := hc i hi
    exact ⟨R, m, d, (hb.cell (p := ⟨b, o + i, none⟩) hl).trans h1, h2.keep hb⟩⟩
theorem Ll.alloc (h : Ll w A n c L) (o : Obj) : Ll (w.alloc o) A n c L := h.keep ((Below.refl _ _).alloc (Nat.le_refl _) o)
theorem Ll.none (w : World) : Ll w none 0 0 [] := ⟨Nat.le_refl _, Nat.zero_le _, fun _ => rfl, rfl, fun h => absurd h (by omega)⟩
theorem Ll.n9 (h : Ll w A n c L) : n ≤ 9223372036854775807 := by have := h.le; have := h.max; unfold maxLen at this; omega
/-- a literal of three lists -/
theorem ll_three {R1 R2 R3 : Option Addr} {m1 d1 m2 d2 m3 d3 : Nat} {l1 l2 l3 : List Int} (h1 : Si w R1 m1 d1 l1) (h2 : Si w R2 m2 d2 l2) (h3 : Si w R3 m3 d3 l3) (t : TypeId) :
    Ll (w.alloc (.cells #[.slice R1 m1 d1, .slice R2 m2 d2, .slice R3 m3 d3] t)) (some ⟨w.heap.size, 0, .none⟩) 3 3 [l1, l2, l3] :=
  have hb : Below w.heap.size w (w.alloc (.cells #[.slice R1 m1 d1, .slice R2 m2 d2, .slice R3 m3 d3] t)) := (Below.refl _ _).alloc (Nat.le_refl _) _
  ⟨Nat.le_refl _, by unfold maxLen; omega, (fun e => by cases e), rfl, fun _ => ⟨w.heap.size, 0, rfl, by simp, fun i hi => by
    match i, hi with
    | 0, _ => exact ⟨R1, m1, d1, by rw [World.cell?_alloc_new]; rfl, h1.keep hb⟩
    | 1, _ => exact ⟨R2, m2, d2, by rw [World.cell?_alloc_new]; rfl, h2.keep hb⟩
    | 2, _ => exact ⟨R3, m3, d3, by rw [World.cell?_alloc_new]; rfl, h3.keep hb⟩⟩⟩
/-- a row of the call's own under what lies below -/
theorem Goti.below {base e : Nat} {v : Value} {l : List Int} (h : Goti w base e v n l) (hb : Below w.heap.size w w') : Goti w' base e v n l := by
  refine ⟨⟨h.row.1, ?_⟩, h.wide⟩
  rcases h.row.2 with h1 | ⟨g, cap, cur, e1, e2, e3, e4⟩
  · exact .inl h1
  · exact .inr ⟨g, cap, cur, e1, e2, (hb.block g (Array.getElem?_eq_some_iff.1 e3).1).trans e3, e4⟩
theorem map_set (l : List Int) (i : Nat) (x : Int) : (l.set i x).map (Value.int .i64) = (l.map (Value.int .i64)).set i (.int .i64 x) := by
  rw [List.map_set]
/-- one element is stored -/
theorem Goti.set {base e g cap : Nat} {l : List Int} (h : Goti w base e (.slice (some ⟨g, 0, .none⟩) n cap) n l) (i : Nat) {x : Int} (hx : W64 x) :
    Goti (w.setCell ⟨g, i, .none⟩ (.int .i64 x)) base e (.slice (some ⟨g, 0, .none⟩) n cap) n (l.set i x) ∧ w.grownBy (w.setCell ⟨g, i, .none⟩ (.int .i64 x)) (some g) := by
  have hs := h.row.stored i (.int .i64 x)
  refine ⟨⟨?_, ?_⟩, hs.2⟩
  · rw [map_set]; exact hs.1
  · intro y hy
    rcases List.mem_or_eq_of_mem_set hy with h1 | h1
    · exact h.wide _ h1
    · subst h1; exact hx
end
end Go.Proofs.Ytbaaglgoodckmaa
