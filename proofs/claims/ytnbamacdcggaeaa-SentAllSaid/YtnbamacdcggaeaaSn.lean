/- Rows of two-cell elements at or beyond a base; one such element in a block of its own. No program. -/
import Derived.Test.YtnbamacdcggaeaaSp
import Derived.Test.YtnbamacdcggaeaaBx
namespace Go.Proofs.Ytnbamacdcggaeaa
open Go.RowKit

theorem ss_cell {w : World} {b o n c : Nat} {l : List Sp} (h : Ss w (some ⟨b, o, none⟩) n c l) : ∀ i, i < n → w.cell? ⟨b, o + i * 2, none⟩ = some (.int .i64 (sp l i).1) ∧ w.cell? ⟨b, o + i * 2 + 1, none⟩ = some (.int .i64 (sp l i).2) := fun i hi => by
  obtain ⟨b', o', e, _, hc⟩ := h.rd.at_ (by omega)
  cases e
  exact hc i hi
/-- a block of one element of the call's own -/
theorem sn_one (w : World) {p q : Int} (hp : W64 p) (hq : W64 q) (t : TypeId) : Ss (w.alloc (.cells #[.int .i64 p, .int .i64 q] t)) (some ⟨w.heap.size, 0, none⟩) 1 1 [(p, q)] :=
  ⟨Nat.le_refl _, by unfold maxLen; omega, (fun e => by cases e), rfl, wide_one hp hq, fun _ => ⟨w.heap.size, 0, rfl, by simp, fun i hi => by
    obtain rfl : i = 0 := by omega
    have h := Bx.new w t [.int .i64 p, .int .i64 q]
    exact ⟨h.cell 0 rfl, h.cell 1 rfl⟩⟩⟩
/-- a list whose row lies at or beyond base -/
structure Sn (w : World) (base : Nat) (G : Option Addr) (m d : Nat) (l : List Sp) : Prop where
  ss : Ss w G m d l
  at_ : ∀ b o s, G = some ⟨b, o, s⟩ → base ≤ b
theorem Sn.none (w : World) (base : Nat) : Sn w base .none 0 0 [] := ⟨Ss.none w, fun _ _ _ e => by cases e⟩
theorem Sn.mono {w : World} {base base' : Nat} {G : Option Addr} {m d : Nat} {l : List Sp} (h : Sn w base G m d l) (hb : base' ≤ base) : Sn w base' G m d l := ⟨h.ss, fun b o s e => Nat.le_trans hb (h.at_ b o s e)⟩
theorem Sn.keep {w w' : World} {base : Nat} {G : Option Addr} {m d : Nat} {l : List Sp} (h : Sn w base G m d l) (hb : Below w.heap.size w w') : Sn w' base G m d l := ⟨h.ss.keep hb, h.at_⟩
/-- what is stored in a block below the base changes no such list -/
theorem Sn.grown {w w' : World} {base B : Nat} {G : Option Addr} {m d : Nat} {l : List Sp} (h : Sn w base G m d l) (hg : w.grownBy w' (some B)) (hB : B < base) : Sn w' base G m d l := by
  refine ⟨⟨h.ss.le, h.ss.max, h.ss.nil, h.ss.rd.len, h.ss.rd.wide, fun h0 => ?_⟩, h.at_⟩
  obtain ⟨b, o, e, hlt, hc⟩ := h.ss.rd.at_ h0
  have hge := h.at_ b o _ e
  have hh := hg.block b hlt (by intro e; cases e; omega)
  refine ⟨b, o, e, Nat.lt_of_lt_of_le hlt hg.size, fun i hi => ?_⟩
  rw [← (hc i hi).1, ← (hc i hi).2]
  exact ⟨World.cell?_of_block (w := w) hh, World.cell?_of_block (w := w) hh⟩
theorem Gots.sn {w : World} {base e : Nat} {v : Value} {n : Nat} {l : List Sp} (h : Gots w base e v n l) : ∃ A c, v = .slice A n c ∧ Sn w base A n c l := by
  obtain ⟨A, c, ev, hs⟩ := h.ss
  subst ev
  refine ⟨A, c, rfl, hs, fun b o s ea => ?_⟩
  subst ea
  rcases h.row.2 with ⟨h1, _⟩ | ⟨g, cap, cur, h1, hg, _⟩
  · cases h1
  · cases h1; exact hg
theorem Gots.none (w : World) (base e : Nat) : Gots w base e (.slice .none 0 0) 0 [] := ⟨World.ownsRow_nil _ _ _ _, fun _ h => by simp at h⟩
end Go.Proofs.Ytnbamacdcggaeaa
