/- Rows of ints at or beyond a base. No program of a stage. -/
import Derived.Test.YtbaaglgoodckmaaIt
import Derived.Test.YtbaaglgoodckmaaBx
namespace Go.Proofs.Ytbaaglgoodckmaa
open Go.RowKit

theorem si_cell {w : World} {b o n c : Nat} {l : List Int} (h : Si w (some ⟨b, o, none⟩) n c l) : ∀ i, i < n → w.cell? ⟨b, o + i, none⟩ = some (.int .i64 (it l i)) := fun i hi => by
  obtain ⟨b', o', e, _, hc⟩ := h.rd.at_ (by omega)
  cases e
  exact hc i hi
theorem Si.alloc {w : World} {A : Option Addr} {n c : Nat} {l : List Int} (h : Si w A n c l) (o : Obj) : Si (w.alloc o) A n c l := h.keep ((Below.refl _ _).alloc (Nat.le_refl _) o)
/-- a list of ints whose row lies at or beyond base -/
structure Sni (w : World) (base : Nat) (G : Option Addr) (m d : Nat) (l : List Int) : Prop where
  si : Si w G m d l
  at_ : ∀ b o s, G = some ⟨b, o, s⟩ → base ≤ b
theorem Sni.none (w : World) (base : Nat) : Sni w base .none 0 0 [] := ⟨Si.none w, fun _ _ _ e => by cases e⟩
theorem Sni.mono {w : World} {base base' : Nat} {G : Option Addr} {m d : Nat} {l : List Int} (h : Sni w base G m d l) (hb : base' ≤ base) : Sni w base' G m d l := ⟨h.si, fun b o s e => Nat.le_trans hb (h.at_ b o s e)⟩
theorem Sni.keep {w w' : World} {base : Nat} {G : Option Addr} {m d : Nat} {l : List Int} (h : Sni w base G m d l) (hb : Below w.heap.size w w') : Sni w' base G m d l := ⟨h.si.keep hb, h.at_⟩
theorem Sni.grownAny {w w' : World} {base : Nat} {G : Option Addr} {m d : Nat} {l : List Int} {row : Option Nat} (h : Sni w base G m d l) (hg : w.grownBy w' row) (hB : ∀ b, row = some b → b < base) : Sni w' base G m d l := by
  refine ⟨⟨h.si.le, h.si.max, h.si.nil, h.si.rd.len, h.si.rd.wide, fun h0 => ?_⟩, h.at_⟩
  obtain ⟨b, o, e, hlt, hc⟩ := h.si.rd.at_ h0
  have hge := h.at_ b o _ e
  have hh := hg.block b hlt (by intro e2; have := hB b e2.symm; omega)
  refine ⟨b, o, e, Nat.lt_of_lt_of_le hlt hg.size, fun i hi => ?_⟩
  rw [← hc i hi]
  exact World.cell?_of_block (w := w) hh
theorem Sni.grown {w w' : World} {base B : Nat} {G : Option Addr} {m d : Nat} {l : List Int} (h : Sni w base G m d l) (hg : w.grownBy w' (some B)) (hB : B < base) : Sni w' base G m d l := h.grownAny hg (fun b e => by cases e; exact hB)
theorem Goti.sni {w : World} {base e : Nat} {v : Value} {n : Nat} {l : List Int} (h : Goti w base e v n l) : ∃ A c, v = .slice A n c ∧ Sni w base A n c l := by
  obtain ⟨A, c, ev, hs⟩ := h.si
  subst ev
  refine ⟨A, c, rfl, hs, fun b o s ea => ?_⟩
  subst ea
  rcases h.row.2 with ⟨h1, _⟩ | ⟨g, cap, cur, h1, hg, _⟩
  · cases h1
  · cases h1; exact hg
theorem Goti.mono {w : World} {base base' e : Nat} {v : Value} {n : Nat} {l : List Int} (h : Goti w base e v n l) (hb : base' ≤ base) : Goti w base' e v n l :=
  ⟨⟨h.row.1, h.row.2.imp id fun ⟨g, cap, cur, h1, h2, h3⟩ => ⟨g, cap, cur, h1, Nat.le_trans hb h2, h3⟩⟩, h.wide⟩
theorem Sni.cut {w : World} {base : Nat} {G : Option Addr} {n c k m d : Nat} {l : List Int} (h : Sni w base G n c l) (hn : n = m + k) (hc : c = d + k) : Sni w base (cutI G k c) m d (l.drop k) := by
  refine ⟨h.si.cut hn hc, fun b o s e => ?_⟩
  unfold cutI at e
  split at e
  · exact h.at_ b o s e
  · cases hG : G with
    | none => rw [hG] at e; cases e
    | some a =>
      rw [hG] at e
      obtain ⟨b0, o0, s0⟩ := a
      have hb := h.at_ b0 o0 s0 hG
      simp only [Option.map_some, Addr.add] at e
      split at e <;> (cases e; exact hb)
end Go.Proofs.Ytbaaglgoodckmaa
