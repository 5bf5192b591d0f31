/- Package rate: what the landed calls are asked to answer: a list whose row, where it has one, is new or the caller's. No program. -/
import Derived.Test.YtphkenicbbcjjaaRa
import Derived.Test.YtphkenicbbcjjaaSni
namespace Go.Proofs.Ytphkenicbbcjjaa
open Go.RowKit
set_option linter.unusedVariables false

/-- a list of ints whose row's block, where it is not empty, is one of p -/
structure Sq (w : World) (p : Nat → Prop) (G : Option Addr) (m d : Nat) (l : List Int) : Prop where
  si : Si w G m d l
  at_ : 0 < m → ∀ b o s, G = some ⟨b, o, s⟩ → p b
section
variable {w w' : World} {p q : Nat → Prop} {G : Option Addr} {m d : Nat} {l : List Int}
theorem Sq.keep (h : Sq w p G m d l) (hb : Below w.heap.size w w') : Sq w' p G m d l := ⟨h.si.keep hb, h.at_⟩
theorem Sq.alloc (h : Sq w p G m d l) (o : Obj) : Sq (w.alloc o) p G m d l := ⟨h.si.alloc o, h.at_⟩
theorem Sq.imp (h : Sq w p G m d l) (hp : ∀ b, p b → q b) : Sq w q G m d l := ⟨h.si, fun h0 b o s e => hp b (h.at_ h0 b o s e)⟩
theorem Sq.none (w : World) (p : Nat → Prop) : Sq w p .none 0 0 [] := ⟨Si.none w, fun h => absurd h (by omega)⟩
theorem Si.sq (h : Si w G m d l) : Sq w (fun _ => True) G m d l := ⟨h, fun _ _ _ _ _ => trivial⟩
theorem Sni.sq {base : Nat} (h : Sni w base G m d l) (hp : ∀ b, base ≤ b → p b) : Sq w p G m d l := ⟨h.si, fun _ b o s e => hp b (h.at_ b o s e)⟩
theorem Sq.grown {row : Option Nat} (h : Sq w p G m d l) (hg : w.grownBy w' row) (hne : ∀ b, p b → row ≠ some b) : Sq w' p G m d l := by
  refine ⟨⟨h.si.le, h.si.max, h.si.nil, h.si.rd.len, h.si.rd.wide, fun h0 => ?_⟩, h.at_⟩
  obtain ⟨b, o, e, hlt, hc⟩ := h.si.rd.at_ h0
  have hh := hg.block b hlt (fun e2 => hne b (h.at_ h0 b o _ e) e2.symm)
  refine ⟨b, o, e, Nat.lt_of_lt_of_le hlt hg.size, fun i hi => ?_⟩
  rw [← hc i hi]
  exact World.cell?_of_block (w := w) hh
theorem Sq.len (h : Sq w p G m d l) : l.length = m := h.si.rd.len
end
/-- a rate and an error; a rate, a number and an error -/
def TellCP (p : Nat → Prop) (w w' : World) (e : Ending) (x : Rv × Int) : Prop := ∃ R m d, e = .returned (.tuple #[.agg #[.int .i64 x.1.total, .int .i64 x.1.last, .slice R m d], .int .i64 x.2]) ∧ Sq w' p R m d x.1.l ∧ Below w.heap.size w w'
def TellSP (p : Nat → Prop) (w w' : World) (e : Ending) (x : Rv × Int × Int) : Prop := ∃ R m d, e = .returned (.tuple #[.agg #[.int .i64 x.1.total, .int .i64 x.1.last, .slice R m d], .int .i64 x.2.1, .int .i64 x.2.2]) ∧ Sq w' p R m d x.1.l ∧ Below w.heap.size w w'
end Go.Proofs.Ytphkenicbbcjjaa
