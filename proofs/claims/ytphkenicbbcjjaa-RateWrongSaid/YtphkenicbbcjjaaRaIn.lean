/- Package rate: what an api.Rate that came in reads as. -/
import Derived.Test.YtphkenicbbcjjaaIn
namespace Go.Proofs.Ytphkenicbbcjjaa
open Go.ChangeShapes Go.WideShapes Go.ChangeAt Go.RowKit Go.Joins

theorem cells_ra : Try.prog.cellsOf 24 = 3 := by kernel_rfl
theorem open_rate {H : Type} {enc : TypeId × Value → H} {W : World} {r : Reach} {b0 : Nat} {v : Value} {d : DataW H} {p : List MemPlace} (hv : Value.okWide Try.prog W r b0 24 v) (h : DataW.Trod enc Try.prog W 0 (fun _ => true) true 24 v d p) :
    ∃ total last A n c l, v = .agg #[.int .i64 total, .int .i64 last, .slice A n c] ∧ Si W A n c l := by
  obtain ⟨v0, v1, v2, y0, y1, y2, n, rfl, h0, h1, h2⟩ := open_agg3 Try.underlying24 (by kernel_rfl) cells_ra hv h
  obtain ⟨a, e0, _, w0⟩ := DataW.trod_int Try.underlying3 h0
  obtain ⟨b, e1, _, w1⟩ := DataW.trod_int Try.underlying3 h1
  obtain ⟨A, m, c, l, rfl, hs⟩ := open_nums1 h2
  simp only [List.cons.injEq, and_true] at e0 e1
  subst e0 e1
  exact ⟨a, b, A, m, c, l, rfl, hs⟩
end Go.Proofs.Ytphkenicbbcjjaa
