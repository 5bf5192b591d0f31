/- Package keep: what an api.Keep that came in reads as. -/
import Derived.Test.YtmnedaholdacnaaByIn
import Derived.Lib.SmallJoins
namespace Go.Proofs.Ytmnedaholdacnaa
open Go.ChangeShapes Go.WideShapes Go.ChangeAt Go.RowKit Go.Joins

theorem cells_ke : Try.prog.cellsOf 24 = 4 := by kernel_rfl

theorem open_keep {H : Type} {enc : TypeId × Value → H} {W : World} {r : Reach} {b0 : Nat} {v : Value} {d : DataW H} {p : List MemPlace} (hv : Value.okWide Try.prog W r b0 24 v) (h : DataW.Trod enc Try.prog W 0 (fun _ => true) true 24 v d p) :
    ∃ base A n c cap sh l, v = .agg #[.int .i64 base, .slice A n c, .int .i64 cap, .bool sh] ∧ W64 base ∧ W64 cap ∧ Sl W A n c l := by
  obtain ⟨v0, v1, v2, v3, y0, y1, y2, y3, n, rfl, rfl, rfl, h0, h1, h2, h3⟩ := open_agg4 Try.underlying24 (by kernel_rfl) cells_ke hv h
  obtain ⟨a, e0, _, w0⟩ := DataW.trod_int Try.underlying3 h0
  obtain ⟨A, m, c, l, rfl, hs⟩ := open_bytes1 h1
  obtain ⟨b, e2, _, w2⟩ := DataW.trod_int Try.underlying3 h2
  obtain ⟨q, e3, _⟩ := DataW.trod_bool Try.underlying4 h3
  simp only [List.cons.injEq, and_true] at e0 e2 e3
  subst e0 e2 e3
  exact ⟨a, A, m, c, b, q, l, rfl, w64_of_wf w0, w64_of_wf w2, hs⟩
end Go.Proofs.Ytmnedaholdacnaa
