/- Package sent: what an api.Sent and a []api.Sent that came in read as. -/
import Derived.Test.YtbkmadlekigjfaaIn
import Derived.Test.YtbkmadlekigjfaaRoIn
import Derived.Test.YtbkmadlekigjfaaSt
namespace Go.Proofs.Ytbkmadlekigjfaa
open Go.ChangeShapes Go.WideShapes Go.ChangeAt Go.RowKit Go.Joins

theorem cells_prt : Try.prog.cellsOf 38 = 9 := by kernel_rfl
theorem i64_of_wf {n : Int} (h : (Lit.int .i64 n).wf = true) : i64 n := by
  have := w64_of_wf h
  unfold W64 at this
  unfold i64; omega
theorem prt_of {H : Type} {enc : TypeId × Value → H} {W : World} (n : Nat) (cs : List Value) (y : DataW H × List MemPlace) (h : DataW.trod enc Try.prog W 0 (fun _ => true) true n 38 cs = some y) : ∃ x : Prt, cs = El.cells x ∧ El.ok x := by
  obtain ⟨v0, v1, v2, v3, v4, v5, v6, v7, v8, y0, y1, y2, y3, y4, y5, y6, y7, y8, m, rfl, h0, h1, h2, h3, h4, h5, h6, h7, h8⟩ := trod_struct9 Try.underlying38 (by kernel_rfl) cells_prt h
  obtain ⟨a0, e0, _, w0⟩ := DataW.trod_int Try.underlying3 h0
  obtain ⟨a1, e1, _, w1⟩ := DataW.trod_int Try.underlying3 h1
  obtain ⟨a2, e2, _, w2⟩ := DataW.trod_int Try.underlying3 h2
  obtain ⟨a3, e3, _, w3⟩ := DataW.trod_int Try.underlying3 h3
  obtain ⟨a4, e4, _, w4⟩ := DataW.trod_int Try.underlying3 h4
  obtain ⟨a5, e5, _⟩ := DataW.trod_bool Try.underlying4 h5
  obtain ⟨a6, e6, _⟩ := DataW.trod_bool Try.underlying4 h6
  obtain ⟨a7, e7, _, w7⟩ := DataW.trod_int Try.underlying3 h7
  obtain ⟨a8, e8, _, w8⟩ := DataW.trod_int Try.underlying3 h8
  simp only [List.cons.injEq, and_true] at e0 e1 e2 e3 e4 e5 e6 e7 e8
  subst e0 e1 e2 e3 e4 e5 e6 e7 e8
  exact ⟨⟨a0, a1, a2, a3, a4, a5, a6, a7, a8⟩, rfl, ⟨i64_of_wf w0, i64_of_wf w1, i64_of_wf w2, i64_of_wf w3, i64_of_wf w4, i64_of_wf w7, i64_of_wf w8⟩⟩
theorem open_prt {H : Type} {enc : TypeId × Value → H} {W : World} {r : Reach} {b0 : Nat} {v : Value} {d : DataW H} {p : List MemPlace} (hv : Value.okWide Try.prog W r b0 38 v) (h : DataW.Trod enc Try.prog W 0 (fun _ => true) true 38 v d p) :
    ∃ x : Prt, v = .agg #[.int .i64 x.seq, .int .i64 x.len, .int .i64 x.dsn, .int .i64 x.at_, .int .i64 x.tries, .bool x.came, .bool x.lost, .int .i64 x.total, .int .i64 x.last] ∧ PrtW x := by
  obtain ⟨cs, rfl, hsz⟩ := okWide_struct Try.underlying38 hv
  obtain ⟨fuel, hf⟩ := h
  obtain ⟨x, e, hx⟩ := prt_of fuel _ _ hf
  refine ⟨x, ?_, hx⟩
  obtain ⟨cs⟩ := cs
  simp only [Value.cells] at e
  subst e
  rfl
theorem open_prts {H : Type} {enc : TypeId × Value → H} {W : World} {a : Option Addr} {len cap : Nat} {d : DataW H} {p : List MemPlace} (h : DataW.Trod enc Try.prog W 0 (fun _ => true) true 24 (.slice a len cap) d p) : ∃ l : List Prt, Se W a len cap l := by
  obtain ⟨fuel, hf⟩ := h
  obtain ⟨a', len', cap', l, e, hs⟩ := open_elems (α := Prt) Try.underlying24 cells_prt prt_of (v := .slice a len cap) (by simpa [Value.cells] using hf)
  cases e
  exact ⟨l, hs⟩
end Go.Proofs.Ytbkmadlekigjfaa
