/- Package timer: what an api.Rtt and a []api.Timer that came in read as. -/
import Derived.Test.YtbkmadlekigjfaaStIn
import Derived.Test.YtbkmadlekigjfaaTm
namespace Go.Proofs.Ytbkmadlekigjfaa
open Go.ChangeShapes Go.WideShapes Go.ChangeAt Go.RowKit Go.Joins

theorem cells_rtt : Try.prog.cellsOf 23 = 5 := by kernel_rfl
theorem cells_tm : Try.prog.cellsOf 28 = 2 := by kernel_rfl
theorem open_rtt1 {H : Type} {enc : TypeId × Value → H} {W : World} {r : Reach} {b0 : Nat} {v : Value} {d : DataW H} {p : List MemPlace} (hv : Value.okWide Try.prog W r b0 23 v) (h : DataW.Trod enc Try.prog W 0 (fun _ => true) true 23 v d p) :
    ∃ x : Rt, v = .agg #[.bool x.has, .int .i64 x.srtt, .int .i64 x.vr, .int .i64 x.rto, .int .i64 x.shift] := by
  obtain ⟨v0, v1, v2, v3, v4, y0, y1, y2, y3, y4, n, rfl, h0, h1, h2, h3, h4⟩ := open_agg5 Try.underlying23 (by kernel_rfl) cells_rtt hv h
  obtain ⟨x0, e0, _⟩ := DataW.trod_bool Try.underlying4 h0
  obtain ⟨x1, e1, _, w1⟩ := DataW.trod_int Try.underlying3 h1
  obtain ⟨x2, e2, _, w2⟩ := DataW.trod_int Try.underlying3 h2
  obtain ⟨x3, e3, _, w3⟩ := DataW.trod_int Try.underlying3 h3
  obtain ⟨x4, e4, _, w4⟩ := DataW.trod_int Try.underlying3 h4
  simp only [List.cons.injEq, and_true] at e0 e1 e2 e3 e4
  subst e0 e1 e2 e3 e4
  exact ⟨⟨x0, x1, x2, x3, x4⟩, rfl⟩
theorem trod_struct2 {H : Type} {enc : TypeId × Value → H} {P : Program} {w : World} {base : Nat} {spare : Nat → Bool} {held : Bool} {t : TypeId} {f0 f1 : Field} {cs : List Value} {fuel : Nat} {y : DataW H × List MemPlace} (hs : P.underlying t = some (.struct #[f0, f1])) (hone : Go.Deep.oneCellFields P #[f0, f1] = true) (hC : P.cellsOf t = 2)
    (hf : DataW.trod enc P w base spare held fuel t cs = some y) :
    ∃ (v0 v1 : Value) (y0 y1 : DataW H × List MemPlace) (n : Nat), cs = [v0, v1] ∧
      DataW.trod enc P w base spare held n f0.type [v0] = some y0 ∧ DataW.trod enc P w base spare held n f1.type [v1] = some y1 := by
  obtain ⟨xs, n, _, _, hl, hlen, hf⟩ := DataW.trod_struct hs hf
  have h9 := hl.trans hC
  obtain ⟨o0, k0⟩ := Go.Deep.hone_of hone 0 f0 rfl
  obtain ⟨o1, k1⟩ := Go.Deep.hone_of hone 1 f1 rfl
  match cs, h9, xs, hlen with
  | [c0, c1], _, [y0, y1], _ =>
    exact ⟨c0, c1, y0, y1, n, rfl, by simpa [o0, k0] using hf 0 f0 rfl, by simpa [o1, k1] using hf 1 f1 rfl⟩
theorem tm_of {H : Type} {enc : TypeId × Value → H} {W : World} (n : Nat) (cs : List Value) (y : DataW H × List MemPlace) (h : DataW.trod enc Try.prog W 0 (fun _ => true) true n 28 cs = some y) : ∃ x : Tmr, cs = El.cells x ∧ El.ok x := by
  obtain ⟨v0, v1, y0, y1, m, rfl, h0, h1⟩ := trod_struct2 Try.underlying28 (by kernel_rfl) cells_tm h
  obtain ⟨a0, e0, _, w0⟩ := DataW.trod_int Try.underlying3 h0
  obtain ⟨a1, e1, _, w1⟩ := DataW.trod_int Try.underlying3 h1
  simp only [List.cons.injEq, and_true] at e0 e1
  subst e0 e1
  exact ⟨⟨a0, a1⟩, rfl, ⟨i64_of_wf w0, i64_of_wf w1⟩⟩
theorem open_tms {H : Type} {enc : TypeId × Value → H} {W : World} {a : Option Addr} {len cap : Nat} {d : DataW H} {p : List MemPlace} (h : DataW.Trod enc Try.prog W 0 (fun _ => true) true 25 (.slice a len cap) d p) : ∃ l : List Tmr, Se W a len cap l := by
  obtain ⟨fuel, hf⟩ := h
  obtain ⟨a', len', cap', l, e, hs⟩ := open_elems (α := Tmr) Try.underlying25 cells_tm tm_of (v := .slice a len cap) (by simpa [Value.cells] using hf)
  cases e
  exact ⟨l, hs⟩
end Go.Proofs.Ytbkmadlekigjfaa
