/- Package ecf: what an api.Choice and a []api.Choice that came in read as. -/
import Derived.Test.YtmclffbjdkoneaaRoIn
import Derived.Test.YtmclffbjdkoneaaIn
import Derived.Test.YtmclffbjdkoneaaEc
namespace Go.Proofs.Ytmclffbjdkoneaa
open Go.ChangeShapes Go.WideShapes Go.ChangeAt Go.RowKit Go.Joins

theorem cells_ch : Try.prog.cellsOf 28 = 5 := by kernel_rfl
theorem c64_of_wf {n : Int} (h : (Lit.int .i64 n).wf = true) : w64c n := w64_of_wf h
theorem trod_struct5 {H : Type} {enc : TypeId × Value → H} {P : Program} {w : World} {base : Nat} {spare : Nat → Bool} {held : Bool} {t : TypeId} {f0 f1 f2 f3 f4 : Field} {cs : List Value} {fuel : Nat} {y : DataW H × List MemPlace} (hs : P.underlying t = some (.struct #[f0, f1, f2, f3, f4])) (hone : Go.Deep.oneCellFields P #[f0, f1, f2, f3, f4] = true) (hC : P.cellsOf t = 5)
    (hf : DataW.trod enc P w base spare held fuel t cs = some y) :
    ∃ (v0 v1 v2 v3 v4 : Value) (y0 y1 y2 y3 y4 : DataW H × List MemPlace) (n : Nat), cs = [v0, v1, v2, v3, v4] ∧
      DataW.trod enc P w base spare held n f0.type [v0] = some y0 ∧ DataW.trod enc P w base spare held n f1.type [v1] = some y1 ∧ DataW.trod enc P w base spare held n f2.type [v2] = some y2 ∧ DataW.trod enc P w base spare held n f3.type [v3] = some y3 ∧ DataW.trod enc P w base spare held n f4.type [v4] = some y4 := by
  obtain ⟨xs, n, _, _, hl, hlen, hf⟩ := DataW.trod_struct hs hf
  have h9 := hl.trans hC
  obtain ⟨o0, k0⟩ := Go.Deep.hone_of hone 0 f0 rfl
  obtain ⟨o1, k1⟩ := Go.Deep.hone_of hone 1 f1 rfl
  obtain ⟨o2, k2⟩ := Go.Deep.hone_of hone 2 f2 rfl
  obtain ⟨o3, k3⟩ := Go.Deep.hone_of hone 3 f3 rfl
  obtain ⟨o4, k4⟩ := Go.Deep.hone_of hone 4 f4 rfl
  match cs, h9, xs, hlen with
  | [c0, c1, c2, c3, c4], _, [y0, y1, y2, y3, y4], _ =>
    exact ⟨c0, c1, c2, c3, c4, y0, y1, y2, y3, y4, n, rfl, by simpa [o0, k0] using hf 0 f0 rfl, by simpa [o0, k0, o1, k1] using hf 1 f1 rfl, by simpa [o0, k0, o1, k1, o2, k2] using hf 2 f2 rfl, by simpa [o0, k0, o1, k1, o2, k2, o3, k3] using hf 3 f3 rfl, by simpa [o0, k0, o1, k1, o2, k2, o3, k3, o4, k4] using hf 4 f4 rfl⟩
theorem ch_of {H : Type} {enc : TypeId × Value → H} {W : World} (n : Nat) (cs : List Value) (y : DataW H × List MemPlace) (h : DataW.trod enc Try.prog W 0 (fun _ => true) true n 28 cs = some y) : ∃ x : Chv, cs = El.cells x ∧ El.ok x := by
  obtain ⟨v0, v1, v2, v3, v4, y0, y1, y2, y3, y4, m, rfl, h0, h1, h2, h3, h4⟩ := trod_struct5 Try.underlying28 (by kernel_rfl) cells_ch h
  obtain ⟨a0, e0, _⟩ := DataW.trod_bool Try.underlying4 h0
  obtain ⟨a1, e1, _, w1⟩ := DataW.trod_int Try.underlying3 h1
  obtain ⟨a2, e2, _, w2⟩ := DataW.trod_int Try.underlying3 h2
  obtain ⟨a3, e3, _, w3⟩ := DataW.trod_int Try.underlying3 h3
  obtain ⟨a4, e4, _, w4⟩ := DataW.trod_int Try.underlying3 h4
  simp only [List.cons.injEq, and_true] at e0 e1 e2 e3 e4
  subst e0 e1 e2 e3 e4
  exact ⟨⟨a0, a1, a2, a3, a4⟩, rfl, ⟨c64_of_wf w1, c64_of_wf w2, c64_of_wf w3, c64_of_wf w4⟩⟩
theorem open_choice {H : Type} {enc : TypeId × Value → H} {W : World} {r : Reach} {b0 : Nat} {v : Value} {d : DataW H} {p : List MemPlace} (hv : Value.okWide Try.prog W r b0 28 v) (h : DataW.Trod enc Try.prog W 0 (fun _ => true) true 28 v d p) :
    ∃ x : Chv, v = .agg #[.bool x.up, .int .i64 x.cwnd, .int .i64 x.flight, .int .i64 x.srtt, .int .i64 x.vr] ∧ ChW x := by
  obtain ⟨cs, rfl, hsz⟩ := okWide_struct Try.underlying28 hv
  obtain ⟨fuel, hf⟩ := h
  obtain ⟨x, e, hx⟩ := ch_of fuel _ _ hf
  refine ⟨x, ?_, hx⟩
  obtain ⟨cs⟩ := cs
  simp only [Value.cells] at e
  subst e
  rfl
theorem open_choices {H : Type} {enc : TypeId × Value → H} {W : World} {a : Option Addr} {len cap : Nat} {d : DataW H} {p : List MemPlace} (h : DataW.Trod enc Try.prog W 0 (fun _ => true) true 22 (.slice a len cap) d p) : ∃ l : List Chv, Se W a len cap l := by
  obtain ⟨fuel, hf⟩ := h
  obtain ⟨a', len', cap', l, e, hs⟩ := open_elems (α := Chv) Try.underlying22 cells_ch ch_of (v := .slice a len cap) (by simpa [Value.cells] using hf)
  cases e
  exact ⟨l, hs⟩
end Go.Proofs.Ytmclffbjdkoneaa
