/- Package xmp: what an api.Win and a []api.Way that came in read as. -/
import Derived.Test.YtjlomjdghmjkmaaIn
namespace Go.Proofs.Ytjlomjdghmjkmaa
open Go.ChangeShapes Go.WideShapes Go.ChangeAt Go.RowKit Go.Joins
theorem cells_way : Try.prog.cellsOf 38 = 2 := by kernel_rfl
theorem open_ways1 {H : Type} {enc : TypeId × Value → H} {W : World} {v : Value} {fuel : Nat} {d : DataW H} {p : List MemPlace} (hf : DataW.trod enc Try.prog W 0 (fun _ => true) true fuel 22 [v] = some (d, p)) : ∃ a len cap l, v = .slice a len cap ∧ Ss W a len cap l := by
  rcases Go.Deep.open_slice_pairs Try.underlying22 Try.underlying38 cells_way rfl rfl cells_int cells_int hf with ⟨hcs, _⟩ | ⟨x, len, cap, m, n, V0, V1, D0, D1, P0, P1, hcs, _, hl, hm, hmm, _, hall⟩
  · simp at hcs
    subst hcs
    exact ⟨none, 0, 0, [], rfl, Ss.none _⟩
  · simp at hcs
    subst hcs
    simp only [if_true] at hmm
    subst hmm
    have hint : ∀ i, i < m → ∃ q : Int × Int, V0 i = .int .i64 q.1 ∧ V1 i = .int .i64 q.2 ∧ W64 q.1 ∧ W64 q.2 := by
      intro i hi
      obtain ⟨_, _, t0, t1⟩ := hall i hi
      obtain ⟨q0, e0, _, w0⟩ := DataW.trod_int Try.underlying3 t0
      obtain ⟨q1, e1, _, w1⟩ := DataW.trod_int Try.underlying3 t1
      simp only [List.cons.injEq, and_true] at e0 e1
      exact ⟨(q0, q1), e0, e1, w64_of_wf w0, w64_of_wf w1⟩
    obtain ⟨q, hq⟩ := Go.Deep.choose_lt hint
    have hlen : ((List.range len).map q).length = len := by simp
    have hsp : ∀ i, i < len → sp ((List.range len).map q) i = q i := fun i hi => by
      rw [sp_eq (by simpa using hi)]; simp
    refine ⟨some x, len, _, (List.range len).map q, rfl, hl, hm, (fun e => by cases e), hlen, ?_, fun h0 => ?_⟩
    · intro z hz
      obtain ⟨i, hi, rfl⟩ := List.mem_map.1 hz
      have := List.mem_range.1 hi
      exact (hq i (by omega)).2.2
    · have c0 := (hall 0 (by omega)).1
      have hspot : x.spot = none := by
        have := World.cell?_spot c0
        simpa [Addr.add] using this
      have hlt := World.block_lt_of_cell? _ _ c0
      obtain ⟨b, o, s⟩ := x
      simp only at hspot
      subst hspot
      have hadd : ∀ j, (⟨b, o, none⟩ : Addr).add j = ⟨b, o + j, none⟩ := fun j => by
        unfold Addr.add
        split
        · next h => subst h; rfl
        · rfl
      refine ⟨b, o, rfl, by simpa [hadd] using hlt, fun i hi => ?_⟩
      obtain ⟨g0, g1, _, _⟩ := hall i (by omega)
      rw [hadd] at g0 g1
      rw [hsp i hi]
      have := hq i (by omega)
      exact ⟨by rw [g0, this.1], by rw [← Nat.add_assoc] at g1; rw [g1, this.2.1]⟩
theorem open_ways {H : Type} {enc : TypeId × Value → H} {W : World} {a : Option Addr} {len cap : Nat} {d : DataW H} {p : List MemPlace} (h : DataW.Trod enc Try.prog W 0 (fun _ => true) true 22 (.slice a len cap) d p) : ∃ l, Ss W a len cap l := by
  obtain ⟨fuel, hf⟩ := h
  obtain ⟨a', len', cap', l, e, hs⟩ := open_ways1 (v := .slice a len cap) (by simpa [Value.cells] using hf)
  cases e
  exact ⟨l, hs⟩
theorem cells_win : Try.prog.cellsOf 24 = 2 := by kernel_rfl
theorem open_win {H : Type} {enc : TypeId × Value → H} {W : World} {r : Reach} {b0 : Nat} {v : Value} {d : DataW H} {p : List MemPlace} (hv : Value.okWide Try.prog W r b0 24 v) (h : DataW.Trod enc Try.prog W 0 (fun _ => true) true 24 v d p) :
    ∃ a b, v = .agg #[.int .i64 a, .int .i64 b] := by
  obtain ⟨v0, v1, y0, y1, n, rfl, rfl, rfl, h0, h1⟩ := open_agg2 Try.underlying24 (by kernel_rfl) cells_win hv h
  obtain ⟨a, e0, _, w0⟩ := DataW.trod_int Try.underlying3 h0
  obtain ⟨b, e1, _, w1⟩ := DataW.trod_int Try.underlying3 h1
  simp only [List.cons.injEq, and_true] at e0 e1
  subst e0 e1
  exact ⟨a, b, rfl⟩
end Go.Proofs.Ytjlomjdghmjkmaa
