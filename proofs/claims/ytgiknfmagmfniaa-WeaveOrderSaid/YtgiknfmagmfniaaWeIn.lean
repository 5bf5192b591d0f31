/- Package weave: what an api.Weave that came in reads as (in the place of ByIn, which names some of SpIn's words anew). -/
import Derived.Test.YtgiknfmagmfniaaSpIn
import Derived.Test.YtgiknfmagmfniaaBy
import Derived.Lib.SmallJoins
namespace Go.Proofs.Ytgiknfmagmfniaa
open Go.ChangeShapes Go.WideShapes Go.ChangeAt Go.RowKit Go.Joins

theorem sl_of_cells {W : World} {A : Option Addr} {len cap : Nat} {zs : List Int} (hl : len ≤ cap) (hm : cap ≤ maxLen) (hn : A = none → cap = 0) (hz : zs.length = cap) (hw : ∀ n ∈ zs, (Lit.int .u8 n).wf = true)
    (hc : ∀ a, A = some a → ∀ i, i < cap → W.cell? (a.add i) = some (.int .u8 (zs.getD i 0))) : Sl W A len cap (zs.take len) := by
  refine ⟨hl, hm, hn, ?_⟩
  cases A with
  | none =>
    have h0 := hn rfl
    obtain rfl : len = 0 := by omega
    rw [List.take_zero]
    exact Rd.empty _ _
  | some a =>
    have hca := hc a rfl
    refine Rd.of_ints hl hz (fun i hi => hca i (by omega)) hw (fun b o e h0 => ?_)
    have := World.block_lt_of_cell? _ _ (hca 0 (by omega))
    rw [e] at this
    simpa [Addr.add] using this

theorem open_bytes {H : Type} {enc : TypeId × Value → H} {W : World} {a : Option Addr} {len cap : Nat} {d : DataW H} {p : List MemPlace} (h : DataW.Trod enc Try.prog W 0 (fun _ => true) true 22 (.slice a len cap) d p) : ∃ l, Sl W a len cap l := by
  obtain ⟨fuel, hf⟩ := h
  rcases open_ints Try.underlying22 Try.underlying5 (by kernel_rfl) hf with ⟨hcs, _⟩ | ⟨x, l, c, zs, hcs, _, hl, hm, hz, _, hcell, hwz⟩
  · simp [Value.cells] at hcs
    obtain ⟨rfl, rfl, rfl⟩ := hcs
    exact ⟨[], Nat.le_refl _, by unfold maxLen; omega, fun _ => rfl, Rd.empty _ _⟩
  · simp [Value.cells] at hcs
    obtain ⟨rfl, rfl, rfl⟩ := hcs
    have hz' : zs.length = cap := by simpa using hz
    exact ⟨_, sl_of_cells hl hm (fun e => by cases e) hz' hwz (fun a e i hi => by cases e; exact hcell i (by omega))⟩

theorem open_bytes1 {H : Type} {enc : TypeId × Value → H} {W : World} {v : Value} {fuel : Nat} {d : DataW H} {p : List MemPlace} (hf : DataW.trod enc Try.prog W 0 (fun _ => true) true fuel 22 [v] = some (d, p)) : ∃ A n c l, v = .slice A n c ∧ Sl W A n c l := by
  rcases open_ints Try.underlying22 Try.underlying5 (by kernel_rfl) hf with ⟨hcs, _⟩ | ⟨x, l, c, zs, hcs, _, hl, hm, hz, hreach, hcell, hwz⟩
  · simp at hcs
    subst hcs
    exact ⟨none, 0, 0, [], rfl, Sl.none _⟩
  · simp at hcs
    subst hcs
    have hz' : zs.length = c := by simpa using hz
    exact ⟨some x, l, c, zs.take l, rfl, sl_of_cells hl hm (fun e => by cases e) hz' hwz (fun a e i hi => by cases e; exact hcell i (by omega))⟩
theorem open_spans1 {H : Type} {enc : TypeId × Value → H} {W : World} {v : Value} {fuel : Nat} {d : DataW H} {p : List MemPlace} (hf : DataW.trod enc Try.prog W 0 (fun _ => true) true fuel 23 [v] = some (d, p)) : ∃ a len cap l, v = .slice a len cap ∧ Ss W a len cap l := by
  rcases Go.Deep.open_slice_pairs Try.underlying23 Try.underlying52 cells_sp rfl rfl cells_int cells_int hf with ⟨hcs, _⟩ | ⟨x, len, cap, m, n, V0, V1, D0, D1, P0, P1, hcs, _, hl, hm, hmm, _, hall⟩
  · simp at hcs
    subst hcs
    exact ⟨none, 0, 0, [], rfl, Ss.none _⟩
  · simp at hcs
    subst hcs
    simp only [if_true] at hmm
    subst hmm
    have hint : ∀ i, i < m → ∃ q : Int × Int, V0 i = .int .i64 q.1 ∧ V1 i = .int .i64 q.2 ∧ W64 q.1 ∧ W64 q.2 := by
      intro i hi
      obtain ⟨_, _, t0, t1⟩ := hall i hi
      obtain ⟨q0, e0, _, w0⟩ := DataW.trod_int Try.underlying3 t0
      obtain ⟨q1, e1, _, w1⟩ := DataW.trod_int Try.underlying3 t1
      simp only [List.cons.injEq, and_true] at e0 e1
      exact ⟨(q0, q1), e0, e1, w64_of_wf w0, w64_of_wf w1⟩
    obtain ⟨q, hq⟩ := Go.Deep.choose_lt hint
    have hlen : ((List.range len).map q).length = len := by simp
    have hsp : ∀ i, i < len → sp ((List.range len).map q) i = q i := fun i hi => by
      rw [sp_eq (by simpa using hi)]; simp
    refine ⟨some x, len, _, (List.range len).map q, rfl, hl, hm, (fun e => by cases e), hlen, ?_, fun h0 => ?_⟩
    · intro z hz
      obtain ⟨i, hi, rfl⟩ := List.mem_map.1 hz
      have := List.mem_range.1 hi
      exact (hq i (by omega)).2.2
    · have c0 := (hall 0 (by omega)).1
      have hspot : x.spot = none := by
        have := World.cell?_spot c0
        simpa [Addr.add] using this
      have hlt := World.block_lt_of_cell? _ _ c0
      obtain ⟨b, o, s⟩ := x
      simp only at hspot
      subst hspot
      have hadd : ∀ j, (⟨b, o, none⟩ : Addr).add j = ⟨b, o + j, none⟩ := fun j => by
        unfold Addr.add
        split
        · next h => subst h; rfl
        · rfl
      refine ⟨b, o, rfl, by simpa [hadd] using hlt, fun i hi => ?_⟩
      obtain ⟨g0, g1, _, _⟩ := hall i (by omega)
      rw [hadd] at g0 g1
      rw [hsp i hi]
      have := hq i (by omega)
      exact ⟨by rw [g0, this.1], by rw [← Nat.add_assoc] at g1; rw [g1, this.2.1]⟩
theorem open_agg5 {H : Type} {enc : TypeId × Value → H} {P : Program} {w : World} {base : Nat} {spare : Nat → Bool} {held : Bool} {r : Reach} {b0 : Nat} {t : TypeId} {f0 f1 f2 f3 f4 : Field} {v : Value} {d : DataW H} {p : List MemPlace} (hs : P.underlying t = some (.struct #[f0, f1, f2, f3, f4])) (hone : Go.Deep.oneCellFields P #[f0, f1, f2, f3, f4] = true) (hC : P.cellsOf t = 5)
    (hv : Value.okWide P w r b0 t v) (h : DataW.Trod enc P w base spare held t v d p) :
    ∃ (v0 v1 v2 v3 v4 : Value) (y0 y1 y2 y3 y4 : DataW H × List MemPlace) (n : Nat), v = .agg #[v0, v1, v2, v3, v4] ∧
      DataW.trod enc P w base spare held n f0.type [v0] = some y0 ∧ DataW.trod enc P w base spare held n f1.type [v1] = some y1 ∧ DataW.trod enc P w base spare held n f2.type [v2] = some y2 ∧ DataW.trod enc P w base spare held n f3.type [v3] = some y3 ∧ DataW.trod enc P w base spare held n f4.type [v4] = some y4 := by
  obtain ⟨cs, rfl, hsz⟩ := okWide_struct hs hv
  have h5 := hsz.trans hC
  obtain ⟨cs⟩ := cs
  match cs, h5 with
  | [c0, c1, c2, c3, c4], _ =>
  obtain ⟨fuel, hf⟩ := h
  obtain ⟨xs, n, _, _, hl, hlen, hf⟩ := DataW.trod_struct hs hf
  obtain ⟨o0, k0⟩ := Go.Deep.hone_of hone 0 f0 rfl
  obtain ⟨o1, k1⟩ := Go.Deep.hone_of hone 1 f1 rfl
  obtain ⟨o2, k2⟩ := Go.Deep.hone_of hone 2 f2 rfl
  obtain ⟨o3, k3⟩ := Go.Deep.hone_of hone 3 f3 rfl
  obtain ⟨o4, k4⟩ := Go.Deep.hone_of hone 4 f4 rfl
  match xs, hlen with
  | [y0, y1, y2, y3, y4], _ =>
    exact ⟨c0, c1, c2, c3, c4, y0, y1, y2, y3, y4, n, rfl, by simpa [Value.cells, o0, k0] using hf 0 f0 rfl, by simpa [Value.cells, o1, k1] using hf 1 f1 rfl, by simpa [Value.cells, o2, k2] using hf 2 f2 rfl, by simpa [Value.cells, o3, k3] using hf 3 f3 rfl, by simpa [Value.cells, o4, k4] using hf 4 f4 rfl⟩
theorem cells_we : Try.prog.cellsOf 25 = 5 := by kernel_rfl
theorem open_weave {H : Type} {enc : TypeId × Value → H} {W : World} {r : Reach} {b0 : Nat} {v : Value} {d : DataW H} {p : List MemPlace} (hv : Value.okWide Try.prog W r b0 25 v) (h : DataW.Trod enc Try.prog W 0 (fun _ => true) true 25 v d p) :
    ∃ base A n c G m g cap en l k, v = .agg #[.int .i64 base, .slice A n c, .slice G m g, .int .i64 cap, .int .i64 en] ∧ W64 base ∧ W64 cap ∧ W64 en ∧ Sl W A n c l ∧ Ss W G m g k := by
  obtain ⟨v0, v1, v2, v3, v4, y0, y1, y2, y3, y4, n, rfl, h0, h1, h2, h3, h4⟩ := open_agg5 Try.underlying25 (by kernel_rfl) cells_we hv h
  obtain ⟨a, e0, _, w0⟩ := DataW.trod_int Try.underlying3 h0
  obtain ⟨A, m, c, l, rfl, hs⟩ := open_bytes1 h1
  obtain ⟨G, m2, g, k, rfl, hg⟩ := open_spans1 h2
  obtain ⟨b, e3, _, w3⟩ := DataW.trod_int Try.underlying3 h3
  obtain ⟨q, e4, _, w4⟩ := DataW.trod_int Try.underlying3 h4
  simp only [List.cons.injEq, and_true] at e0 e3 e4
  subst e0 e3 e4
  exact ⟨a, A, m, c, G, m2, g, b, q, l, k, rfl, w64_of_wf w0, w64_of_wf w3, w64_of_wf w4, hs, hg⟩
end Go.Proofs.Ytgiknfmagmfniaa
