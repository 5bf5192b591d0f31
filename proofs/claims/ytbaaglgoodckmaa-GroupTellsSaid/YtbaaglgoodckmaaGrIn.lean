/- Package group: what a [][]int that came in reads as. -/
import Derived.Test.YtbaaglgoodckmaaIn
import Derived.Test.YtbaaglgoodckmaaLl
import Derived.Deep.Matrix
namespace Go.Proofs.Ytbaaglgoodckmaa
open Go.ChangeShapes Go.WideShapes Go.ChangeAt Go.RowKit Go.Joins

theorem si_of_cells {w : World} {A : Option Addr} {len cap : Nat} {zs : List Int} (hl : len ≤ cap) (hm : cap ≤ maxLen) (hn : A = none → cap = 0) (hz : zs.length = cap) (hwz : ∀ z ∈ zs, (Lit.int .i64 z).wf = true)
    (hc : ∀ a, A = some a → ∀ i, i < cap → w.cell? (a.add i) = some (.int .i64 (zs.getD i 0))) : Si w A len cap (zs.take len) := by
  have hlt : (zs.take len).length = len := by rw [List.length_take]; omega
  refine ⟨hl, hm, hn, hlt, fun y hy => w64_of_wf (hwz y (List.mem_of_mem_take hy)), fun h0 => ?_⟩
  cases A with
  | none => have := hn rfl; omega
  | some x =>
    have c0 := hc x rfl 0 (by omega)
    have hspot : x.spot = none := by
      have := World.cell?_spot c0
      simpa [Addr.add] using this
    have hb := World.block_lt_of_cell? _ _ c0
    obtain ⟨b, o, s⟩ := x
    simp only at hspot
    subst hspot
    have hadd : ∀ j, (⟨b, o, none⟩ : Addr).add j = ⟨b, o + j, none⟩ := fun j => by
      unfold Addr.add
      split
      · next h => subst h; rfl
      · rfl
    refine ⟨b, o, rfl, by simpa [hadd] using hb, fun i hi => ?_⟩
    have g := hc _ rfl i (by omega)
    rw [hadd] at g
    rw [it_eq (by omega), List.getElem_take]
    rw [g, List.getD_eq_getElem?_getD, List.getElem?_eq_getElem (by omega)]
    rfl
theorem li_range (f : Nat → List Int) (n k : Nat) (hk : k < n) : li ((List.range n).map f) k = f k := by
  unfold li
  rw [List.getD_eq_getElem?_getD, List.getElem?_map, List.getElem?_range hk]; rfl
theorem open_lists {H : Type} {enc : TypeId × Value → H} {W : World} {a : Option Addr} {len cap : Nat} {d : DataW H} {p : List MemPlace} (h : DataW.Trod enc Try.prog W 0 (fun _ => true) true 22 (.slice a len cap) d p) : ∃ L, Ll W a len cap L := by
  obtain ⟨fuel, hf⟩ := h
  rcases Go.Deep.open_int_rows Try.underlying22 Try.underlying25 Try.underlying3 (by kernel_rfl) (by kernel_rfl) hf with ⟨hcs, _⟩ | ⟨x, l, c, A, Ln, C, Z, hcs, _, hl, hm, _, hrow⟩
  · simp [Value.cells] at hcs
    obtain ⟨rfl, rfl, rfl⟩ := hcs
    exact ⟨[], Ll.none _⟩
  · simp [Value.cells] at hcs
    obtain ⟨rfl, rfl, rfl⟩ := hcs
    refine ⟨(List.range len).map fun r => (Z r).take (Ln r), hl, hm, (fun e => by cases e), by simp, fun h0 => ?_⟩
    have c0 := (hrow 0 (by omega)).1
    have hsp : x.spot = none := by
      have := World.cell?_spot c0
      simpa [Addr.add] using this
    have hlt := World.block_lt_of_cell? _ _ c0
    obtain ⟨b, o, s⟩ := x
    simp only at hsp
    subst hsp
    refine ⟨b, o, rfl, by simpa [Addr.add] using hlt, fun k hk => ?_⟩
    obtain ⟨h1, h2, h3, h4, h5, h6, h7⟩ := hrow k (by omega)
    refine ⟨A k, Ln k, C k, ?_, ?_⟩
    · rw [← h1]
      unfold Addr.add
      split
      · next h => subst h; rfl
      · rfl
    · rw [li_range _ _ _ hk]
      exact si_of_cells h2 h3 h6 h4 h5 (fun a' e i hi => (h7 a' e).2 i hi)
end Go.Proofs.Ytbaaglgoodckmaa
