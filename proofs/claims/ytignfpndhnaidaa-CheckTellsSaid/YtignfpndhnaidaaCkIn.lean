/- Package check: what a []byte and a [][]byte that came in read as. -/
import Derived.Test.YtignfpndhnaidaaProg
import Derived.Test.YtignfpndhnaidaaCkSeal
import Derived.WalkKit
import Derived.ProofKit
import Derived.OpenShut
import Derived.ChangeOld
import Derived.Below
import Derived.Deep.Matrix
namespace Go.Proofs.Ytignfpndhnaidaa
open Go.ChangeShapes Go.WideShapes Go.ChangeAt Go.RowKit

theorem prog_laid : laidOutB Try.prog = true := by kernel_rfl
theorem prog_own : ownKnob Try.prog.godebug = none := by kernel_rfl

theorem sl_of_cells {W : World} {A : Option Addr} {len cap : Nat} {zs : List Int} (hl : len ≤ cap) (hm : cap ≤ maxLen) (hn : A = none → cap = 0) (hz : zs.length = cap) (hw : ∀ n ∈ zs, (Lit.int .u8 n).wf = true)
    (hc : ∀ a, A = some a → ∀ i, i < cap → W.cell? (a.add i) = some (.int .u8 (zs.getD i 0))) : Sl W A len cap (zs.take len) := by
  refine ⟨hl, hm, hn, ?_⟩
  cases A with
  | none =>
    have h0 := hn rfl
    obtain rfl : len = 0 := by omega
    rw [List.take_zero]
    exact Rd.empty _ _
  | some a =>
    have hca := hc a rfl
    refine Rd.of_ints hl hz (fun i hi => hca i (by omega)) hw (fun b o e h0 => ?_)
    have := World.block_lt_of_cell? _ _ (hca 0 (by omega))
    rw [e] at this
    simpa [Addr.add] using this

theorem open_bytes {H : Type} {enc : TypeId × Value → H} {W : World} {a : Option Addr} {len cap : Nat} {d : DataW H} {p : List MemPlace} (h : DataW.Trod enc Try.prog W 0 (fun _ => true) true 23 (.slice a len cap) d p) : ∃ l, Sl W a len cap l := by
  obtain ⟨fuel, hf⟩ := h
  rcases open_ints Try.underlying23 Try.underlying5 (by kernel_rfl) hf with ⟨hcs, _⟩ | ⟨x, l, c, zs, hcs, _, hl, hm, hz, _, hcell, hwz⟩
  · simp [Value.cells] at hcs
    obtain ⟨rfl, rfl, rfl⟩ := hcs
    exact ⟨[], Nat.le_refl _, by unfold maxLen; omega, fun _ => rfl, Rd.empty _ _⟩
  · simp [Value.cells] at hcs
    obtain ⟨rfl, rfl, rfl⟩ := hcs
    have hz' : zs.length = cap := by simpa using hz
    exact ⟨_, sl_of_cells hl hm (fun e => by cases e) hz' hwz (fun a e i hi => by cases e; exact hcell i (by omega))⟩

theorem part_range (f : Nat → List Int) (n k : Nat) (hk : k < n) : part ((List.range n).map f) k = f k := by
  unfold part
  rw [List.getD_eq_getElem?_getD, List.getElem?_map, List.getElem?_range hk]; rfl

theorem open_parts {H : Type} {enc : TypeId × Value → H} {W : World} {a : Option Addr} {len cap : Nat} {d : DataW H} {p : List MemPlace} (h : DataW.Trod enc Try.prog W 0 (fun _ => true) true 22 (.slice a len cap) d p) : ∃ ls, Rds W a len ls ∧ len ≤ 9223372036854775807 := by
  obtain ⟨fuel, hf⟩ := h
  rcases Go.Deep.open_int_rows Try.underlying22 Try.underlying23 Try.underlying5 (by kernel_rfl) (by kernel_rfl) hf with ⟨hcs, _⟩ | ⟨x, l, c, A, L, C, Z, hcs, _, hl, hm, _, hrow⟩
  · simp [Value.cells] at hcs
    obtain ⟨rfl, rfl, rfl⟩ := hcs
    exact ⟨[], Rds.empty _ _, by omega⟩
  · simp [Value.cells] at hcs
    obtain ⟨rfl, rfl, rfl⟩ := hcs
    refine ⟨(List.range len).map fun r => (Z r).take (L r), ⟨by simp, fun h0 => ?_⟩, by unfold maxLen at hm; omega⟩
    have c0 := (hrow 0 (by omega)).1
    have hsp : x.spot = none := by
      have := World.cell?_spot c0
      simpa [Addr.add] using this
    have hlt := World.block_lt_of_cell? _ _ c0
    obtain ⟨b, o, s⟩ := x
    simp only at hsp
    subst hsp
    refine ⟨b, o, rfl, by simpa [Addr.add] using hlt, fun k hk => ?_⟩
    obtain ⟨h1, h2, h3, h4, h5, h6, h7⟩ := hrow k (by omega)
    have hs := sl_of_cells h2 h3 h6 h4 h5 (fun a' e i hi => (h7 a' e).2 i hi)
    refine ⟨A k, L k, C k, ?_, h2, h3, h6, ?_⟩
    · rw [← h1]
      unfold Addr.add
      split
      · next h => subst h; rfl
      · rfl
    · rw [part_range _ _ _ hk]; exact hs.rd
end Go.Proofs.Ytignfpndhnaidaa
