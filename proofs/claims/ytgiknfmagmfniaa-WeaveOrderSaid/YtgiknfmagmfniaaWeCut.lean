/- b[k:j] and b[:j] of bytes, whose capacity stays; a slice of bytes under an append to another row (for WeaveOrder). No program. -/
import Derived.Test.YtgiknfmagmfniaaBy
import Derived.Test.YtgiknfmagmfniaaSpAddP
namespace Go.Proofs.Ytgiknfmagmfniaa
open Go.RowKit

/-- b[k:j] -/
theorem Sl.cut2 {w : World} {A : Option Addr} {n c k j m : Nat} {l : List Int} (h : Sl w A n c l) (hj : j ≤ n) (hm : j = m + k) : Sl w (cutA A k c) m (c - k) ((l.take j).drop k) :=
  ⟨by have := h.le; omega, by have := h.big; omega, (fun e => by
    unfold cutA at e
    split at e
    · omega
    · cases hA : A with
      | none => have := h.nil hA; omega
      | some a => rw [hA] at e; cases e), (h.rd.take hj).cut hm (by have := h.le; omega)⟩
theorem run_cut2 (P : Program) (t e : TypeId) (ht : P.underlying t = some (.slice e)) (hinfo : (P.info? e).map (fun i => (i.zero, i.size, i.bytes)) = some (some (.int .u8 0), 1, 1)) (A : Option Addr) (n c k j m : Nat) (w : World) (hj : j ≤ c) (hm : j = m + k) :
    (Instr.slice t (.slice A n c) (some (.int .i64 (k : Int))) (some (.int .i64 (j : Int))) none).run P w = .ok (.slice (cutA A k c) m (c - k)) w := by
  obtain ⟨i0, hi, hz0, hz1, hz2⟩ := info_parts hinfo
  have ht' : P.underlying t = some (.slice (P.elem t)) := by simp [Program.elem, ht]
  have he : P.elem t = e := by simp [Program.elem, ht]
  have hz : ∀ w, (Go.sizeOf e).run P w = .ok 1 w := fun w => by simp [Go.sizeOf, typeInfo, hi, hz1]
  rw [run_slice_lh w t _ _ _ ht' .i64 .i64 _ _ (by omega) (by omega) (by omega), he, hz]
  simp [Result.andThen, sliced, cutA]
  omega
/-- b[:j] -/
theorem Sl.head2 {w : World} {A : Option Addr} {n c j : Nat} {l : List Int} (h : Sl w A n c l) (hj : j ≤ n) : Sl w A j c (l.take j) := ⟨by have := h.le; omega, h.big, h.nil, h.rd.take hj⟩
theorem run_head2 (P : Program) (t e : TypeId) (ht : P.underlying t = some (.slice e)) (hinfo : (P.info? e).map (fun i => (i.zero, i.size, i.bytes)) = some (some (.int .u8 0), 1, 1)) (A : Option Addr) (n c j : Nat) (w : World) (hj : j ≤ c) :
    (Instr.slice t (.slice A n c) none (some (.int .i64 (j : Int))) none).run P w = .ok (.slice A j c) w := by
  obtain ⟨i0, hi, hz0, hz1, hz2⟩ := info_parts hinfo
  have ht' : P.underlying t = some (.slice (P.elem t)) := by simp [Program.elem, ht]
  have he : P.elem t = e := by simp [Program.elem, ht]
  have hz : ∀ w, (Go.sizeOf e).run P w = .ok 1 w := fun w => by simp [Go.sizeOf, typeInfo, hi, hz1]
  rw [run_slice_h w t _ _ _ ht' .i64 _ (by omega) (by omega), he, hz]
  have h0 : ∀ a : Addr, a.add 0 = a := fun a => by simp [Addr.add]
  simp [Result.andThen, sliced, h0]

/-- an append to another row leaves it -/
theorem Sl.grown {w w' : World} {A : Option Addr} {n c : Nat} {l : List Int} {row : Option Nat} (h : Sl w A n c l) (hg : w.grownBy w' row) (hne : 0 < n → ∀ b o, A = some ⟨b, o, Option.none⟩ → some b ≠ row) : Sl w' A n c l := by
  refine ⟨h.le, h.big, h.nil, h.rd.len, h.rd.small, fun h0 => ?_⟩
  obtain ⟨b, o, e, hlt, hc⟩ := h.rd.at_ h0
  have hblk := hg.block b hlt (hne h0 b o e)
  refine ⟨b, o, e, ?_, fun i hi => ?_⟩
  · exact Nat.lt_of_lt_of_le hlt hg.size
  · rw [← hc i hi]; exact World.cell?_of_block (w := w) hblk
theorem Sb.grown {w w' : World} {base : Nat} {A : Option Addr} {n c : Nat} {l : List Int} {row : Option Nat} (h : Sb w base A n c l) (hg : w.grownBy w' row) (hne : 0 < n → ∀ b o, A = some ⟨b, o, Option.none⟩ → some b ≠ row) : Sb w' base A n c l := ⟨h.sl.grown hg hne, h.at_⟩
end Go.Proofs.Ytgiknfmagmfniaa
