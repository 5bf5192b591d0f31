/- The landed package wire: isBelow, flags, take, number as contracts of the calls. -/
import Derived.Test.YtfglagkpknpgdaaProg
import Derived.Test.YtfglagkpknpgdaaSgRef2
import Derived.WalkKit
import Derived.WalkSpells
import Derived.WalkSmall
import Derived.Lib.Hide
import Derived.Below
import Derived.Outline
namespace Go.Proofs.Ytfglagkpknpgdaa
open Go.RowKit
set_option linter.unusedVariables false
set_option linter.unusedSimpArgs false

theorem run_cutK (P : Program) (t e : TypeId) (ht : P.underlying t = some (.slice e)) (hinfo : (P.info? e).map (fun i => (i.zero, i.size, i.bytes)) = some (some (.int .u8 0), 1, 1)) (A : Option Addr) (k m d : Nat) (w : World) (h : m ≤ d) :
    (Instr.slice t (.slice A (m + k) (d + k)) (some (.int .i64 (k : Int))) none none).run P w = .ok (.slice (cutA A k (d + k)) m d) w := by
  obtain ⟨i0, hi, hz0, hz1, hz2⟩ := info_parts hinfo
  have ht' : P.underlying t = some (.slice (P.elem t)) := by simp [Program.elem, ht]
  have he : P.elem t = e := by simp [Program.elem, ht]
  have hz : ∀ w, (Go.sizeOf e).run P w = .ok 1 w := fun w => by simp [Go.sizeOf, typeInfo, hi, hz1]
  rw [run_slice_l w t _ _ _ ht' .i64 _ (by omega) (by omega), he, hz]
  simp [Result.andThen, sliced, cutA]
theorem run_headK (P : Program) (t e : TypeId) (ht : P.underlying t = some (.slice e)) (hinfo : (P.info? e).map (fun i => (i.zero, i.size, i.bytes)) = some (some (.int .u8 0), 1, 1)) (A : Option Addr) (k n c : Nat) (w : World) (hk : k ≤ c) :
    (Instr.slice t (.slice A n c) none (some (.int .i64 (k : Int))) none).run P w = .ok (.slice A k c) w := by
  obtain ⟨i0, hi, hz0, hz1, hz2⟩ := info_parts hinfo
  have ht' : P.underlying t = some (.slice (P.elem t)) := by simp [Program.elem, ht]
  have he : P.elem t = e := by simp [Program.elem, ht]
  have hz : ∀ w, (Go.sizeOf e).run P w = .ok 1 w := fun w => by simp [Go.sizeOf, typeInfo, hi, hz1]
  rw [run_slice_h w t _ _ _ ht' .i64 _ (by omega) (by omega), he, hz]
  have h0 : ∀ a : Addr, a.add 0 = a := fun a => by simp [Addr.add]
  simp [Result.andThen, sliced, h0]

def inB (n lim : Int) : Bool := decide (0 ≤ n ∧ n < lim)
theorem inB_any (n lim : Int) (w : World) :
    Calls Try.prog 23 #[.int .i64 n, .int .i64 lim] w fun e w' => e = .returned (.bool (inB n lim)) ∧ w = w' := by
  by_cases h : 0 ≤ n
  · have h' : decide (0 ≤ n) = true := decide_eq_true h
    have hx : inB n lim = decide (n < lim) := by unfold inB; simp [h]
    rw [hx]; clear hx
    go_enter Try.func23, Try.ntmps23
    go_wp2
    go_ret
    exact ⟨rfl, rfl⟩
  · have h' : decide (0 ≤ n) = false := decide_eq_false h
    have hx : inB n lim = false := by unfold inB; simp [h]
    rw [hx]; clear hx
    go_enter Try.func23, Try.ntmps23
    go_wp2
    go_ret
    exact ⟨rfl, rfl⟩

/-- what is raised where bytes are missing -/
def missV : Value := .iface 59 (.agg #[])
def missC : List PanicEntry := [{ v := missV, recovered := false }]

theorem take_miss (B : Nat) (A : Option Addr) (n c k : Nat) (w : World) (hB : Bx w B 62 [.slice A n c]) (hk : n < k) :
    Calls Try.prog 37 #[.pointer (some ⟨B, 0, none⟩), .int .i64 (k : Int)] w fun e w' => e = .panicked missC ∧ w = w' := by
  have hc := hB.cell 0 rfl
  go_enter Try.func37, Try.ntmps37
  go_wp2
  exact ⟨rfl, rfl, rfl⟩

theorem take_some (B : Nat) (A : Option Addr) (m d k : Nat) (w : World) (hB : Bx w B 62 [.slice A (m + k) (d + k)]) (hm : m ≤ d) :
    Calls Try.prog 37 #[.pointer (some ⟨B, 0, none⟩), .int .i64 (k : Int)] w fun e w' => e = .returned (.slice A k (d + k)) ∧ w.setCell ⟨B, 0, none⟩ (.slice (cutA A k (d + k)) m d) = w' := by
  have hc := hB.cell 0 rfl
  have hz := hB.free 0
  have hcut := fun w => run_cutK Try.prog 24 5 Try.underlying24 info_u8 A k m d w hm
  have hhead := fun w => run_headK Try.prog 24 5 Try.underlying24 info_u8 A k (m + k) (d + k) w (by omega)
  go_enter Try.func37, Try.ntmps37
  go_wp2
  go_ret
  exact ⟨rfl, rfl⟩
end Go.Proofs.Ytfglagkpknpgdaa
