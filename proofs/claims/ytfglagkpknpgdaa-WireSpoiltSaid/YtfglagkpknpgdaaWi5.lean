/- The landed package wire: the deferred function of decoded, behind a panic and behind none. -/
import Derived.Test.YtfglagkpknpgdaaProg
import Derived.Test.YtfglagkpknpgdaaWi4
import Derived.WalkKit
import Derived.WalkSpells
import Derived.WalkSmall
import Derived.Lib.Hide
import Derived.Below
import Derived.Outline
import Derived.Defers
import Derived.Recover
import Derived.Laws.Pointers
namespace Go.Proofs.Ytfglagkpknpgdaa
open Go.RowKit
set_option linter.unusedVariables false
set_option linter.unusedSimpArgs false

def zeroSeg : List Value := [.int .i64 0, .int .i64 0, .bool false, .bool false, .int .u32 0, .int .u32 0, .int .u32 0, .int .u32 0, .int .i64 0, .int .i64 0, .int .u32 0, .int .u32 0, .int .u32 0, .slice none 0 0, .slice none 0 0]

section
variable {P : Program} {w : World} {T S xT : TypeId} {v z : Value}
theorem assert_yes (u : TypeDesc) (hu : P.underlying T = some u) (hni : ∀ ms, u ≠ .interface ms) : (Instr.typeAssert (.iface T v) xT T true).run P w = .ok (.tuple #[v, .bool true]) w := by
  cases u <;> first | exact absurd rfl (hni _) | simp [Instr.typeAssert, run_underlying hu]
theorem assert_no (u : TypeDesc) (hne : T ≠ S) (hu : P.underlying S = some u) (hni : ∀ ms, u ≠ .interface ms) (hz : (P.info? S).map (·.zero) = some (some z)) : (Instr.typeAssert (.iface T v) xT S true).run P w = .ok (.tuple #[z, .bool false]) w := by
  obtain ⟨i, hi, hz'⟩ : ∃ i, P.info? S = some i ∧ i.zero = some z := by
    cases h : P.info? S with
    | none => rw [h] at hz; cases hz
    | some i => rw [h] at hz; exact ⟨i, rfl, by simpa using hz⟩
  cases u <;> first | exact absurd rfl (hni _) | simp [Instr.typeAssert, run_underlying hu, hne, zeroValue, typeInfo, hi, hz']
theorem assert_nil (u : TypeDesc) (hu : P.underlying S = some u) (hni : ∀ ms, u ≠ .interface ms) (hz : (P.info? S).map (·.zero) = some (some z)) : (Instr.typeAssert .nilIface xT S true).run P w = .ok (.tuple #[z, .bool false]) w := by
  obtain ⟨i, hi, hz'⟩ : ∃ i, P.info? S = some i ∧ i.zero = some z := by
    cases h : P.info? S with
    | none => rw [h] at hz; cases hz
    | some i => rw [h] at hz; exact ⟨i, rfl, by simpa using hz⟩
  cases u <;> first | exact absurd rfl (hni _) | simp [Instr.typeAssert, run_underlying hu, zeroValue, typeInfo, hi, hz']
end
theorem miss_yes (w : World) : (Instr.typeAssert (.iface 59 (.agg #[])) 20 59 true).run Try.prog w = .ok (.tuple #[.agg #[], .bool true]) w :=
  assert_yes _ Try.underlying59 (fun _ h => by cases h)
theorem miss_nil (w : World) : (Instr.typeAssert .nilIface 20 59 true).run Try.prog w = .ok (.tuple #[.agg #[], .bool false]) w :=
  assert_nil _ Try.underlying59 (fun _ h => by cases h) (by kernel_rfl)

set_option maxHeartbeats 1000000 in
theorem catch_miss (Z K : Nat) (cs : List Value) (b : Bool) (older : List PanicEntry) (w : World) (hZ : Bx w Z 26 cs) (hl : cs.length = 15) (hK : Bx w K 4 [.bool b]) (hne : Z ≠ K) :
    CallsD Try.prog 32 #[.pointer (some ⟨Z, 0, none⟩), .pointer (some ⟨K, 0, none⟩)] (.panicking ({ v := missV, recovered := false } :: older)) w fun e u' w' =>
      e = .returned (.tuple #[]) ∧ u' = .panicking ({ v := missV, recovered := true } :: older) ∧ w' = ((w.alloc (.cells #[] 59)).setRow Z zeroSeg.toArray).setCell ⟨K, 0, none⟩ (.bool false) := by
  unfold missV
  refine callsD_of_wpS Try.func32 rfl fun c₀ cs₀ hu => ?_
  apply wpS_seq
  apply wpS_region
  simp [wpOpsS, go_sem, recoverD, hu, Try.ntmps32, Exit.thenS, miss_yes]
  refine wpS_of_wp ?_
  change Code.wp _ _ _ { tmps := #[.pointer (some ⟨Z, 0, none⟩), .pointer (some ⟨K, 0, none⟩), .pointer (some ⟨w.heap.size, 0, none⟩), .bool true, .tuple #[.agg #[], .bool true], .iface 59 (.agg #[]), .tuple #[.agg #[], .bool true], .agg #[], .bool true, undef, undef], defers := [] } _
  have e1 := hZ.alloc (.cells #[] 59)
  have k1 := hK.alloc (.cells #[] 59)
  have k2 : Bx ((w.alloc (.cells #[] 59)).setRow Z zeroSeg.toArray) K 4 [.bool b] := (setRow_other _ Z K _ (Ne.symm hne)).trans k1
  have c2 := k2.cell 0 rfl
  have f2 := k2.free 0
  go_wp2_with (refine Bx.stepStore rfl (.tmp 0) (.tmp 10) rfl rfl zeroSeg rfl e1 hl rfl rfl ?_)
  simp [bodyPostS, results, Try.results32]

set_option maxHeartbeats 1000000 in
theorem catch_idle (Z K : Nat) (w : World) :
    CallsD Try.prog 32 #[.pointer (some ⟨Z, 0, none⟩), .pointer (some ⟨K, 0, none⟩)] .returning w fun e u' w' =>
      e = .returned (.tuple #[]) ∧ u' = .returning ∧ w' = w.alloc (.cells #[] 59) := by
  refine callsD_of_wpS Try.func32 rfl fun c₀ cs₀ hu => ?_
  apply wpS_seq
  apply wpS_region
  simp [wpOpsS, go_sem, recoverD, hu, Try.ntmps32, Exit.thenS, miss_nil]
  refine wpS_of_wp ?_
  change Code.wp _ _ _ { tmps := #[.pointer (some ⟨Z, 0, none⟩), .pointer (some ⟨K, 0, none⟩), .pointer (some ⟨w.heap.size, 0, none⟩), .bool false, .tuple #[.agg #[], .bool false], .nilIface, .tuple #[.agg #[], .bool false], .agg #[], .bool false, undef, undef], defers := [] } _
  go_wp2
  cases c₀
  simp_all [bodyPostS, results, Try.results32]
end Go.Proofs.Ytfglagkpknpgdaa
