/- Package marks: awake as a contract of the call. -/
import Derived.Test.YtkgbbmjobjcepaaMsL
import Derived.WalkKit
import Derived.WalkSpells
import Derived.WalkSmall
import Derived.Lib.Hide
import Derived.Below
import Derived.Outline
namespace Go.Proofs.Ytkgbbmjobjcepaa
open Go.RowKit
set_option linter.unusedVariables false
set_option linter.unusedSimpArgs false

theorem mw1 : heardR ⟨6, 0, 0, 0, 0⟩ 1 0 3 10 = ((⟨9, 0, 10, 0, 0⟩ : Ms), 3, 0) := by rfl
theorem mw2 : roundR ⟨0, 0, 100, 50, 0⟩ = ((⟨0, 0, 0, 0, 32⟩ : Ms), 0) := by rfl
theorem mw3 : mmay ⟨0, 0, 0, 0, 32⟩ = true := by rfl
set_option maxRecDepth 100000 in
set_option maxHeartbeats 2000000 in
theorem msawake_any (w : World) :
    Calls Try.prog 8 #[] w fun e w' => e = .returned (.bool true) ∧ Below w.heap.size w w' := by
  have a1 := Lib.hid mw1; have a2 := Lib.hid mw2; have a3 := Lib.hid mw3
  obtain ⟨B, hB⟩ : ∃ B, w.heap.size = B := ⟨_, rfl⟩
  rw [hB]
  have HB := Lib.hid hB; clear hB
  go_enter Try.func8, Try.ntmps8
  go_wp2_with fail
  refine (mkheard_any 6 0 0 0 0 1 0 3 10 _ (by omega) (by omega)).mono ?_
  rintro e w1 ⟨he, hb1⟩
  rw [a1.out] at he
  dsimp only at he
  subst he
  have b1 : Below B w w1 := by rw [← HB.out]; exact hb1
  have z1 : B ≤ w1.heap.size := by rw [← HB.out]; exact hb1.size
  have b2 := b1.alloc z1 (.cells #[.int .i64 9, .int .i64 0, .int .i64 10, .int .i64 0, .int .i64 0] 23)
  clear hb1
  go_wp2_with fail
  refine (mkround_any 0 0 100 50 0 _).mono ?_
  rintro e w3 ⟨he, hb3⟩
  rw [a2.out] at he
  dsimp only at he
  subst he
  have b3 := b2.trans (hb3.mono (by simp; omega))
  have z3 : B ≤ w3.heap.size := by have := hb3.size; simp at this; omega
  have e4 := Bx.new w3 23 [.int .i64 0, .int .i64 0, .int .i64 0, .int .i64 0, .int .i64 32]
  have b4 := b3.alloc z3 (.cells #[.int .i64 0, .int .i64 0, .int .i64 0, .int .i64 0, .int .i64 32] 23)
  have x0 := e4.cell 0 rfl; have x1 := e4.cell 1 rfl; have x2 := e4.cell 2 rfl; have x3 := e4.cell 3 rfl; have x4 := e4.cell 4 rfl
  go_wp2_with fail
  refine (mkmay_any 0 0 0 0 32 _).mono ?_
  rintro e w5 ⟨rfl, hb5⟩
  rw [a3.out]
  go_wp2_with fail
  go_ret
  exact ⟨rfl, b4.trans (hb5.mono (by simp; omega))⟩
end Go.Proofs.Ytkgbbmjobjcepaa
