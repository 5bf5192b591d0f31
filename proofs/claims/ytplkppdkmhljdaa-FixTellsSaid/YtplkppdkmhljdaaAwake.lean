/- The laws of package fix: what every law begins with ('awake'), and small facts. -/
import Derived.Test.YtplkppdkmhljdaaProg
import Derived.Test.YtplkppdkmhljdaaMore
import Derived.WalkKit
import Derived.WalkSpells
import Derived.Lib.Hide
import Derived.Below
namespace Go.Proofs.Ytplkppdkmhljdaa
open Go.RowKit

set_option maxHeartbeats 400000 in
theorem awake_any (w : World) : Calls Try.prog 11 #[] w fun e w' => e = .returned (.bool true) ∧ Below w.heap.size w w' := by
  have h1 := md_any 2305843009213693952 6 4
  have h2 := div_any (-7) 2
  have e1 : mdOk 2305843009213693952 6 4 = true := by decide
  have e2 : mdOk (-7) 1 2 = true := by decide
  have e3 : tell (2305843009213693952 * 6 / 4) true = 3458764513820540928 := by decide
  have e4 : tell (-7 / 2) true = -4 := by decide
  have e5 : inB 3458764513820540928 = true := by decide
  rw [e1, e3] at h1
  rw [e2, e4] at h2
  have h3 := fun w => in_yes 3458764513820540928 w e5
  have H1 := Lib.hid h1; clear h1
  have H2 := Lib.hid h2; clear h2
  have H3 := Lib.hid h3; clear h3
  clear e1 e2 e3 e4 e5
  go_enter Try.func11, Try.ntmps11
  go_wp2_with (first | (go_at_call 14; refine (H1.out _).mono ?_; rintro e w1 ⟨rfl, hb1⟩) | (go_at_call 18; refine (H2.out _).mono ?_; rintro e w2 ⟨rfl, hb2⟩) | (go_at_call 26; refine (H3.out _).mono ?_; rintro e w3 ⟨rfl, rfl⟩))
  go_ret
  exact ⟨rfl, hb1.trans (hb2.mono hb1.size)⟩

theorem wf_bd {a : Int} (h : (Lit.int .i64 a).wf = true) : -9223372036854775808 ≤ a ∧ a ≤ 9223372036854775807 := by
  simp [Lit.wf, IntKind.min, IntKind.max, IntKind.signed, IntKind.bits] at h
  omega

end Go.Proofs.Ytplkppdkmhljdaa
