/- The laws of package seqno: what every law begins with ('awake'), and small facts. -/
import Derived.Test.YtkemkijohiakgaaUnwrapEnds
import Derived.WalkKit
import Derived.WalkSpells
import Derived.Lib.Hide
import Derived.Below
namespace Go.Proofs.Ytkemkijohiakgaa
open Go.RowKit

set_option maxHeartbeats 400000 in
theorem awake_any (w : World) : Calls Try.prog 9 #[] w fun e w' => e = .returned (.bool true) ∧ w = w' := by
  have e1 : unw (near0 4294967296) 5 = 4294967301 := by decide
  have e2 : unw (near0 3) 5 = 5 := by decide
  have e3 : lessB 4294967295 0 = true := by decide
  go_enter Try.func9, Try.ntmps9
  go_wp2_with (first | (go_at_call 16; refine (unwrap_any _ _ (by omega) (by omega) (by omega) _).mono ?_; rintro e w1 ⟨rfl, rfl⟩) | (go_at_call 12; refine (less_any _ _ _).mono ?_; rintro e w2 ⟨rfl, rfl⟩) | (go_at_call 10; refine (low_any _ _).mono ?_; rintro e w3 ⟨rfl, rfl⟩))
  go_ret
  exact ⟨rfl, rfl⟩

theorem wf64 {a : Int} (h : (Lit.int .i64 a).wf = true) : -9223372036854775808 ≤ a ∧ a ≤ 9223372036854775807 := by
  simp [Lit.wf, IntKind.min, IntKind.max, IntKind.signed, IntKind.bits] at h
  omega
theorem wf32 {a : Int} (h : (Lit.int .u32 a).wf = true) : 0 ≤ a ∧ a < 4294967296 := by
  simp [Lit.wf, IntKind.min, IntKind.max, IntKind.signed, IntKind.bits] at h
  omega

theorem up_bd (a b : Int) : 0 ≤ up a b ∧ up a b < 4294967296 := by unfold up; omega
theorem less_yes {a b : Int} (h1 : 0 < up a b) (h2 : up a b < 2147483648) : lessB a b = true := by simp [lessB, h1, h2]
theorem less_no {a b : Int} (h : ¬ (0 < up a b ∧ up a b < 2147483648)) : lessB a b = false := by simpa [lessB] using h

end Go.Proofs.Ytkemkijohiakgaa
