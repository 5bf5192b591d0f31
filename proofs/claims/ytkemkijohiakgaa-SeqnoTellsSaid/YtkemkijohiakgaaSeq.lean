/- Package seqno: Low, Upto, Less as contracts of the calls: every number. -/
import Derived.Test.YtkemkijohiakgaaProg
import Derived.WalkKit
import Derived.WalkSpells
import Derived.Lib.Hide
import Derived.WalkSmall
import Derived.Below
namespace Go.Proofs.Ytkemkijohiakgaa
open Go.RowKit

set_option maxHeartbeats 400000 in
theorem low_any (n : Int) (w : World) :
    Calls Try.prog 10 #[.int .i64 n] w fun e w' => e = .returned (.int .u32 (n % 4294967296)) ∧ w = w' := by
  go_enter Try.func10, Try.ntmps10
  go_wp2
  go_ret
  exact ⟨rfl, rfl⟩

/-- how far it is up from a to b -/
def up (a b : Int) : Int := (b - a) % 4294967296

set_option maxHeartbeats 400000 in
theorem upto_any (a b : Int) (w : World) :
    Calls Try.prog 14 #[.int .u32 a, .int .u32 b] w fun e w' => e = .returned (.int .i64 (up a b)) ∧ w = w' := by
  unfold up
  go_enter Try.func14, Try.ntmps14
  go_wp2
  go_ret
  exact ⟨rfl, rfl⟩

def lessB (a b : Int) : Bool := decide (0 < up a b ∧ up a b < 2147483648)

set_option maxHeartbeats 400000 in
theorem less_any (a b : Int) (w : World) :
    Calls Try.prog 12 #[.int .u32 a, .int .u32 b] w fun e w' => e = .returned (.bool (lessB a b)) ∧ w = w' := by
  by_cases h1 : 0 < up a b
  · have e : lessB a b = decide (up a b < 2147483648) := by simp [lessB, h1]
    rw [e]; clear e
    go_enter Try.func12, Try.ntmps12
    go_wp2_with (go_at_call 14; refine (upto_any _ _ _).mono ?_; rintro e w' ⟨rfl, rfl⟩)
    go_ret
    exact ⟨rfl, rfl⟩
  · have e : lessB a b = false := by simp [lessB, h1]
    rw [e]; clear e
    go_enter Try.func12, Try.ntmps12
    go_wp2_with (go_at_call 14; refine (upto_any _ _ _).mono ?_; rintro e w' ⟨rfl, rfl⟩)
    go_ret
    exact ⟨rfl, rfl⟩
end Go.Proofs.Ytkemkijohiakgaa
