/- The reference's One, May, In, Has, Size, Gap: every list. -/
import Derived.Test.YtnbamacdcggaeaaSpAsk
import Derived.Test.YtnbamacdcggaeaaSpSame
import Derived.Deep.RegionHeld3
import Derived.IntWalk
namespace Go.Proofs.Ytnbamacdcggaeaa
open Go.RowKit

theorem bool_false {x : Bool} (h : ¬ x = true) : x = false := by simpa using h

set_option maxHeartbeats 1000000 in
theorem rone_any (a b : Int) (w : World) :
    Calls Try.prog 47 #[.agg #[.int .i64 a, .int .i64 b]] w fun e w' => e = .returned (.bool (vld a b)) ∧ Below w.heap.size w w' := by
  have e : vld a b = (decide (0 ≤ a) && (decide (a < b) && decide (b ≤ 4611686018427387904))) := rfl
  have hx := Boxed2.new w 37 (.int .i64 a) (.int .i64 b)
  have hx1 := hx.fst
  have hx2 := hx.snd
  have hb : Below w.heap.size w (w.alloc (.cells #[.int .i64 a, .int .i64 b] 37)) := (Below.refl _ _).alloc (Nat.le_refl _) _
  by_cases h1 : 0 ≤ a
  · by_cases h2 : a < b
    · by_cases h3 : b ≤ 4611686018427387904
      · rw [decide_eq_true h1, decide_eq_true h2, decide_eq_true h3] at e
        rw [e]
        go_enter Try.func47, Try.ntmps47
        go_wp2
        go_ret
        exact ⟨rfl, hb⟩
      · rw [decide_eq_true h1, decide_eq_true h2, decide_eq_false h3] at e
        rw [e]
        go_enter Try.func47, Try.ntmps47
        go_wp2
        go_ret
        exact ⟨rfl, hb⟩
    · rw [decide_eq_true h1, decide_eq_false h2] at e
      rw [e]
      have h2' : b ≤ a := by omega
      go_enter Try.func47, Try.ntmps47
      go_wp2
      go_ret
      exact ⟨rfl, hb⟩
  · rw [decide_eq_false h1] at e
    rw [e]
    have h1' : a < 0 := by omega
    go_enter Try.func47, Try.ntmps47
    go_wp2
    go_ret
    exact ⟨rfl, hb⟩

end Go.Proofs.Ytnbamacdcggaeaa
