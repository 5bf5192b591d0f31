/- The walk of the law FixClamp: every number. -/
import Derived.Test.YtplkppdkmhljdaaProg
import Derived.Test.YtplkppdkmhljdaaAwake
import Derived.WalkKit
import Derived.WalkSpells
import Derived.Lib.Hide
import Derived.Below

namespace Go.Proofs.Ytplkppdkmhljdaa.fixClamp
open Go.RowKit

set_option maxHeartbeats 1000000 in
theorem walk (n low high : Int) (_w0 : (Lit.int .i64 n).wf = true) (_w1 : (Lit.int .i64 low).wf = true) (_w2 : (Lit.int .i64 high).wf = true) (w : World) :
    Calls Try.prog 8 #[.int .i64 n, .int .i64 low, .int .i64 high] w fun e w' => e = .returned (.bool true) ∧ Below w.heap.size w w' := by
  have hc := clamp_any n low high
  by_cases h1 : high < low
  · rw [if_pos (.inr h1)] at hc
    have H := Lib.hid hc; clear hc
    go_enter Try.func8, Try.ntmps8
    go_wp2_with (first | (go_at_call 11; refine (awake_any _).mono ?_; rintro e w1 ⟨rfl, hb1⟩) | (go_at_call 24; refine (H.out _).mono ?_; rintro e w2 ⟨rfl, rfl⟩))
    go_ret
    exact ⟨rfl, hb1⟩
  · by_cases h2 : n < low
    · rw [if_pos (.inl h2)] at hc
      have H := Lib.hid hc; clear hc
      by_cases h3 : low = n
      · omega
      · go_enter Try.func8, Try.ntmps8
        go_wp2_with (first | (go_at_call 11; refine (awake_any _).mono ?_; rintro e w1 ⟨rfl, hb1⟩) | (go_at_call 24; refine (H.out _).mono ?_; rintro e w2 ⟨rfl, rfl⟩))
        go_ret
        exact ⟨rfl, hb1⟩
    · rw [if_neg (by omega)] at hc
      by_cases h3 : high < n
      · rw [if_pos h3] at hc
        have H := Lib.hid hc; clear hc
        go_enter Try.func8, Try.ntmps8
        go_wp2_with (first | (go_at_call 11; refine (awake_any _).mono ?_; rintro e w1 ⟨rfl, hb1⟩) | (go_at_call 24; refine (H.out _).mono ?_; rintro e w2 ⟨rfl, rfl⟩))
        go_ret
        exact ⟨rfl, hb1⟩
      · rw [if_neg h3] at hc
        have H := Lib.hid hc; clear hc
        go_enter Try.func8, Try.ntmps8
        go_wp2_with (first | (go_at_call 11; refine (awake_any _).mono ?_; rintro e w1 ⟨rfl, hb1⟩) | (go_at_call 24; refine (H.out _).mono ?_; rintro e w2 ⟨rfl, rfl⟩))
        go_ret
        exact ⟨rfl, hb1⟩

end Go.Proofs.Ytplkppdkmhljdaa.fixClamp
