/- The walk of the law SeqnoNear: every number. -/
import Derived.Test.YtkemkijohiakgaaProg
import Derived.Test.YtkemkijohiakgaaSeqAwake
import Derived.WalkKit
import Derived.WalkSpells
import Derived.Lib.Hide
import Derived.Below
namespace Go.Proofs.Ytkemkijohiakgaa.seqnoNear
open Go.RowKit
set_option linter.unusedVariables false

set_option maxHeartbeats 1000000 in
theorem walk (near low : Int) (w0 : (Lit.int .i64 near).wf = true) (w1 : (Lit.int .u32 low).wf = true) (w : World) :
    Calls Try.prog 6 #[.int .i64 near, .int .u32 low] w fun e w' => e = .returned (.bool true) ∧ Below w.heap.size w w' := by
  have bn := wf64 w0
  have bl := wf32 w1
  clear w0 w1
  by_cases h1 : near < 0
  · skip
    go_enter Try.func6, Try.ntmps6
    go_wp2_with (first | (go_at_call 9; refine (awake_any _).mono ?_; rintro e wx ⟨rfl, rfl⟩) | (go_at_call 16; refine (unwrap_any _ _ (by omega) (by omega) (by omega) _).mono ?_; rintro e wx ⟨rfl, rfl⟩))
    go_ret
    exact ⟨rfl, Below.refl _ _⟩
  · by_cases h2 : 4611686018427387904 < near
    · skip
      go_enter Try.func6, Try.ntmps6
      go_wp2_with (first | (go_at_call 9; refine (awake_any _).mono ?_; rintro e wx ⟨rfl, rfl⟩) | (go_at_call 16; refine (unwrap_any _ _ (by omega) (by omega) (by omega) _).mono ?_; rintro e wx ⟨rfl, rfl⟩))
      go_ret
      exact ⟨rfl, Below.refl _ _⟩
    · have e0 : near0 near = near := by unfold near0; rw [if_neg h1, if_neg h2]
      obtain ⟨f1, f2, f3, f4, f5, f6⟩ := unw_facts near low (by omega) (by omega) (by omega) (by omega)
      clear f6 f5
      obtain ⟨n, en⟩ : ∃ n, unw near low = n := ⟨_, rfl⟩
      rw [en] at f1 f2 f3 f4
      obtain ⟨b1, b2⟩ := bn
      obtain ⟨b3, b4⟩ := bl
      by_cases h3 : near < n
      · by_cases h4 : n - near < 2147483648
        · clear f4
          go_enter Try.func6, Try.ntmps6
          go_wp2_with (first | (go_at_call 9; refine (awake_any _).mono ?_; rintro e wx ⟨rfl, rfl⟩) | (go_at_call 16; refine (unwrap_any _ _ (by omega) (by omega) (by omega) _).mono ?_; rintro e wx ⟨rfl, rfl⟩))
          go_ret
          exact ⟨rfl, Below.refl _ _⟩
        · have f5 : n < 4294967296 := by omega
          clear f4
          go_enter Try.func6, Try.ntmps6
          go_wp2_with (first | (go_at_call 9; refine (awake_any _).mono ?_; rintro e wx ⟨rfl, rfl⟩) | (go_at_call 16; refine (unwrap_any _ _ (by omega) (by omega) (by omega) _).mono ?_; rintro e wx ⟨rfl, rfl⟩))
          go_ret
          exact ⟨rfl, Below.refl _ _⟩
      · clear f4
        go_enter Try.func6, Try.ntmps6
        go_wp2_with (first | (go_at_call 9; refine (awake_any _).mono ?_; rintro e wx ⟨rfl, rfl⟩) | (go_at_call 16; refine (unwrap_any _ _ (by omega) (by omega) (by omega) _).mono ?_; rintro e wx ⟨rfl, rfl⟩))
        go_ret
        exact ⟨rfl, Below.refl _ _⟩

end Go.Proofs.Ytkemkijohiakgaa.seqnoNear
