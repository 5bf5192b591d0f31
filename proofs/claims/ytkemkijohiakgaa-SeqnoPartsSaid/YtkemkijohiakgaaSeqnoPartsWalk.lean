/- The walk of the law SeqnoParts: every number. -/
import Derived.Test.YtkemkijohiakgaaProg
import Derived.Test.YtkemkijohiakgaaSeqAwake
import Derived.WalkKit
import Derived.WalkSpells
import Derived.Lib.Hide
import Derived.Below
namespace Go.Proofs.Ytkemkijohiakgaa.seqnoParts
open Go.RowKit
set_option linter.unusedVariables false

set_option maxHeartbeats 1000000 in
theorem walk (n turns far : Int) (w0 : (Lit.int .i64 n).wf = true) (w1 : (Lit.int .i64 turns).wf = true) (w2 : (Lit.int .i64 far).wf = true) (w : World) :
    Calls Try.prog 7 #[.int .i64 n, .int .i64 turns, .int .i64 far] w fun e w' => e = .returned (.bool true) ∧ Below w.heap.size w w' := by
  clear w0 w1 w2
  by_cases h1 : n < 0
  · skip
    go_enter Try.func7, Try.ntmps7
    go_wp2_with (first | (go_at_call 9; refine (awake_any _).mono ?_; rintro e wx ⟨rfl, rfl⟩) | (go_at_call 14; refine (upto_any _ _ _).mono ?_; rintro e wx ⟨rfl, rfl⟩) | (go_at_call 10; refine (low_any _ _).mono ?_; rintro e wx ⟨rfl, rfl⟩))
    go_ret
    exact ⟨rfl, Below.refl _ _⟩
  · by_cases h2 : 1125899906842624 < n
    · skip
      go_enter Try.func7, Try.ntmps7
      go_wp2_with (first | (go_at_call 9; refine (awake_any _).mono ?_; rintro e wx ⟨rfl, rfl⟩) | (go_at_call 14; refine (upto_any _ _ _).mono ?_; rintro e wx ⟨rfl, rfl⟩) | (go_at_call 10; refine (low_any _ _).mono ?_; rintro e wx ⟨rfl, rfl⟩))
      go_ret
      exact ⟨rfl, Below.refl _ _⟩
    · by_cases h3 : turns < 0
      · skip
        go_enter Try.func7, Try.ntmps7
        go_wp2_with (first | (go_at_call 9; refine (awake_any _).mono ?_; rintro e wx ⟨rfl, rfl⟩) | (go_at_call 14; refine (upto_any _ _ _).mono ?_; rintro e wx ⟨rfl, rfl⟩) | (go_at_call 10; refine (low_any _ _).mono ?_; rintro e wx ⟨rfl, rfl⟩))
        go_ret
        exact ⟨rfl, Below.refl _ _⟩
      · by_cases h4 : 1000 < turns
        · skip
          go_enter Try.func7, Try.ntmps7
          go_wp2_with (first | (go_at_call 9; refine (awake_any _).mono ?_; rintro e wx ⟨rfl, rfl⟩) | (go_at_call 14; refine (upto_any _ _ _).mono ?_; rintro e wx ⟨rfl, rfl⟩) | (go_at_call 10; refine (low_any _ _).mono ?_; rintro e wx ⟨rfl, rfl⟩))
          go_ret
          exact ⟨rfl, Below.refl _ _⟩
        · by_cases h5 : far < 0
          · skip
            go_enter Try.func7, Try.ntmps7
            go_wp2_with (first | (go_at_call 9; refine (awake_any _).mono ?_; rintro e wx ⟨rfl, rfl⟩) | (go_at_call 14; refine (upto_any _ _ _).mono ?_; rintro e wx ⟨rfl, rfl⟩) | (go_at_call 10; refine (low_any _ _).mono ?_; rintro e wx ⟨rfl, rfl⟩))
            go_ret
            exact ⟨rfl, Below.refl _ _⟩
          · by_cases h6 : 4294967296 ≤ far
            · skip
              go_enter Try.func7, Try.ntmps7
              go_wp2_with (first | (go_at_call 9; refine (awake_any _).mono ?_; rintro e wx ⟨rfl, rfl⟩) | (go_at_call 14; refine (upto_any _ _ _).mono ?_; rintro e wx ⟨rfl, rfl⟩) | (go_at_call 10; refine (low_any _ _).mono ?_; rintro e wx ⟨rfl, rfl⟩))
              go_ret
              exact ⟨rfl, Below.refl _ _⟩
            · have e1 : (n + 4294967296 * turns) % 4294967296 = n % 4294967296 := by omega
              have e2 : up (n % 4294967296) ((n + far) % 4294967296) = far := by unfold up; omega
              go_enter Try.func7, Try.ntmps7
              go_wp2_with (first | (go_at_call 9; refine (awake_any _).mono ?_; rintro e wx ⟨rfl, rfl⟩) | (go_at_call 14; refine (upto_any _ _ _).mono ?_; rintro e wx ⟨rfl, rfl⟩) | (go_at_call 10; refine (low_any _ _).mono ?_; rintro e wx ⟨rfl, rfl⟩))
              go_ret
              exact ⟨rfl, Below.refl _ _⟩

end Go.Proofs.Ytkemkijohiakgaa.seqnoParts
