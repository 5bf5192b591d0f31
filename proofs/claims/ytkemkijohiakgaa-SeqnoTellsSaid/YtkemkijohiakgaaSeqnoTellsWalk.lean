/- The walk of the law SeqnoTells: every number. -/
import Derived.Test.YtkemkijohiakgaaProg
import Derived.Test.YtkemkijohiakgaaSeqAwake
import Derived.Test.YtkemkijohiakgaaSeqRefEnds
import Derived.WalkKit
import Derived.WalkSpells
import Derived.Lib.Hide
import Derived.Below
namespace Go.Proofs.Ytkemkijohiakgaa.seqnoTells
open Go.RowKit
set_option linter.unusedVariables false

set_option maxHeartbeats 1000000 in
theorem walk (near n a b : Int) (w0 : (Lit.int .i64 near).wf = true) (w1 : (Lit.int .i64 n).wf = true) (w2 : (Lit.int .u32 a).wf = true) (w3 : (Lit.int .u32 b).wf = true) (w : World) :
    Calls Try.prog 3 #[.int .i64 near, .int .i64 n, .int .u32 a, .int .u32 b] w fun e w' => e = .returned (.bool true) ∧ Below w.heap.size w w' := by
  have bn := wf64 w0
  have hwA := wf32 w2
  have hwB := wf32 w3
  clear w0 w1 w2 w3
  go_enter Try.func3, Try.ntmps3
  go_wp2_with (first | (go_at_call 9; refine (awake_any _).mono ?_; rintro e wx ⟨rfl, rfl⟩) | (go_at_call 10; refine (low_any _ _).mono ?_; rintro e wx ⟨rfl, rfl⟩) | (go_at_call 14; refine (upto_any _ _ _).mono ?_; rintro e wx ⟨rfl, rfl⟩) | (go_at_call 12; refine (less_any _ _ _).mono ?_; rintro e wx ⟨rfl, rfl⟩) | (go_at_call 16; refine (unwrap_any _ _ (by omega) (by omega) (by omega) _).mono ?_; rintro e wx ⟨rfl, rfl⟩) | (go_at_call 11; refine (rlow_any _ _).mono ?_; rintro e wx ⟨rfl, rfl⟩) | (go_at_call 15; refine (rupto_any _ _ hwA hwB _).mono ?_; rintro e wx ⟨rfl, rfl⟩) | (go_at_call 13; refine (rless_any _ _ hwA hwB _).mono ?_; rintro e wx ⟨rfl, rfl⟩) | (go_at_call 17; refine (runwrap_any _ _ (by omega) (by omega) (by omega) _).mono ?_; rintro e wx ⟨rfl, rfl⟩))
  go_ret
  exact ⟨rfl, Below.refl _ _⟩

end Go.Proofs.Ytkemkijohiakgaa.seqnoTells
