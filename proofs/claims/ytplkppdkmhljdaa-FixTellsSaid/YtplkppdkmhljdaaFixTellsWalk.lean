/- The walk of the law FixTells: every number. -/
import Derived.Test.YtplkppdkmhljdaaProg
import Derived.Test.YtplkppdkmhljdaaAwake
import Derived.WalkKit
import Derived.WalkSpells
import Derived.Lib.Hide
import Derived.Below
import Derived.Test.YtplkppdkmhljdaaRew
namespace Go.Proofs.Ytplkppdkmhljdaa.fixTells
open Go.RowKit
set_option linter.unusedVariables false

def clampV (n low high : Int) : Int := if n < low ∨ high < low then low else if high < n then high else n
theorem clamp_v (n low high : Int) (w : World) :
    Calls Try.prog 24 #[.int .i64 n, .int .i64 low, .int .i64 high] w fun e w' => e = .returned (.int .i64 (clampV n low high)) ∧ w = w' := clamp_any n low high w
theorem rclamp_v (n low high : Int) (w : World) :
    Calls Try.prog 25 #[.int .i64 n, .int .i64 low, .int .i64 high] w fun e w' => e = .returned (.int .i64 (clampV n low high)) ∧ w = w' := rclamp_any n low high w

set_option maxRecDepth 100000 in
set_option maxHeartbeats 4000000 in
theorem walk (a b c : Int) (w0 : (Lit.int .i64 a).wf = true) (w1 : (Lit.int .i64 b).wf = true) (w2 : (Lit.int .i64 c).wf = true) (w : World) :
    Calls Try.prog 3 #[.int .i64 a, .int .i64 b, .int .i64 c] w fun e w' => e = .returned (.bool true) ∧ Below w.heap.size w w' := by
  clear w0 w1 w2
  have hb := Below.refl w.heap.size w
  go_enter Try.func3, Try.ntmps3
  go_wp2_with (first | (go_at_call 11; refine (awake_any _).mono ?_; rintro e wx ⟨rfl, hbx⟩; replace hb := hb.trans (hbx.mono hb.size); clear hbx) | (go_at_call 12; refine (add_any _ _ _).mono ?_; rintro e wx ⟨rfl, hbx⟩; replace hb := hb.trans (hbx.mono hb.size); clear hbx) | (go_at_call 14; refine (md_any _ _ _ _).mono ?_; rintro e wx ⟨rfl, hbx⟩; replace hb := hb.trans (hbx.mono hb.size); clear hbx) | (go_at_call 16; refine (mul_any _ _ _).mono ?_; rintro e wx ⟨rfl, hbx⟩; replace hb := hb.trans (hbx.mono hb.size); clear hbx) | (go_at_call 18; refine (div_any _ _ _).mono ?_; rintro e wx ⟨rfl, hbx⟩; replace hb := hb.trans (hbx.mono hb.size); clear hbx) | (go_at_call 20; refine (sqrt_any _ _).mono ?_; rintro e wx ⟨rfl, hbx⟩; replace hb := hb.trans (hbx.mono hb.size); clear hbx) | (go_at_call 22; refine (ewma_any _ _ _ _).mono ?_; rintro e wx ⟨rfl, hbx⟩; replace hb := hb.trans (hbx.mono hb.size); clear hbx) | (go_at_call 26; refine (in_any _ _).mono ?_; rintro e wx ⟨rfl, rfl⟩) | (go_at_call 24; refine (clamp_v _ _ _ _).mono ?_; rintro e wx ⟨rfl, rfl⟩) | (go_at_call 13; refine (radd_any _ _ _).mono ?_; rintro e wx ⟨rfl, rfl⟩) | (go_at_call 15; refine (rmd_any _ _ _ _).mono ?_; rintro e wx ⟨rfl, rfl⟩) | (go_at_call 17; refine (rmul_any _ _ _).mono ?_; rintro e wx ⟨rfl, rfl⟩) | (go_at_call 19; refine (rdiv_any _ _ _).mono ?_; rintro e wx ⟨rfl, rfl⟩) | (go_at_call 21; refine (rsqrt_any _ _).mono ?_; rintro e wx ⟨rfl, rfl⟩) | (go_at_call 23; refine (rewma_any _ _ _ _).mono ?_; rintro e wx ⟨rfl, rfl⟩) | (go_at_call 27; refine (rin_any _ _).mono ?_; rintro e wx ⟨rfl, rfl⟩) | (go_at_call 25; refine (rclamp_v _ _ _ _).mono ?_; rintro e wx ⟨rfl, rfl⟩))
  go_ret
  exact ⟨rfl, hb⟩

end Go.Proofs.Ytplkppdkmhljdaa.fixTells
