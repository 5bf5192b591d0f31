/- The walk of the law FixRange: every number. -/
import Derived.Test.YtplkppdkmhljdaaProg
import Derived.Test.YtplkppdkmhljdaaAwake
import Derived.WalkKit
import Derived.WalkSpells
import Derived.Lib.Hide
import Derived.Below
namespace Go.Proofs.Ytplkppdkmhljdaa.fixRange
open Go.RowKit
set_option linter.unusedVariables false

theorem tell_in (r : Int) (k : Bool) (h : k = true → inB r = true) : inB (tell r k) = true := by
  cases k
  · show inB 0 = true; decide
  · exact h rfl
theorem add_in (a b : Int) : inB (tell (a + b) (addOk a b)) = true := tell_in _ _ fun h => by simp [addOk] at h; exact h.2
theorem md_in (a b c : Int) : inB (tell (a * b / c) (mdOk a b c)) = true := tell_in _ _ fun h => by simp [mdOk] at h; exact h.2
theorem mul_in (a b : Int) : inB (tell (a * b) (mdOk a b 1)) = true := by have := md_in a b 1; rw [Int.ediv_one] at this; exact this
theorem sq_in (a : Int) : inB (tell (sqR a) (sqOk a)) = true := tell_in _ _ fun h => by
  simp [sqOk] at h
  have h1 := (inB_iff a).1 h.1
  have := isq_le a.toNat (by omega)
  rw [inB_iff, sqR]; omega
theorem ew_in (a b c : Int) : inB (tell (ewR a b c) (ewOk a b c)) = true := tell_in _ _ fun h => by
  simp [ewOk] at h
  obtain ⟨⟨⟨⟨h1, h2⟩, _⟩, _⟩, _⟩ := h
  rw [inB_iff] at h1 h2 ⊢
  obtain ⟨x, y⟩ := ew_between a b c.toNat
  unfold ewR
  rcases Int.le_total a b with h5 | h5
  · have := x h5; omega
  · have := y h5; omega

set_option maxHeartbeats 1000000 in
theorem walk (a b c : Int) (w0 : (Lit.int .i64 a).wf = true) (w1 : (Lit.int .i64 b).wf = true) (w2 : (Lit.int .i64 c).wf = true) (w : World) :
    Calls Try.prog 4 #[.int .i64 a, .int .i64 b, .int .i64 c] w fun e w' => e = .returned (.bool true) ∧ Below w.heap.size w w' := by
  clear w0 w1 w2
  have hb := Below.refl w.heap.size w
  have i1 := add_in a b
  have i2 := mul_in a b
  have i3 := md_in a b c
  have i4 := ew_in a b c
  have i5 := sq_in a
  have t1 : tell (a + b) false = 0 := rfl
  have t2 : tell (a * b) false = 0 := rfl
  have t3 : tell (a * b / c) false = 0 := rfl
  have t4 : tell (ewR a b c) false = 0 := rfl
  have t5 : tell (sqR a) false = 0 := rfl
  go_enter Try.func4, Try.ntmps4
  go_wp2_with (first | (go_at_call 11; refine (awake_any _).mono ?_; rintro e wx ⟨rfl, hbx⟩; replace hb := hb.trans (hbx.mono hb.size); clear hbx) | (go_at_call 12; refine (add_any _ _ _).mono ?_; rintro e wx ⟨rfl, hbx⟩; replace hb := hb.trans (hbx.mono hb.size); clear hbx) | (go_at_call 14; refine (md_any _ _ _ _).mono ?_; rintro e wx ⟨rfl, hbx⟩; replace hb := hb.trans (hbx.mono hb.size); clear hbx) | (go_at_call 16; refine (mul_any _ _ _).mono ?_; rintro e wx ⟨rfl, hbx⟩; replace hb := hb.trans (hbx.mono hb.size); clear hbx) | (go_at_call 20; refine (sqrt_any _ _).mono ?_; rintro e wx ⟨rfl, hbx⟩; replace hb := hb.trans (hbx.mono hb.size); clear hbx) | (go_at_call 22; refine (ewma_any _ _ _ _).mono ?_; rintro e wx ⟨rfl, hbx⟩; replace hb := hb.trans (hbx.mono hb.size); clear hbx) | (go_at_call 26; refine (in_any _ _).mono ?_; rintro e wx ⟨rfl, rfl⟩))
  all_goals
    go_ret
    exact ⟨rfl, hb⟩

end Go.Proofs.Ytplkppdkmhljdaa.fixRange
