/- The walk of the law FixOrder: every number. -/
import Derived.Test.YtplkppdkmhljdaaProg
import Derived.Test.YtplkppdkmhljdaaAwake
import Derived.WalkKit
import Derived.WalkSpells
import Derived.Lib.Hide
import Derived.Below
namespace Go.Proofs.Ytplkppdkmhljdaa.fixOrder
open Go.RowKit
set_option linter.unusedVariables false

theorem add_comm' (a b : Int) : addOk b a = addOk a b := by
  unfold addOk
  rw [Int.add_comm b a, Bool.and_comm (inB b)]
theorem md_comm (a b c : Int) : mdOk b a c = mdOk a b c := by
  unfold mdOk
  rw [Int.mul_comm b a, Bool.and_comm (inB b)]
theorem md_self (a c : Int) (ha : inB a = true) (hc : inB c = true) (h : 1 ≤ c) : mdOk a c c = true ∧ tell (a * c / c) true = a := by
  have e : a * c / c = a := Int.mul_ediv_cancel a (by omega)
  simp [mdOk, e, ha, hc, h, tell]

set_option maxHeartbeats 1000000 in
theorem walk (a b c : Int) (w0 : (Lit.int .i64 a).wf = true) (w1 : (Lit.int .i64 b).wf = true) (w2 : (Lit.int .i64 c).wf = true) (w : World) :
    Calls Try.prog 9 #[.int .i64 a, .int .i64 b, .int .i64 c] w fun e w' => e = .returned (.bool true) ∧ Below w.heap.size w w' := by
  clear w0 w1 w2
  have e1 := add_comm' a b
  have e2 := md_comm a b c
  have e3 : b + a = a + b := Int.add_comm b a
  have e4 : b * a = a * b := Int.mul_comm b a
  have hb := Below.refl w.heap.size w
  by_cases ha : inB a = true
  · by_cases hc : inB c = true
    · by_cases h : 1 ≤ c
      · obtain ⟨e5, e6⟩ := md_self a c ha hc h
        have h' : ¬ c < 1 := by omega
        go_enter Try.func9, Try.ntmps9
        go_wp2_with (first | (go_at_call 11; refine (awake_any _).mono ?_; rintro e wx ⟨rfl, hbx⟩; replace hb := hb.trans (hbx.mono hb.size); clear hbx) | (go_at_call 12; refine (add_any _ _ _).mono ?_; rintro e wx ⟨rfl, hbx⟩; replace hb := hb.trans (hbx.mono hb.size); clear hbx) | (go_at_call 14; refine (md_any _ _ _ _).mono ?_; rintro e wx ⟨rfl, hbx⟩; replace hb := hb.trans (hbx.mono hb.size); clear hbx) | (go_at_call 26; refine (in_any _ _).mono ?_; rintro e wx ⟨rfl, rfl⟩))
        go_ret
        exact ⟨rfl, hb⟩
      · have h' : c < 1 := by omega
        clear h
        go_enter Try.func9, Try.ntmps9
        go_wp2_with (first | (go_at_call 11; refine (awake_any _).mono ?_; rintro e wx ⟨rfl, hbx⟩; replace hb := hb.trans (hbx.mono hb.size); clear hbx) | (go_at_call 12; refine (add_any _ _ _).mono ?_; rintro e wx ⟨rfl, hbx⟩; replace hb := hb.trans (hbx.mono hb.size); clear hbx) | (go_at_call 14; refine (md_any _ _ _ _).mono ?_; rintro e wx ⟨rfl, hbx⟩; replace hb := hb.trans (hbx.mono hb.size); clear hbx) | (go_at_call 26; refine (in_any _ _).mono ?_; rintro e wx ⟨rfl, rfl⟩))
        go_ret
        exact ⟨rfl, hb⟩
    · have hc' : inB c = false := by simpa using hc
      clear hc
      go_enter Try.func9, Try.ntmps9
      go_wp2_with (first | (go_at_call 11; refine (awake_any _).mono ?_; rintro e wx ⟨rfl, hbx⟩; replace hb := hb.trans (hbx.mono hb.size); clear hbx) | (go_at_call 12; refine (add_any _ _ _).mono ?_; rintro e wx ⟨rfl, hbx⟩; replace hb := hb.trans (hbx.mono hb.size); clear hbx) | (go_at_call 14; refine (md_any _ _ _ _).mono ?_; rintro e wx ⟨rfl, hbx⟩; replace hb := hb.trans (hbx.mono hb.size); clear hbx) | (go_at_call 26; refine (in_any _ _).mono ?_; rintro e wx ⟨rfl, rfl⟩))
      go_ret
      exact ⟨rfl, hb⟩
  · have ha' : inB a = false := by simpa using ha
    clear ha
    go_enter Try.func9, Try.ntmps9
    go_wp2_with (first | (go_at_call 11; refine (awake_any _).mono ?_; rintro e wx ⟨rfl, hbx⟩; replace hb := hb.trans (hbx.mono hb.size); clear hbx) | (go_at_call 12; refine (add_any _ _ _).mono ?_; rintro e wx ⟨rfl, hbx⟩; replace hb := hb.trans (hbx.mono hb.size); clear hbx) | (go_at_call 14; refine (md_any _ _ _ _).mono ?_; rintro e wx ⟨rfl, hbx⟩; replace hb := hb.trans (hbx.mono hb.size); clear hbx) | (go_at_call 26; refine (in_any _ _).mono ?_; rintro e wx ⟨rfl, rfl⟩))
    go_ret
    exact ⟨rfl, hb⟩

end Go.Proofs.Ytplkppdkmhljdaa.fixOrder
