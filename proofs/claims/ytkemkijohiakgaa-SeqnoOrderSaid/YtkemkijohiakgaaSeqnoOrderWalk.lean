/- The walk of the law SeqnoOrder: every number. -/
import Derived.Test.YtkemkijohiakgaaProg
import Derived.Test.YtkemkijohiakgaaSeqAwake
import Derived.WalkKit
import Derived.WalkSpells
import Derived.Lib.Hide
import Derived.Below
namespace Go.Proofs.Ytkemkijohiakgaa.seqnoOrder
open Go.RowKit
set_option linter.unusedVariables false

theorem wrap_up {a b more : Int} : up ((a + more) % 4294967296) ((b + more) % 4294967296) = up a b := by
  unfold up; omega
theorem wrap_less {a b more : Int} : lessB ((a + more) % 4294967296) ((b + more) % 4294967296) = lessB a b := by
  unfold lessB; rw [wrap_up]

set_option maxHeartbeats 1000000 in
theorem walk (a b more : Int) (w0 : (Lit.int .u32 a).wf = true) (w1 : (Lit.int .u32 b).wf = true) (w2 : (Lit.int .u32 more).wf = true) (w : World) :
    Calls Try.prog 5 #[.int .u32 a, .int .u32 b, .int .u32 more] w fun e w' => e = .returned (.bool true) ∧ Below w.heap.size w w' := by
  have ba := wf32 w0
  have bb := wf32 w1
  clear w0 w1 w2
  have e1 : up ((a + more) % 4294967296) ((b + more) % 4294967296) = up a b := wrap_up
  have e2 : lessB ((a + more) % 4294967296) ((b + more) % 4294967296) = lessB a b := wrap_less
  have e3 : lessB a a = false := less_no (by unfold up; omega)
  have b1 := up_bd a b
  have b2 := up_bd b a
  by_cases hab : a = b
  · subst hab
    have e4 : up a a = 0 := by unfold up; omega
    clear b1 b2 ba bb
    go_enter Try.func5, Try.ntmps5
    go_wp2_with (first | (go_at_call 9; refine (awake_any _).mono ?_; rintro e wx ⟨rfl, rfl⟩) | (go_at_call 14; refine (upto_any _ _ _).mono ?_; rintro e wx ⟨rfl, rfl⟩) | (go_at_call 12; refine (less_any _ _ _).mono ?_; rintro e wx ⟨rfl, rfl⟩))
    go_ret
    exact ⟨rfl, Below.refl _ _⟩
  · have e5 : up a b + up b a = 4294967296 := by unfold up; omega
    have hn : 0 < up a b := by unfold up; omega
    have hm : 0 < up b a := by unfold up; omega
    obtain ⟨n, en⟩ : ∃ n, up a b = n := ⟨_, rfl⟩
    obtain ⟨m, em⟩ : ∃ m, up b a = m := ⟨_, rfl⟩
    rw [en] at e1 hn
    rw [em] at hm
    rw [en, em] at e5
    rw [en] at b1
    rw [em] at b2
    clear ba bb
    have hz : (n == 0) = false := by simp; omega
    have ha : (a == b) = false := by simp; omega
    by_cases h1 : n < 2147483648
    · have l1 : lessB a b = true := less_yes (by omega) (by omega)
      have l2 : lessB b a = false := less_no (by omega)
      have hq : (n == 2147483648) = false := by simp; omega
      rw [l1] at e2
      go_enter Try.func5, Try.ntmps5
      go_wp2_with (first | (go_at_call 9; refine (awake_any _).mono ?_; rintro e wx ⟨rfl, rfl⟩) | (go_at_call 14; refine (upto_any _ _ _).mono ?_; rintro e wx ⟨rfl, rfl⟩) | (go_at_call 12; refine (less_any _ _ _).mono ?_; rintro e wx ⟨rfl, rfl⟩))
      go_ret
      exact ⟨rfl, Below.refl _ _⟩
    · by_cases h2 : n = 2147483648
      · subst h2
        have l1 : lessB a b = false := less_no (by omega)
        rw [l1] at e2
        go_enter Try.func5, Try.ntmps5
        go_wp2_with (first | (go_at_call 9; refine (awake_any _).mono ?_; rintro e wx ⟨rfl, rfl⟩) | (go_at_call 14; refine (upto_any _ _ _).mono ?_; rintro e wx ⟨rfl, rfl⟩) | (go_at_call 12; refine (less_any _ _ _).mono ?_; rintro e wx ⟨rfl, rfl⟩))
        go_ret
        exact ⟨rfl, Below.refl _ _⟩
      · have l1 : lessB a b = false := less_no (by omega)
        have l2 : lessB b a = true := less_yes (by omega) (by omega)
        have hq : (n == 2147483648) = false := by simp; omega
        rw [l1] at e2
        go_enter Try.func5, Try.ntmps5
        go_wp2_with (first | (go_at_call 9; refine (awake_any _).mono ?_; rintro e wx ⟨rfl, rfl⟩) | (go_at_call 14; refine (upto_any _ _ _).mono ?_; rintro e wx ⟨rfl, rfl⟩) | (go_at_call 12; refine (less_any _ _ _).mono ?_; rintro e wx ⟨rfl, rfl⟩))
        go_ret
        exact ⟨rfl, Below.refl _ _⟩

end Go.Proofs.Ytkemkijohiakgaa.seqnoOrder
