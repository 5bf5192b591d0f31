/- The walk of the law SeqnoLess: every number. -/
import Derived.Test.YtkemkijohiakgaaProg
import Derived.Test.YtkemkijohiakgaaSeqAwake
import Derived.WalkKit
import Derived.WalkSpells
import Derived.Lib.Hide
import Derived.Below
namespace Go.Proofs.Ytkemkijohiakgaa.seqnoLess
open Go.RowKit
set_option linter.unusedVariables false

theorem up_chain {a b c : Int} (h : up a b + up b c < 2147483648) : up a c = up a b + up b c := by
  unfold up at *; omega

set_option maxHeartbeats 1000000 in
theorem walk (a b c : Int) (w0 : (Lit.int .u32 a).wf = true) (w1 : (Lit.int .u32 b).wf = true) (w2 : (Lit.int .u32 c).wf = true) (w : World) :
    Calls Try.prog 8 #[.int .u32 a, .int .u32 b, .int .u32 c] w fun e w' => e = .returned (.bool true) ∧ Below w.heap.size w w' := by
  clear w0 w1 w2
  have b1 := up_bd a b
  have b2 := up_bd b c
  have hch := @up_chain a b c
  obtain ⟨n, hn⟩ : ∃ n, up a b = n := ⟨_, rfl⟩
  obtain ⟨m, hm⟩ : ∃ m, up b c = m := ⟨_, rfl⟩
  rw [hn, hm] at hch
  rw [hn] at b1
  rw [hm] at b2
  obtain ⟨b3, b4⟩ := b1
  obtain ⟨b5, b6⟩ := b2
  by_cases h1 : 0 < n
  · by_cases h2 : n < 2147483648
    · have l1 : lessB a b = true := less_yes (by omega) (by omega)
      by_cases h3 : 0 < m ∧ m < 2147483648
      · obtain ⟨h3, h4⟩ := h3
        have l2 : lessB b c = true := less_yes (by omega) (by omega)
        by_cases h5 : n + m < 2147483648
        · have l3 : lessB a c = true := less_yes (by have := hch h5; omega) (by have := hch h5; omega)
          have h6 : ¬ 2147483648 ≤ n + m := by omega
          clear hch
          go_enter Try.func8, Try.ntmps8
          go_wp2_with (first | (go_at_call 9; refine (awake_any _).mono ?_; rintro e wx ⟨rfl, rfl⟩) | (go_at_call 14; refine (upto_any _ _ _).mono ?_; rintro e wx ⟨rfl, rfl⟩) | (go_at_call 12; refine (less_any _ _ _).mono ?_; rintro e wx ⟨rfl, rfl⟩))
          go_ret
          exact ⟨rfl, Below.refl _ _⟩
        · clear hch
          have h6 : 2147483648 ≤ n + m := by omega
          go_enter Try.func8, Try.ntmps8
          go_wp2_with (first | (go_at_call 9; refine (awake_any _).mono ?_; rintro e wx ⟨rfl, rfl⟩) | (go_at_call 14; refine (upto_any _ _ _).mono ?_; rintro e wx ⟨rfl, rfl⟩) | (go_at_call 12; refine (less_any _ _ _).mono ?_; rintro e wx ⟨rfl, rfl⟩))
          go_ret
          exact ⟨rfl, Below.refl _ _⟩
      · have l2 : lessB b c = false := less_no (by rw [hm]; exact h3)
        clear hch h3
        go_enter Try.func8, Try.ntmps8
        go_wp2_with (first | (go_at_call 9; refine (awake_any _).mono ?_; rintro e wx ⟨rfl, rfl⟩) | (go_at_call 14; refine (upto_any _ _ _).mono ?_; rintro e wx ⟨rfl, rfl⟩) | (go_at_call 12; refine (less_any _ _ _).mono ?_; rintro e wx ⟨rfl, rfl⟩))
        go_ret
        exact ⟨rfl, Below.refl _ _⟩
    · have l1 : lessB a b = false := less_no (by omega)
      clear hch
      go_enter Try.func8, Try.ntmps8
      go_wp2_with (first | (go_at_call 9; refine (awake_any _).mono ?_; rintro e wx ⟨rfl, rfl⟩) | (go_at_call 14; refine (upto_any _ _ _).mono ?_; rintro e wx ⟨rfl, rfl⟩) | (go_at_call 12; refine (less_any _ _ _).mono ?_; rintro e wx ⟨rfl, rfl⟩))
      go_ret
      exact ⟨rfl, Below.refl _ _⟩
  · have l1 : lessB a b = false := less_no (by omega)
    clear hch
    go_enter Try.func8, Try.ntmps8
    go_wp2_with (first | (go_at_call 9; refine (awake_any _).mono ?_; rintro e wx ⟨rfl, rfl⟩) | (go_at_call 14; refine (upto_any _ _ _).mono ?_; rintro e wx ⟨rfl, rfl⟩) | (go_at_call 12; refine (less_any _ _ _).mono ?_; rintro e wx ⟨rfl, rfl⟩))
    go_ret
    exact ⟨rfl, Below.refl _ _⟩

end Go.Proofs.Ytkemkijohiakgaa.seqnoLess
