/- The walk of the law SeqnoBack: every number. -/
import Derived.Test.YtkemkijohiakgaaProg
import Derived.Test.YtkemkijohiakgaaSeqAwake
import Derived.WalkKit
import Derived.WalkSpells
import Derived.Lib.Hide
import Derived.Below
namespace Go.Proofs.Ytkemkijohiakgaa.seqnoBack
open Go.RowKit
set_option linter.unusedVariables false

theorem near0_bd (near : Int) : 0 ≤ near0 near ∧ near0 near ≤ 4611686018427387904 := by
  unfold near0; repeat' split
  all_goals omega
theorem back {near far : Int} (h0 : 0 ≤ near) (h1 : near ≤ 4611686018427387904) (h2 : -2147483648 < far) (h3 : far < 2147483648) (h4 : 0 ≤ near + far) :
    unw (near0 near) ((near + far) % 4294967296) = near + far := by
  unfold near0; rw [if_neg (by omega), if_neg (by omega)]
  unfold unw firstN; split <;> omega

set_option maxHeartbeats 1000000 in
theorem walk (near far low : Int) (w0 : (Lit.int .i64 near).wf = true) (w1 : (Lit.int .i64 far).wf = true) (w2 : (Lit.int .u32 low).wf = true) (w : World) :
    Calls Try.prog 4 #[.int .i64 near, .int .i64 far, .int .u32 low] w fun e w' => e = .returned (.bool true) ∧ Below w.heap.size w w' := by
  have bn := wf64 w0
  have bl := wf32 w2
  clear w0 w1 w2
  have hbk := @back near far
  have bd := near0_bd near
  obtain ⟨f1, f2, f3, f4, f5, f6⟩ := unw_facts (near0 near) low (by omega) (by omega) (by omega) (by omega)
  clear f6 f2 f4 bd
  obtain ⟨n, en⟩ : ∃ n, unw (near0 near) low = n := ⟨_, rfl⟩
  rw [en] at f1 f3 f5
  obtain ⟨b1, b2⟩ := bn
  obtain ⟨b3, b4⟩ := bl
  by_cases h1 : near < 0
  · clear hbk
    go_enter Try.func4, Try.ntmps4
    go_wp2_with (first | (go_at_call 9; refine (awake_any _).mono ?_; rintro e wx ⟨rfl, rfl⟩) | (go_at_call 10; refine (low_any _ _).mono ?_; rintro e wx ⟨rfl, rfl⟩) | (go_at_call 16; refine (unwrap_any _ _ (by omega) (by omega) (by omega) _).mono ?_; rintro e wx ⟨rfl, rfl⟩))
    go_ret
    exact ⟨rfl, Below.refl _ _⟩
  · by_cases h2 : 4611686018427387904 < near
    · clear hbk
      go_enter Try.func4, Try.ntmps4
      go_wp2_with (first | (go_at_call 9; refine (awake_any _).mono ?_; rintro e wx ⟨rfl, rfl⟩) | (go_at_call 10; refine (low_any _ _).mono ?_; rintro e wx ⟨rfl, rfl⟩) | (go_at_call 16; refine (unwrap_any _ _ (by omega) (by omega) (by omega) _).mono ?_; rintro e wx ⟨rfl, rfl⟩))
      go_ret
      exact ⟨rfl, Below.refl _ _⟩
    · by_cases h3 : far ≤ -2147483648
      · clear hbk
        go_enter Try.func4, Try.ntmps4
        go_wp2_with (first | (go_at_call 9; refine (awake_any _).mono ?_; rintro e wx ⟨rfl, rfl⟩) | (go_at_call 10; refine (low_any _ _).mono ?_; rintro e wx ⟨rfl, rfl⟩) | (go_at_call 16; refine (unwrap_any _ _ (by omega) (by omega) (by omega) _).mono ?_; rintro e wx ⟨rfl, rfl⟩))
        go_ret
        exact ⟨rfl, Below.refl _ _⟩
      · by_cases h4 : 2147483648 ≤ far
        · clear hbk
          go_enter Try.func4, Try.ntmps4
          go_wp2_with (first | (go_at_call 9; refine (awake_any _).mono ?_; rintro e wx ⟨rfl, rfl⟩) | (go_at_call 10; refine (low_any _ _).mono ?_; rintro e wx ⟨rfl, rfl⟩) | (go_at_call 16; refine (unwrap_any _ _ (by omega) (by omega) (by omega) _).mono ?_; rintro e wx ⟨rfl, rfl⟩))
          go_ret
          exact ⟨rfl, Below.refl _ _⟩
        · by_cases h5 : near + far < 0
          · clear hbk
            go_enter Try.func4, Try.ntmps4
            go_wp2_with (first | (go_at_call 9; refine (awake_any _).mono ?_; rintro e wx ⟨rfl, rfl⟩) | (go_at_call 10; refine (low_any _ _).mono ?_; rintro e wx ⟨rfl, rfl⟩) | (go_at_call 16; refine (unwrap_any _ _ (by omega) (by omega) (by omega) _).mono ?_; rintro e wx ⟨rfl, rfl⟩))
            go_ret
            exact ⟨rfl, Below.refl _ _⟩
          · have e2 := hbk (by omega) (by omega) (by omega) (by omega) (by omega)
            clear hbk
            go_enter Try.func4, Try.ntmps4
            go_wp2_with (first | (go_at_call 9; refine (awake_any _).mono ?_; rintro e wx ⟨rfl, rfl⟩) | (go_at_call 10; refine (low_any _ _).mono ?_; rintro e wx ⟨rfl, rfl⟩) | (go_at_call 16; refine (unwrap_any _ _ (by omega) (by omega) (by omega) _).mono ?_; rintro e wx ⟨rfl, rfl⟩))
            go_ret
            exact ⟨rfl, Below.refl _ _⟩

end Go.Proofs.Ytkemkijohiakgaa.seqnoBack
