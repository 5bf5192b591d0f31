/- The walk of the law CheckTells: every list of parts, every byte slice. -/
import Derived.Test.YtignfpndhnaidaaProg
import Derived.Test.YtignfpndhnaidaaCkRefOpen
import Derived.WalkKit
import Derived.WalkSpells
import Derived.Lib.Hide
import Derived.Below
import Derived.Outline
namespace Go.Proofs.Ytignfpndhnaidaa.checkTells
open Go.RowKit
set_option linter.unusedVariables false

theorem few_of {ls : List (List Int)} (h : fewB ls = true) : ls.length ≤ 20 ∧ ∀ k, k < ls.length → (part ls k).length ≤ 500 := of_decide_eq_true h

set_option maxRecDepth 100000 in
set_option maxHeartbeats 4000000 in
theorem walk (a0 : Option Addr) (n0 c0 : Nat) (l0 : List (List Int)) (a1 : Option Addr) (n1 c1 : Nat) (l1 : List Int) (w : World) (h0 : Rds w a0 n0 l0) (hn : n0 ≤ 9223372036854775807) (h1 : Sl w a1 n1 c1 l1) :
    Calls Try.prog 3 #[.slice a0 n0 c0, .slice a1 n1 c1] w fun e w' => e = .returned (.bool true) ∧ Below w.heap.size w w' := by
  cases hf : fewB l0 with
  | false =>
    have HF := Lib.hid hf; clear hf
    go_enter Try.func3, Try.ntmps3
    go_wp2_with fail
    refine (awake_any _).mono ?_
    rintro e w1 ⟨rfl, b1⟩
    go_wp2_with fail
    refine (few_any _ _ _ l0 _ (h0.keep b1) hn).mono ?_
    rintro e w2 ⟨he, rfl⟩
    rw [HF.out] at he
    subst he
    go_wp2_with fail
    go_ret
    exact ⟨rfl, b1⟩
  | true =>
    have hfw := few_of hf
    rw [h0.len] at hfw
    obtain ⟨hx, hy⟩ := hfw
    have HF := Lib.hid hf; clear hf
    have HY := Lib.hid hy; clear hy
    by_cases hm : n1 ≤ 3000
    · have d0 : decide ((3000 : Int) < (n1 : Int)) = false := by simp; omega
      by_cases h4 : n1 < 4
      · go_enter Try.func3, Try.ntmps3
        go_wp2_with fail
        refine (awake_any _).mono ?_
        rintro e w1 ⟨rfl, b1⟩
        go_wp2_with fail
        refine (few_any _ _ _ l0 _ (h0.keep b1) hn).mono ?_
        rintro e w2 ⟨he, rfl⟩
        rw [HF.out] at he
        subst he
        go_wp2_with fail
        refine (open_short _ _ _ _ h4).mono ?_
        rintro e w3 ⟨rfl, rfl⟩
        go_wp2_with fail
        refine (ropen_short _ _ _ _ h4).mono ?_
        rintro e w4 ⟨rfl, rfl⟩
        go_wp2_with fail
        refine (same_yes _ _ _ _ _ [] _ (Rd.empty _ _) (Rd.empty _ _) (by omega)).mono ?_
        rintro e w5 ⟨rfl, hb5⟩
        have b5 := b1.trans (hb5.mono b1.size)
        go_wp2_with fail
        refine (seal_any _ _ _ l1 _ (h1.keep b5) (by omega)).mono ?_
        rintro e w6 ⟨R6, d6, rfl, s6, hb6⟩
        have b6 := b5.trans (hb6.mono b5.size)
        go_wp2_with fail
        refine (rseal_any _ _ _ l1 _ (h1.keep b6) (by omega)).mono ?_
        rintro e w7 ⟨R7, d7, rfl, s7, hb7⟩
        have b7 := b6.trans (hb7.mono b6.size)
        go_wp2_with fail
        refine (same_yes _ _ _ _ _ (seal4 l1) _ (s6.keep hb7).rd s7.rd (by omega)).mono ?_
        rintro e w8 ⟨rfl, hb8⟩
        have b8 := b7.trans (hb8.mono b7.size)
        go_wp2_with fail
        refine (sum_any _ _ _ l0 _ (h0.keep b8) hn).mono ?_
        rintro e w9 ⟨rfl, hb9⟩
        have b9 := b8.trans (hb9.mono b8.size)
        obtain ⟨v0, v1⟩ := adler_bd l0.flatten
        go_wp2_with fail
        refine (joined_any _ _ _ l0 _ (h0.keep b9) hx HY.out).mono ?_
        rintro e wa ⟨R, m, d, rfl, g1, g2, g3, g4, g5, hba⟩
        have ba := b9.trans (hba.mono b9.size)
        clear g3
        go_wp2_with fail
        refine (rsum_any _ _ _ l0.flatten _ g5 (by omega)).mono ?_
        rintro e wb ⟨rfl, rfl⟩
        go_wp2_with fail
        go_ret
        exact ⟨rfl, ba⟩
      · obtain ⟨m1, rfl⟩ : ∃ m1, n1 = m1 + 4 := ⟨n1 - 4, by omega⟩
        obtain ⟨d1, rfl⟩ := cap4 h1
        clear h4
        by_cases hne : num4 l1 = adler (l1.drop 4)
        · have HN := Lib.hid hne; clear hne
          go_enter Try.func3, Try.ntmps3
          go_wp2_with fail
          refine (awake_any _).mono ?_
          rintro e w1 ⟨rfl, b1⟩
          go_wp2_with fail
          refine (few_any _ _ _ l0 _ (h0.keep b1) hn).mono ?_
          rintro e w2 ⟨he, rfl⟩
          rw [HF.out] at he
          subst he
          go_wp2_with fail
          refine (open_ok _ _ _ l1 _ (h1.keep b1) (by omega) HN.out).mono ?_
          rintro e w3 ⟨R3, d3, rfl, s3, hb3⟩
          have b3 := b1.trans (hb3.mono b1.size)
          go_wp2_with fail
          refine (ropen_ok _ _ _ l1 _ (h1.keep b3) (by omega) HN.out).mono ?_
          rintro e w4 ⟨R4, d4, rfl, s4, hb4⟩
          have b4 := b3.trans (hb4.mono b3.size)
          go_wp2_with fail
          refine (same_yes _ _ _ _ _ (l1.drop 4) _ (s3.keep hb4).rd s4.rd (by omega)).mono ?_
          rintro e w5 ⟨rfl, hb5⟩
          have b5 := b4.trans (hb5.mono b4.size)
          go_wp2_with fail
          refine (seal_any _ _ _ l1 _ (h1.keep b5) (by omega)).mono ?_
          rintro e w6 ⟨R6, d6, rfl, s6, hb6⟩
          have b6 := b5.trans (hb6.mono b5.size)
          go_wp2_with fail
          refine (rseal_any _ _ _ l1 _ (h1.keep b6) (by omega)).mono ?_
          rintro e w7 ⟨R7, d7, rfl, s7, hb7⟩
          have b7 := b6.trans (hb7.mono b6.size)
          go_wp2_with fail
          refine (same_yes _ _ _ _ _ (seal4 l1) _ (s6.keep hb7).rd s7.rd (by omega)).mono ?_
          rintro e w8 ⟨rfl, hb8⟩
          have b8 := b7.trans (hb8.mono b7.size)
          go_wp2_with fail
          refine (sum_any _ _ _ l0 _ (h0.keep b8) hn).mono ?_
          rintro e w9 ⟨rfl, hb9⟩
          have b9 := b8.trans (hb9.mono b8.size)
          obtain ⟨v0, v1⟩ := adler_bd l0.flatten
          go_wp2_with fail
          refine (joined_any _ _ _ l0 _ (h0.keep b9) hx HY.out).mono ?_
          rintro e wa ⟨R, m, d, rfl, g1, g2, g3, g4, g5, hba⟩
          have ba := b9.trans (hba.mono b9.size)
          clear g3
          go_wp2_with fail
          refine (rsum_any _ _ _ l0.flatten _ g5 (by omega)).mono ?_
          rintro e wb ⟨rfl, rfl⟩
          go_wp2_with fail
          go_ret
          exact ⟨rfl, ba⟩
        · have HN := Lib.hid hne; clear hne
          go_enter Try.func3, Try.ntmps3
          go_wp2_with fail
          refine (awake_any _).mono ?_
          rintro e w1 ⟨rfl, b1⟩
          go_wp2_with fail
          refine (few_any _ _ _ l0 _ (h0.keep b1) hn).mono ?_
          rintro e w2 ⟨he, rfl⟩
          rw [HF.out] at he
          subst he
          go_wp2_with fail
          refine (open_bad _ _ _ l1 _ (h1.keep b1) (by omega) HN.out).mono ?_
          rintro e w3 ⟨rfl, hb3⟩
          have b3 := b1.trans (hb3.mono b1.size)
          go_wp2_with fail
          refine (ropen_bad _ _ _ l1 _ (h1.keep b3) (by omega) HN.out).mono ?_
          rintro e w4 ⟨rfl, hb4⟩
          have b4 := b3.trans (hb4.mono b3.size)
          go_wp2_with fail
          refine (same_yes _ _ _ _ _ [] _ (Rd.empty _ _) (Rd.empty _ _) (by omega)).mono ?_
          rintro e w5 ⟨rfl, hb5⟩
          have b5 := b4.trans (hb5.mono b4.size)
          go_wp2_with fail
          refine (seal_any _ _ _ l1 _ (h1.keep b5) (by omega)).mono ?_
          rintro e w6 ⟨R6, d6, rfl, s6, hb6⟩
          have b6 := b5.trans (hb6.mono b5.size)
          go_wp2_with fail
          refine (rseal_any _ _ _ l1 _ (h1.keep b6) (by omega)).mono ?_
          rintro e w7 ⟨R7, d7, rfl, s7, hb7⟩
          have b7 := b6.trans (hb7.mono b6.size)
          go_wp2_with fail
          refine (same_yes _ _ _ _ _ (seal4 l1) _ (s6.keep hb7).rd s7.rd (by omega)).mono ?_
          rintro e w8 ⟨rfl, hb8⟩
          have b8 := b7.trans (hb8.mono b7.size)
          go_wp2_with fail
          refine (sum_any _ _ _ l0 _ (h0.keep b8) hn).mono ?_
          rintro e w9 ⟨rfl, hb9⟩
          have b9 := b8.trans (hb9.mono b8.size)
          obtain ⟨v0, v1⟩ := adler_bd l0.flatten
          go_wp2_with fail
          refine (joined_any _ _ _ l0 _ (h0.keep b9) hx HY.out).mono ?_
          rintro e wa ⟨R, m, d, rfl, g1, g2, g3, g4, g5, hba⟩
          have ba := b9.trans (hba.mono b9.size)
          clear g3
          go_wp2_with fail
          refine (rsum_any _ _ _ l0.flatten _ g5 (by omega)).mono ?_
          rintro e wb ⟨rfl, rfl⟩
          go_wp2_with fail
          go_ret
          exact ⟨rfl, ba⟩
    · have d0 : decide ((3000 : Int) < (n1 : Int)) = true := by simp; omega
      go_enter Try.func3, Try.ntmps3
      go_wp2_with fail
      refine (awake_any _).mono ?_
      rintro e w1 ⟨rfl, b1⟩
      go_wp2_with fail
      refine (few_any _ _ _ l0 _ (h0.keep b1) hn).mono ?_
      rintro e w2 ⟨he, rfl⟩
      rw [HF.out] at he
      subst he
      go_wp2_with fail
      go_ret
      exact ⟨rfl, b1⟩
end Go.Proofs.Ytignfpndhnaidaa.checkTells
