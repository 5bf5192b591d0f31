/- The walk of the law CheckParts: every list of parts. -/
import Derived.Test.YtignfpndhnaidaaProg
import Derived.Test.YtignfpndhnaidaaCkAwake
import Derived.WalkKit
import Derived.WalkSpells
import Derived.Lib.Hide
import Derived.Below
import Derived.Outline
namespace Go.Proofs.Ytignfpndhnaidaa.checkParts
open Go.RowKit

theorem few_of {ls : List (List Int)} (h : fewB ls = true) : ls.length ≤ 20 ∧ ∀ k, k < ls.length → (part ls k).length ≤ 500 := of_decide_eq_true h

set_option maxHeartbeats 1000000 in
theorem walk (a0 : Option Addr) (n0 c0 : Nat) (l0 : List (List Int)) (w : World) (h0 : Rds w a0 n0 l0) (hn : n0 ≤ 9223372036854775807) :
    Calls Try.prog 5 #[.slice a0 n0 c0] w fun e w' => e = .returned (.bool true) ∧ Below w.heap.size w w' := by
  cases hf : fewB l0 with
  | false =>
    have HF := Lib.hid hf; clear hf
    go_enter Try.func5, Try.ntmps5
    go_wp2_with fail
    refine (awake_any _).mono ?_
    rintro e w1 ⟨rfl, b1⟩
    go_wp2_with fail
    refine (few_any _ _ _ l0 _ (h0.keep b1) hn).mono ?_
    rintro e w2 ⟨he, rfl⟩
    rw [HF.out] at he
    subst he
    go_wp2_with fail
    go_ret
    exact ⟨rfl, b1⟩
  | true =>
    have hfw := few_of hf
    rw [h0.len] at hfw
    obtain ⟨hx, hy⟩ := hfw
    have HF := Lib.hid hf; clear hf
    have HY := Lib.hid hy; clear hy
    go_enter Try.func5, Try.ntmps5
    go_wp2_with fail
    refine (awake_any _).mono ?_
    rintro e w1 ⟨rfl, b1⟩
    go_wp2_with fail
    refine (few_any _ _ _ l0 _ (h0.keep b1) hn).mono ?_
    rintro e w2 ⟨he, rfl⟩
    rw [HF.out] at he
    subst he
    go_wp2_with fail
    refine (sum_any _ _ _ l0 _ (h0.keep b1) hn).mono ?_
    rintro e w3 ⟨rfl, hb3⟩
    have b3 := b1.trans (hb3.mono b1.size)
    go_wp2_with fail
    refine (joined_any _ _ _ l0 _ (h0.keep b3) hx HY.out).mono ?_
    rintro e w4 ⟨R, m, d, rfl, g1, g2, g3, g4, g5, hb4⟩
    have b4 := b3.trans (hb4.mono b3.size)
    have hone : Sl w4 R m d l0.flatten := ⟨g1, g2, g3, g5⟩
    clear g3
    go_wp2_with fail
    refine (sum1_any _ _ l0.flatten _ (hone.one _)).mono ?_
    rintro e w5 ⟨rfl, hb5⟩
    go_wp2_with fail
    go_ret
    exact ⟨rfl, (b4.alloc b4.size _).trans (hb5.mono (by have := b4.size; simp; omega))⟩
end Go.Proofs.Ytignfpndhnaidaa.checkParts
