/- The walk of the law CheckLong: every byte slice. -/
import Derived.Test.YtignfpndhnaidaaProg
import Derived.Test.YtignfpndhnaidaaCkLaw
import Derived.WalkKit
import Derived.WalkSpells
import Derived.Lib.Hide
import Derived.Below
import Derived.Outline
namespace Go.Proofs.Ytignfpndhnaidaa.checkLong
open Go.RowKit

set_option maxHeartbeats 2000000 in
theorem walk (a0 : Option Addr) (n0 c0 : Nat) (l0 : List Int) (w : World) (h0 : Sl w a0 n0 c0 l0) :
    Calls Try.prog 8 #[.slice a0 n0 c0] w fun e w' => e = .returned (.bool true) ∧ Below w.heap.size w w' := by
  by_cases hn : n0 ≤ 3000
  · go_enter Try.func8, Try.ntmps8
    go_wp2_with fail
    refine (awake_any _).mono ?_
    rintro e w1 ⟨rfl, b1⟩
    go_wp2_with fail
    have s1 := h0.keep b1
    refine (seal_any _ _ _ l0 _ s1 (by omega)).mono ?_
    rintro e w2 ⟨R, d, rfl, s2, hb2⟩
    obtain ⟨d, rfl⟩ := cap4 s2
    have b2 := b1.trans (hb2.mono b1.size)
    have hcut := fun w => run_cut Try.prog 23 5 Try.underlying23 info_u8 R n0 d w
    have hx : ((n0 : Int) + 4 != (n0 : Int) + 4) = false := by simp
    go_wp2_with fail
    have r0 := h0.rd.keep b2
    have r1 := s2.cut.rd
    rw [drop4_seal] at r1
    refine (same_yes _ _ _ _ _ l0 _ r1 r0 (by omega)).mono ?_
    rintro e w3 ⟨rfl, hb3⟩
    have b3 := b2.trans (hb3.mono b2.size)
    clear hcut r0 r1
    go_wp2_with fail
    have s3 := s2.keep hb3
    refine (seal_any _ _ _ (seal4 l0) _ s3 (by omega)).mono ?_
    rintro e w4 ⟨R4, d4, rfl, s4, hb4⟩
    obtain ⟨d4, rfl⟩ := cap4 s4
    have b4 := b3.trans (hb4.mono b3.size)
    go_wp2_with fail
    refine (open_sealed _ _ _ (seal4 l0) _ s4 (by omega)).mono ?_
    rintro e w5 ⟨R5, d5, rfl, s5, hb5⟩
    obtain ⟨d5, rfl⟩ := cap4 s5
    have b5 := b4.trans (hb5.mono b4.size)
    go_wp2_with fail
    refine (open_sealed _ _ _ l0 _ s5 (by omega)).mono ?_
    rintro e w6 ⟨R6, d6, rfl, s6, hb6⟩
    have b6 := b5.trans (hb6.mono b5.size)
    go_wp2_with fail
    have t5 := s5.keep hb6
    have t2 := ((s3.keep hb4).keep hb5).keep hb6
    refine (same_yes _ _ _ _ _ (seal4 l0) _ t5.rd t2.rd (by omega)).mono ?_
    rintro e w7 ⟨rfl, hb7⟩
    have b7 := b6.trans (hb7.mono b6.size)
    go_wp2_with fail
    refine (same_yes _ _ _ _ _ l0 _ (s6.keep hb7).rd (h0.keep b7).rd (by omega)).mono ?_
    rintro e w8 ⟨rfl, hb8⟩
    go_wp2_with fail
    go_ret
    exact ⟨rfl, b7.trans (hb8.mono b7.size)⟩
  · have hn' : (3000 : Int) < (n0 : Int) := by omega
    go_enter Try.func8, Try.ntmps8
    go_wp2_with fail
    refine (awake_any _).mono ?_
    rintro e w1 ⟨rfl, b1⟩
    go_wp2_with fail
    go_ret
    exact ⟨rfl, b1⟩
end Go.Proofs.Ytignfpndhnaidaa.checkLong
