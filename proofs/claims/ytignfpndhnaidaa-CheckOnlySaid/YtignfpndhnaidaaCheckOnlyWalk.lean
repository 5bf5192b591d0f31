/- The walk of the law CheckOnly: every byte slice. -/
import Derived.Test.YtignfpndhnaidaaProg
import Derived.Test.YtignfpndhnaidaaCkLaw
import Derived.WalkKit
import Derived.WalkSpells
import Derived.Lib.Hide
import Derived.Below
import Derived.Outline
namespace Go.Proofs.Ytignfpndhnaidaa.checkOnly
open Go.RowKit

theorem seal_of {l : List Int} {m : Nat} (hl : l.length = m + 4) (hs : Small l) (h : num4 l = adler (l.drop 4)) : seal4 (l.drop 4) = l := by
  match l, hl with
  | b0 :: b1 :: b2 :: b3 :: t, _ =>
    have h0 := hs b0 (by simp)
    have h1 := hs b1 (by simp)
    have h2 := hs b2 (by simp)
    have h3 := hs b3 (by simp)
    have e : num4 (b0 :: b1 :: b2 :: b3 :: t) = b0 * 16777216 + b1 * 65536 + b2 * 256 + b3 := rfl
    rw [e] at h
    show four (adler t) ++ t = _
    have h' : b0 * 16777216 + b1 * 65536 + b2 * 256 + b3 = adler t := h
    rw [← h']
    unfold four
    simp only [List.cons_append, List.nil_append, List.cons.injEq, and_true]
    omega
theorem seal_ne {l : List Int} (h : num4 l ≠ adler (l.drop 4)) : seal4 (l.drop 4) ≠ l := fun e => h (by
  have := num4_seal (l.drop 4)
  rwa [e] at this)

set_option maxRecDepth 100000 in
set_option maxHeartbeats 2000000 in
theorem walk (a0 : Option Addr) (n0 c0 : Nat) (l0 : List Int) (w : World) (h0 : Sl w a0 n0 c0 l0) :
    Calls Try.prog 6 #[.slice a0 n0 c0] w fun e w' => e = .returned (.bool true) ∧ Below w.heap.size w w' := by
  by_cases hn : n0 ≤ 3000
  · by_cases h4 : n0 < 4
    · go_enter Try.func6, Try.ntmps6
      go_wp2_with fail
      refine (awake_any _).mono ?_
      rintro e w1 ⟨rfl, b1⟩
      go_wp2_with fail
      refine (open_short _ _ _ _ h4).mono ?_
      rintro e w2 ⟨rfl, rfl⟩
      go_wp2_with fail
      go_ret
      exact ⟨rfl, b1⟩
    · obtain ⟨m, rfl⟩ : ∃ m, n0 = m + 4 := ⟨n0 - 4, by omega⟩
      obtain ⟨d, rfl⟩ := cap4 h0
      clear h4
      have m1 : decide ((m : Int) + 4 < 4) = false := by simp; omega
      have hcut := fun w => run_cut Try.prog 23 5 Try.underlying23 info_u8 a0 m d w
      by_cases hne : num4 l0 = adler (l0.drop 4)
      · have hq := seal_of h0.rd.len h0.rd.small hne
        have HQ := Lib.hid hq; clear hq
        have HN := Lib.hid hne; clear hne
        go_enter Try.func6, Try.ntmps6
        go_wp2_with fail
        refine (awake_any _).mono ?_
        rintro e w1 ⟨rfl, b1⟩
        go_wp2_with fail
        refine (open_ok _ _ _ l0 _ (h0.keep b1) (by omega) HN.out).mono ?_
        rintro e w2 ⟨R, d2, rfl, s2, hb2⟩
        have b2 := b1.trans (hb2.mono b1.size)
        go_wp2_with fail
        refine (seal_any _ _ _ (l0.drop 4) _ (h0.keep b2).cut (by omega)).mono ?_
        rintro e w3 ⟨R3, d3, rfl, s3, hb3⟩
        have b3 := b2.trans (hb3.mono b2.size)
        rw [HQ.out] at s3
        go_wp2_with fail
        refine (same_yes _ _ _ _ _ l0 _ s3.rd (h0.keep b3).rd (by omega)).mono ?_
        rintro e w4 ⟨rfl, hb4⟩
        go_wp2_with fail
        go_ret
        exact ⟨rfl, b3.trans (hb4.mono b3.size)⟩
      · have hq := seal_ne hne
        have HQ := Lib.hid hq; clear hq
        have HN := Lib.hid hne; clear hne
        go_enter Try.func6, Try.ntmps6
        go_wp2_with fail
        refine (awake_any _).mono ?_
        rintro e w1 ⟨rfl, b1⟩
        go_wp2_with fail
        refine (open_bad _ _ _ l0 _ (h0.keep b1) (by omega) HN.out).mono ?_
        rintro e w2 ⟨rfl, hb2⟩
        have b2 := b1.trans (hb2.mono b1.size)
        go_wp2_with fail
        refine (seal_any _ _ _ (l0.drop 4) _ (h0.keep b2).cut (by omega)).mono ?_
        rintro e w3 ⟨R3, d3, rfl, s3, hb3⟩
        have b3 := b2.trans (hb3.mono b2.size)
        go_wp2_with fail
        refine (same_no _ _ _ _ _ _ (seal4 (l0.drop 4)) l0 _ s3.rd (h0.keep b3).rd (by omega) HQ.out).mono ?_
        rintro e w4 ⟨rfl, hb4⟩
        go_wp2_with fail
        go_ret
        exact ⟨rfl, b3.trans (hb4.mono b3.size)⟩
  · have hn' : (3000 : Int) < (n0 : Int) := by omega
    go_enter Try.func6, Try.ntmps6
    go_wp2_with fail
    refine (awake_any _).mono ?_
    rintro e w1 ⟨rfl, b1⟩
    go_wp2_with fail
    go_ret
    exact ⟨rfl, b1⟩
end Go.Proofs.Ytignfpndhnaidaa.checkOnly
