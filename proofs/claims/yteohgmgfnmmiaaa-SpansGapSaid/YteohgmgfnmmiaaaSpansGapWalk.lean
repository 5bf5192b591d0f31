/- The walk of the law SpansGap. -/
import Derived.Test.YteohgmgfnmmiaaaSpLaw
namespace Go.Proofs.Yteohgmgfnmmiaaa.spansGap
open Go.RowKit
set_option linter.unusedVariables false

set_option maxRecDepth 100000 in
set_option maxHeartbeats 4000000 in
theorem walk (A : Option Addr) (n c : Nat) (l : List Sp) (f : Int) (w : World) (hs : Ss w A n c l) (hf : (Lit.int .i64 f).wf = true) :
    Calls Try.prog 7 #[.slice A n c, .int .i64 f] w fun e w' => e = .returned (.bool true) ∧ Below w.heap.size w w' := by
  have hl := hs.rd.len
  have h64 := w64_of_wf hf
  unfold W64 at h64
  clear hf
  by_cases hn : n ≤ 100
  case neg =>
    go_enter Try.func7, Try.ntmps7
    go_wp2_with fail
    refine (awake_any _).mono ?_
    rintro e w1 ⟨rfl, b1⟩
    go_wp2_with fail
    go_ret
    exact ⟨rfl, b1⟩
  case pos =>
  by_cases hm : mayB l = true
  case neg =>
    have hm' : mayB l = false := by simpa using hm
    go_enter Try.func7, Try.ntmps7
    go_wp2_with fail
    refine (awake_any _).mono ?_
    rintro e w1 ⟨rfl, b1⟩
    have hmay := may_any _ _ _ _ _ (hs.keep b1)
    rw [hm'] at hmay
    go_wp2_with fail
    refine hmay.mono ?_
    rintro e w2 ⟨rfl, hb2⟩
    go_wp2_with fail
    go_ret
    exact ⟨rfl, b1.trans (hb2.mono b1.size)⟩
  case pos =>
  by_cases hf0 : f < 0
  case pos =>
    go_enter Try.func7, Try.ntmps7
    go_wp2_with fail
    refine (awake_any _).mono ?_
    rintro e w1 ⟨rfl, b1⟩
    have hmay := may_any _ _ _ _ _ (hs.keep b1)
    rw [hm] at hmay
    go_wp2_with fail
    refine hmay.mono ?_
    rintro e w2 ⟨rfl, hb2⟩
    go_wp2_with fail
    go_ret
    exact ⟨rfl, b1.trans (hb2.mono b1.size)⟩
  case neg =>
  have hf0' : 0 ≤ f := by omega
  by_cases hf1 : 4611686018427387904 ≤ f
  case pos =>
    go_enter Try.func7, Try.ntmps7
    go_wp2_with fail
    refine (awake_any _).mono ?_
    rintro e w1 ⟨rfl, b1⟩
    have hmay := may_any _ _ _ _ _ (hs.keep b1)
    rw [hm] at hmay
    go_wp2_with fail
    refine hmay.mono ?_
    rintro e w2 ⟨rfl, hb2⟩
    go_wp2_with fail
    go_ret
    exact ⟨rfl, b1.trans (hb2.mono b1.size)⟩
  case neg =>
  have hch := (mayB_parts hm).2
  have g1 := gap_ge l f
  have g2 := gap_out hch f
  have g3 := gap_top hch (a := f) (by omega)
  have g4 := fun h => gap_hasit (l := l) (a := f) h
  have g5 : gapF l f = gapIn l f := gapF_of hm hf0'
  obtain ⟨g, hg⟩ : ∃ g, gapIn l f = g := ⟨_, rfl⟩
  rw [hg] at g1 g2 g3 g4 g5
  have e1 : g < 4611686018427387904 → hasB l g (g + 1) = false := fun h => by
    rw [hasB_of hm (vld_iff.2 ⟨by omega, by omega, by omega⟩)]
    cases hh : hasIn l g (g + 1) with
    | false => rfl
    | true => exact absurd ((has_one l g).1 hh) g2
  have e2 : g ≠ f → hasB l f g = true := fun h => by rw [hasB_of hm (vld_iff.2 ⟨by omega, by omega, by omega⟩)]; exact g4 h
  clear g2 g4 hg hch
  have g1' : ¬ g < f := by omega
  go_enter Try.func7, Try.ntmps7
  go_wp2_with fail
  refine (awake_any _).mono ?_
  rintro e w1 ⟨rfl, b1⟩
  have hmay := may_any _ _ _ _ _ (hs.keep b1)
  rw [hm] at hmay
  go_wp2_with fail
  refine hmay.mono ?_
  rintro e w2 ⟨rfl, hb2⟩
  have b2 := b1.trans (hb2.mono b1.size)
  clear hmay
  have hgap := gap_any _ _ _ _ f _ (hs.keep b2)
  rw [g5] at hgap
  go_wp2_with fail
  refine hgap.mono ?_
  rintro e w3 ⟨rfl, hb3⟩
  have b3 := b2.trans (hb3.mono b2.size)
  clear hgap
  by_cases hlt : g < 4611686018427387904
  · have hhas := has_any _ _ _ _ g (g + 1) _ (hs.keep b3)
    rw [e1 hlt] at hhas
    go_wp2_with fail
    refine hhas.mono ?_
    rintro e w4 ⟨rfl, hb4⟩
    have b4 := b3.trans (hb4.mono b3.size)
    clear hhas
    by_cases hgf : g = f
    · go_wp2_with fail
      go_ret
      exact ⟨rfl, b4⟩
    · have hhas := has_any _ _ _ _ f g _ (hs.keep b4)
      rw [e2 hgf] at hhas
      go_wp2_with fail
      refine hhas.mono ?_
      rintro e w5 ⟨rfl, hb5⟩
      go_wp2_with fail
      go_ret
      exact ⟨rfl, b4.trans (hb5.mono b4.size)⟩
  · by_cases hgf : g = f
    · omega
    · have hhas := has_any _ _ _ _ f g _ (hs.keep b3)
      rw [e2 hgf] at hhas
      go_wp2_with fail
      refine hhas.mono ?_
      rintro e w5 ⟨rfl, hb5⟩
      go_wp2_with fail
      go_ret
      exact ⟨rfl, b3.trans (hb5.mono b3.size)⟩
end Go.Proofs.Yteohgmgfnmmiaaa.spansGap
