/- Package least as it landed: highs, joined as contracts of the call. -/
import Derived.Test.YtihheanjlabioaaLeL3
import Derived.Scope
namespace Go.Proofs.Ytihheanjlabioaa
open Go.RowKit Go.Shelf
set_option linter.unusedVariables false
set_option linter.unusedSimpArgs false

set_option maxRecDepth 100000 in
set_option maxHeartbeats 4000000 in
theorem highs_any (span : Int) (A : Option Addr) (n c : Nat) (high : Int) (l : List Sp) (at_ nn : Int) (w : World) (hs : Ss w A n c l) (hok : Lok ⟨span, l, high⟩) :
    Calls Try.prog 19 #[.agg #[.int .i64 span, .slice A n c, .int .i64 high], .int .i64 at_, .int .i64 nn] w fun e w' => e = .returned (.int .i64 (highR ⟨span, l, high⟩ at_ nn)) ∧ Below w.heap.size w w' := by
  obtain ⟨B, hB⟩ : ∃ B, w.heap.size = B := ⟨_, rfl⟩
  rw [hB]
  have e0 := Bx.new w 24 [.int .i64 span, .slice A n c, .int .i64 high]
  rw [hB] at e0
  have b0 : Below B w (w.alloc (.cells #[.int .i64 span, .slice A n c, .int .i64 high] 24)) := by rw [← hB]; exact (Below.refl _ _).alloc (Nat.le_refl _) _
  have hs0 := hs.alloc (.cells #[.int .i64 span, .slice A n c, .int .i64 high] 24)
  have hof := leof_any span A n c high l at_ _ hs0
  have hbd := of_bd hok at_
  have h0 := hok.h0; have h7 := hok.h1
  dsimp only at h0 h7
  have hhi : highR ⟨span, l, high⟩ at_ nn = if ((ofR ⟨span, l, high⟩ at_).2 && decide (2 * (ofR ⟨span, l, high⟩ at_).1 < nn)) = true then high + 1 else 0 := rfl
  rw [hhi]
  clear hhi hok
  obtain ⟨x, hx⟩ : ∃ x, ofR ⟨span, l, high⟩ at_ = x := ⟨_, rfl⟩
  rw [hx] at hof hbd ⊢
  clear hx hs hs0
  obtain ⟨om, ob⟩ := x
  dsimp only at hof hbd ⊢
  obtain ⟨om0, om1⟩ := hbd
  obtain ⟨q, hq⟩ : ∃ q, (if (ob && decide (2 * om < nn)) = true then high + 1 else 0) = q := ⟨_, rfl⟩
  rw [hq]
  have HQ := Lib.hid hq
  clear hq
  go_enter Try.func19, Try.ntmps19
  go_upto_region 1 with fail
  generalize w.alloc (.cells #[.int .i64 span, .slice A n c, .int .i64 high] 24) = w1 at e0 b0 hof ⊢
  go_wp2_with (refine le_load rfl (.tmp 3) rfl rfl e0 rfl ?_)
  refine hof.mono ?_
  rintro e w2 ⟨rfl, hb2⟩
  have e2 := e0.kept hb2
  have b2 := b0.trans (hb2.mono (Nat.le_of_lt e0.lt))
  have x2 := e2.cell 2 rfl
  clear e0 b0 hb2 hof
  cases ob with
  | false =>
    have hq := HQ.out
    rw [Bool.false_and, if_neg (by simp)] at hq
    subst hq
    clear HQ
    go_wp2_with fail
    go_ret
    exact ⟨rfl, b2⟩
  | true =>
  by_cases cf : 2 * om < nn
  · have df : decide (2 * om < nn) = true := decide_eq_true cf
    have hq := HQ.out
    rw [df, Bool.and_self, if_pos rfl] at hq
    subst hq
    clear HQ
    go_wp2_with fail
    go_ret
    exact ⟨rfl, b2⟩
  · have df : decide (2 * om < nn) = false := decide_eq_false cf
    have hq := HQ.out
    rw [df, Bool.and_false, if_neg (by simp)] at hq
    subst hq
    clear HQ cf
    go_wp2_with fail
    go_ret
    exact ⟨rfl, b2⟩
end Go.Proofs.Ytihheanjlabioaa
