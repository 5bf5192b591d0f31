/- Package xmp as it landed: within, May, the five operations as contracts of the calls. -/
import Derived.Test.YtjlomjdghmjkmaaXmRef1
import Derived.Laws.EntriesVeiled
namespace Go.Proofs.Ytjlomjdghmjkmaa
open Go.RowKit
set_option linter.unusedVariables false
set_option linter.unusedSimpArgs false

/-- low to high -/
def xinB (n lo hi : Int) : Bool := decide (lo ≤ n) && decide (n ≤ hi)
theorem xin_iff (n lo hi : Int) : xinB n lo hi = true ↔ lo ≤ n ∧ n ≤ hi := by unfold xinB; simp
theorem xwin_any (n lo hi : Int) (w : World) :
    Calls Try.prog 28 #[.int .i64 n, .int .i64 lo, .int .i64 hi] w fun e w' => e = .returned (.bool (xinB n lo hi)) ∧ w = w' := by
  by_cases h1 : lo ≤ n
  · have e1 : xinB n lo hi = decide (n ≤ hi) := by unfold xinB; rw [decide_eq_true h1]; rfl
    rw [e1]
    clear e1
    have d1 : decide (lo ≤ n) = true := decide_eq_true h1
    go_enter Try.func28, Try.ntmps28
    go_wp2
    go_ret
    exact ⟨rfl, rfl⟩
  · have e1 : xinB n lo hi = false := by unfold xinB; rw [decide_eq_false h1]; rfl
    rw [e1]
    clear e1
    have d1 : decide (lo ≤ n) = false := decide_eq_false h1
    go_enter Try.func28, Try.ntmps28
    go_wp2
    go_ret
    exact ⟨rfl, rfl⟩
theorem xmB_win (c t mss most : Int) : xmB c t mss most = (xinB mss 1 1460 && (xinB most mss 1073741824 && (xinB c mss most && xinB t mss most))) := by
  rw [Bool.eq_iff_iff, xmB_iff]
  simp only [Bool.and_eq_true, xin_iff]
  exact ⟨fun ⟨a, b, c, d, e, f, g, h⟩ => ⟨⟨a, b⟩, ⟨c, d⟩, ⟨e, f⟩, g, h⟩, fun ⟨⟨a, b⟩, ⟨c, d⟩, ⟨e, f⟩, g, h⟩ => ⟨a, b, c, d, e, f, g, h⟩⟩

set_option maxRecDepth 100000 in
set_option maxHeartbeats 8000000 in
theorem xwmay_any (c t mss most : Int) (w : World) :
    Calls Try.prog 18 #[.agg #[.int .i64 c, .int .i64 t], .int .i64 mss, .int .i64 most] w fun e w' => e = .returned (.bool (xmB c t mss most)) ∧ Below w.heap.size w w' := by
  obtain ⟨B, hB⟩ : ∃ B, w.heap.size = B := ⟨_, rfl⟩
  have e0 := Bx.new w 24 [.int .i64 c, .int .i64 t]
  rw [hB] at e0 ⊢
  have b0 : Below B w (w.alloc (.cells #[.int .i64 c, .int .i64 t] 24)) := by rw [← hB]; exact (Below.refl _ _).alloc (Nat.le_refl _) _
  obtain ⟨q, hq⟩ : ∃ q, xmB c t mss most = q := ⟨_, rfl⟩
  rw [hq]
  rw [xmB_win] at hq
  go_enter Try.func18, Try.ntmps18
  go_upto_region 1 with fail
  change Code.wp _ _ _ _ (w.alloc (.cells #[.int .i64 c, .int .i64 t] 24))
  generalize w.alloc (.cells #[.int .i64 c, .int .i64 t] 24) = w1 at e0 b0 ⊢
  have c0 := e0.cell 0 rfl; have c1 := e0.cell 1 rfl
  cases h0 : xinB mss 1 1460 with
  | false =>
    have hF : q = false := by rw [← hq]; simp [h0]
    subst hF
    clear hq
    go_wp2_with (go_at_call 28; refine (xwin_any _ _ _ _).mono ?_; rintro e wx ⟨rfl, rfl⟩)
    go_ret
    exact ⟨rfl, b0⟩
  | true =>
  cases h1 : xinB most mss 1073741824 with
  | false =>
    have hF : q = false := by rw [← hq]; simp [h0, h1]
    subst hF
    clear hq
    go_wp2_with (go_at_call 28; refine (xwin_any _ _ _ _).mono ?_; rintro e wx ⟨rfl, rfl⟩)
    go_ret
    exact ⟨rfl, b0⟩
  | true =>
  cases h2 : xinB c mss most with
  | false =>
    have hF : q = false := by rw [← hq]; simp [h0, h1, h2]
    subst hF
    clear hq
    go_wp2_with (go_at_call 28; refine (xwin_any _ _ _ _).mono ?_; rintro e wx ⟨rfl, rfl⟩)
    go_ret
    exact ⟨rfl, b0⟩
  | true =>
  have hF : q = xinB t mss most := by rw [← hq]; simp [h0, h1, h2]
  subst hF
  clear hq
  go_wp2_with (go_at_call 28; refine (xwin_any _ _ _ _).mono ?_; rintro e wx ⟨rfl, rfl⟩)
  go_ret
  exact ⟨rfl, b0⟩

end Go.Proofs.Ytjlomjdghmjkmaa
