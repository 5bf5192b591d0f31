/- Package ecf as it landed: within, May, Room, the closure of Room as contracts of the calls. -/
import Derived.Test.YtmclffbjdkoneaaEcRef1
import Derived.Laws.EntriesVeiled
import Derived.Lib.MinMax
import Derived.Shelf.Abstract
namespace Go.Proofs.Ytmclffbjdkoneaa
open Go.RowKit
set_option linter.unusedVariables false
set_option linter.unusedSimpArgs false

/-- low to high -/
def einB (n lo hi : Int) : Bool := decide (lo ≤ n) && decide (n ≤ hi)
theorem ein_iff (n lo hi : Int) : einB n lo hi = true ↔ lo ≤ n ∧ n ≤ hi := by unfold einB; simp
theorem ein_any (n lo hi : Int) (w : World) :
    Calls Try.prog 15 #[.int .i64 n, .int .i64 lo, .int .i64 hi] w fun e w' => e = .returned (.bool (einB n lo hi)) ∧ w = w' := by
  by_cases h1 : lo ≤ n
  · have e1 : einB n lo hi = decide (n ≤ hi) := by unfold einB; rw [decide_eq_true h1]; rfl
    rw [e1]
    clear e1
    have d1 : decide (lo ≤ n) = true := decide_eq_true h1
    go_enter Try.func15, Try.ntmps15
    go_wp2
    go_ret
    exact ⟨rfl, rfl⟩
  · have e1 : einB n lo hi = false := by unfold einB; rw [decide_eq_false h1]; rfl
    rw [e1]
    clear e1
    have d1 : decide (lo ≤ n) = false := decide_eq_false h1
    go_enter Try.func15, Try.ntmps15
    go_wp2
    go_ret
    exact ⟨rfl, rfl⟩
theorem chB_win (x : Chv) : chB x = (x.up && (einB x.cwnd 1 1073741824 && (einB x.flight 0 1099511627776 && (einB x.srtt 0 1099511627776 && einB x.vr 0 1099511627776)))) := by
  rw [Bool.eq_iff_iff, chB_iff]
  simp only [Bool.and_eq_true, ein_iff]
  exact ⟨fun h => ⟨h.up, ⟨h.c0, h.c1⟩, ⟨h.f0, h.f1⟩, ⟨h.s0, h.s1⟩, h.v0, h.v1⟩, fun ⟨a, ⟨b, c⟩, ⟨d, e⟩, ⟨f, g⟩, h, i⟩ => ⟨a, b, c, d, e, f, g, h, i⟩⟩
theorem roomB_win (x : Chv) (mss : Int) : roomB x mss = (einB mss 1 1460 && (chB x && decide (x.flight + mss ≤ x.cwnd))) := by
  rw [Bool.eq_iff_iff, roomB_iff]
  simp only [Bool.and_eq_true, ein_iff, chB_iff, decide_eq_true_eq]
  exact ⟨fun ⟨a, b, c, d⟩ => ⟨⟨b, c⟩, a, d⟩, fun ⟨⟨b, c⟩, a, d⟩ => ⟨a, b, c, d⟩⟩

set_option maxRecDepth 100000 in
set_option maxHeartbeats 8000000 in
theorem ecmay_any (x : Chv) (w : World) : Calls Try.prog 11 #[.agg #[.bool x.up, .int .i64 x.cwnd, .int .i64 x.flight, .int .i64 x.srtt, .int .i64 x.vr]] w fun e w' => e = .returned (.bool (chB x)) ∧ Below w.heap.size w w' := by
  obtain ⟨B, hB⟩ : ∃ B, w.heap.size = B := ⟨_, rfl⟩
  have e0 := Bx.new w 28 [.bool x.up, .int .i64 x.cwnd, .int .i64 x.flight, .int .i64 x.srtt, .int .i64 x.vr]
  rw [hB] at e0 ⊢
  have b0 : Below B w (w.alloc (.cells #[.bool x.up, .int .i64 x.cwnd, .int .i64 x.flight, .int .i64 x.srtt, .int .i64 x.vr] 28)) := by rw [← hB]; exact (Below.refl _ _).alloc (Nat.le_refl _) _
  obtain ⟨q, hq⟩ : ∃ q, chB x = q := ⟨_, rfl⟩
  rw [hq]
  rw [chB_win] at hq
  obtain ⟨up, cw, fl, sr, vr⟩ := x
  dsimp only at e0 b0 hq ⊢
  go_enter Try.func11, Try.ntmps11
  go_upto_region 1 with fail
  generalize w.alloc (.cells #[.bool up, .int .i64 cw, .int .i64 fl, .int .i64 sr, .int .i64 vr] 28) = w1 at e0 b0 ⊢
  have c0 := e0.cell 0 rfl; have c1 := e0.cell 1 rfl; have c2 := e0.cell 2 rfl; have c3 := e0.cell 3 rfl; have c4 := e0.cell 4 rfl
  clear e0
  cases h0 : einB sr 0 1099511627776 with
  | false =>
    go_upto_region 2 with (go_at_call 15; refine (ein_any _ _ _ _).mono ?_; rintro e wx ⟨rfl, rfl⟩)
    cases up with
    | false =>
      have hF : q = false := by rw [← hq]; rfl
      subst hF
      clear hq
      go_wp2_with (go_at_call 15; refine (ein_any _ _ _ _).mono ?_; rintro e wx ⟨rfl, rfl⟩)
      go_ret
      exact ⟨rfl, b0⟩
    | true =>
    cases h1 : einB cw 1 1073741824 with
    | false =>
      have hF : q = false := by rw [← hq]; simp [h1]
      subst hF
      clear hq
      go_wp2_with (go_at_call 15; refine (ein_any _ _ _ _).mono ?_; rintro e wx ⟨rfl, rfl⟩)
      go_ret
      exact ⟨rfl, b0⟩
    | true =>
    cases h2 : einB fl 0 1099511627776 with
    | false =>
      have hF : q = false := by rw [← hq]; simp [h1, h2]
      subst hF
      clear hq
      go_wp2_with (go_at_call 15; refine (ein_any _ _ _ _).mono ?_; rintro e wx ⟨rfl, rfl⟩)
      go_ret
      exact ⟨rfl, b0⟩
    | true =>
    have hF : q = false := by rw [← hq]; simp [h0, h1, h2]
    subst hF
    clear hq
    go_wp2_with (go_at_call 15; refine (ein_any _ _ _ _).mono ?_; rintro e wx ⟨rfl, rfl⟩)
    go_ret
    exact ⟨rfl, b0⟩
  | true =>
    go_upto_region 2 with (go_at_call 15; refine (ein_any _ _ _ _).mono ?_; rintro e wx ⟨rfl, rfl⟩)
    cases up with
    | false =>
      have hF : q = false := by rw [← hq]; rfl
      subst hF
      clear hq
      go_wp2_with (go_at_call 15; refine (ein_any _ _ _ _).mono ?_; rintro e wx ⟨rfl, rfl⟩)
      go_ret
      exact ⟨rfl, b0⟩
    | true =>
    cases h1 : einB cw 1 1073741824 with
    | false =>
      have hF : q = false := by rw [← hq]; simp [h1]
      subst hF
      clear hq
      go_wp2_with (go_at_call 15; refine (ein_any _ _ _ _).mono ?_; rintro e wx ⟨rfl, rfl⟩)
      go_ret
      exact ⟨rfl, b0⟩
    | true =>
    cases h2 : einB fl 0 1099511627776 with
    | false =>
      have hF : q = false := by rw [← hq]; simp [h1, h2]
      subst hF
      clear hq
      go_wp2_with (go_at_call 15; refine (ein_any _ _ _ _).mono ?_; rintro e wx ⟨rfl, rfl⟩)
      go_ret
      exact ⟨rfl, b0⟩
    | true =>
    have hF : q = einB vr 0 1099511627776 := by rw [← hq]; simp [h0, h1, h2]
    subst hF
    clear hq
    go_wp2_with (go_at_call 15; refine (ein_any _ _ _ _).mono ?_; rintro e wx ⟨rfl, rfl⟩)
    go_ret
    exact ⟨rfl, b0⟩


set_option maxRecDepth 100000 in
set_option maxHeartbeats 8000000 in
theorem ecroom_any (x : Chv) (mss : Int) (w : World) : Calls Try.prog 13 #[.agg #[.bool x.up, .int .i64 x.cwnd, .int .i64 x.flight, .int .i64 x.srtt, .int .i64 x.vr], .int .i64 mss] w fun e w' => e = .returned (.bool (roomB x mss)) ∧ Below w.heap.size w w' := by
  obtain ⟨B, hB⟩ : ∃ B, w.heap.size = B := ⟨_, rfl⟩
  have e0 := Bx.new w 28 [.bool x.up, .int .i64 x.cwnd, .int .i64 x.flight, .int .i64 x.srtt, .int .i64 x.vr]
  rw [hB] at e0 ⊢
  have b0 : Below B w (w.alloc (.cells #[.bool x.up, .int .i64 x.cwnd, .int .i64 x.flight, .int .i64 x.srtt, .int .i64 x.vr] 28)) := by rw [← hB]; exact (Below.refl _ _).alloc (Nat.le_refl _) _
  obtain ⟨q, hq⟩ : ∃ q, roomB x mss = q := ⟨_, rfl⟩
  rw [hq]
  rw [roomB_win] at hq
  have hm := fun w => ecmay_any x w
  have hbd : einB mss 1 1460 = true → chB x = true → IntKind.i64.wrap (x.flight + mss) = x.flight + mss := fun h0 h1 => by
    have g0 := (ein_iff _ _ _).1 h0; have g1 := (chB_iff _).1 h1; have := g1.f0; have := g1.f1; exact IntWalk.i64_in _ (by omega)
  have HBD := Lib.hid hbd; clear hbd
  obtain ⟨up, cw, fl, sr, vr⟩ := x
  obtain ⟨z, hz⟩ : ∃ z, chB ⟨up, cw, fl, sr, vr⟩ = z := ⟨_, rfl⟩
  dsimp only at e0 b0 hq hm HBD ⊢
  rw [hz] at hq hm
  have HBD2 := HBD.out; rw [hz] at HBD2
  have HBD := Lib.hid HBD2; clear HBD2 hz
  go_enter Try.func13, Try.ntmps13
  go_upto_region 1 with fail
  generalize w.alloc (.cells #[.bool up, .int .i64 cw, .int .i64 fl, .int .i64 sr, .int .i64 vr] 28) = w1 at e0 b0 ⊢
  have c0 := e0.cell 0 rfl; have c1 := e0.cell 1 rfl; have c2 := e0.cell 2 rfl; have c3 := e0.cell 3 rfl; have c4 := e0.cell 4 rfl
  have hBs := Nat.le_of_lt e0.lt
  cases h0 : einB mss 1 1460 with
  | false =>
    have hF : q = false := by rw [← hq]; simp [h0]
    subst hF
    clear hq hm
    go_wp2_with (go_at_call 15; refine (ein_any _ _ _ _).mono ?_; rintro e wx ⟨rfl, rfl⟩)
    go_ret
    exact ⟨rfl, b0⟩
  | true =>
  have MY : ∀ w, Calls Try.prog 11 #[.agg #[.bool up, .int .i64 cw, .int .i64 fl, .int .i64 sr, .int .i64 vr]] w fun e w' => e = .returned (.bool z) ∧ Below w.heap.size w w' := hm
  have HM := Lib.hid MY
  clear hm MY
  cases z with
  | false =>
    have hF : q = false := by rw [← hq]; simp
    subst hF
    clear hq
    go_wp2_with (first | (go_at_call 15; refine (ein_any _ _ _ _).mono ?_; rintro e wx ⟨rfl, rfl⟩) | (go_at_call 11; refine (HM.out _).mono ?_; rintro e w2 ⟨rfl, hb2⟩; have b2 := b0.trans (hb2.mono hBs)))
    go_ret
    exact ⟨rfl, b2⟩
  | true =>
  have i1 := HBD.out h0 rfl
  have hF : q = decide (fl + mss ≤ cw) := by rw [← hq]; simp [h0]
  subst hF
  clear hq
  go_wp2_with (first | (go_at_call 15; refine (ein_any _ _ _ _).mono ?_; rintro e wx ⟨rfl, rfl⟩) | (go_at_call 11; refine (HM.out _).mono ?_; rintro e w2 ⟨rfl, hb2⟩; have b2 := b0.trans (hb2.mono hBs); have e2 := e0.kept hb2; have d1 := e2.cell 1 rfl; have d2 := e2.cell 2 rfl))
  go_ret
  exact ⟨rfl, b2⟩

theorem ent_room : ∀ args w, (callFunc 17 args).run Try.prog w = .ok (.enter 17 args) w := enters_of Try.func17 (by kernel_rfl) rfl
theorem ent_may : ∀ args w, (callFunc 11 args).run Try.prog w = .ok (.enter 11 args) w := enters_of Try.func11 (by kernel_rfl) rfl
theorem ent_fast : ∀ args w, (callFunc 16 args).run Try.prog w = .ok (.enter 16 args) w := enters_of Try.func16 (by kernel_rfl) rfl
set_option maxRecDepth 100000 in
set_option maxHeartbeats 8000000 in
theorem roomc_any (x : Chv) (mss : Int) (F : Nat) (w : World) (hF : Bx w F 3 [.int .i64 mss]) : Calls Try.prog 17 #[.agg #[.bool x.up, .int .i64 x.cwnd, .int .i64 x.flight, .int .i64 x.srtt, .int .i64 x.vr], .pointer (some ⟨F, 0, none⟩)] w fun e w' => e = .returned (.bool (roomB x mss)) ∧ Below w.heap.size w w' := by
  obtain ⟨B, hB⟩ : ∃ B, w.heap.size = B := ⟨_, rfl⟩
  have e0 := Bx.new w 28 [.bool x.up, .int .i64 x.cwnd, .int .i64 x.flight, .int .i64 x.srtt, .int .i64 x.vr]
  have f0 := hF.alloc (.cells #[.bool x.up, .int .i64 x.cwnd, .int .i64 x.flight, .int .i64 x.srtt, .int .i64 x.vr] 28)
  rw [hB] at e0 ⊢
  have b0 : Below B w (w.alloc (.cells #[.bool x.up, .int .i64 x.cwnd, .int .i64 x.flight, .int .i64 x.srtt, .int .i64 x.vr] 28)) := by rw [← hB]; exact (Below.refl _ _).alloc (Nat.le_refl _) _
  have k0 := f0.cell 0 rfl
  go_enter Try.func17, Try.ntmps17
  go_wp2_with (refine ch_load rfl (.tmp 2) rfl rfl e0 rfl ?_)
  generalize w.alloc (.cells #[.bool x.up, .int .i64 x.cwnd, .int .i64 x.flight, .int .i64 x.srtt, .int .i64 x.vr] 28) = w1 at e0 b0 k0 ⊢
  refine (ecroom_any x mss _).mono ?_
  rintro e w2 ⟨rfl, hb2⟩
  have b2 := b0.trans (hb2.mono (Nat.le_of_lt e0.lt))
  go_wp2_with fail
  go_ret
  exact ⟨rfl, b2⟩
end Go.Proofs.Ytmclffbjdkoneaa
