/- Package vegas as it landed: Round as a contract of the call; with it all of the package. -/
import Derived.Test.YtjlomjdghmjkmaaVgL2
import Derived.Test.YtjlomjdghmjkmaaVgRef2
import Derived.Test.YtjlomjdghmjkmaaXmL1
import Derived.Test.YtjlomjdghmjkmaaMore
import Derived.Laws.EntriesVeiled
namespace Go.Proofs.Ytjlomjdghmjkmaa
open Go.RowKit
set_option linter.unusedVariables false
set_option linter.unusedSimpArgs false

theorem vclamp_any (n low high : Int) (w : World) : Calls Try.prog 20 #[.int .i64 n, .int .i64 low, .int .i64 high] w fun e w' => e = .returned (.int .i64 (cl2 n low high)) ∧ w = w' := clamp_any n low high w

set_option maxRecDepth 100000 in
set_option maxHeartbeats 8000000 in
theorem vground_any (c t q a mss most : Int) (w : World) : Calls Try.prog 10 #[.agg #[.int .i64 c, .int .i64 t], .int .i64 q, .int .i64 a, .int .i64 mss, .int .i64 most] w fun e w' => TellV w w' e (vrndR c t q a mss most) := by
  unfold TellV
  obtain ⟨B, hB⟩ : ∃ B, w.heap.size = B := ⟨_, rfl⟩
  have e0 := (Bx.new w 24 [.int .i64 c, .int .i64 t]).alloc (.cells #[.int .i64 0, .int .i64 0] 24)
  have y0 := Bx.new (w.alloc (.cells #[.int .i64 c, .int .i64 t] 24)) 24 [.int .i64 0, .int .i64 0]
  rw [World.size_alloc] at y0
  rw [hB] at e0 y0 ⊢
  have b0 : Below B w ((w.alloc (.cells #[.int .i64 c, .int .i64 t] 24)).alloc (.cells #[.int .i64 0, .int .i64 0] 24)) := by rw [← hB]; exact ((Below.refl _ _).alloc (Nat.le_refl _) _).alloc (by simp) _
  obtain ⟨x, hx⟩ : ∃ x, vrndR c t q a mss most = x := ⟨_, rfl⟩
  rw [hx]
  have HX := Lib.hid hx; clear hx
  go_enter Try.func10, Try.ntmps10
  go_upto_region 1 with fail
  generalize (w.alloc (.cells #[.int .i64 c, .int .i64 t] 24)).alloc (.cells #[.int .i64 0, .int .i64 0] 24) = w1 at e0 y0 b0 ⊢
  have hBs : B ≤ w1.heap.size := Nat.le_of_lt e0.lt
  clear hB
  have mm := fun w => xwmay_any c t mss most w
  cases hk : xmB c t mss most with
  | false =>
    rw [hk] at mm
    have hx := HX.out
    rw [vrnd_no (fun h => by have h1 := h.1; rw [hk] at h1; cases h1)] at hx
    subst hx
    clear HX
    go_wp2_with (first | (refine xw_load rfl (.tmp 5) rfl rfl e0 rfl ?_) | (go_at_call 18; refine (mm _).mono ?_; rintro e w2 ⟨rfl, hb2⟩; have e2 := e0.kept hb2; have y2 := y0.kept hb2; have b2 := b0.trans (hb2.mono hBs); have hB2 := Nat.le_of_lt e2.lt) | (go_at_call 19; refine (vin_any _ _ _ _).mono ?_; rintro e wx ⟨rfl, rfl⟩) | (refine xw_store rfl (.tmp 10) (.tmp 27) rfl rfl [.int .i64 0, .int .i64 0] rfl y2 rfl rfl rfl ?_))
    refine xw_end2 (by rfl) (by rfl) (by rfl) (xw_put y2 [.int .i64 0, .int .i64 0]) rfl rfl ?_
    exact ⟨rfl, b2.grown (xw_grown _ (B + 1) #[.int .i64 0, .int .i64 0]) hB2 (fun k hk => by cases hk; omega)⟩
  | true =>
  rw [hk] at mm
  cases h1 : vinB q 0 1073741824 with
  | false =>
    have hx := HX.out
    rw [vrnd_no (fun h => by rw [(vin_iff _ _ _).2 ⟨h.2.1, h.2.2.1⟩] at h1; cases h1)] at hx
    subst hx
    clear HX
    go_wp2_with (first | (refine xw_load rfl (.tmp 5) rfl rfl e0 rfl ?_) | (go_at_call 18; refine (mm _).mono ?_; rintro e w2 ⟨rfl, hb2⟩; have e2 := e0.kept hb2; have y2 := y0.kept hb2; have b2 := b0.trans (hb2.mono hBs); have hB2 := Nat.le_of_lt e2.lt) | (go_at_call 19; refine (vin_any _ _ _ _).mono ?_; rintro e wx ⟨rfl, rfl⟩) | (refine xw_store rfl (.tmp 10) (.tmp 27) rfl rfl [.int .i64 0, .int .i64 0] rfl y2 rfl rfl rfl ?_))
    refine xw_end2 (by rfl) (by rfl) (by rfl) (xw_put y2 [.int .i64 0, .int .i64 0]) rfl rfl ?_
    exact ⟨rfl, b2.grown (xw_grown _ (B + 1) #[.int .i64 0, .int .i64 0]) hB2 (fun k hk => by cases hk; omega)⟩
  | true =>
  cases h2 : vinB a 0 1073741824 with
  | false =>
    have hx := HX.out
    rw [vrnd_no (fun h => by rw [(vin_iff _ _ _).2 h.2.2.2] at h2; cases h2)] at hx
    subst hx
    clear HX
    go_wp2_with (first | (refine xw_load rfl (.tmp 5) rfl rfl e0 rfl ?_) | (go_at_call 18; refine (mm _).mono ?_; rintro e w2 ⟨rfl, hb2⟩; have e2 := e0.kept hb2; have y2 := y0.kept hb2; have b2 := b0.trans (hb2.mono hBs); have hB2 := Nat.le_of_lt e2.lt) | (go_at_call 19; refine (vin_any _ _ _ _).mono ?_; rintro e wx ⟨rfl, rfl⟩) | (refine xw_store rfl (.tmp 10) (.tmp 27) rfl rfl [.int .i64 0, .int .i64 0] rfl y2 rfl rfl rfl ?_))
    refine xw_end2 (by rfl) (by rfl) (by rfl) (xw_put y2 [.int .i64 0, .int .i64 0]) rfl rfl ?_
    exact ⟨rfl, b2.grown (xw_grown _ (B + 1) #[.int .i64 0, .int .i64 0]) hB2 (fun k hk => by cases hk; omega)⟩
  | true =>
  have g1 := (vin_iff _ _ _).1 h1; have g2 := (vin_iff _ _ _).1 h2
  have hok : RdOk c t q a mss most := ⟨hk, g1.1, g1.2, g2.1, g2.2⟩
  obtain ⟨v0, v1, v2, v3, v4, v5, v6, v7⟩ := (xmB_iff c t mss most).1 hk
  have HOK := Lib.hid hok
  clear hok hk g1 g2
  go_upto_region 3 with (first | (refine xw_load rfl (.tmp 5) rfl rfl e0 rfl ?_) | (go_at_call 18; refine (mm _).mono ?_; rintro e w2 ⟨rfl, hb2⟩; have e2 := e0.kept hb2; have y2 := y0.kept hb2; have b2 := b0.trans (hb2.mono hBs); have hB2 := Nat.le_of_lt e2.lt) | (go_at_call 19; refine (vin_any _ _ _ _).mono ?_; rintro e wx ⟨rfl, rfl⟩))
  clear e0 y0 b0 hb2 hBs h1 h2 mm
  have x0 := e2.cell 0 rfl; have x1 := e2.cell 1 rfl
  by_cases g : c < t
  case pos =>
    have dg : decide (c < t) = true := decide_eq_true g
    have hx := HX.out
    rw [vrnd_slow HOK.out g] at hx
    clear HX HOK
    have pp := fun w => vclamp_any c mss most w
    rw [cl2_in ⟨v4, v5⟩] at pp
    by_cases k : a < q
    case pos =>
      rw [if_pos k] at hx
      subst hx
      have fi := e2.free 1
      have vv := fun w => vverd_same q a true w
      rw [show verdR q a true = 3 from by unfold verdR; rw [if_pos rfl, if_pos k]] at vv
      go_upto_region 4 with (go_at_call 16; refine (vv _).mono ?_; rintro e wx ⟨rfl, rfl⟩)
      go_upto_region 10 with fail
      have e4 := e2.set 1 (.int .i64 c); simp only [List.set_cons_zero, List.set_cons_succ] at e4
      have y4 := y2.far (p := ⟨B, 1, none⟩) (by simp) (.int .i64 c)
      have b4 := b2.grown (xw_gset w2 ⟨B, 1, none⟩ (.int .i64 c)) hB2 (fun k h => by cases h; exact Nat.le_refl B)
      clear x0 x1 fi
      generalize w2.setCell ⟨B, 1, none⟩ (.int .i64 c) = w4 at e4 y4 b4 ⊢
      have hB4 : B ≤ w4.heap.size := Nat.le_of_lt e4.lt
      clear e2 y2 b2 hB2
      have f0 := e4.free 0
      have z0 := e4.cell 0 rfl
      go_upto_region 11 with (go_at_call 20; refine (pp _).mono ?_; rintro e wx ⟨rfl, rfl⟩)
      have e5 := e4.set 0 (.int .i64 c); simp only [List.set_cons_zero, List.set_cons_succ] at e5
      have y5 := y4.far (p := ⟨B, 0, none⟩) (by simp) (.int .i64 c)
      have b5 := b4.grown (xw_gset w4 ⟨B, 0, none⟩ (.int .i64 c)) hB4 (fun k h => by cases h; exact Nat.le_refl B)
      clear f0 z0
      generalize w4.setCell ⟨B, 0, none⟩ (.int .i64 c) = w5 at e5 y5 b5 ⊢
      have hB5 : B ≤ w5.heap.size := Nat.le_of_lt e5.lt
      go_wp2_with (first | (refine xw_load rfl (.tmp 5) rfl rfl e5 rfl ?_) | (refine xw_store rfl (.tmp 10) (.tmp 61) rfl rfl [.int .i64 c, .int .i64 c] rfl y5 rfl rfl rfl ?_))
      refine xw_end2 (by rfl) (by rfl) (by rfl) (xw_put y5 [.int .i64 c, .int .i64 c]) rfl rfl ?_
      exact ⟨rfl, b5.grown (xw_grown _ (B + 1) #[.int .i64 c, .int .i64 c]) hB5 (fun k hk => by cases hk; omega)⟩
    case neg =>
      rw [if_neg k] at hx
      subst hx
      have vv := fun w => vverd_same q a true w
      rw [show verdR q a true = 0 from by unfold verdR; rw [if_pos rfl, if_neg k]] at vv
      go_upto_region 4 with (go_at_call 16; refine (vv _).mono ?_; rintro e wx ⟨rfl, rfl⟩)
      go_upto_region 10 with fail
      clear x0 x1
      have f0 := e2.free 0
      have z0 := e2.cell 0 rfl
      go_upto_region 11 with (go_at_call 20; refine (pp _).mono ?_; rintro e wx ⟨rfl, rfl⟩)
      have e5 := e2.set 0 (.int .i64 c); simp only [List.set_cons_zero, List.set_cons_succ] at e5
      have y5 := y2.far (p := ⟨B, 0, none⟩) (by simp) (.int .i64 c)
      have b5 := b2.grown (xw_gset w2 ⟨B, 0, none⟩ (.int .i64 c)) hB2 (fun k h => by cases h; exact Nat.le_refl B)
      clear f0 z0
      generalize w2.setCell ⟨B, 0, none⟩ (.int .i64 c) = w5 at e5 y5 b5 ⊢
      have hB5 : B ≤ w5.heap.size := Nat.le_of_lt e5.lt
      go_wp2_with (first | (refine xw_load rfl (.tmp 5) rfl rfl e5 rfl ?_) | (refine xw_store rfl (.tmp 10) (.tmp 61) rfl rfl [.int .i64 c, .int .i64 t] rfl y5 rfl rfl rfl ?_))
      refine xw_end2 (by rfl) (by rfl) (by rfl) (xw_put y5 [.int .i64 c, .int .i64 t]) rfl rfl ?_
      exact ⟨rfl, b5.grown (xw_grown _ (B + 1) #[.int .i64 c, .int .i64 t]) hB5 (fun k hk => by cases hk; omega)⟩
  case neg =>
  have dg : decide (c < t) = false := decide_eq_false g
  have hx := HX.out
  rw [vrnd_fast HOK.out g] at hx
  clear HX HOK
  by_cases k1 : q < a
  case pos =>
    rw [if_pos k1] at hx
    have i1 : IntKind.i64.wrap (c + mss) = c + mss := IntWalk.i64_in _ (by omega)
    have pp := fun w => vclamp_any (c + mss) mss most w
    rw [cl2_eq (by omega), Int.max_eq_left (by omega : mss ≤ c + mss)] at pp
    obtain ⟨z, hz⟩ : ∃ z, min (c + mss) most = z := ⟨_, rfl⟩
    rw [hz] at pp hx
    obtain ⟨u, hu⟩ : ∃ u, c + mss = u := ⟨_, rfl⟩
    rw [hu] at pp i1
    subst hx
    clear hz
    have fi := e2.free 0
    have vv := fun w => vverd_same q a false w
    rw [show verdR q a false = 1 from by unfold verdR; rw [if_neg (by simp), if_pos k1]] at vv
    go_upto_region 4 with (go_at_call 16; refine (vv _).mono ?_; rintro e wx ⟨rfl, rfl⟩)
    go_upto_region 10 with fail
    have e4 := e2.set 0 (.int .i64 u); simp only [List.set_cons_zero, List.set_cons_succ] at e4
    have y4 := y2.far (p := ⟨B, 0, none⟩) (by simp) (.int .i64 u)
    have b4 := b2.grown (xw_gset w2 ⟨B, 0, none⟩ (.int .i64 u)) hB2 (fun k h => by cases h; exact Nat.le_refl B)
    clear x0 x1 fi
    generalize w2.setCell ⟨B, 0, none⟩ (.int .i64 u) = w4 at e4 y4 b4 ⊢
    have hB4 : B ≤ w4.heap.size := Nat.le_of_lt e4.lt
    clear e2 y2 b2 hB2
    have f0 := e4.free 0
    have z0 := e4.cell 0 rfl
    go_upto_region 11 with (go_at_call 20; refine (pp _).mono ?_; rintro e wx ⟨rfl, rfl⟩)
    have e5 := e4.set 0 (.int .i64 z); simp only [List.set_cons_zero, List.set_cons_succ] at e5
    have y5 := y4.far (p := ⟨B, 0, none⟩) (by simp) (.int .i64 z)
    have b5 := b4.grown (xw_gset w4 ⟨B, 0, none⟩ (.int .i64 z)) hB4 (fun k h => by cases h; exact Nat.le_refl B)
    clear f0 z0
    generalize w4.setCell ⟨B, 0, none⟩ (.int .i64 z) = w5 at e5 y5 b5 ⊢
    have hB5 : B ≤ w5.heap.size := Nat.le_of_lt e5.lt
    go_wp2_with (first | (refine xw_load rfl (.tmp 5) rfl rfl e5 rfl ?_) | (refine xw_store rfl (.tmp 10) (.tmp 61) rfl rfl [.int .i64 z, .int .i64 t] rfl y5 rfl rfl rfl ?_))
    refine xw_end2 (by rfl) (by rfl) (by rfl) (xw_put y5 [.int .i64 z, .int .i64 t]) rfl rfl ?_
    exact ⟨rfl, b5.grown (xw_grown _ (B + 1) #[.int .i64 z, .int .i64 t]) hB5 (fun k hk => by cases hk; omega)⟩
  case neg =>
  rw [if_neg k1] at hx
  by_cases k2 : a < q
  case pos =>
    rw [if_pos k2] at hx
    have i1 : IntKind.i64.wrap (c - mss) = c - mss := IntWalk.i64_in _ (by omega)
    have pp := fun w => vclamp_any (c - mss) mss most w
    rw [cl2_eq (by omega), show min (max (c - mss) mss) most = max (c - mss) mss by omega] at pp
    obtain ⟨z, hz⟩ : ∃ z, max (c - mss) mss = z := ⟨_, rfl⟩
    rw [hz] at pp hx
    obtain ⟨u, hu⟩ : ∃ u, c - mss = u := ⟨_, rfl⟩
    rw [hu] at pp i1
    subst hx
    clear hz
    have fi := e2.free 0
    have vv := fun w => vverd_same q a false w
    rw [show verdR q a false = 2 from by unfold verdR; rw [if_neg (by simp), if_neg k1, if_pos k2]] at vv
    go_upto_region 4 with (go_at_call 16; refine (vv _).mono ?_; rintro e wx ⟨rfl, rfl⟩)
    go_upto_region 10 with fail
    have e4 := e2.set 0 (.int .i64 u); simp only [List.set_cons_zero, List.set_cons_succ] at e4
    have y4 := y2.far (p := ⟨B, 0, none⟩) (by simp) (.int .i64 u)
    have b4 := b2.grown (xw_gset w2 ⟨B, 0, none⟩ (.int .i64 u)) hB2 (fun k h => by cases h; exact Nat.le_refl B)
    clear x0 x1 fi
    generalize w2.setCell ⟨B, 0, none⟩ (.int .i64 u) = w4 at e4 y4 b4 ⊢
    have hB4 : B ≤ w4.heap.size := Nat.le_of_lt e4.lt
    clear e2 y2 b2 hB2
    have f0 := e4.free 0
    have z0 := e4.cell 0 rfl
    go_upto_region 11 with (go_at_call 20; refine (pp _).mono ?_; rintro e wx ⟨rfl, rfl⟩)
    have e5 := e4.set 0 (.int .i64 z); simp only [List.set_cons_zero, List.set_cons_succ] at e5
    have y5 := y4.far (p := ⟨B, 0, none⟩) (by simp) (.int .i64 z)
    have b5 := b4.grown (xw_gset w4 ⟨B, 0, none⟩ (.int .i64 z)) hB4 (fun k h => by cases h; exact Nat.le_refl B)
    clear f0 z0
    generalize w4.setCell ⟨B, 0, none⟩ (.int .i64 z) = w5 at e5 y5 b5 ⊢
    have hB5 : B ≤ w5.heap.size := Nat.le_of_lt e5.lt
    go_wp2_with (first | (refine xw_load rfl (.tmp 5) rfl rfl e5 rfl ?_) | (refine xw_store rfl (.tmp 10) (.tmp 61) rfl rfl [.int .i64 z, .int .i64 t] rfl y5 rfl rfl rfl ?_))
    refine xw_end2 (by rfl) (by rfl) (by rfl) (xw_put y5 [.int .i64 z, .int .i64 t]) rfl rfl ?_
    exact ⟨rfl, b5.grown (xw_grown _ (B + 1) #[.int .i64 z, .int .i64 t]) hB5 (fun k hk => by cases hk; omega)⟩
  case neg =>
  rw [if_neg k2] at hx
  subst hx
  have pp := fun w => vclamp_any c mss most w
  rw [cl2_in ⟨v4, v5⟩] at pp
  have vv := fun w => vverd_same q a false w
  rw [show verdR q a false = 0 from by unfold verdR; rw [if_neg (by simp), if_neg k1, if_neg k2]] at vv
  go_upto_region 4 with (go_at_call 16; refine (vv _).mono ?_; rintro e wx ⟨rfl, rfl⟩)
  go_upto_region 10 with fail
  clear x0 x1
  have f0 := e2.free 0
  have z0 := e2.cell 0 rfl
  go_upto_region 11 with (go_at_call 20; refine (pp _).mono ?_; rintro e wx ⟨rfl, rfl⟩)
  have e5 := e2.set 0 (.int .i64 c); simp only [List.set_cons_zero, List.set_cons_succ] at e5
  have y5 := y2.far (p := ⟨B, 0, none⟩) (by simp) (.int .i64 c)
  have b5 := b2.grown (xw_gset w2 ⟨B, 0, none⟩ (.int .i64 c)) hB2 (fun k h => by cases h; exact Nat.le_refl B)
  clear f0 z0
  generalize w2.setCell ⟨B, 0, none⟩ (.int .i64 c) = w5 at e5 y5 b5 ⊢
  have hB5 : B ≤ w5.heap.size := Nat.le_of_lt e5.lt
  go_wp2_with (first | (refine xw_load rfl (.tmp 5) rfl rfl e5 rfl ?_) | (refine xw_store rfl (.tmp 10) (.tmp 61) rfl rfl [.int .i64 c, .int .i64 t] rfl y5 rfl rfl rfl ?_))
  refine xw_end2 (by rfl) (by rfl) (by rfl) (xw_put y5 [.int .i64 c, .int .i64 t]) rfl rfl ?_
  exact ⟨rfl, b5.grown (xw_grown _ (B + 1) #[.int .i64 c, .int .i64 t]) hB5 (fun k hk => by cases hk; omega)⟩
end Go.Proofs.Ytjlomjdghmjkmaa
