/- The reference of package vegas: Round as a contract of the call. -/
import Derived.Test.YtjlomjdghmjkmaaVgRef1
namespace Go.Proofs.Ytjlomjdghmjkmaa
open Go.RowKit
set_option linter.unusedVariables false
set_option linter.unusedSimpArgs false

/-- a window and an error -/
def TellV (w w' : World) (e : Ending) (x : Int × Int × Int) : Prop := e = .returned (.tuple #[.agg #[.int .i64 x.1, .int .i64 x.2.1], .int .i64 x.2.2]) ∧ Below w.heap.size w w'

set_option maxRecDepth 100000 in
set_option maxHeartbeats 8000000 in
theorem rvround_any (c t q a mss most : Int) (w : World) : Calls Try.prog 11 #[.agg #[.int .i64 c, .int .i64 t], .int .i64 q, .int .i64 a, .int .i64 mss, .int .i64 most] w fun e w' => TellV w w' e (vrndR c t q a mss most) := by
  unfold TellV
  obtain ⟨B, hB⟩ : ∃ B, w.heap.size = B := ⟨_, rfl⟩
  rw [hB]
  have e0 := (Bx.new w 24 [.int .i64 c, .int .i64 t]).alloc (.cells #[.int .i64 0, .int .i64 0] 24)
  have y0 := Bx.new (w.alloc (.cells #[.int .i64 c, .int .i64 t] 24)) 24 [.int .i64 0, .int .i64 0]
  rw [World.size_alloc] at y0
  rw [hB] at e0 y0
  have b0 : Below B w ((w.alloc (.cells #[.int .i64 c, .int .i64 t] 24)).alloc (.cells #[.int .i64 0, .int .i64 0] 24)) := by rw [← hB]; exact ((Below.refl _ _).alloc (Nat.le_refl _) _).alloc (by simp) _
  obtain ⟨x, hx⟩ : ∃ x, vrndR c t q a mss most = x := ⟨_, rfl⟩
  rw [hx]
  have HX := Lib.hid hx; clear hx
  go_enter Try.func11, Try.ntmps11
  go_wp2_with (refine xw_load rfl (.tmp 5) rfl rfl e0 rfl ?_)
  generalize (w.alloc (.cells #[.int .i64 c, .int .i64 t] 24)).alloc (.cells #[.int .i64 0, .int .i64 0] 24) = w1 at e0 y0 b0 ⊢
  clear hB
  refine (rxmay_any c t mss most _).mono ?_
  rintro e w2 ⟨rfl, hb2⟩
  have e2 := e0.kept hb2; have y2 := y0.kept hb2; have b2 := b0.trans (hb2.mono (Nat.le_of_lt e0.lt))
  have hBs : B ≤ w2.heap.size := Nat.le_of_lt e2.lt
  clear e0 y0 b0 hb2
  cases hk : xmB c t mss most with
  | false =>
    have hx := HX.out
    rw [vrnd_no (fun h => by have h1 := h.1; rw [hk] at h1; cases h1)] at hx
    subst hx
    clear HX
    go_wp2_with (refine xw_store rfl (.tmp 10) (.tmp 37) rfl rfl [.int .i64 0, .int .i64 0] rfl y2 rfl rfl rfl ?_)
    refine xw_end2 (by rfl) (by rfl) (by rfl) (xw_put y2 [.int .i64 0, .int .i64 0]) rfl rfl ?_
    exact ⟨rfl, b2.grown (xw_grown _ (B + 1) #[.int .i64 0, .int .i64 0]) hBs (fun k hk => by cases hk; omega)⟩
  | true =>
  have HK := Lib.hid hk; clear hk
  by_cases c0 : q < 0
  case pos =>
    have d0 : decide (q < 0) = true := decide_eq_true c0
    have hx := HX.out
    rw [vrnd_no (fun h => by have h1 := h.2; omega)] at hx
    subst hx
    clear HX
    go_wp2_with (refine xw_store rfl (.tmp 10) (.tmp 37) rfl rfl [.int .i64 0, .int .i64 0] rfl y2 rfl rfl rfl ?_)
    refine xw_end2 (by rfl) (by rfl) (by rfl) (xw_put y2 [.int .i64 0, .int .i64 0]) rfl rfl ?_
    exact ⟨rfl, b2.grown (xw_grown _ (B + 1) #[.int .i64 0, .int .i64 0]) hBs (fun k hk => by cases hk; omega)⟩
  case neg =>
  have d0 : decide (q < 0) = false := decide_eq_false c0
  by_cases c1 : 1073741824 < q
  case pos =>
    have d1 : decide (1073741824 < q) = true := decide_eq_true c1
    have hx := HX.out
    rw [vrnd_no (fun h => by have h1 := h.2; omega)] at hx
    subst hx
    clear HX
    go_wp2_with (refine xw_store rfl (.tmp 10) (.tmp 37) rfl rfl [.int .i64 0, .int .i64 0] rfl y2 rfl rfl rfl ?_)
    refine xw_end2 (by rfl) (by rfl) (by rfl) (xw_put y2 [.int .i64 0, .int .i64 0]) rfl rfl ?_
    exact ⟨rfl, b2.grown (xw_grown _ (B + 1) #[.int .i64 0, .int .i64 0]) hBs (fun k hk => by cases hk; omega)⟩
  case neg =>
  have d1 : decide (1073741824 < q) = false := decide_eq_false c1
  by_cases c2 : a < 0
  case pos =>
    have d2 : decide (a < 0) = true := decide_eq_true c2
    have hx := HX.out
    rw [vrnd_no (fun h => by have h1 := h.2; omega)] at hx
    subst hx
    clear HX
    go_wp2_with (refine xw_store rfl (.tmp 10) (.tmp 37) rfl rfl [.int .i64 0, .int .i64 0] rfl y2 rfl rfl rfl ?_)
    refine xw_end2 (by rfl) (by rfl) (by rfl) (xw_put y2 [.int .i64 0, .int .i64 0]) rfl rfl ?_
    exact ⟨rfl, b2.grown (xw_grown _ (B + 1) #[.int .i64 0, .int .i64 0]) hBs (fun k hk => by cases hk; omega)⟩
  case neg =>
  have d2 : decide (a < 0) = false := decide_eq_false c2
  by_cases c3 : 1073741824 < a
  case pos =>
    have d3 : decide (1073741824 < a) = true := decide_eq_true c3
    have hx := HX.out
    rw [vrnd_no (fun h => by have h1 := h.2; omega)] at hx
    subst hx
    clear HX
    go_wp2_with (refine xw_store rfl (.tmp 10) (.tmp 37) rfl rfl [.int .i64 0, .int .i64 0] rfl y2 rfl rfl rfl ?_)
    refine xw_end2 (by rfl) (by rfl) (by rfl) (xw_put y2 [.int .i64 0, .int .i64 0]) rfl rfl ?_
    exact ⟨rfl, b2.grown (xw_grown _ (B + 1) #[.int .i64 0, .int .i64 0]) hBs (fun k hk => by cases hk; omega)⟩
  case neg =>
  have d3 : decide (1073741824 < a) = false := decide_eq_false c3
  have hok : RdOk c t q a mss most := ⟨HK.out, by omega, by omega, by omega, by omega⟩
  obtain ⟨v0, v1, v2, v3, v4, v5, v6, v7⟩ := (xmB_iff c t mss most).1 HK.out
  clear d0 d1 d2 d3
  have d0 : decide (q < 0) = false := decide_eq_false c0
  have d1 : decide (1073741824 < q) = false := decide_eq_false c1
  have d2 : decide (a < 0) = false := decide_eq_false c2
  have d3 : decide (1073741824 < a) = false := decide_eq_false c3
  have x0 := e2.cell 0 rfl; have x1 := e2.cell 1 rfl
  go_upto_region 4 with fail
  clear d0 d1 d2 d3 c0 c1 c2 c3
  by_cases g : c < t
  case pos =>
    have dg : decide (c < t) = true := decide_eq_true g
    have hx := HX.out
    rw [vrnd_slow hok g] at hx
    clear HX hok
    by_cases k : a < q
    case pos =>
      rw [if_pos k] at hx
      subst hx
      have vv := fun w => rvverd_any q a true w
      rw [show verdR q a true = 3 from by unfold verdR; simp; omega] at vv
      go_upto_region 5 with (go_at_call 17; refine (vv _).mono ?_; rintro e wx ⟨rfl, rfl⟩)
      have e3 := e2.alloc (.cells #[.int .i64 c, .int .i64 t] 24); have y3 := y2.alloc (.cells #[.int .i64 c, .int .i64 t] 24); have b3 := b2.alloc hBs (.cells #[.int .i64 c, .int .i64 t] 24)
      have o3 := Bx.new w2 24 [.int .i64 c, .int .i64 t]
      have hP1 : B + 1 < w2.heap.size := y2.lt
      clear x0 x1
      have x0 := e2.cell 0 rfl; have x1 := e2.cell 1 rfl
      go_upto_region 6 with fail
      obtain ⟨P, hP⟩ : ∃ P, w2.heap.size = P := ⟨_, rfl⟩
      rw [hP] at o3 hP1 ⊢
      generalize w2.alloc (.cells #[.int .i64 c, .int .i64 t] 24) = w3 at e3 y3 b3 o3 ⊢
      clear e2 y2 b2 hP x0 x1 hBs
      have hB3 : B ≤ w3.heap.size := Nat.le_of_lt e3.lt
      have x0 := e3.cell 0 rfl; have x1 := e3.cell 1 rfl
      have z1 := o3.cell 1 rfl
      have f1 := o3.free 1
      go_upto_region 8 with fail
      have e4 := e3.far (p := ⟨P, 1, none⟩) (by simp; omega) (.int .i64 c)
      have y4 := y3.far (p := ⟨P, 1, none⟩) (by simp; omega) (.int .i64 c)
      have o4 := o3.set 1 (.int .i64 c); simp only [List.set_cons_zero, List.set_cons_succ] at o4
      have b4 := b3.grown (xw_gset w3 ⟨P, 1, none⟩ (.int .i64 c)) hB3 (fun k h => by cases h; exact (by omega : B ≤ P))
      clear x0 x1 z1 f1
      generalize w3.setCell ⟨P, 1, none⟩ (.int .i64 c) = w4 at e4 y4 o4 b4 ⊢
      have hB4 : B ≤ w4.heap.size := Nat.le_of_lt e4.lt
      clear e3 y3 o3 b3 hB3
      go_wp2_with (first | (refine xw_load rfl (.tmp 14) rfl rfl o4 rfl ?_) | (refine xw_store rfl (.tmp 10) (.tmp 72) rfl rfl [.int .i64 c, .int .i64 c] rfl y4 rfl rfl rfl ?_))
      refine xw_end2 (by rfl) (by rfl) (by rfl) (xw_put y4 [.int .i64 c, .int .i64 c]) rfl rfl ?_
      exact ⟨rfl, b4.grown (xw_grown _ (B + 1) #[.int .i64 c, .int .i64 c]) hB4 (fun k hk => by cases hk; omega)⟩
    case neg =>
      rw [if_neg k] at hx
      subst hx
      have vv := fun w => rvverd_any q a true w
      rw [show verdR q a true = 0 from by unfold verdR; simp; omega] at vv
      go_upto_region 5 with (go_at_call 17; refine (vv _).mono ?_; rintro e wx ⟨rfl, rfl⟩)
      have e3 := e2.alloc (.cells #[.int .i64 c, .int .i64 t] 24); have y3 := y2.alloc (.cells #[.int .i64 c, .int .i64 t] 24); have b3 := b2.alloc hBs (.cells #[.int .i64 c, .int .i64 t] 24)
      have o3 := Bx.new w2 24 [.int .i64 c, .int .i64 t]
      have hP1 : B + 1 < w2.heap.size := y2.lt
      clear x0 x1
      have x0 := e2.cell 0 rfl; have x1 := e2.cell 1 rfl
      go_upto_region 6 with fail
      obtain ⟨P, hP⟩ : ∃ P, w2.heap.size = P := ⟨_, rfl⟩
      rw [hP] at o3 hP1 ⊢
      generalize w2.alloc (.cells #[.int .i64 c, .int .i64 t] 24) = w3 at e3 y3 b3 o3 ⊢
      clear e2 y2 b2 hP x0 x1 hBs
      have hB3 : B ≤ w3.heap.size := Nat.le_of_lt e3.lt
      go_wp2_with (first | (refine xw_load rfl (.tmp 14) rfl rfl o3 rfl ?_) | (refine xw_store rfl (.tmp 10) (.tmp 72) rfl rfl [.int .i64 c, .int .i64 t] rfl y3 rfl rfl rfl ?_))
      refine xw_end2 (by rfl) (by rfl) (by rfl) (xw_put y3 [.int .i64 c, .int .i64 t]) rfl rfl ?_
      exact ⟨rfl, b3.grown (xw_grown _ (B + 1) #[.int .i64 c, .int .i64 t]) hB3 (fun k hk => by cases hk; omega)⟩
  case neg =>
  have dg : decide (c < t) = false := decide_eq_false g
  have hx := HX.out
  rw [vrnd_fast hok g] at hx
  clear HX hok
  by_cases k1 : q < a
  case pos =>
    rw [if_pos k1] at hx
    have i1 : IntKind.i64.wrap (c + mss) = c + mss := IntWalk.i64_in _ (by omega)
    have pp := fun w => cl2_any (c + mss) mss most w
    rw [cl2_eq (by omega), Int.max_eq_left (by omega : mss ≤ c + mss)] at pp
    obtain ⟨z, hz⟩ : ∃ z, min (c + mss) most = z := ⟨_, rfl⟩
    rw [hz] at pp hx
    subst hx
    clear hz
    have vv := fun w => rvverd_any q a false w
    rw [show verdR q a false = 1 from by unfold verdR; simp; omega] at vv
    go_upto_region 5 with (go_at_call 17; refine (vv _).mono ?_; rintro e wx ⟨rfl, rfl⟩)
    have e3 := e2.alloc (.cells #[.int .i64 c, .int .i64 t] 24); have y3 := y2.alloc (.cells #[.int .i64 c, .int .i64 t] 24); have b3 := b2.alloc hBs (.cells #[.int .i64 c, .int .i64 t] 24)
    have o3 := Bx.new w2 24 [.int .i64 c, .int .i64 t]
    have hP1 : B + 1 < w2.heap.size := y2.lt
    clear x0 x1
    have x0 := e2.cell 0 rfl; have x1 := e2.cell 1 rfl
    go_upto_region 6 with fail
    obtain ⟨P, hP⟩ : ∃ P, w2.heap.size = P := ⟨_, rfl⟩
    rw [hP] at o3 hP1 ⊢
    generalize w2.alloc (.cells #[.int .i64 c, .int .i64 t] 24) = w3 at e3 y3 b3 o3 ⊢
    clear e2 y2 b2 hP x0 x1 hBs
    have hB3 : B ≤ w3.heap.size := Nat.le_of_lt e3.lt
    have x0 := e3.cell 0 rfl; have x1 := e3.cell 1 rfl
    have z0 := o3.cell 0 rfl
    have f0 := o3.free 0
    go_upto_region 10 with (go_at_call 22; refine (pp _).mono ?_; rintro e wx ⟨rfl, rfl⟩)
    have e4 := e3.far (p := ⟨P, 0, none⟩) (by simp; omega) (.int .i64 z)
    have y4 := y3.far (p := ⟨P, 0, none⟩) (by simp; omega) (.int .i64 z)
    have o4 := o3.set 0 (.int .i64 z); simp only [List.set_cons_zero, List.set_cons_succ] at o4
    have b4 := b3.grown (xw_gset w3 ⟨P, 0, none⟩ (.int .i64 z)) hB3 (fun k h => by cases h; exact (by omega : B ≤ P))
    clear x0 x1 z0 f0
    generalize w3.setCell ⟨P, 0, none⟩ (.int .i64 z) = w4 at e4 y4 o4 b4 ⊢
    have hB4 : B ≤ w4.heap.size := Nat.le_of_lt e4.lt
    clear e3 y3 o3 b3 hB3
    go_wp2_with (first | (refine xw_load rfl (.tmp 14) rfl rfl o4 rfl ?_) | (refine xw_store rfl (.tmp 10) (.tmp 72) rfl rfl [.int .i64 z, .int .i64 t] rfl y4 rfl rfl rfl ?_))
    refine xw_end2 (by rfl) (by rfl) (by rfl) (xw_put y4 [.int .i64 z, .int .i64 t]) rfl rfl ?_
    exact ⟨rfl, b4.grown (xw_grown _ (B + 1) #[.int .i64 z, .int .i64 t]) hB4 (fun k hk => by cases hk; omega)⟩
  case neg =>
  rw [if_neg k1] at hx
  by_cases k2 : a < q
  case pos =>
    rw [if_pos k2] at hx
    have i1 : IntKind.i64.wrap (c - mss) = c - mss := IntWalk.i64_in _ (by omega)
    have pp := fun w => cl2_any (c - mss) mss most w
    rw [cl2_eq (by omega), Int.min_eq_left (by omega : max (c - mss) mss ≤ most)] at pp
    obtain ⟨z, hz⟩ : ∃ z, max (c - mss) mss = z := ⟨_, rfl⟩
    rw [hz] at pp hx
    subst hx
    clear hz
    have vv := fun w => rvverd_any q a false w
    rw [show verdR q a false = 2 from by unfold verdR; simp; omega] at vv
    go_upto_region 5 with (go_at_call 17; refine (vv _).mono ?_; rintro e wx ⟨rfl, rfl⟩)
    have e3 := e2.alloc (.cells #[.int .i64 c, .int .i64 t] 24); have y3 := y2.alloc (.cells #[.int .i64 c, .int .i64 t] 24); have b3 := b2.alloc hBs (.cells #[.int .i64 c, .int .i64 t] 24)
    have o3 := Bx.new w2 24 [.int .i64 c, .int .i64 t]
    have hP1 : B + 1 < w2.heap.size := y2.lt
    clear x0 x1
    have x0 := e2.cell 0 rfl; have x1 := e2.cell 1 rfl
    go_upto_region 6 with fail
    obtain ⟨P, hP⟩ : ∃ P, w2.heap.size = P := ⟨_, rfl⟩
    rw [hP] at o3 hP1 ⊢
    generalize w2.alloc (.cells #[.int .i64 c, .int .i64 t] 24) = w3 at e3 y3 b3 o3 ⊢
    clear e2 y2 b2 hP x0 x1 hBs
    have hB3 : B ≤ w3.heap.size := Nat.le_of_lt e3.lt
    have x0 := e3.cell 0 rfl; have x1 := e3.cell 1 rfl
    have z0 := o3.cell 0 rfl
    have f0 := o3.free 0
    go_upto_region 12 with (go_at_call 22; refine (pp _).mono ?_; rintro e wx ⟨rfl, rfl⟩)
    have e4 := e3.far (p := ⟨P, 0, none⟩) (by simp; omega) (.int .i64 z)
    have y4 := y3.far (p := ⟨P, 0, none⟩) (by simp; omega) (.int .i64 z)
    have o4 := o3.set 0 (.int .i64 z); simp only [List.set_cons_zero, List.set_cons_succ] at o4
    have b4 := b3.grown (xw_gset w3 ⟨P, 0, none⟩ (.int .i64 z)) hB3 (fun k h => by cases h; exact (by omega : B ≤ P))
    clear x0 x1 z0 f0
    generalize w3.setCell ⟨P, 0, none⟩ (.int .i64 z) = w4 at e4 y4 o4 b4 ⊢
    have hB4 : B ≤ w4.heap.size := Nat.le_of_lt e4.lt
    clear e3 y3 o3 b3 hB3
    go_wp2_with (first | (refine xw_load rfl (.tmp 14) rfl rfl o4 rfl ?_) | (refine xw_store rfl (.tmp 10) (.tmp 72) rfl rfl [.int .i64 z, .int .i64 t] rfl y4 rfl rfl rfl ?_))
    refine xw_end2 (by rfl) (by rfl) (by rfl) (xw_put y4 [.int .i64 z, .int .i64 t]) rfl rfl ?_
    exact ⟨rfl, b4.grown (xw_grown _ (B + 1) #[.int .i64 z, .int .i64 t]) hB4 (fun k hk => by cases hk; omega)⟩
  case neg =>
  rw [if_neg k2] at hx
  subst hx
  have vv := fun w => rvverd_any q a false w
  rw [show verdR q a false = 0 from by unfold verdR; simp; omega] at vv
  go_upto_region 5 with (go_at_call 17; refine (vv _).mono ?_; rintro e wx ⟨rfl, rfl⟩)
  have e3 := e2.alloc (.cells #[.int .i64 c, .int .i64 t] 24); have y3 := y2.alloc (.cells #[.int .i64 c, .int .i64 t] 24); have b3 := b2.alloc hBs (.cells #[.int .i64 c, .int .i64 t] 24)
  have o3 := Bx.new w2 24 [.int .i64 c, .int .i64 t]
  have hP1 : B + 1 < w2.heap.size := y2.lt
  clear x0 x1
  have x0 := e2.cell 0 rfl; have x1 := e2.cell 1 rfl
  go_upto_region 6 with fail
  obtain ⟨P, hP⟩ : ∃ P, w2.heap.size = P := ⟨_, rfl⟩
  rw [hP] at o3 hP1 ⊢
  generalize w2.alloc (.cells #[.int .i64 c, .int .i64 t] 24) = w3 at e3 y3 b3 o3 ⊢
  clear e2 y2 b2 hP x0 x1 hBs
  have hB3 : B ≤ w3.heap.size := Nat.le_of_lt e3.lt
  go_wp2_with (first | (refine xw_load rfl (.tmp 14) rfl rfl o3 rfl ?_) | (refine xw_store rfl (.tmp 10) (.tmp 72) rfl rfl [.int .i64 c, .int .i64 t] rfl y3 rfl rfl rfl ?_))
  refine xw_end2 (by rfl) (by rfl) (by rfl) (xw_put y3 [.int .i64 c, .int .i64 t]) rfl rfl ?_
  exact ⟨rfl, b3.grown (xw_grown _ (B + 1) #[.int .i64 c, .int .i64 t]) hB3 (fun k hk => by cases hk; omega)⟩
end Go.Proofs.Ytjlomjdghmjkmaa
