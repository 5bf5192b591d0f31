/- VgL MsL2 MsL3 MsL. -/
import Derived.Test.YtbijhkhkigdddaaGreatP30
set_option linter.all false
set_option maxRecDepth 100000
set_option maxHeartbeats 32000000
namespace Go.Proofs.YtbijhkhkigdddaaGreat
open Go.RowKit
theorem vclamp_any (n low high : Int) (w : World) : Calls Tryz.prog 157 #[n, low, high] w fun e w' => e = .returned (.int .i64 (cl2 n low high)) ∧ w = w' := clamp_any n low high w
theorem vground_any (c t q a mss most : Int) (w : World) : Calls Tryz.prog 188 #[.agg #[c, t], q, a, mss, most] w fun e w' => TellV w w' e (vrndR c t q a mss most) := by
 unfold TellV
 obtain ⟨B, hB⟩ : ∃ B, w.heap.size = B := ⟨_, rfl⟩
 have e0 := (Bx.new w 36 [c, t]).alloc (.cells #[.int .i64 0, .int .i64 0] 36)
 have y0 := Bx.new (w.alloc (.cells #[c, t] 36)) 36 [.int .i64 0, .int .i64 0]
 rw [World.size_alloc] at y0
 rw [hB] at e0 y0 ⊢
 have b0 : Below B w ((w.alloc (.cells #[c, t] 36)).alloc (.cells #[.int .i64 0, .int .i64 0] 36)) := by rw [← hB]; exact ((Zb).alloc Zr _).alloc (by simp) _
 obtain ⟨x, hx⟩ : ∃ x, vrndR c t q a mss most = x := ⟨_, rfl⟩
 rw [hx]
 have HX := Zh hx; clear hx
 go_enter Tryz.func188, Tryz.ntmps188
 go_upto_region 1 with fail
 generalize (w.alloc (.cells #[c, t] 36)).alloc (.cells #[.int .i64 0, .int .i64 0] 36) = w1 at e0 y0 b0 ⊢
 have hBs : B ≤ w1.heap.size := Zl e0.lt
 clear hB
 have mm := fun w => xwmay_any c t mss most w
 cases hk : xmB c t mss most with
 | false =>
  rw [hk] at mm
  have hx := HX.out
  rw [vrnd_no (fun h => by have h1 := h.1; rw [hk] at h1; cases h1)] at hx
  subst hx
  clear HX
  go_wp2_with (first | (refine xw_load rfl (.tmp 5) rfl rfl e0 rfl ?_) | (go_at_call 46; refine (mm _).mono ?_; rintro e w2 ⟨rfl, hb2⟩; have e2 := e0.kept hb2; have y2 := y0.kept hb2; have b2 := b0.trans (hb2.mono hBs); have hB2 := Zl e2.lt) | (go_at_call 217; refine (vin_any _ _ _ _).mono ?_; rintro e wx ⟨rfl, rfl⟩) | (refine xw_store rfl (.tmp 10) (.tmp 27) rfl rfl [.int .i64 0, .int .i64 0] rfl y2 rfl rfl rfl ?_))
  refine xw_end2 (by rfl) (by rfl) (by rfl) (xw_put y2 [.int .i64 0, .int .i64 0]) rfl rfl ?_
  exact ⟨rfl, b2.grown (xw_grown _ (B + 1) #[.int .i64 0, .int .i64 0]) hB2 (fun k hk => by cases hk; omega)⟩
 | true =>
 rw [hk] at mm
 cases h1 : vinB q 0 1073741824 with
 | false =>
  have hx := HX.out
  rw [vrnd_no (fun h => by rw [(vin_iff _ _ _).2 ⟨h.2.1, h.2.2.1⟩] at h1; cases h1)] at hx
  subst hx
  clear HX
  go_wp2_with (first | (refine xw_load rfl (.tmp 5) rfl rfl e0 rfl ?_) | (go_at_call 46; refine (mm _).mono ?_; rintro e w2 ⟨rfl, hb2⟩; have e2 := e0.kept hb2; have y2 := y0.kept hb2; have b2 := b0.trans (hb2.mono hBs); have hB2 := Zl e2.lt) | (go_at_call 217; refine (vin_any _ _ _ _).mono ?_; rintro e wx ⟨rfl, rfl⟩) | (refine xw_store rfl (.tmp 10) (.tmp 27) rfl rfl [.int .i64 0, .int .i64 0] rfl y2 rfl rfl rfl ?_))
  refine xw_end2 (by rfl) (by rfl) (by rfl) (xw_put y2 [.int .i64 0, .int .i64 0]) rfl rfl ?_
  exact ⟨rfl, b2.grown (xw_grown _ (B + 1) #[.int .i64 0, .int .i64 0]) hB2 (fun k hk => by cases hk; omega)⟩
 | true =>
 cases h2 : vinB a 0 1073741824 with
 | false =>
  have hx := HX.out
  rw [vrnd_no (fun h => by rw [(vin_iff _ _ _).2 h.2.2.2] at h2; cases h2)] at hx
  subst hx
  clear HX
  go_wp2_with (first | (refine xw_load rfl (.tmp 5) rfl rfl e0 rfl ?_) | (go_at_call 46; refine (mm _).mono ?_; rintro e w2 ⟨rfl, hb2⟩; have e2 := e0.kept hb2; have y2 := y0.kept hb2; have b2 := b0.trans (hb2.mono hBs); have hB2 := Zl e2.lt) | (go_at_call 217; refine (vin_any _ _ _ _).mono ?_; rintro e wx ⟨rfl, rfl⟩) | (refine xw_store rfl (.tmp 10) (.tmp 27) rfl rfl [.int .i64 0, .int .i64 0] rfl y2 rfl rfl rfl ?_))
  refine xw_end2 (by rfl) (by rfl) (by rfl) (xw_put y2 [.int .i64 0, .int .i64 0]) rfl rfl ?_
  exact ⟨rfl, b2.grown (xw_grown _ (B + 1) #[.int .i64 0, .int .i64 0]) hB2 (fun k hk => by cases hk; omega)⟩
 | true =>
 have g1 := (vin_iff _ _ _).1 h1; have g2 := (vin_iff _ _ _).1 h2
 have hok : RdOk c t q a mss most := ⟨hk, g1.1, g1.2, g2.1, g2.2⟩
 obtain ⟨v0, v1, v2, v3, v4, v5, v6, v7⟩ := (xmB_iff c t mss most).1 hk
 have HOK := Zh hok
 clear hok hk g1 g2
 go_upto_region 3 with (first | (refine xw_load rfl (.tmp 5) rfl rfl e0 rfl ?_) | (go_at_call 46; refine (mm _).mono ?_; rintro e w2 ⟨rfl, hb2⟩; have e2 := e0.kept hb2; have y2 := y0.kept hb2; have b2 := b0.trans (hb2.mono hBs); have hB2 := Zl e2.lt) | (go_at_call 217; refine (vin_any _ _ _ _).mono ?_; rintro e wx ⟨rfl, rfl⟩))
 clear e0 y0 b0 hb2 hBs h1 h2 mm
 have x0 := e2.cell 0 rfl; have x1 := e2.cell 1 rfl
 by_cases g : c < t
 case pos =>
  have dg : decide (c < t) = true := Zt g
  have hx := HX.out
  rw [vrnd_slow HOK.out g] at hx
  clear HX HOK
  have pp := fun w => vclamp_any c mss most w
  rw [cl2_in ⟨v4, v5⟩] at pp
  by_cases k : a < q
  case pos =>
   rw [if_pos k] at hx
   subst hx
   have fi := e2.free 1
   have vv := fun w => vverd_same q a true w
   rw [show verdR q a true = 3 from by unfold verdR; rw [if_pos rfl, if_pos k]] at vv
   go_upto_region 4 with (go_at_call 218; refine (vv _).mono ?_; rintro e wx ⟨rfl, rfl⟩)
   go_upto_region 10 with fail
   have e4 := e2.set 1 (.int .i64 c); simp only [List.set_cons_zero, List.set_cons_succ] at e4
   have y4 := y2.far (p := ⟨B, 1, none⟩) (by simp) (.int .i64 c)
   have b4 := b2.grown (xw_gset w2 ⟨B, 1, none⟩ (.int .i64 c)) hB2 (fun k h => by cases h; exact Nat.le_refl B)
   clear x0 x1 fi
   generalize w2.setCell ⟨B, 1, none⟩ (.int .i64 c) = w4 at e4 y4 b4 ⊢
   have hB4 : B ≤ w4.heap.size := Zl e4.lt
   clear e2 y2 b2 hB2
   have f0 := e4.free 0
   have z0 := e4.cell 0 rfl
   go_upto_region 11 with (go_at_call 157; refine (pp _).mono ?_; rintro e wx ⟨rfl, rfl⟩)
   have e5 := e4.set 0 (.int .i64 c); simp only [List.set_cons_zero, List.set_cons_succ] at e5
   have y5 := y4.far (p := ⟨B, 0, none⟩) (by simp) (.int .i64 c)
   have b5 := b4.grown (xw_gset w4 ⟨B, 0, none⟩ (.int .i64 c)) hB4 (fun k h => by cases h; exact Nat.le_refl B)
   clear f0 z0
   generalize w4.setCell ⟨B, 0, none⟩ (.int .i64 c) = w5 at e5 y5 b5 ⊢
   have hB5 : B ≤ w5.heap.size := Zl e5.lt
   go_wp2_with (first | (refine xw_load rfl (.tmp 5) rfl rfl e5 rfl ?_) | (refine xw_store rfl (.tmp 10) (.tmp 61) rfl rfl [c, c] rfl y5 rfl rfl rfl ?_))
   refine xw_end2 (by rfl) (by rfl) (by rfl) (xw_put y5 [c, c]) rfl rfl ?_
   exact ⟨rfl, b5.grown (xw_grown _ (B + 1) #[c, c]) hB5 (fun k hk => by cases hk; omega)⟩
  case neg =>
   rw [if_neg k] at hx
   subst hx
   have vv := fun w => vverd_same q a true w
   rw [show verdR q a true = 0 from by unfold verdR; rw [if_pos rfl, if_neg k]] at vv
   go_upto_region 4 with (go_at_call 218; refine (vv _).mono ?_; rintro e wx ⟨rfl, rfl⟩)
   go_upto_region 10 with fail
   clear x0 x1
   have f0 := e2.free 0
   have z0 := e2.cell 0 rfl
   go_upto_region 11 with (go_at_call 157; refine (pp _).mono ?_; rintro e wx ⟨rfl, rfl⟩)
   have e5 := e2.set 0 (.int .i64 c); simp only [List.set_cons_zero, List.set_cons_succ] at e5
   have y5 := y2.far (p := ⟨B, 0, none⟩) (by simp) (.int .i64 c)
   have b5 := b2.grown (xw_gset w2 ⟨B, 0, none⟩ (.int .i64 c)) hB2 (fun k h => by cases h; exact Nat.le_refl B)
   clear f0 z0
   generalize w2.setCell ⟨B, 0, none⟩ (.int .i64 c) = w5 at e5 y5 b5 ⊢
   have hB5 : B ≤ w5.heap.size := Zl e5.lt
   go_wp2_with (first | (refine xw_load rfl (.tmp 5) rfl rfl e5 rfl ?_) | (refine xw_store rfl (.tmp 10) (.tmp 61) rfl rfl [c, t] rfl y5 rfl rfl rfl ?_))
   refine xw_end2 (by rfl) (by rfl) (by rfl) (xw_put y5 [c, t]) rfl rfl ?_
   exact ⟨rfl, b5.grown (xw_grown _ (B + 1) #[c, t]) hB5 (fun k hk => by cases hk; omega)⟩
 case neg =>
 have dg : decide (c < t) = false := Zf g
 have hx := HX.out
 rw [vrnd_fast HOK.out g] at hx
 clear HX HOK
 by_cases k1 : q < a
 case pos =>
  rw [if_pos k1] at hx
  have i1 : IntKind.i64.wrap (c + mss) = c + mss := IntWalk.i64_in _ (by omega)
  have pp := fun w => vclamp_any (c + mss) mss most w
  rw [cl2_eq (by omega), Int.max_eq_left (by omega : mss ≤ c + mss)] at pp
  obtain ⟨z, hz⟩ : ∃ z, min (c + mss) most = z := ⟨_, rfl⟩
  rw [hz] at pp hx
  obtain ⟨u, hu⟩ : ∃ u, c + mss = u := ⟨_, rfl⟩
  rw [hu] at pp i1
  subst hx
  clear hz
  have fi := e2.free 0
  have vv := fun w => vverd_same q a false w
  rw [show verdR q a false = 1 from by unfold verdR; rw [if_neg (by simp), if_pos k1]] at vv
  go_upto_region 4 with (go_at_call 218; refine (vv _).mono ?_; rintro e wx ⟨rfl, rfl⟩)
  go_upto_region 10 with fail
  have e4 := e2.set 0 (.int .i64 u); simp only [List.set_cons_zero, List.set_cons_succ] at e4
  have y4 := y2.far (p := ⟨B, 0, none⟩) (by simp) (.int .i64 u)
  have b4 := b2.grown (xw_gset w2 ⟨B, 0, none⟩ (.int .i64 u)) hB2 (fun k h => by cases h; exact Nat.le_refl B)
  clear x0 x1 fi
  generalize w2.setCell ⟨B, 0, none⟩ (.int .i64 u) = w4 at e4 y4 b4 ⊢
  have hB4 : B ≤ w4.heap.size := Zl e4.lt
  clear e2 y2 b2 hB2
  have f0 := e4.free 0
  have z0 := e4.cell 0 rfl
  go_upto_region 11 with (go_at_call 157; refine (pp _).mono ?_; rintro e wx ⟨rfl, rfl⟩)
  have e5 := e4.set 0 (.int .i64 z); simp only [List.set_cons_zero, List.set_cons_succ] at e5
  have y5 := y4.far (p := ⟨B, 0, none⟩) (by simp) (.int .i64 z)
  have b5 := b4.grown (xw_gset w4 ⟨B, 0, none⟩ (.int .i64 z)) hB4 (fun k h => by cases h; exact Nat.le_refl B)
  clear f0 z0
  generalize w4.setCell ⟨B, 0, none⟩ (.int .i64 z) = w5 at e5 y5 b5 ⊢
  have hB5 : B ≤ w5.heap.size := Zl e5.lt
  go_wp2_with (first | (refine xw_load rfl (.tmp 5) rfl rfl e5 rfl ?_) | (refine xw_store rfl (.tmp 10) (.tmp 61) rfl rfl [z, t] rfl y5 rfl rfl rfl ?_))
  refine xw_end2 (by rfl) (by rfl) (by rfl) (xw_put y5 [z, t]) rfl rfl ?_
  exact ⟨rfl, b5.grown (xw_grown _ (B + 1) #[z, t]) hB5 (fun k hk => by cases hk; omega)⟩
 case neg =>
 rw [if_neg k1] at hx
 by_cases k2 : a < q
 case pos =>
  rw [if_pos k2] at hx
  have i1 : IntKind.i64.wrap (c - mss) = c - mss := IntWalk.i64_in _ (by omega)
  have pp := fun w => vclamp_any (c - mss) mss most w
  rw [cl2_eq (by omega), show min (max (c - mss) mss) most = max (c - mss) mss by omega] at pp
  obtain ⟨z, hz⟩ : ∃ z, max (c - mss) mss = z := ⟨_, rfl⟩
  rw [hz] at pp hx
  obtain ⟨u, hu⟩ : ∃ u, c - mss = u := ⟨_, rfl⟩
  rw [hu] at pp i1
  subst hx
  clear hz
  have fi := e2.free 0
  have vv := fun w => vverd_same q a false w
  rw [show verdR q a false = 2 from by unfold verdR; rw [if_neg (by simp), if_neg k1, if_pos k2]] at vv
  go_upto_region 4 with (go_at_call 218; refine (vv _).mono ?_; rintro e wx ⟨rfl, rfl⟩)
  go_upto_region 10 with fail
  have e4 := e2.set 0 (.int .i64 u); simp only [List.set_cons_zero, List.set_cons_succ] at e4
  have y4 := y2.far (p := ⟨B, 0, none⟩) (by simp) (.int .i64 u)
  have b4 := b2.grown (xw_gset w2 ⟨B, 0, none⟩ (.int .i64 u)) hB2 (fun k h => by cases h; exact Nat.le_refl B)
  clear x0 x1 fi
  generalize w2.setCell ⟨B, 0, none⟩ (.int .i64 u) = w4 at e4 y4 b4 ⊢
  have hB4 : B ≤ w4.heap.size := Zl e4.lt
  clear e2 y2 b2 hB2
  have f0 := e4.free 0
  have z0 := e4.cell 0 rfl
  go_upto_region 11 with (go_at_call 157; refine (pp _).mono ?_; rintro e wx ⟨rfl, rfl⟩)
  have e5 := e4.set 0 (.int .i64 z); simp only [List.set_cons_zero, List.set_cons_succ] at e5
  have y5 := y4.far (p := ⟨B, 0, none⟩) (by simp) (.int .i64 z)
  have b5 := b4.grown (xw_gset w4 ⟨B, 0, none⟩ (.int .i64 z)) hB4 (fun k h => by cases h; exact Nat.le_refl B)
  clear f0 z0
  generalize w4.setCell ⟨B, 0, none⟩ (.int .i64 z) = w5 at e5 y5 b5 ⊢
  have hB5 : B ≤ w5.heap.size := Zl e5.lt
  go_wp2_with (first | (refine xw_load rfl (.tmp 5) rfl rfl e5 rfl ?_) | (refine xw_store rfl (.tmp 10) (.tmp 61) rfl rfl [z, t] rfl y5 rfl rfl rfl ?_))
  refine xw_end2 (by rfl) (by rfl) (by rfl) (xw_put y5 [z, t]) rfl rfl ?_
  exact ⟨rfl, b5.grown (xw_grown _ (B + 1) #[z, t]) hB5 (fun k hk => by cases hk; omega)⟩
 case neg =>
 rw [if_neg k2] at hx
 subst hx
 have pp := fun w => vclamp_any c mss most w
 rw [cl2_in ⟨v4, v5⟩] at pp
 have vv := fun w => vverd_same q a false w
 rw [show verdR q a false = 0 from by unfold verdR; rw [if_neg (by simp), if_neg k1, if_neg k2]] at vv
 go_upto_region 4 with (go_at_call 218; refine (vv _).mono ?_; rintro e wx ⟨rfl, rfl⟩)
 go_upto_region 10 with fail
 clear x0 x1
 have f0 := e2.free 0
 have z0 := e2.cell 0 rfl
 go_upto_region 11 with (go_at_call 157; refine (pp _).mono ?_; rintro e wx ⟨rfl, rfl⟩)
 have e5 := e2.set 0 (.int .i64 c); simp only [List.set_cons_zero, List.set_cons_succ] at e5
 have y5 := y2.far (p := ⟨B, 0, none⟩) (by simp) (.int .i64 c)
 have b5 := b2.grown (xw_gset w2 ⟨B, 0, none⟩ (.int .i64 c)) hB2 (fun k h => by cases h; exact Nat.le_refl B)
 clear f0 z0
 generalize w2.setCell ⟨B, 0, none⟩ (.int .i64 c) = w5 at e5 y5 b5 ⊢
 have hB5 : B ≤ w5.heap.size := Zl e5.lt
 go_wp2_with (first | (refine xw_load rfl (.tmp 5) rfl rfl e5 rfl ?_) | (refine xw_store rfl (.tmp 10) (.tmp 61) rfl rfl [c, t] rfl y5 rfl rfl rfl ?_))
 refine xw_end2 (by rfl) (by rfl) (by rfl) (xw_put y5 [c, t]) rfl rfl ?_
 exact ⟨rfl, b5.grown (xw_grown _ (B + 1) #[c, t]) hB5 (fun k hk => by cases hk; omega)⟩
theorem modulo_ex (m : Int) (w : World) :
  Calls Tryz.prog 179 #[m] w fun e w' => ∃ V, e = .returned (.func (.func 208) #[] #[.pointer (some ⟨V, 0, none⟩)]) ∧ Bx w' V 3 [m] ∧ Below w.heap.size w w' :=
 (modulo_any m w).mono (fun _ _ h => ⟨_, h⟩)
theorem Below.mown {N B i : Nat} {w W : World} (h : Below N w W) (hl : N ≤ W.heap.size) (hB : N ≤ B) (u : Value) : Below N w (W.setCell ⟨B, i, none⟩ u) :=
 h.grown (ms_gset W ⟨B, i, none⟩ u) hl (fun k hk => by cases hk; exact hB)
theorem fits_may {m : Ms} {a c p b : Int} (h : mmay m = true ∧ HeardOk a c p b) : mmay ⟨m.pk + nR m a c p, m.bt + bR m c, m.ca + b, m.md + minM b (bR m c), m.pt⟩ = true ↔ Fits m a c p b := by
 constructor
 ·intro k
  have k := (mmay_iff _).1 k
  have k1 := k.p1; have k2 := k.b1; have k3 := k.c1
  exact ⟨k1, k2, k3⟩
 ·intro k
  have := mheard_valid h k
  rw [mheard_ok h k] at this
  exact (mmay_iff _).2 this
theorem ack_of {n : Int} (h : ackB n = true) : 0 ≤ n ∧ n ≤ 1099511627776 := by unfold ackB at h; simpa using h
theorem ack_no {n : Int} (h : ackB n = false) : ¬ (0 ≤ n ∧ n ≤ 1099511627776) := by
 intro k
 unfold ackB at h
 rw [Zt k.1, Zt k.2] at h
 exact absurd h (by simp)
theorem mkheard_any (pk bt ca md pt : Int) (ace ce packets bytes : Int) (w : World) (hce0 : 0 ≤ ce) (hce1 : ce < 4294967296) :
  Calls Tryz.prog 126 #[.agg #[pk, bt, ca, md, pt], ace, .int .u32 ce, packets, bytes] w fun e w' => TellH w w' e (mheardR ⟨pk, bt, ca, md, pt⟩ ace ce packets bytes) := by
 unfold TellH
 obtain ⟨B, hB⟩ : ∃ B, w.heap.size = B := ⟨_, rfl⟩
 rw [hB]
 have e0 := (Bx.new w 29 [pk, bt, ca, md, pt]).alloc (.cells #[.int .i64 0, .int .i64 0, .int .i64 0, .int .i64 0, .int .i64 0] 29)
 have y0 := mtwo_new w (.cells #[pk, bt, ca, md, pt] 29) 29 [.int .i64 0, .int .i64 0, .int .i64 0, .int .i64 0, .int .i64 0]
 rw [hB] at e0 y0
 have b0 : Below B w ((w.alloc (.cells #[pk, bt, ca, md, pt] 29)).alloc (.cells #[.int .i64 0, .int .i64 0, .int .i64 0, .int .i64 0, .int .i64 0] 29)) := by rw [← hB]; exact mtwo_below _ _ _
 obtain ⟨x, hx⟩ : ∃ x, mheardR ⟨pk, bt, ca, md, pt⟩ ace ce packets bytes = x := ⟨_, rfl⟩
 rw [hx]
 have HX := Zh hx; clear hx
 go_enter Tryz.func126, Tryz.ntmps126
 go_wp2_with (refine ms_load rfl (.tmp 5) rfl rfl e0 rfl ?_)
 generalize (w.alloc (.cells #[pk, bt, ca, md, pt] 29)).alloc (.cells #[.int .i64 0, .int .i64 0, .int .i64 0, .int .i64 0, .int .i64 0] 29) = w1 at e0 y0 b0 ⊢
 refine (mkmay_any pk bt ca md pt _).mono ?_
 rintro e w2 ⟨rfl, hb2⟩
 have e2 := e0.kept hb2; have y2 := y0.kept hb2; have b2 := b0.trans (hb2.mono (Zl e0.lt))
 have hBs : B ≤ w2.heap.size := Zl e2.lt
 clear e0 y0 b0 hb2
 cases hk : mmay ⟨pk, bt, ca, md, pt⟩ with
 | false =>
  have hx := HX.out
  rw [mheard_no (fun h => by rw [hk] at h; exact absurd h.1 (by simp))] at hx
  subst hx
  clear HX hk
  go_wp2_with (first | (refine ms_store rfl (.tmp 10) (.tmp 40) rfl rfl [.int .i64 0, .int .i64 0, .int .i64 0, .int .i64 0, .int .i64 0] rfl y2 rfl rfl rfl ?_) | (go_at_call 178; refine (ack_any _ _).mono ?_; rintro e wx ⟨rfl, rfl⟩))
  refine ms_end3 (by rfl) (by rfl) (by rfl) (by rfl) (ms_put y2 [.int .i64 0, .int .i64 0, .int .i64 0, .int .i64 0, .int .i64 0]) rfl rfl ?_
  exact ⟨rfl, b2.grown (ms_grown _ (B + 1) #[.int .i64 0, .int .i64 0, .int .i64 0, .int .i64 0, .int .i64 0]) hBs (fun k hk => by cases hk; omega)⟩
 | true =>
 by_cases c0 : ace < 0
 case pos =>
  have d0 : decide (ace < 0) = true := Zt c0
  have hx := HX.out
  rw [mheard_no (fun h => by have := h.2.1; omega)] at hx
  subst hx
  clear HX hk
  go_wp2_with (first | (refine ms_store rfl (.tmp 10) (.tmp 40) rfl rfl [.int .i64 0, .int .i64 0, .int .i64 0, .int .i64 0, .int .i64 0] rfl y2 rfl rfl rfl ?_) | (go_at_call 178; refine (ack_any _ _).mono ?_; rintro e wx ⟨rfl, rfl⟩))
  refine ms_end3 (by rfl) (by rfl) (by rfl) (by rfl) (ms_put y2 [.int .i64 0, .int .i64 0, .int .i64 0, .int .i64 0, .int .i64 0]) rfl rfl ?_
  exact ⟨rfl, b2.grown (ms_grown _ (B + 1) #[.int .i64 0, .int .i64 0, .int .i64 0, .int .i64 0, .int .i64 0]) hBs (fun k hk => by cases hk; omega)⟩
 case neg =>
 have d0 : decide (ace < 0) = false := Zf c0
 by_cases c1 : 8 ≤ ace
 case pos =>
  have d1 : decide (8 ≤ ace) = true := Zt c1
  have hx := HX.out
  rw [mheard_no (fun h => by have := h.2.2.1; omega)] at hx
  subst hx
  clear HX hk
  go_wp2_with (first | (refine ms_store rfl (.tmp 10) (.tmp 40) rfl rfl [.int .i64 0, .int .i64 0, .int .i64 0, .int .i64 0, .int .i64 0] rfl y2 rfl rfl rfl ?_) | (go_at_call 178; refine (ack_any _ _).mono ?_; rintro e wx ⟨rfl, rfl⟩))
  refine ms_end3 (by rfl) (by rfl) (by rfl) (by rfl) (ms_put y2 [.int .i64 0, .int .i64 0, .int .i64 0, .int .i64 0, .int .i64 0]) rfl rfl ?_
  exact ⟨rfl, b2.grown (ms_grown _ (B + 1) #[.int .i64 0, .int .i64 0, .int .i64 0, .int .i64 0, .int .i64 0]) hBs (fun k hk => by cases hk; omega)⟩
 case neg =>
 have d1 : decide (8 ≤ ace) = false := Zf c1
 by_cases c2 : 16777216 ≤ ce
 case pos =>
  have d2 : decide (16777216 ≤ ce) = true := Zt c2
  have hx := HX.out
  rw [mheard_no (fun h => by have := h.2.2.2.1; omega)] at hx
  subst hx
  clear HX hk
  go_wp2_with (first | (refine ms_store rfl (.tmp 10) (.tmp 40) rfl rfl [.int .i64 0, .int .i64 0, .int .i64 0, .int .i64 0, .int .i64 0] rfl y2 rfl rfl rfl ?_) | (go_at_call 178; refine (ack_any _ _).mono ?_; rintro e wx ⟨rfl, rfl⟩))
  refine ms_end3 (by rfl) (by rfl) (by rfl) (by rfl) (ms_put y2 [.int .i64 0, .int .i64 0, .int .i64 0, .int .i64 0, .int .i64 0]) rfl rfl ?_
  exact ⟨rfl, b2.grown (ms_grown _ (B + 1) #[.int .i64 0, .int .i64 0, .int .i64 0, .int .i64 0, .int .i64 0]) hBs (fun k hk => by cases hk; omega)⟩
 case neg =>
 have d2 : decide (16777216 ≤ ce) = false := Zf c2
 cases hA0 : ackB packets with
 | false =>
  have hx := HX.out
  rw [mheard_no (fun h => ack_no hA0 ⟨h.2.2.2.2.1, h.2.2.2.2.2.1⟩)] at hx
  subst hx
  clear HX hk
  go_wp2_with (first | (refine ms_store rfl (.tmp 10) (.tmp 40) rfl rfl [.int .i64 0, .int .i64 0, .int .i64 0, .int .i64 0, .int .i64 0] rfl y2 rfl rfl rfl ?_) | (go_at_call 178; refine (ack_any _ _).mono ?_; rintro e wx ⟨rfl, rfl⟩))
  refine ms_end3 (by rfl) (by rfl) (by rfl) (by rfl) (ms_put y2 [.int .i64 0, .int .i64 0, .int .i64 0, .int .i64 0, .int .i64 0]) rfl rfl ?_
  exact ⟨rfl, b2.grown (ms_grown _ (B + 1) #[.int .i64 0, .int .i64 0, .int .i64 0, .int .i64 0, .int .i64 0]) hBs (fun k hk => by cases hk; omega)⟩
 | true =>
 cases hA1 : ackB bytes with
 | false =>
  have hx := HX.out
  rw [mheard_no (fun h => ack_no hA1 ⟨h.2.2.2.2.2.2.1, h.2.2.2.2.2.2.2⟩)] at hx
  subst hx
  clear HX hk
  go_wp2_with (first | (refine ms_store rfl (.tmp 10) (.tmp 40) rfl rfl [.int .i64 0, .int .i64 0, .int .i64 0, .int .i64 0, .int .i64 0] rfl y2 rfl rfl rfl ?_) | (go_at_call 178; refine (ack_any _ _).mono ?_; rintro e wx ⟨rfl, rfl⟩))
  refine ms_end3 (by rfl) (by rfl) (by rfl) (by rfl) (ms_put y2 [.int .i64 0, .int .i64 0, .int .i64 0, .int .i64 0, .int .i64 0]) rfl rfl ?_
  exact ⟨rfl, b2.grown (ms_grown _ (B + 1) #[.int .i64 0, .int .i64 0, .int .i64 0, .int .i64 0, .int .i64 0]) hBs (fun k hk => by cases hk; omega)⟩
 | true =>
 obtain ⟨a0, a1⟩ := ack_of hA0
 obtain ⟨a2, a3⟩ := ack_of hA1
 have hv := (mmay_iff _).1 hk
 have hok : mmay ⟨pk, bt, ca, md, pt⟩ = true ∧ HeardOk ace ce packets bytes := ⟨hk, by omega, by omega, by omega, by omega, by omega, by omega, by omega⟩
 have p0 : 0 ≤ pk := hv.p0; have p1 : pk ≤ 1152921504606846976 := hv.p1; have q0 : 0 ≤ bt := hv.b0; have q1 : bt ≤ 1152921504606846976 := hv.b1; have r0 : 0 ≤ ca := hv.c0; have r1 : ca ≤ 1152921504606846976 := hv.c1; have s0 : 0 ≤ md := hv.m0; have s1 : md ≤ ca := hv.m1
 obtain ⟨bm, hbm⟩ : ∃ y, bR ⟨pk, bt, ca, md, pt⟩ ce = y := ⟨_, rfl⟩
 obtain ⟨n0, hn0⟩ : ∃ y, n0R ⟨pk, bt, ca, md, pt⟩ ace = y := ⟨_, rfl⟩
 obtain ⟨bm0, bm1⟩ := b_bd ⟨pk, bt, ca, md, pt⟩ ce
 obtain ⟨n00, n01⟩ := n0_bd ⟨pk, bt, ca, md, pt⟩ ace
 rw [hbm] at bm0 bm1
 rw [hn0] at n00 n01
 have hbe : (ce - bt) % 16777216 = bm := hbm
 have hne : (ace - pk) % 8 = n0 := hn0
 have hw1 : IntKind.i64.wrap ce = ce := IntWalk.i64_in _ (by omega)
 have hw2 : IntKind.i64.wrap (ce - bt) = ce - bt := IntWalk.i64_in _ (by omega)
 have hw3 : IntKind.i64.wrap (ace - pk) = ace - pk := IntWalk.i64_in _ (by omega)
 have HBE := Zh hbe; have HNE := Zh hne
 have hfit := fits_may hok
 have hxo := fun k => mheard_over hok k
 have hxk := fun k => mheard_ok hok k
 dsimp only at hfit hxk
 rw [hbm] at hfit hxk
 obtain ⟨mn, hmn⟩ : ∃ y, min bm bytes = y := ⟨_, rfl⟩
 have hmm : minM bytes bm = mn := by unfold minM; split <;> omega
 rw [hmm] at hfit hxk
 have mn0 : 0 ≤ mn := by omega
 have mn1 : mn ≤ bytes := by omega
 have hNN : nR ⟨pk, bt, ca, md, pt⟩ ace ce packets = if 0 < bm then likR n0 packets else n0 := by
  unfold nR likR
  rw [hbm, hn0]
  by_cases h1 : 8 ≤ packets
  ·by_cases h2 : 0 < bm
   ·rw [if_pos ⟨h1, h2⟩, if_pos h2, if_pos h1]
   ·rw [if_neg (fun h => h2 h.2), if_neg h2]
  ·rw [if_neg (fun h => h1 h.1)]
   simp [h1]
 rw [hNN] at hfit hxk
 have HOK := Zh hok; have HF := Zh hfit; have HXO := Zh hxo; have HXK := Zh hxk
 clear hk hv hok hfit hxo hxk hbe hne hmm hNN hbm hn0
 go_upto_region 3 with (go_at_call 178; refine (ack_any _ _).mono ?_; rintro e wx ⟨rfl, rfl⟩)
 refine tB 6 8 (fun (W : World) => Bx W B 29 [pk, bt, ca, md, pt] ∧ Bx W (B + 1) 29 [.int .i64 0, .int .i64 0, .int .i64 0, .int .i64 0, .int .i64 0] ∧ Below B w W) ⟨e2.drew, y2.drew, b2.drew⟩ (fun HS => ?_)
 refine tV 1 (.int .u32 ce) (fun w hSw => ?_) HS ?_
 ·(try dsimp only at hSw); go_simp
 refine tV 2 (.int .i64 ce) (fun w hSw => ?_) HS ?_
 ·(try dsimp only at hSw); go_simp
 refine tV 3 (.pointer (some ⟨B, 1, none⟩)) (fun w hSw => ?_) HS ?_
 ·(try dsimp only at hSw); go_simp
 refine tV 4 (.int .i64 bt) (fun w hSw => ?_) HS ?_
 ·have hc := hSw.1.cell 1 rfl; (try dsimp only at hSw); go_simp
 refine tV 5 (.int .i64 (ce - bt)) (fun w hSw => ?_) HS ?_
 ·(try dsimp only at hSw); go_simp
 refine tO 0 (fun K hK => ?_)
 go_simp
 refine (modulo_ex 16777216 _).mono ?_
 rintro e w3 ⟨V3, rfl, hx3, hb3⟩
 have e3 := HS.1.kept hb3; have y3 := HS.2.1.kept hb3; have b3 := HS.2.2.trans (hb3.mono (Zl HS.1.lt))
 have HS : (fun (W : World) => Bx W B 29 [pk, bt, ca, md, pt] ∧ Bx W (B + 1) 29 [.int .i64 0, .int .i64 0, .int .i64 0, .int .i64 0, .int .i64 0] ∧ Below B w W) _ := ⟨e3, y3, b3⟩
 refine kP hK HS ?_
 clear hK K
 refine ⟨by kernel_rfl, ?_⟩
 simp only [List.drop_succ_cons, List.drop_zero]
 go_wp2_with fail
 refine (res24_any (ce - bt) _ _ (hx3.cell 0 rfl) (by omega) (by omega)).mono ?_
 rintro e w4 ⟨rfl, hb4⟩
 rw [HBE.out]
 have e4 := e3.kept hb4; have y4 := y3.kept hb4; have b4 := b3.trans (hb4.mono (Zl e3.lt))
 clear HS hx3 hb3 e3 y3 b3 hb4
 go_upto_region 4 with fail
 refine tB 5 7 (fun (W : World) => Bx W B 29 [pk, bt, ca, md, pt] ∧ Bx W (B + 1) 29 [.int .i64 0, .int .i64 0, .int .i64 0, .int .i64 0, .int .i64 0] ∧ Below B w W) ⟨e4.drew, y4.drew, b4.drew⟩ (fun HS => ?_)
 refine tV 1 (.int .i64 ace) (fun w hSw => ?_) HS ?_
 ·(try dsimp only at hSw); go_simp
 refine tV 2 (.pointer (some ⟨B, 0, none⟩)) (fun w hSw => ?_) HS ?_
 ·(try dsimp only at hSw); go_simp
 refine tV 3 (.int .i64 pk) (fun w hSw => ?_) HS ?_
 ·have hc := hSw.1.cell 0 rfl; (try dsimp only at hSw); go_simp
 refine tV 4 (.int .i64 (ace - pk)) (fun w hSw => ?_) HS ?_
 ·(try dsimp only at hSw); go_simp
 refine tO 0 (fun K hK => ?_)
 go_simp
 refine (modulo_ex 8 _).mono ?_
 rintro e w5 ⟨V5, rfl, hx5, hb5⟩
 have e5 := HS.1.kept hb5; have y5 := HS.2.1.kept hb5; have b5 := HS.2.2.trans (hb5.mono (Zl HS.1.lt))
 have HS : (fun (W : World) => Bx W B 29 [pk, bt, ca, md, pt] ∧ Bx W (B + 1) 29 [.int .i64 0, .int .i64 0, .int .i64 0, .int .i64 0, .int .i64 0] ∧ Below B w W) _ := ⟨e5, y5, b5⟩
 refine kP hK HS ?_
 clear hK K
 refine ⟨by kernel_rfl, ?_⟩
 simp only [List.drop_succ_cons, List.drop_zero]
 go_wp2_with fail
 refine (res8_any (ace - pk) _ _ (hx5.cell 0 rfl) (by omega) (by omega)).mono ?_
 rintro e w6 ⟨rfl, hb6⟩
 rw [HNE.out]
 have e6 := e5.kept hb6; have y6 := y5.kept hb6; have b6 := b5.trans (hb6.mono (Zl e5.lt))
 clear HS hx5 hb5 e5 y5 b5 hb6
 by_cases cb : 0 < bm
 ·have db : decide (0 < bm) = true := Zt cb
  have hN1 := HF.out; have hN2 := HXK.out
  rw [if_pos cb] at hN1 hN2
  clear HF HXK
  obtain ⟨N, hN⟩ : ∃ y, likR n0 packets = y := ⟨_, rfl⟩
  rw [hN] at hN1 hN2
  have N0 : 0 ≤ N := by rw [← hN]; unfold likR; split <;> omega
  have N1 : N ≤ 1099511627783 := by rw [← hN]; unfold likR; split <;> omega
  have HF := Zh hN1; have HXK := Zh hN2; have HN := Zh hN
  clear hN1 hN2 hN
  go_wp2_with fail
  refine (likely_any n0 packets _ n00 n01 a0 a1).mono ?_
  rintro e w7 ⟨rfl, hb7⟩
  rw [HN.out]
  have e7 := e6.kept hb7; have y7 := y6.kept hb7; have b7 := b6.trans (hb7.mono (Zl e6.lt))
  clear HN e6 y6 b6 hb7
  have x0 := e7.cell 0 rfl; have f0 := e7.free 0
  have ea := e7.set 0 (.int .i64 (pk + N)); have ya := y7.far (p := ⟨B, 0, none⟩) (by simp) (.int .i64 (pk + N)); have ba := Below.mown (i := 0) b7 (Zl e7.lt) Zr (.int .i64 (pk + N))
  simp only [List.set_cons_zero, List.set_cons_succ] at ea
  clear e7 y7 b7
  go_upto_region 8 with fail
  generalize w7.setCell ⟨B, 0, none⟩ (.int .i64 (pk + N)) = wa at ea ya ba ⊢
  clear x0 f0
  have x0 := ea.cell 1 rfl; have f0 := ea.free 1
  have eb := ea.set 1 (.int .i64 (bt + bm)); have yb := ya.far (p := ⟨B, 1, none⟩) (by simp) (.int .i64 (bt + bm)); have bb := Below.mown (i := 1) ba (Zl ea.lt) Zr (.int .i64 (bt + bm))
  simp only [List.set_cons_zero, List.set_cons_succ] at eb
  clear ea ya ba
  go_upto_region 9 with fail
  generalize wa.setCell ⟨B, 1, none⟩ (.int .i64 (bt + bm)) = wb at eb yb bb ⊢
  clear x0 f0
  have x0 := eb.cell 2 rfl; have f0 := eb.free 2
  have ec := eb.set 2 (.int .i64 (ca + bytes)); have yc := yb.far (p := ⟨B, 2, none⟩) (by simp) (.int .i64 (ca + bytes)); have bc := Below.mown (i := 2) bb (Zl eb.lt) Zr (.int .i64 (ca + bytes))
  simp only [List.set_cons_zero, List.set_cons_succ] at ec
  clear eb yb bb
  go_upto_region 10 with fail
  generalize wb.setCell ⟨B, 2, none⟩ (.int .i64 (ca + bytes)) = wc at ec yc bc ⊢
  clear x0 f0
  have x0 := ec.cell 3 rfl; have f0 := ec.free 3
  have ed := ec.set 3 (.int .i64 (md + mn)); have yd := yc.far (p := ⟨B, 3, none⟩) (by simp) (.int .i64 (md + mn)); have bd := Below.mown (i := 3) bc (Zl ec.lt) Zr (.int .i64 (md + mn))
  simp only [List.set_cons_zero, List.set_cons_succ] at ed
  clear ec yc bc
  go_upto_region 11 with fail
  generalize wc.setCell ⟨B, 3, none⟩ (.int .i64 (md + mn)) = wd at ed yd bd ⊢
  clear x0 f0
  go_wp2_with (refine ms_load rfl (.tmp 5) rfl rfl ed rfl ?_)
  refine (mkmay_any (pk + N) (bt + bm) (ca + bytes) (md + mn) pt _).mono ?_
  rintro e wb ⟨rfl, hb9⟩
  have e9 := ed.kept hb9; have y9 := yd.kept hb9; have b9 := bd.trans (hb9.mono (Zl ed.lt))
  have hB9 : B ≤ wb.heap.size := Zl e9.lt
  clear ed yd bd hb9
  cases hk : mmay ⟨pk + N, bt + bm, ca + bytes, md + mn, pt⟩ with
  | false =>
   have hx := HX.out
   rw [HXO.out (fun k => by rw [HF.out.2 k] at hk; exact absurd hk (by simp))] at hx
   subst hx
   clear HX HF HXO HXK HOK hk
   go_wp2_with (first | (refine ms_store rfl (.tmp 10) (.tmp 84) rfl rfl [.int .i64 0, .int .i64 0, .int .i64 0, .int .i64 0, .int .i64 0] rfl y9 rfl rfl rfl ?_))
   refine ms_end3 (by rfl) (by rfl) (by rfl) (by rfl) (ms_put y9 [.int .i64 0, .int .i64 0, .int .i64 0, .int .i64 0, .int .i64 0]) rfl rfl ?_
   exact ⟨rfl, b9.grown (ms_grown _ (B + 1) #[.int .i64 0, .int .i64 0, .int .i64 0, .int .i64 0, .int .i64 0]) hB9 (fun k hk => by cases hk; omega)⟩
  | true =>
   have hx := HX.out
   rw [HXK.out (HF.out.1 hk)] at hx
   subst hx
   clear HX HF HXO HXK HOK hk
   go_wp2_with (first | (refine ms_load rfl (.tmp 5) rfl rfl e9 rfl ?_) | (refine ms_store rfl (.tmp 10) (.tmp 85) rfl rfl [.int .i64 (pk + N), .int .i64 (bt + bm), .int .i64 (ca + bytes), .int .i64 (md + mn), pt] rfl y9 rfl rfl rfl ?_))
   refine ms_end3 (by rfl) (by rfl) (by rfl) (by rfl) (ms_put y9 [.int .i64 (pk + N), .int .i64 (bt + bm), .int .i64 (ca + bytes), .int .i64 (md + mn), pt]) rfl rfl ?_
   exact ⟨rfl, b9.grown (ms_grown _ (B + 1) #[.int .i64 (pk + N), .int .i64 (bt + bm), .int .i64 (ca + bytes), .int .i64 (md + mn), pt]) hB9 (fun k hk => by cases hk; omega)⟩
 ·have db : decide (0 < bm) = false := Zf cb
  have hN1 := HF.out; have hN2 := HXK.out
  rw [if_neg cb] at hN1 hN2
  clear HF HXK
  obtain ⟨N, rfl⟩ : ∃ y, n0 = y := ⟨_, rfl⟩
  have HF := Zh hN1; have HXK := Zh hN2
  clear hN1 hN2
  have x0 := e6.cell 0 rfl; have f0 := e6.free 0
  have ea := e6.set 0 (.int .i64 (pk + n0)); have ya := y6.far (p := ⟨B, 0, none⟩) (by simp) (.int .i64 (pk + n0)); have ba := Below.mown (i := 0) b6 (Zl e6.lt) Zr (.int .i64 (pk + n0))
  simp only [List.set_cons_zero, List.set_cons_succ] at ea
  clear e6 y6 b6
  go_upto_region 8 with fail
  generalize w6.setCell ⟨B, 0, none⟩ (.int .i64 (pk + n0)) = wa at ea ya ba ⊢
  clear x0 f0
  have x0 := ea.cell 1 rfl; have f0 := ea.free 1
  have eb := ea.set 1 (.int .i64 (bt + bm)); have yb := ya.far (p := ⟨B, 1, none⟩) (by simp) (.int .i64 (bt + bm)); have bb := Below.mown (i := 1) ba (Zl ea.lt) Zr (.int .i64 (bt + bm))
  simp only [List.set_cons_zero, List.set_cons_succ] at eb
  clear ea ya ba
  go_upto_region 9 with fail
  generalize wa.setCell ⟨B, 1, none⟩ (.int .i64 (bt + bm)) = wb at eb yb bb ⊢
  clear x0 f0
  have x0 := eb.cell 2 rfl; have f0 := eb.free 2
  have ec := eb.set 2 (.int .i64 (ca + bytes)); have yc := yb.far (p := ⟨B, 2, none⟩) (by simp) (.int .i64 (ca + bytes)); have bc := Below.mown (i := 2) bb (Zl eb.lt) Zr (.int .i64 (ca + bytes))
  simp only [List.set_cons_zero, List.set_cons_succ] at ec
  clear eb yb bb
  go_upto_region 10 with fail
  generalize wb.setCell ⟨B, 2, none⟩ (.int .i64 (ca + bytes)) = wc at ec yc bc ⊢
  clear x0 f0
  have x0 := ec.cell 3 rfl; have f0 := ec.free 3
  have ed := ec.set 3 (.int .i64 (md + mn)); have yd := yc.far (p := ⟨B, 3, none⟩) (by simp) (.int .i64 (md + mn)); have bd := Below.mown (i := 3) bc (Zl ec.lt) Zr (.int .i64 (md + mn))
  simp only [List.set_cons_zero, List.set_cons_succ] at ed
  clear ec yc bc
  go_upto_region 11 with fail
  generalize wc.setCell ⟨B, 3, none⟩ (.int .i64 (md + mn)) = wd at ed yd bd ⊢
  clear x0 f0
  go_wp2_with (refine ms_load rfl (.tmp 5) rfl rfl ed rfl ?_)
  refine (mkmay_any (pk + n0) (bt + bm) (ca + bytes) (md + mn) pt _).mono ?_
  rintro e wb ⟨rfl, hb9⟩
  have e9 := ed.kept hb9; have y9 := yd.kept hb9; have b9 := bd.trans (hb9.mono (Zl ed.lt))
  have hB9 : B ≤ wb.heap.size := Zl e9.lt
  clear ed yd bd hb9
  cases hk : mmay ⟨pk + n0, bt + bm, ca + bytes, md + mn, pt⟩ with
  | false =>
   have hx := HX.out
   rw [HXO.out (fun k => by rw [HF.out.2 k] at hk; exact absurd hk (by simp))] at hx
   subst hx
   clear HX HF HXO HXK HOK hk
   go_wp2_with (first | (refine ms_store rfl (.tmp 10) (.tmp 84) rfl rfl [.int .i64 0, .int .i64 0, .int .i64 0, .int .i64 0, .int .i64 0] rfl y9 rfl rfl rfl ?_))
   refine ms_end3 (by rfl) (by rfl) (by rfl) (by rfl) (ms_put y9 [.int .i64 0, .int .i64 0, .int .i64 0, .int .i64 0, .int .i64 0]) rfl rfl ?_
   exact ⟨rfl, b9.grown (ms_grown _ (B + 1) #[.int .i64 0, .int .i64 0, .int .i64 0, .int .i64 0, .int .i64 0]) hB9 (fun k hk => by cases hk; omega)⟩
  | true =>
   have hx := HX.out
   rw [HXK.out (HF.out.1 hk)] at hx
   subst hx
   clear HX HF HXO HXK HOK hk
   go_wp2_with (first | (refine ms_load rfl (.tmp 5) rfl rfl e9 rfl ?_) | (refine ms_store rfl (.tmp 10) (.tmp 85) rfl rfl [.int .i64 (pk + n0), .int .i64 (bt + bm), .int .i64 (ca + bytes), .int .i64 (md + mn), pt] rfl y9 rfl rfl rfl ?_))
   refine ms_end3 (by rfl) (by rfl) (by rfl) (by rfl) (ms_put y9 [.int .i64 (pk + n0), .int .i64 (bt + bm), .int .i64 (ca + bytes), .int .i64 (md + mn), pt]) rfl rfl ?_
   exact ⟨rfl, b9.grown (ms_grown _ (B + 1) #[.int .i64 (pk + n0), .int .i64 (bt + bm), .int .i64 (ca + bytes), .int .i64 (md + mn), pt]) hB9 (fun k hk => by cases hk; omega)⟩
theorem mkround_any (pk bt ca md pt : Int) (w : World) :
  Calls Tryz.prog 134 #[.agg #[pk, bt, ca, md, pt]] w fun e w' => TellN w w' e (roundR ⟨pk, bt, ca, md, pt⟩) := by
 unfold TellN
 obtain ⟨B, hB⟩ : ∃ B, w.heap.size = B := ⟨_, rfl⟩
 rw [hB]
 have e0 := (Bx.new w 29 [pk, bt, ca, md, pt]).alloc (.cells #[.int .i64 0, .int .i64 0, .int .i64 0, .int .i64 0, .int .i64 0] 29)
 have y0 := mtwo_new w (.cells #[pk, bt, ca, md, pt] 29) 29 [.int .i64 0, .int .i64 0, .int .i64 0, .int .i64 0, .int .i64 0]
 rw [hB] at e0 y0
 have b0 : Below B w ((w.alloc (.cells #[pk, bt, ca, md, pt] 29)).alloc (.cells #[.int .i64 0, .int .i64 0, .int .i64 0, .int .i64 0, .int .i64 0] 29)) := by rw [← hB]; exact mtwo_below _ _ _
 obtain ⟨x, hx⟩ : ∃ x, roundR ⟨pk, bt, ca, md, pt⟩ = x := ⟨_, rfl⟩
 rw [hx]
 have HX := Zh hx; clear hx
 go_enter Tryz.func134, Tryz.ntmps134
 go_wp2_with (refine ms_load rfl (.tmp 1) rfl rfl e0 rfl ?_)
 generalize (w.alloc (.cells #[pk, bt, ca, md, pt] 29)).alloc (.cells #[.int .i64 0, .int .i64 0, .int .i64 0, .int .i64 0, .int .i64 0] 29) = w1 at e0 y0 b0 ⊢
 refine (mkmay_any pk bt ca md pt _).mono ?_
 rintro e w2 ⟨rfl, hb2⟩
 have e2 := e0.kept hb2; have y2 := y0.kept hb2; have b2 := b0.trans (hb2.mono (Zl e0.lt))
 have hBs : B ≤ w2.heap.size := Zl e2.lt
 clear e0 y0 b0 hb2
 cases hk : mmay ⟨pk, bt, ca, md, pt⟩ with
 | false =>
  have hx := HX.out
  unfold roundR at hx
  rw [if_neg (by rw [hk]; simp)] at hx
  subst hx
  clear HX hk
  go_wp2_with (first | (refine ms_store rfl (.tmp 2) (.tmp 9) rfl rfl [.int .i64 0, .int .i64 0, .int .i64 0, .int .i64 0, .int .i64 0] rfl y2 rfl rfl rfl ?_))
  refine ms_end2 (by rfl) (by rfl) (by rfl) (ms_put y2 [.int .i64 0, .int .i64 0, .int .i64 0, .int .i64 0, .int .i64 0]) rfl rfl ?_
  exact ⟨rfl, b2.grown (ms_grown _ (B + 1) #[.int .i64 0, .int .i64 0, .int .i64 0, .int .i64 0, .int .i64 0]) hBs (fun k hk => by cases hk; omega)⟩
 | true =>
 have hv := (mmay_iff _).1 hk
 have hx := HX.out
 unfold roundR at hx
 rw [if_pos hk] at hx
 have hpb := part_bd hv
 have c0 : 0 ≤ ca := hv.c0
 have t0 : 0 ≤ pt := hv.t0; have t1 : pt ≤ 1024 := hv.t1
 have x0 := e2.cell 0 rfl; have x1 := e2.cell 1 rfl; have x2 := e2.cell 2 rfl; have x3 := e2.cell 3 rfl; have x4 := e2.cell 4 rfl
 by_cases hc : 0 < ca
 ·have dc : decide (0 < ca) = true := Zt hc
  have hmd := round_md hv hc
  have hqb := quo_bd hv hc
  dsimp only at hmd hqb
  obtain ⟨q, hq⟩ : ∃ q, 1024 * md / ca = q := ⟨_, rfl⟩
  have hpe : partR ⟨pk, bt, ca, md, pt⟩ = pt + (q - pt) / 16 := by unfold partR; rw [if_pos hc]; dsimp only; rw [hq]
  rw [hpe] at hx
  rw [hq] at hmd hqb
  obtain ⟨q0, q1⟩ := hqb
  have hew := round_ew t0 t1 q0 q1
  obtain ⟨r, hr⟩ : ∃ r, pt + (q - pt) / 16 = r := ⟨_, rfl⟩
  rw [hr] at hx hew
  subst hx
  have HMD := Zh hmd; have HEW := Zh hew; have HQ := Zh hq
  clear HX hk hv hmd hew hpe hr hpb hq
  go_wp2_with fail
  refine (md_any 1024 md ca _).mono ?_
  rintro e w3 ⟨rfl, hb3⟩
  rw [HQ.out, HMD.out]
  have e3 := e2.kept hb3; have y3 := y2.kept hb3; have b3 := b2.trans (hb3.mono (Zl e2.lt))
  clear x0 x1 x2 x3 x4 hb3
  have x4 := e3.cell 4 rfl
  go_wp2_with fail
  refine (ewma_any pt q 4 _).mono ?_
  rintro e w4 ⟨rfl, hb4⟩
  rw [HEW.out]
  have e4 := e3.kept hb4; have y4 := y3.kept hb4; have b4 := b3.trans (hb4.mono (Zl e3.lt))
  clear x4 hb4 e3 y3 b3
  have f4 := e4.free 4; have x4 := e4.cell 4 rfl
  have u0 := e4.set 4 (.int .i64 r); have v0 := Below.mown (i := 4) b4 (Zl e4.lt) Zr (.int .i64 r); have z0 := y4.far (p := ⟨B, 4, none⟩) (by simp) (.int .i64 r)
  simp only [List.set_cons_zero, List.set_cons_succ] at u0
  clear e4 y4 b4
  go_upto_region 6 with fail
  generalize w4.setCell ⟨B, 4, none⟩ (.int .i64 r) = w5 at u0 v0 z0 ⊢
  clear f4 x4
  have f2 := u0.free 2; have x2 := u0.cell 2 rfl
  have u1 := u0.set 2 (.int .i64 0); have u2 := u1.set 3 (.int .i64 0)
  simp only [List.set_cons_zero, List.set_cons_succ] at u1
  have f3 := u1.free 3; have x3 := u1.cell 3 rfl
  have v1 := Below.mown (i := 2) v0 (Zl u0.lt) Zr (.int .i64 0); have v2 := Below.mown (i := 3) v1 (Zl u1.lt) Zr (.int .i64 0)
  have z2 := (z0.far (p := ⟨B, 2, none⟩) (by simp) (.int .i64 0)).far (p := ⟨B, 3, none⟩) (by simp) (.int .i64 0)
  simp only [List.set_cons_zero, List.set_cons_succ] at u2
  clear u0 u1 v0 v1 z0 e2 y2 b2 hBs
  go_upto_region 7 with fail
  generalize (w5.setCell ⟨B, 2, none⟩ (.int .i64 0)).setCell ⟨B, 3, none⟩ (.int .i64 0) = w6 at u2 v2 z2 ⊢
  clear f2 x2 f3 x3
  go_wp2_with (first | (refine ms_load rfl (.tmp 1) rfl rfl u2 rfl ?_) | (refine ms_store rfl (.tmp 2) (.tmp 31) rfl rfl [pk, bt, .int .i64 0, .int .i64 0, r] rfl z2 rfl rfl rfl ?_))
  refine ms_end2 (by rfl) (by rfl) (by rfl) (ms_put z2 [pk, bt, .int .i64 0, .int .i64 0, r]) rfl rfl ?_
  exact ⟨rfl, v2.grown (ms_grown _ (B + 1) _) (Zl u2.lt) (fun k hk => by cases hk; omega)⟩
 ·have dc : decide (0 < ca) = false := Zf hc
  have hpe : partR ⟨pk, bt, ca, md, pt⟩ = pt := by unfold partR; rw [if_neg hc]
  rw [hpe] at hx
  subst hx
  clear HX hk hv hpe hpb
  have u0 := e2.set 2 (.int .i64 0)
  simp only [List.set_cons_zero, List.set_cons_succ] at u0
  have u1 := u0.set 3 (.int .i64 0)
  simp only [List.set_cons_zero, List.set_cons_succ] at u1
  have v0 := Below.mown (i := 2) b2 (Zl e2.lt) Zr (.int .i64 0); have v1 := Below.mown (i := 3) v0 (Zl u0.lt) Zr (.int .i64 0)
  have z1 := (y2.far (p := ⟨B, 2, none⟩) (by simp) (.int .i64 0)).far (p := ⟨B, 3, none⟩) (by simp) (.int .i64 0)
  go_upto_region 6 with fail
  clear x0 x1 x2 x3 x4
  have f2 := e2.free 2; have x2 := e2.cell 2 rfl; have f3 := u0.free 3; have x3 := u0.cell 3 rfl
  clear u0 v0 e2 y2 b2 hBs
  go_upto_region 7 with fail
  generalize (w2.setCell ⟨B, 2, none⟩ (.int .i64 0)).setCell ⟨B, 3, none⟩ (.int .i64 0) = w6 at u1 v1 z1 ⊢
  clear f2 x2 f3 x3
  go_wp2_with (first | (refine ms_load rfl (.tmp 1) rfl rfl u1 rfl ?_) | (refine ms_store rfl (.tmp 2) (.tmp 31) rfl rfl [pk, bt, .int .i64 0, .int .i64 0, pt] rfl z1 rfl rfl rfl ?_))
  refine ms_end2 (by rfl) (by rfl) (by rfl) (ms_put z1 [pk, bt, .int .i64 0, .int .i64 0, pt]) rfl rfl ?_
  exact ⟨rfl, v1.grown (ms_grown _ (B + 1) _) (Zl u1.lt) (fun k hk => by cases hk; omega)⟩
end Go.Proofs.YtbijhkhkigdddaaGreat
