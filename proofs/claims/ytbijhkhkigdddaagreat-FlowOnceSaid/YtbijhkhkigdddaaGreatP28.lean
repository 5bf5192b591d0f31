/- XmL3. -/
import Derived.Test.YtbijhkhkigdddaaGreatP27
set_option linter.all false
set_option maxRecDepth 100000
set_option maxHeartbeats 32000000
namespace Go.Proofs.YtbijhkhkigdddaaGreat
open Go.RowKit
def apR (g u v c t n mss most : Int) : Int × Int × Int := if xmB c t mss most = true ∧ 0 ≤ n ∧ n ≤ g then (cl2 u mss most, cl2 v mss most, 0) else (0, 0, 1)
theorem ap_ok {g u v c t n mss most : Int} (h : xmB c t mss most = true) (k : xinB n 0 g = true) : apR g u v c t n mss most = (cl2 u mss most, cl2 v mss most, 0) := if_pos ⟨h, (xin_iff _ _ _).1 k⟩
theorem ap_no {g u v c t n mss most : Int} (h : xmB c t mss most = false) : apR g u v c t n mss most = (0, 0, 1) := if_neg (fun q => by rw [h] at q; cases q.1)
theorem ap_far {g u v c t n mss most : Int} (k : xinB n 0 g = false) : apR g u v c t n mss most = (0, 0, 1) := if_neg (fun q => by rw [(xin_iff n 0 g).2 q.2] at k; cases k)
theorem apply0_any (c t n mss most : Int) (w : World) :
  Calls Tryz.prog 183 #[.int .i64 0, .agg #[c, t], n, mss, most] w fun e w' => TellX w w' e (apR 1099511627776 (slC c t n) t c t n mss most) := by
 unfold TellX
 obtain ⟨x, hx⟩ : ∃ x, apR 1099511627776 (slC c t n) t c t n mss most = x := ⟨_, rfl⟩
 rw [hx]
 have HX := Zh hx; clear hx
 obtain ⟨B, hB⟩ : ∃ B, w.heap.size = B := ⟨_, rfl⟩
 have e0 := (Bx.new w 36 [c, t]).alloc (.cells #[.int .i64 0, .int .i64 0] 36)
 have y0 := Bx.new (w.alloc (.cells #[c, t] 36)) 36 [.int .i64 0, .int .i64 0]
 rw [World.size_alloc] at y0
 rw [hB] at e0 y0 ⊢
 have b0 : Below B w ((w.alloc (.cells #[c, t] 36)).alloc (.cells #[.int .i64 0, .int .i64 0] 36)) := by rw [← hB]; exact ((Zb).alloc Zr _).alloc (by simp) _
 have hsz : ((w.alloc (.cells #[c, t] 36)).alloc (.cells #[.int .i64 0, .int .i64 0] 36)).heap.size = B + 2 := by simp [hB]
 have ix : ∀ w, (Instr.index 208 (.agg #[.int .i64 1099511627776, (.func (.func 225) #[] #[]), mss, (.func (.func 226) #[] #[]), .int .i64 1024, (.func (.func 227) #[] #[]), .int .i64 0, (.func (.func 228) #[] #[.pointer (some ⟨B + 2, 0, none⟩)]), .int .i64 0, (.func (.func 229) #[] #[.pointer (some ⟨B + 2, 0, none⟩)])]) (.int .i64 0)).run Tryz.prog w = .ok (.agg #[.int .i64 1099511627776, (.func (.func 225) #[] #[])]) w := fun _ => by kernel_rfl
 have hen := ent_xop0
 go_enter Tryz.func183, Tryz.ntmps183
 go_upto_region 1 with fail
 generalize (w.alloc (.cells #[c, t] 36)).alloc (.cells #[.int .i64 0, .int .i64 0] 36) = w1 at e0 y0 b0 hsz ⊢
 clear hB
 go_upto_region 2 with (first | (go_at_call 209; refine (xops_any mss (B + 2) _ hsz).mono ?_; rintro e w2 ⟨rfl, f2, hb2⟩; have e2 := e0.below hb2 (by omega); have y2 := y0.below hb2 (by omega); have b2 := b0.trans (hb2.mono (by omega))) | (refine xo_store rfl (.tmp 12) (.tmp 16) rfl rfl [.int .i64 1099511627776, (.func (.func 225) #[] #[])] rfl (Bx.new w2 207 [.int .i64 0, .nilFunc]) rfl rfl rfl ?_))
 have hP : B + 2 < w2.heap.size := f2.lt
 have o3 := xo_put (Bx.new w2 207 [.int .i64 0, .nilFunc]) [.int .i64 1099511627776, (.func (.func 225) #[] #[])]
 have e3 := (e2.alloc (.cells #[.int .i64 0, .nilFunc] 207)).grown (xo_grown _ w2.heap.size #[.int .i64 1099511627776, (.func (.func 225) #[] #[])]) (fun e => by have := Zo e; omega)
 have y3 := (y2.alloc (.cells #[.int .i64 0, .nilFunc] 207)).grown (xo_grown _ w2.heap.size #[.int .i64 1099511627776, (.func (.func 225) #[] #[])]) (fun e => by have := Zo e; omega)
 have f3 := (f2.alloc (.cells #[.int .i64 0, .nilFunc] 207)).grown (xo_grown _ w2.heap.size #[.int .i64 1099511627776, (.func (.func 225) #[] #[])]) (fun e => by have := Zo e; omega)
 have b3 := (b2.alloc (by omega) (.cells #[.int .i64 0, .nilFunc] 207)).grown (xo_grown _ w2.heap.size #[.int .i64 1099511627776, (.func (.func 225) #[] #[])]) (by simp; omega) (fun k hk => by cases hk; omega)
 change Code.wp _ _ _ _ ((w2.alloc (.cells #[.int .i64 0, .nilFunc] 207)).setRow w2.heap.size #[.int .i64 1099511627776, (.func (.func 225) #[] #[])])
 obtain ⟨P, hPP⟩ : ∃ P, w2.heap.size = P := ⟨_, rfl⟩
 rw [hPP] at o3 e3 y3 f3 b3 ⊢
 generalize ((w2.alloc (.cells #[.int .i64 0, .nilFunc] 207)).setRow P #[.int .i64 1099511627776, (.func (.func 225) #[] #[])]) = w3 at o3 e3 y3 f3 b3 ⊢
 clear hPP hP hb2 e2 y2 b2 f2 e0 y0 b0 hsz
 have hB3 := Zl e3.lt
 have hm := xwmay_any c t mss most w3
 have hw := fun w => xwin_any n 0 1099511627776 w
 cases h1 : xmB c t mss most with
 | false =>
  have hx := HX.out
  rw [ap_no h1] at hx
  subst hx
  rw [h1] at hm
  clear HX h1
  go_wp2_with (first | (refine xw_load rfl (.tmp 6) rfl rfl e3 rfl ?_) | (go_at_call 46; refine hm.mono ?_; rintro e w4 ⟨rfl, hb4⟩; have e4 := e3.kept hb4; have y4 := y3.kept hb4; have f4 := f3.kept hb4; have o4 := o3.kept hb4; have b4 := b3.trans (hb4.mono hB3); have hB4 := Zl e4.lt; have o40 := o4.cell 0 rfl; have o41 := o4.cell 1 rfl) | (refine xw_store rfl (.tmp 10) (.tmp 29) rfl rfl [.int .i64 0, .int .i64 0] rfl y4 rfl rfl rfl ?_))
  refine xw_end2 (by rfl) (by rfl) (by rfl) (xw_put y4 [.int .i64 0, .int .i64 0]) rfl rfl ?_
  exact ⟨rfl, b4.grown (xw_grown _ (B + 1) #[.int .i64 0, .int .i64 0]) hB4 (fun k hk => by cases hk; omega)⟩
 | true =>
 have hv := (xmB_iff c t mss most).1 h1
 rw [h1] at hm
 cases h2 : xinB n 0 1099511627776 with
 | false =>
  have hx := HX.out
  rw [ap_far h2] at hx
  subst hx
  rw [h2] at hw
  clear HX h1 h2 hv
  go_wp2_with (first | (refine xw_load rfl (.tmp 6) rfl rfl e3 rfl ?_) | (go_at_call 46; refine hm.mono ?_; rintro e w4 ⟨rfl, hb4⟩; have e4 := e3.kept hb4; have y4 := y3.kept hb4; have f4 := f3.kept hb4; have o4 := o3.kept hb4; have b4 := b3.trans (hb4.mono hB3); have hB4 := Zl e4.lt; have o40 := o4.cell 0 rfl; have o41 := o4.cell 1 rfl) | (go_at_call 106; refine (hw _).mono ?_; rintro e wx ⟨rfl, rfl⟩) | (refine xw_store rfl (.tmp 10) (.tmp 29) rfl rfl [.int .i64 0, .int .i64 0] rfl y4 rfl rfl rfl ?_))
  refine xw_end2 (by rfl) (by rfl) (by rfl) (xw_put y4 [.int .i64 0, .int .i64 0]) rfl rfl ?_
  exact ⟨rfl, b4.grown (xw_grown _ (B + 1) #[.int .i64 0, .int .i64 0]) hB4 (fun k hk => by cases hk; omega)⟩
 | true =>
 have hx := HX.out
 rw [ap_ok h1 h2] at hx
 have h3 := (xin_iff n 0 1099511627776).1 h2
 have hc := fun w (h : Bx w (B + 2) 3 [mss]) => slowed_any c t n w ⟨by omega, by omega⟩ ⟨by omega, by omega⟩
 rw [h2] at hw
 clear HX h1 h2 hv h3
 obtain ⟨u, hu⟩ : ∃ u, (slC c t n) = u := ⟨_, rfl⟩
 rw [hu] at hx hc
 clear hu
 go_upto_region 5 with (first | (refine xw_load rfl (.tmp 6) rfl rfl e3 rfl ?_) | (go_at_call 46; refine hm.mono ?_; rintro e w4 ⟨rfl, hb4⟩; have e4 := e3.kept hb4; have y4 := y3.kept hb4; have f4 := f3.kept hb4; have o4 := o3.kept hb4; have b4 := b3.trans (hb4.mono hB3); have hB4 := Zl e4.lt; have o40 := o4.cell 0 rfl; have o41 := o4.cell 1 rfl) | (go_at_call 106; refine (hw _).mono ?_; rintro e wx ⟨rfl, rfl⟩) | (refine xw_load rfl (.tmp 6) rfl rfl e4 rfl ?_) | (go_at_call 225; refine (hc _ f4).mono ?_; rintro e w5 ⟨rfl, hb5⟩; have e5 := e4.kept hb5; have y5 := y4.kept hb5; have b5 := b4.trans (hb5.mono hB4)) | (refine xw_store rfl (.tmp 6) (.tmp 34) rfl rfl [u, t] rfl e5 rfl rfl rfl ?_))
 have e6 := xw_put e5 [u, t]
 have y6 := y5.grown (xw_grown w5 B #[u, t]) (fun e => by cases e)
 have b6 := b5.grown (xw_grown w5 B #[u, t]) (Zl e5.lt) (fun k hk => by cases hk; exact Nat.le_refl B)
 change Code.wp _ _ _ _ (w5.setRow B #[u, t])
 generalize w5.setRow B #[u, t] = w6 at e6 y6 b6 ⊢
 have hB6 := Zl e6.lt
 clear o40 o41 o4 o3
 refine tB 10 13 (fun (W : World) => W.cell? ⟨B, 0, none⟩ = some (.int .i64 u) ∧ W.cell? ⟨B, 1, none⟩ = some (.int .i64 t) ∧ Bx W (B + 1) 36 [.int .i64 0, .int .i64 0] ∧ Below B w W) ⟨e6.drew.cell 0 rfl, e6.drew.cell 1 rfl, y6.drew, b6.drew⟩ (fun HS => ?_)
 refine tU 0 HS ?_
 refine tU 1 HS ?_
 refine tU 2 HS ?_
 refine tU 3 HS ?_
 refine tU 5 HS ?_
 refine tU 6 HS ?_
 refine tU 7 HS ?_
 refine tU 8 HS ?_
 refine tO 4 (fun K hK => ?_)
 go_simp
 refine (clx_any u mss most _).mono ?_
 rintro e wx ⟨rfl, rfl⟩
 refine kK hK HS (fun HS => ?_)
 clear hK K
 refine tO 9 (fun K hK => ?_)
 go_simp
 refine (clx_any t mss most _).mono ?_
 rintro e wx ⟨rfl, rfl⟩
 refine kK hK HS (fun HS => ?_)
 clear hK K
 refine ⟨by kernel_rfl, ?_⟩
 simp only [List.drop_succ_cons, List.drop_zero]
 obtain ⟨hs0, hs1, hs2, hs3⟩ := HS
 obtain ⟨z1, hz1⟩ : ∃ z, cl2 u mss most = z := ⟨_, rfl⟩
 obtain ⟨z2, hz2⟩ : ∃ z, cl2 t mss most = z := ⟨_, rfl⟩
 rw [hz1, hz2] at hx
 subst hx
 rw [hz1, hz2]
 go_wp2_with (refine xw_store rfl (.tmp 10) (.tmp 45) rfl rfl [z1, z2] rfl hs2 rfl rfl rfl ?_)
 refine xw_end2 (by rfl) (by rfl) (by rfl) (xw_put hs2 [z1, z2]) rfl rfl ?_
 exact ⟨rfl, hs3.grown (xw_grown _ (B + 1) #[z1, z2]) (Zl (Nat.lt_of_le_of_lt (Nat.le_succ B) hs2.lt)) (fun k hk => by cases hk; omega)⟩
theorem apply1_any (c t n mss most : Int) (w : World) :
  Calls Tryz.prog 183 #[.int .i64 1, .agg #[c, t], n, mss, most] w fun e w' => TellX w w' e (apR mss (grC c t n) t c t n mss most) := by
 unfold TellX
 obtain ⟨x, hx⟩ : ∃ x, apR mss (grC c t n) t c t n mss most = x := ⟨_, rfl⟩
 rw [hx]
 have HX := Zh hx; clear hx
 obtain ⟨B, hB⟩ : ∃ B, w.heap.size = B := ⟨_, rfl⟩
 have e0 := (Bx.new w 36 [c, t]).alloc (.cells #[.int .i64 0, .int .i64 0] 36)
 have y0 := Bx.new (w.alloc (.cells #[c, t] 36)) 36 [.int .i64 0, .int .i64 0]
 rw [World.size_alloc] at y0
 rw [hB] at e0 y0 ⊢
 have b0 : Below B w ((w.alloc (.cells #[c, t] 36)).alloc (.cells #[.int .i64 0, .int .i64 0] 36)) := by rw [← hB]; exact ((Zb).alloc Zr _).alloc (by simp) _
 have hsz : ((w.alloc (.cells #[c, t] 36)).alloc (.cells #[.int .i64 0, .int .i64 0] 36)).heap.size = B + 2 := by simp [hB]
 have ix : ∀ w, (Instr.index 208 (.agg #[.int .i64 1099511627776, (.func (.func 225) #[] #[]), mss, (.func (.func 226) #[] #[]), .int .i64 1024, (.func (.func 227) #[] #[]), .int .i64 0, (.func (.func 228) #[] #[.pointer (some ⟨B + 2, 0, none⟩)]), .int .i64 0, (.func (.func 229) #[] #[.pointer (some ⟨B + 2, 0, none⟩)])]) (.int .i64 1)).run Tryz.prog w = .ok (.agg #[mss, (.func (.func 226) #[] #[])]) w := fun _ => by kernel_rfl
 have hen := ent_xop1
 go_enter Tryz.func183, Tryz.ntmps183
 go_upto_region 1 with fail
 generalize (w.alloc (.cells #[c, t] 36)).alloc (.cells #[.int .i64 0, .int .i64 0] 36) = w1 at e0 y0 b0 hsz ⊢
 clear hB
 go_upto_region 2 with (first | (go_at_call 209; refine (xops_any mss (B + 2) _ hsz).mono ?_; rintro e w2 ⟨rfl, f2, hb2⟩; have e2 := e0.below hb2 (by omega); have y2 := y0.below hb2 (by omega); have b2 := b0.trans (hb2.mono (by omega))) | (refine xo_store rfl (.tmp 12) (.tmp 16) rfl rfl [mss, (.func (.func 226) #[] #[])] rfl (Bx.new w2 207 [.int .i64 0, .nilFunc]) rfl rfl rfl ?_))
 have hP : B + 2 < w2.heap.size := f2.lt
 have o3 := xo_put (Bx.new w2 207 [.int .i64 0, .nilFunc]) [mss, (.func (.func 226) #[] #[])]
 have e3 := (e2.alloc (.cells #[.int .i64 0, .nilFunc] 207)).grown (xo_grown _ w2.heap.size #[mss, (.func (.func 226) #[] #[])]) (fun e => by have := Zo e; omega)
 have y3 := (y2.alloc (.cells #[.int .i64 0, .nilFunc] 207)).grown (xo_grown _ w2.heap.size #[mss, (.func (.func 226) #[] #[])]) (fun e => by have := Zo e; omega)
 have f3 := (f2.alloc (.cells #[.int .i64 0, .nilFunc] 207)).grown (xo_grown _ w2.heap.size #[mss, (.func (.func 226) #[] #[])]) (fun e => by have := Zo e; omega)
 have b3 := (b2.alloc (by omega) (.cells #[.int .i64 0, .nilFunc] 207)).grown (xo_grown _ w2.heap.size #[mss, (.func (.func 226) #[] #[])]) (by simp; omega) (fun k hk => by cases hk; omega)
 change Code.wp _ _ _ _ ((w2.alloc (.cells #[.int .i64 0, .nilFunc] 207)).setRow w2.heap.size #[mss, (.func (.func 226) #[] #[])])
 obtain ⟨P, hPP⟩ : ∃ P, w2.heap.size = P := ⟨_, rfl⟩
 rw [hPP] at o3 e3 y3 f3 b3 ⊢
 generalize ((w2.alloc (.cells #[.int .i64 0, .nilFunc] 207)).setRow P #[mss, (.func (.func 226) #[] #[])]) = w3 at o3 e3 y3 f3 b3 ⊢
 clear hPP hP hb2 e2 y2 b2 f2 e0 y0 b0 hsz
 have hB3 := Zl e3.lt
 have hm := xwmay_any c t mss most w3
 have hw := fun w => xwin_any n 0 mss w
 cases h1 : xmB c t mss most with
 | false =>
  have hx := HX.out
  rw [ap_no h1] at hx
  subst hx
  rw [h1] at hm
  clear HX h1
  go_wp2_with (first | (refine xw_load rfl (.tmp 6) rfl rfl e3 rfl ?_) | (go_at_call 46; refine hm.mono ?_; rintro e w4 ⟨rfl, hb4⟩; have e4 := e3.kept hb4; have y4 := y3.kept hb4; have f4 := f3.kept hb4; have o4 := o3.kept hb4; have b4 := b3.trans (hb4.mono hB3); have hB4 := Zl e4.lt; have o40 := o4.cell 0 rfl; have o41 := o4.cell 1 rfl) | (refine xw_store rfl (.tmp 10) (.tmp 29) rfl rfl [.int .i64 0, .int .i64 0] rfl y4 rfl rfl rfl ?_))
  refine xw_end2 (by rfl) (by rfl) (by rfl) (xw_put y4 [.int .i64 0, .int .i64 0]) rfl rfl ?_
  exact ⟨rfl, b4.grown (xw_grown _ (B + 1) #[.int .i64 0, .int .i64 0]) hB4 (fun k hk => by cases hk; omega)⟩
 | true =>
 have hv := (xmB_iff c t mss most).1 h1
 rw [h1] at hm
 cases h2 : xinB n 0 mss with
 | false =>
  have hx := HX.out
  rw [ap_far h2] at hx
  subst hx
  rw [h2] at hw
  clear HX h1 h2 hv
  go_wp2_with (first | (refine xw_load rfl (.tmp 6) rfl rfl e3 rfl ?_) | (go_at_call 46; refine hm.mono ?_; rintro e w4 ⟨rfl, hb4⟩; have e4 := e3.kept hb4; have y4 := y3.kept hb4; have f4 := f3.kept hb4; have o4 := o3.kept hb4; have b4 := b3.trans (hb4.mono hB3); have hB4 := Zl e4.lt; have o40 := o4.cell 0 rfl; have o41 := o4.cell 1 rfl) | (go_at_call 106; refine (hw _).mono ?_; rintro e wx ⟨rfl, rfl⟩) | (refine xw_store rfl (.tmp 10) (.tmp 29) rfl rfl [.int .i64 0, .int .i64 0] rfl y4 rfl rfl rfl ?_))
  refine xw_end2 (by rfl) (by rfl) (by rfl) (xw_put y4 [.int .i64 0, .int .i64 0]) rfl rfl ?_
  exact ⟨rfl, b4.grown (xw_grown _ (B + 1) #[.int .i64 0, .int .i64 0]) hB4 (fun k hk => by cases hk; omega)⟩
 | true =>
 have hx := HX.out
 rw [ap_ok h1 h2] at hx
 have h3 := (xin_iff n 0 mss).1 h2
 have hc := fun w (h : Bx w (B + 2) 3 [mss]) => grown_any c t n w ⟨by omega, by omega⟩ ⟨by omega, by omega⟩
 rw [h2] at hw
 clear HX h1 h2 hv h3
 obtain ⟨u, hu⟩ : ∃ u, (grC c t n) = u := ⟨_, rfl⟩
 rw [hu] at hx hc
 clear hu
 go_upto_region 5 with (first | (refine xw_load rfl (.tmp 6) rfl rfl e3 rfl ?_) | (go_at_call 46; refine hm.mono ?_; rintro e w4 ⟨rfl, hb4⟩; have e4 := e3.kept hb4; have y4 := y3.kept hb4; have f4 := f3.kept hb4; have o4 := o3.kept hb4; have b4 := b3.trans (hb4.mono hB3); have hB4 := Zl e4.lt; have o40 := o4.cell 0 rfl; have o41 := o4.cell 1 rfl) | (go_at_call 106; refine (hw _).mono ?_; rintro e wx ⟨rfl, rfl⟩) | (refine xw_load rfl (.tmp 6) rfl rfl e4 rfl ?_) | (go_at_call 226; refine (hc _ f4).mono ?_; rintro e w5 ⟨rfl, hb5⟩; have e5 := e4.kept hb5; have y5 := y4.kept hb5; have b5 := b4.trans (hb5.mono hB4)) | (refine xw_store rfl (.tmp 6) (.tmp 34) rfl rfl [u, t] rfl e5 rfl rfl rfl ?_))
 have e6 := xw_put e5 [u, t]
 have y6 := y5.grown (xw_grown w5 B #[u, t]) (fun e => by cases e)
 have b6 := b5.grown (xw_grown w5 B #[u, t]) (Zl e5.lt) (fun k hk => by cases hk; exact Nat.le_refl B)
 change Code.wp _ _ _ _ (w5.setRow B #[u, t])
 generalize w5.setRow B #[u, t] = w6 at e6 y6 b6 ⊢
 have hB6 := Zl e6.lt
 clear o40 o41 o4 o3
 refine tB 10 13 (fun (W : World) => W.cell? ⟨B, 0, none⟩ = some (.int .i64 u) ∧ W.cell? ⟨B, 1, none⟩ = some (.int .i64 t) ∧ Bx W (B + 1) 36 [.int .i64 0, .int .i64 0] ∧ Below B w W) ⟨e6.drew.cell 0 rfl, e6.drew.cell 1 rfl, y6.drew, b6.drew⟩ (fun HS => ?_)
 refine tU 0 HS ?_
 refine tU 1 HS ?_
 refine tU 2 HS ?_
 refine tU 3 HS ?_
 refine tU 5 HS ?_
 refine tU 6 HS ?_
 refine tU 7 HS ?_
 refine tU 8 HS ?_
 refine tO 4 (fun K hK => ?_)
 go_simp
 refine (clx_any u mss most _).mono ?_
 rintro e wx ⟨rfl, rfl⟩
 refine kK hK HS (fun HS => ?_)
 clear hK K
 refine tO 9 (fun K hK => ?_)
 go_simp
 refine (clx_any t mss most _).mono ?_
 rintro e wx ⟨rfl, rfl⟩
 refine kK hK HS (fun HS => ?_)
 clear hK K
 refine ⟨by kernel_rfl, ?_⟩
 simp only [List.drop_succ_cons, List.drop_zero]
 obtain ⟨hs0, hs1, hs2, hs3⟩ := HS
 obtain ⟨z1, hz1⟩ : ∃ z, cl2 u mss most = z := ⟨_, rfl⟩
 obtain ⟨z2, hz2⟩ : ∃ z, cl2 t mss most = z := ⟨_, rfl⟩
 rw [hz1, hz2] at hx
 subst hx
 rw [hz1, hz2]
 go_wp2_with (refine xw_store rfl (.tmp 10) (.tmp 45) rfl rfl [z1, z2] rfl hs2 rfl rfl rfl ?_)
 refine xw_end2 (by rfl) (by rfl) (by rfl) (xw_put hs2 [z1, z2]) rfl rfl ?_
 exact ⟨rfl, hs3.grown (xw_grown _ (B + 1) #[z1, z2]) (Zl (Nat.lt_of_le_of_lt (Nat.le_succ B) hs2.lt)) (fun k hk => by cases hk; omega)⟩
theorem apply2_any (c t n mss most : Int) (w : World) :
  Calls Tryz.prog 183 #[.int .i64 2, .agg #[c, t], n, mss, most] w fun e w' => TellX w w' e (apR 1024 (rdC c n) (rdC c n) c t n mss most) := by
 unfold TellX
 obtain ⟨x, hx⟩ : ∃ x, apR 1024 (rdC c n) (rdC c n) c t n mss most = x := ⟨_, rfl⟩
 rw [hx]
 have HX := Zh hx; clear hx
 obtain ⟨B, hB⟩ : ∃ B, w.heap.size = B := ⟨_, rfl⟩
 have e0 := (Bx.new w 36 [c, t]).alloc (.cells #[.int .i64 0, .int .i64 0] 36)
 have y0 := Bx.new (w.alloc (.cells #[c, t] 36)) 36 [.int .i64 0, .int .i64 0]
 rw [World.size_alloc] at y0
 rw [hB] at e0 y0 ⊢
 have b0 : Below B w ((w.alloc (.cells #[c, t] 36)).alloc (.cells #[.int .i64 0, .int .i64 0] 36)) := by rw [← hB]; exact ((Zb).alloc Zr _).alloc (by simp) _
 have hsz : ((w.alloc (.cells #[c, t] 36)).alloc (.cells #[.int .i64 0, .int .i64 0] 36)).heap.size = B + 2 := by simp [hB]
 have ix : ∀ w, (Instr.index 208 (.agg #[.int .i64 1099511627776, (.func (.func 225) #[] #[]), mss, (.func (.func 226) #[] #[]), .int .i64 1024, (.func (.func 227) #[] #[]), .int .i64 0, (.func (.func 228) #[] #[.pointer (some ⟨B + 2, 0, none⟩)]), .int .i64 0, (.func (.func 229) #[] #[.pointer (some ⟨B + 2, 0, none⟩)])]) (.int .i64 2)).run Tryz.prog w = .ok (.agg #[.int .i64 1024, (.func (.func 227) #[] #[])]) w := fun _ => by kernel_rfl
 have hen := ent_xop2
 go_enter Tryz.func183, Tryz.ntmps183
 go_upto_region 1 with fail
 generalize (w.alloc (.cells #[c, t] 36)).alloc (.cells #[.int .i64 0, .int .i64 0] 36) = w1 at e0 y0 b0 hsz ⊢
 clear hB
 go_upto_region 2 with (first | (go_at_call 209; refine (xops_any mss (B + 2) _ hsz).mono ?_; rintro e w2 ⟨rfl, f2, hb2⟩; have e2 := e0.below hb2 (by omega); have y2 := y0.below hb2 (by omega); have b2 := b0.trans (hb2.mono (by omega))) | (refine xo_store rfl (.tmp 12) (.tmp 16) rfl rfl [.int .i64 1024, (.func (.func 227) #[] #[])] rfl (Bx.new w2 207 [.int .i64 0, .nilFunc]) rfl rfl rfl ?_))
 have hP : B + 2 < w2.heap.size := f2.lt
 have o3 := xo_put (Bx.new w2 207 [.int .i64 0, .nilFunc]) [.int .i64 1024, (.func (.func 227) #[] #[])]
 have e3 := (e2.alloc (.cells #[.int .i64 0, .nilFunc] 207)).grown (xo_grown _ w2.heap.size #[.int .i64 1024, (.func (.func 227) #[] #[])]) (fun e => by have := Zo e; omega)
 have y3 := (y2.alloc (.cells #[.int .i64 0, .nilFunc] 207)).grown (xo_grown _ w2.heap.size #[.int .i64 1024, (.func (.func 227) #[] #[])]) (fun e => by have := Zo e; omega)
 have f3 := (f2.alloc (.cells #[.int .i64 0, .nilFunc] 207)).grown (xo_grown _ w2.heap.size #[.int .i64 1024, (.func (.func 227) #[] #[])]) (fun e => by have := Zo e; omega)
 have b3 := (b2.alloc (by omega) (.cells #[.int .i64 0, .nilFunc] 207)).grown (xo_grown _ w2.heap.size #[.int .i64 1024, (.func (.func 227) #[] #[])]) (by simp; omega) (fun k hk => by cases hk; omega)
 change Code.wp _ _ _ _ ((w2.alloc (.cells #[.int .i64 0, .nilFunc] 207)).setRow w2.heap.size #[.int .i64 1024, (.func (.func 227) #[] #[])])
 obtain ⟨P, hPP⟩ : ∃ P, w2.heap.size = P := ⟨_, rfl⟩
 rw [hPP] at o3 e3 y3 f3 b3 ⊢
 generalize ((w2.alloc (.cells #[.int .i64 0, .nilFunc] 207)).setRow P #[.int .i64 1024, (.func (.func 227) #[] #[])]) = w3 at o3 e3 y3 f3 b3 ⊢
 clear hPP hP hb2 e2 y2 b2 f2 e0 y0 b0 hsz
 have hB3 := Zl e3.lt
 have hm := xwmay_any c t mss most w3
 have hw := fun w => xwin_any n 0 1024 w
 cases h1 : xmB c t mss most with
 | false =>
  have hx := HX.out
  rw [ap_no h1] at hx
  subst hx
  rw [h1] at hm
  clear HX h1
  go_wp2_with (first | (refine xw_load rfl (.tmp 6) rfl rfl e3 rfl ?_) | (go_at_call 46; refine hm.mono ?_; rintro e w4 ⟨rfl, hb4⟩; have e4 := e3.kept hb4; have y4 := y3.kept hb4; have f4 := f3.kept hb4; have o4 := o3.kept hb4; have b4 := b3.trans (hb4.mono hB3); have hB4 := Zl e4.lt; have o40 := o4.cell 0 rfl; have o41 := o4.cell 1 rfl) | (refine xw_store rfl (.tmp 10) (.tmp 29) rfl rfl [.int .i64 0, .int .i64 0] rfl y4 rfl rfl rfl ?_))
  refine xw_end2 (by rfl) (by rfl) (by rfl) (xw_put y4 [.int .i64 0, .int .i64 0]) rfl rfl ?_
  exact ⟨rfl, b4.grown (xw_grown _ (B + 1) #[.int .i64 0, .int .i64 0]) hB4 (fun k hk => by cases hk; omega)⟩
 | true =>
 have hv := (xmB_iff c t mss most).1 h1
 rw [h1] at hm
 cases h2 : xinB n 0 1024 with
 | false =>
  have hx := HX.out
  rw [ap_far h2] at hx
  subst hx
  rw [h2] at hw
  clear HX h1 h2 hv
  go_wp2_with (first | (refine xw_load rfl (.tmp 6) rfl rfl e3 rfl ?_) | (go_at_call 46; refine hm.mono ?_; rintro e w4 ⟨rfl, hb4⟩; have e4 := e3.kept hb4; have y4 := y3.kept hb4; have f4 := f3.kept hb4; have o4 := o3.kept hb4; have b4 := b3.trans (hb4.mono hB3); have hB4 := Zl e4.lt; have o40 := o4.cell 0 rfl; have o41 := o4.cell 1 rfl) | (go_at_call 106; refine (hw _).mono ?_; rintro e wx ⟨rfl, rfl⟩) | (refine xw_store rfl (.tmp 10) (.tmp 29) rfl rfl [.int .i64 0, .int .i64 0] rfl y4 rfl rfl rfl ?_))
  refine xw_end2 (by rfl) (by rfl) (by rfl) (xw_put y4 [.int .i64 0, .int .i64 0]) rfl rfl ?_
  exact ⟨rfl, b4.grown (xw_grown _ (B + 1) #[.int .i64 0, .int .i64 0]) hB4 (fun k hk => by cases hk; omega)⟩
 | true =>
 have hx := HX.out
 rw [ap_ok h1 h2] at hx
 have h3 := (xin_iff n 0 1024).1 h2
 have hc := fun w (h : Bx w (B + 2) 3 [mss]) => reduced_any c t n w ⟨by omega, by omega⟩ ⟨by omega, by omega⟩
 rw [h2] at hw
 clear HX h1 h2 hv h3
 obtain ⟨u, hu⟩ : ∃ u, (rdC c n) = u := ⟨_, rfl⟩
 rw [hu] at hx hc
 clear hu
 go_upto_region 5 with (first | (refine xw_load rfl (.tmp 6) rfl rfl e3 rfl ?_) | (go_at_call 46; refine hm.mono ?_; rintro e w4 ⟨rfl, hb4⟩; have e4 := e3.kept hb4; have y4 := y3.kept hb4; have f4 := f3.kept hb4; have o4 := o3.kept hb4; have b4 := b3.trans (hb4.mono hB3); have hB4 := Zl e4.lt; have o40 := o4.cell 0 rfl; have o41 := o4.cell 1 rfl) | (go_at_call 106; refine (hw _).mono ?_; rintro e wx ⟨rfl, rfl⟩) | (refine xw_load rfl (.tmp 6) rfl rfl e4 rfl ?_) | (go_at_call 227; refine (hc _ f4).mono ?_; rintro e w5 ⟨rfl, hb5⟩; have e5 := e4.kept hb5; have y5 := y4.kept hb5; have b5 := b4.trans (hb5.mono hB4)) | (refine xw_store rfl (.tmp 6) (.tmp 34) rfl rfl [u, u] rfl e5 rfl rfl rfl ?_))
 have e6 := xw_put e5 [u, u]
 have y6 := y5.grown (xw_grown w5 B #[u, u]) (fun e => by cases e)
 have b6 := b5.grown (xw_grown w5 B #[u, u]) (Zl e5.lt) (fun k hk => by cases hk; exact Nat.le_refl B)
 change Code.wp _ _ _ _ (w5.setRow B #[u, u])
 generalize w5.setRow B #[u, u] = w6 at e6 y6 b6 ⊢
 have hB6 := Zl e6.lt
 clear o40 o41 o4 o3
 refine tB 10 13 (fun (W : World) => W.cell? ⟨B, 0, none⟩ = some (.int .i64 u) ∧ W.cell? ⟨B, 1, none⟩ = some (.int .i64 u) ∧ Bx W (B + 1) 36 [.int .i64 0, .int .i64 0] ∧ Below B w W) ⟨e6.drew.cell 0 rfl, e6.drew.cell 1 rfl, y6.drew, b6.drew⟩ (fun HS => ?_)
 refine tU 0 HS ?_
 refine tU 1 HS ?_
 refine tU 2 HS ?_
 refine tU 3 HS ?_
 refine tU 5 HS ?_
 refine tU 6 HS ?_
 refine tU 7 HS ?_
 refine tU 8 HS ?_
 refine tO 4 (fun K hK => ?_)
 go_simp
 refine (clx_any u mss most _).mono ?_
 rintro e wx ⟨rfl, rfl⟩
 refine kK hK HS (fun HS => ?_)
 clear hK K
 refine tO 9 (fun K hK => ?_)
 go_simp
 refine (clx_any u mss most _).mono ?_
 rintro e wx ⟨rfl, rfl⟩
 refine kK hK HS (fun HS => ?_)
 clear hK K
 refine ⟨by kernel_rfl, ?_⟩
 simp only [List.drop_succ_cons, List.drop_zero]
 obtain ⟨hs0, hs1, hs2, hs3⟩ := HS
 obtain ⟨z1, hz1⟩ : ∃ z, cl2 u mss most = z := ⟨_, rfl⟩
 rw [hz1] at hx
 subst hx
 rw [hz1]
 go_wp2_with (refine xw_store rfl (.tmp 10) (.tmp 45) rfl rfl [z1, z1] rfl hs2 rfl rfl rfl ?_)
 refine xw_end2 (by rfl) (by rfl) (by rfl) (xw_put hs2 [z1, z1]) rfl rfl ?_
 exact ⟨rfl, hs3.grown (xw_grown _ (B + 1) #[z1, z1]) (Zl (Nat.lt_of_le_of_lt (Nat.le_succ B) hs2.lt)) (fun k hk => by cases hk; omega)⟩
theorem apply3_any (c t n mss most : Int) (w : World) :
  Calls Tryz.prog 183 #[.int .i64 3, .agg #[c, t], n, mss, most] w fun e w' => TellX w w' e (apR 0 (loC c mss) (loC c mss) c t n mss most) := by
 unfold TellX
 obtain ⟨x, hx⟩ : ∃ x, apR 0 (loC c mss) (loC c mss) c t n mss most = x := ⟨_, rfl⟩
 rw [hx]
 have HX := Zh hx; clear hx
 obtain ⟨B, hB⟩ : ∃ B, w.heap.size = B := ⟨_, rfl⟩
 have e0 := (Bx.new w 36 [c, t]).alloc (.cells #[.int .i64 0, .int .i64 0] 36)
 have y0 := Bx.new (w.alloc (.cells #[c, t] 36)) 36 [.int .i64 0, .int .i64 0]
 rw [World.size_alloc] at y0
 rw [hB] at e0 y0 ⊢
 have b0 : Below B w ((w.alloc (.cells #[c, t] 36)).alloc (.cells #[.int .i64 0, .int .i64 0] 36)) := by rw [← hB]; exact ((Zb).alloc Zr _).alloc (by simp) _
 have hsz : ((w.alloc (.cells #[c, t] 36)).alloc (.cells #[.int .i64 0, .int .i64 0] 36)).heap.size = B + 2 := by simp [hB]
 have ix : ∀ w, (Instr.index 208 (.agg #[.int .i64 1099511627776, (.func (.func 225) #[] #[]), mss, (.func (.func 226) #[] #[]), .int .i64 1024, (.func (.func 227) #[] #[]), .int .i64 0, (.func (.func 228) #[] #[.pointer (some ⟨B + 2, 0, none⟩)]), .int .i64 0, (.func (.func 229) #[] #[.pointer (some ⟨B + 2, 0, none⟩)])]) (.int .i64 3)).run Tryz.prog w = .ok (.agg #[.int .i64 0, (.func (.func 228) #[] #[.pointer (some ⟨B + 2, 0, none⟩)])]) w := fun _ => by kernel_rfl
 have hen := ent_xop3
 go_enter Tryz.func183, Tryz.ntmps183
 go_upto_region 1 with fail
 generalize (w.alloc (.cells #[c, t] 36)).alloc (.cells #[.int .i64 0, .int .i64 0] 36) = w1 at e0 y0 b0 hsz ⊢
 clear hB
 go_upto_region 2 with (first | (go_at_call 209; refine (xops_any mss (B + 2) _ hsz).mono ?_; rintro e w2 ⟨rfl, f2, hb2⟩; have e2 := e0.below hb2 (by omega); have y2 := y0.below hb2 (by omega); have b2 := b0.trans (hb2.mono (by omega))) | (refine xo_store rfl (.tmp 12) (.tmp 16) rfl rfl [.int .i64 0, (.func (.func 228) #[] #[.pointer (some ⟨B + 2, 0, none⟩)])] rfl (Bx.new w2 207 [.int .i64 0, .nilFunc]) rfl rfl rfl ?_))
 have hP : B + 2 < w2.heap.size := f2.lt
 have o3 := xo_put (Bx.new w2 207 [.int .i64 0, .nilFunc]) [.int .i64 0, (.func (.func 228) #[] #[.pointer (some ⟨B + 2, 0, none⟩)])]
 have e3 := (e2.alloc (.cells #[.int .i64 0, .nilFunc] 207)).grown (xo_grown _ w2.heap.size #[.int .i64 0, (.func (.func 228) #[] #[.pointer (some ⟨B + 2, 0, none⟩)])]) (fun e => by have := Zo e; omega)
 have y3 := (y2.alloc (.cells #[.int .i64 0, .nilFunc] 207)).grown (xo_grown _ w2.heap.size #[.int .i64 0, (.func (.func 228) #[] #[.pointer (some ⟨B + 2, 0, none⟩)])]) (fun e => by have := Zo e; omega)
 have f3 := (f2.alloc (.cells #[.int .i64 0, .nilFunc] 207)).grown (xo_grown _ w2.heap.size #[.int .i64 0, (.func (.func 228) #[] #[.pointer (some ⟨B + 2, 0, none⟩)])]) (fun e => by have := Zo e; omega)
 have b3 := (b2.alloc (by omega) (.cells #[.int .i64 0, .nilFunc] 207)).grown (xo_grown _ w2.heap.size #[.int .i64 0, (.func (.func 228) #[] #[.pointer (some ⟨B + 2, 0, none⟩)])]) (by simp; omega) (fun k hk => by cases hk; omega)
 change Code.wp _ _ _ _ ((w2.alloc (.cells #[.int .i64 0, .nilFunc] 207)).setRow w2.heap.size #[.int .i64 0, (.func (.func 228) #[] #[.pointer (some ⟨B + 2, 0, none⟩)])])
 obtain ⟨P, hPP⟩ : ∃ P, w2.heap.size = P := ⟨_, rfl⟩
 rw [hPP] at o3 e3 y3 f3 b3 ⊢
 generalize ((w2.alloc (.cells #[.int .i64 0, .nilFunc] 207)).setRow P #[.int .i64 0, (.func (.func 228) #[] #[.pointer (some ⟨B + 2, 0, none⟩)])]) = w3 at o3 e3 y3 f3 b3 ⊢
 clear hPP hP hb2 e2 y2 b2 f2 e0 y0 b0 hsz
 have hB3 := Zl e3.lt
 have hm := xwmay_any c t mss most w3
 have hw := fun w => xwin_any n 0 0 w
 cases h1 : xmB c t mss most with
 | false =>
  have hx := HX.out
  rw [ap_no h1] at hx
  subst hx
  rw [h1] at hm
  clear HX h1
  go_wp2_with (first | (refine xw_load rfl (.tmp 6) rfl rfl e3 rfl ?_) | (go_at_call 46; refine hm.mono ?_; rintro e w4 ⟨rfl, hb4⟩; have e4 := e3.kept hb4; have y4 := y3.kept hb4; have f4 := f3.kept hb4; have o4 := o3.kept hb4; have b4 := b3.trans (hb4.mono hB3); have hB4 := Zl e4.lt; have o40 := o4.cell 0 rfl; have o41 := o4.cell 1 rfl) | (refine xw_store rfl (.tmp 10) (.tmp 29) rfl rfl [.int .i64 0, .int .i64 0] rfl y4 rfl rfl rfl ?_))
  refine xw_end2 (by rfl) (by rfl) (by rfl) (xw_put y4 [.int .i64 0, .int .i64 0]) rfl rfl ?_
  exact ⟨rfl, b4.grown (xw_grown _ (B + 1) #[.int .i64 0, .int .i64 0]) hB4 (fun k hk => by cases hk; omega)⟩
 | true =>
 have hv := (xmB_iff c t mss most).1 h1
 rw [h1] at hm
 cases h2 : xinB n 0 0 with
 | false =>
  have hx := HX.out
  rw [ap_far h2] at hx
  subst hx
  rw [h2] at hw
  clear HX h1 h2 hv
  go_wp2_with (first | (refine xw_load rfl (.tmp 6) rfl rfl e3 rfl ?_) | (go_at_call 46; refine hm.mono ?_; rintro e w4 ⟨rfl, hb4⟩; have e4 := e3.kept hb4; have y4 := y3.kept hb4; have f4 := f3.kept hb4; have o4 := o3.kept hb4; have b4 := b3.trans (hb4.mono hB3); have hB4 := Zl e4.lt; have o40 := o4.cell 0 rfl; have o41 := o4.cell 1 rfl) | (go_at_call 106; refine (hw _).mono ?_; rintro e wx ⟨rfl, rfl⟩) | (refine xw_store rfl (.tmp 10) (.tmp 29) rfl rfl [.int .i64 0, .int .i64 0] rfl y4 rfl rfl rfl ?_))
  refine xw_end2 (by rfl) (by rfl) (by rfl) (xw_put y4 [.int .i64 0, .int .i64 0]) rfl rfl ?_
  exact ⟨rfl, b4.grown (xw_grown _ (B + 1) #[.int .i64 0, .int .i64 0]) hB4 (fun k hk => by cases hk; omega)⟩
 | true =>
 have hx := HX.out
 rw [ap_ok h1 h2] at hx
 have h3 := (xin_iff n 0 0).1 h2
 have hc := fun w (h : Bx w (B + 2) 3 [mss]) => lose_any c t n mss (B + 2) w ⟨by omega, by omega⟩ ⟨by omega, by omega⟩ h
 rw [h2] at hw
 clear HX h1 h2 hv h3
 obtain ⟨u, hu⟩ : ∃ u, (loC c mss) = u := ⟨_, rfl⟩
 rw [hu] at hx hc
 clear hu
 go_upto_region 5 with (first | (refine xw_load rfl (.tmp 6) rfl rfl e3 rfl ?_) | (go_at_call 46; refine hm.mono ?_; rintro e w4 ⟨rfl, hb4⟩; have e4 := e3.kept hb4; have y4 := y3.kept hb4; have f4 := f3.kept hb4; have o4 := o3.kept hb4; have b4 := b3.trans (hb4.mono hB3); have hB4 := Zl e4.lt; have o40 := o4.cell 0 rfl; have o41 := o4.cell 1 rfl) | (go_at_call 106; refine (hw _).mono ?_; rintro e wx ⟨rfl, rfl⟩) | (refine xw_load rfl (.tmp 6) rfl rfl e4 rfl ?_) | (go_at_call 228; refine (hc _ f4).mono ?_; rintro e w5 ⟨rfl, hb5⟩; have e5 := e4.kept hb5; have y5 := y4.kept hb5; have b5 := b4.trans (hb5.mono hB4)) | (refine xw_store rfl (.tmp 6) (.tmp 34) rfl rfl [u, u] rfl e5 rfl rfl rfl ?_))
 have e6 := xw_put e5 [u, u]
 have y6 := y5.grown (xw_grown w5 B #[u, u]) (fun e => by cases e)
 have b6 := b5.grown (xw_grown w5 B #[u, u]) (Zl e5.lt) (fun k hk => by cases hk; exact Nat.le_refl B)
 change Code.wp _ _ _ _ (w5.setRow B #[u, u])
 generalize w5.setRow B #[u, u] = w6 at e6 y6 b6 ⊢
 have hB6 := Zl e6.lt
 clear o40 o41 o4 o3
 refine tB 10 13 (fun (W : World) => W.cell? ⟨B, 0, none⟩ = some (.int .i64 u) ∧ W.cell? ⟨B, 1, none⟩ = some (.int .i64 u) ∧ Bx W (B + 1) 36 [.int .i64 0, .int .i64 0] ∧ Below B w W) ⟨e6.drew.cell 0 rfl, e6.drew.cell 1 rfl, y6.drew, b6.drew⟩ (fun HS => ?_)
 refine tU 0 HS ?_
 refine tU 1 HS ?_
 refine tU 2 HS ?_
 refine tU 3 HS ?_
 refine tU 5 HS ?_
 refine tU 6 HS ?_
 refine tU 7 HS ?_
 refine tU 8 HS ?_
 refine tO 4 (fun K hK => ?_)
 go_simp
 refine (clx_any u mss most _).mono ?_
 rintro e wx ⟨rfl, rfl⟩
 refine kK hK HS (fun HS => ?_)
 clear hK K
 refine tO 9 (fun K hK => ?_)
 go_simp
 refine (clx_any u mss most _).mono ?_
 rintro e wx ⟨rfl, rfl⟩
 refine kK hK HS (fun HS => ?_)
 clear hK K
 refine ⟨by kernel_rfl, ?_⟩
 simp only [List.drop_succ_cons, List.drop_zero]
 obtain ⟨hs0, hs1, hs2, hs3⟩ := HS
 obtain ⟨z1, hz1⟩ : ∃ z, cl2 u mss most = z := ⟨_, rfl⟩
 rw [hz1] at hx
 subst hx
 rw [hz1]
 go_wp2_with (refine xw_store rfl (.tmp 10) (.tmp 45) rfl rfl [z1, z1] rfl hs2 rfl rfl rfl ?_)
 refine xw_end2 (by rfl) (by rfl) (by rfl) (xw_put hs2 [z1, z1]) rfl rfl ?_
 exact ⟨rfl, hs3.grown (xw_grown _ (B + 1) #[z1, z1]) (Zl (Nat.lt_of_le_of_lt (Nat.le_succ B) hs2.lt)) (fun k hk => by cases hk; omega)⟩
theorem apply4_any (c t n mss most : Int) (w : World) :
  Calls Tryz.prog 183 #[.int .i64 4, .agg #[c, t], n, mss, most] w fun e w' => TellX w w' e (apR 0 mss (loC c mss) c t n mss most) := by
 unfold TellX
 obtain ⟨x, hx⟩ : ∃ x, apR 0 mss (loC c mss) c t n mss most = x := ⟨_, rfl⟩
 rw [hx]
 have HX := Zh hx; clear hx
 obtain ⟨B, hB⟩ : ∃ B, w.heap.size = B := ⟨_, rfl⟩
 have e0 := (Bx.new w 36 [c, t]).alloc (.cells #[.int .i64 0, .int .i64 0] 36)
 have y0 := Bx.new (w.alloc (.cells #[c, t] 36)) 36 [.int .i64 0, .int .i64 0]
 rw [World.size_alloc] at y0
 rw [hB] at e0 y0 ⊢
 have b0 : Below B w ((w.alloc (.cells #[c, t] 36)).alloc (.cells #[.int .i64 0, .int .i64 0] 36)) := by rw [← hB]; exact ((Zb).alloc Zr _).alloc (by simp) _
 have hsz : ((w.alloc (.cells #[c, t] 36)).alloc (.cells #[.int .i64 0, .int .i64 0] 36)).heap.size = B + 2 := by simp [hB]
 have ix : ∀ w, (Instr.index 208 (.agg #[.int .i64 1099511627776, (.func (.func 225) #[] #[]), mss, (.func (.func 226) #[] #[]), .int .i64 1024, (.func (.func 227) #[] #[]), .int .i64 0, (.func (.func 228) #[] #[.pointer (some ⟨B + 2, 0, none⟩)]), .int .i64 0, (.func (.func 229) #[] #[.pointer (some ⟨B + 2, 0, none⟩)])]) (.int .i64 4)).run Tryz.prog w = .ok (.agg #[.int .i64 0, (.func (.func 229) #[] #[.pointer (some ⟨B + 2, 0, none⟩)])]) w := fun _ => by kernel_rfl
 have hen := ent_xop4
 go_enter Tryz.func183, Tryz.ntmps183
 go_upto_region 1 with fail
 generalize (w.alloc (.cells #[c, t] 36)).alloc (.cells #[.int .i64 0, .int .i64 0] 36) = w1 at e0 y0 b0 hsz ⊢
 clear hB
 go_upto_region 2 with (first | (go_at_call 209; refine (xops_any mss (B + 2) _ hsz).mono ?_; rintro e w2 ⟨rfl, f2, hb2⟩; have e2 := e0.below hb2 (by omega); have y2 := y0.below hb2 (by omega); have b2 := b0.trans (hb2.mono (by omega))) | (refine xo_store rfl (.tmp 12) (.tmp 16) rfl rfl [.int .i64 0, (.func (.func 229) #[] #[.pointer (some ⟨B + 2, 0, none⟩)])] rfl (Bx.new w2 207 [.int .i64 0, .nilFunc]) rfl rfl rfl ?_))
 have hP : B + 2 < w2.heap.size := f2.lt
 have o3 := xo_put (Bx.new w2 207 [.int .i64 0, .nilFunc]) [.int .i64 0, (.func (.func 229) #[] #[.pointer (some ⟨B + 2, 0, none⟩)])]
 have e3 := (e2.alloc (.cells #[.int .i64 0, .nilFunc] 207)).grown (xo_grown _ w2.heap.size #[.int .i64 0, (.func (.func 229) #[] #[.pointer (some ⟨B + 2, 0, none⟩)])]) (fun e => by have := Zo e; omega)
 have y3 := (y2.alloc (.cells #[.int .i64 0, .nilFunc] 207)).grown (xo_grown _ w2.heap.size #[.int .i64 0, (.func (.func 229) #[] #[.pointer (some ⟨B + 2, 0, none⟩)])]) (fun e => by have := Zo e; omega)
 have f3 := (f2.alloc (.cells #[.int .i64 0, .nilFunc] 207)).grown (xo_grown _ w2.heap.size #[.int .i64 0, (.func (.func 229) #[] #[.pointer (some ⟨B + 2, 0, none⟩)])]) (fun e => by have := Zo e; omega)
 have b3 := (b2.alloc (by omega) (.cells #[.int .i64 0, .nilFunc] 207)).grown (xo_grown _ w2.heap.size #[.int .i64 0, (.func (.func 229) #[] #[.pointer (some ⟨B + 2, 0, none⟩)])]) (by simp; omega) (fun k hk => by cases hk; omega)
 change Code.wp _ _ _ _ ((w2.alloc (.cells #[.int .i64 0, .nilFunc] 207)).setRow w2.heap.size #[.int .i64 0, (.func (.func 229) #[] #[.pointer (some ⟨B + 2, 0, none⟩)])])
 obtain ⟨P, hPP⟩ : ∃ P, w2.heap.size = P := ⟨_, rfl⟩
 rw [hPP] at o3 e3 y3 f3 b3 ⊢
 generalize ((w2.alloc (.cells #[.int .i64 0, .nilFunc] 207)).setRow P #[.int .i64 0, (.func (.func 229) #[] #[.pointer (some ⟨B + 2, 0, none⟩)])]) = w3 at o3 e3 y3 f3 b3 ⊢
 clear hPP hP hb2 e2 y2 b2 f2 e0 y0 b0 hsz
 have hB3 := Zl e3.lt
 have hm := xwmay_any c t mss most w3
 have hw := fun w => xwin_any n 0 0 w
 cases h1 : xmB c t mss most with
 | false =>
  have hx := HX.out
  rw [ap_no h1] at hx
  subst hx
  rw [h1] at hm
  clear HX h1
  go_wp2_with (first | (refine xw_load rfl (.tmp 6) rfl rfl e3 rfl ?_) | (go_at_call 46; refine hm.mono ?_; rintro e w4 ⟨rfl, hb4⟩; have e4 := e3.kept hb4; have y4 := y3.kept hb4; have f4 := f3.kept hb4; have o4 := o3.kept hb4; have b4 := b3.trans (hb4.mono hB3); have hB4 := Zl e4.lt; have o40 := o4.cell 0 rfl; have o41 := o4.cell 1 rfl) | (refine xw_store rfl (.tmp 10) (.tmp 29) rfl rfl [.int .i64 0, .int .i64 0] rfl y4 rfl rfl rfl ?_))
  refine xw_end2 (by rfl) (by rfl) (by rfl) (xw_put y4 [.int .i64 0, .int .i64 0]) rfl rfl ?_
  exact ⟨rfl, b4.grown (xw_grown _ (B + 1) #[.int .i64 0, .int .i64 0]) hB4 (fun k hk => by cases hk; omega)⟩
 | true =>
 have hv := (xmB_iff c t mss most).1 h1
 rw [h1] at hm
 cases h2 : xinB n 0 0 with
 | false =>
  have hx := HX.out
  rw [ap_far h2] at hx
  subst hx
  rw [h2] at hw
  clear HX h1 h2 hv
  go_wp2_with (first | (refine xw_load rfl (.tmp 6) rfl rfl e3 rfl ?_) | (go_at_call 46; refine hm.mono ?_; rintro e w4 ⟨rfl, hb4⟩; have e4 := e3.kept hb4; have y4 := y3.kept hb4; have f4 := f3.kept hb4; have o4 := o3.kept hb4; have b4 := b3.trans (hb4.mono hB3); have hB4 := Zl e4.lt; have o40 := o4.cell 0 rfl; have o41 := o4.cell 1 rfl) | (go_at_call 106; refine (hw _).mono ?_; rintro e wx ⟨rfl, rfl⟩) | (refine xw_store rfl (.tmp 10) (.tmp 29) rfl rfl [.int .i64 0, .int .i64 0] rfl y4 rfl rfl rfl ?_))
  refine xw_end2 (by rfl) (by rfl) (by rfl) (xw_put y4 [.int .i64 0, .int .i64 0]) rfl rfl ?_
  exact ⟨rfl, b4.grown (xw_grown _ (B + 1) #[.int .i64 0, .int .i64 0]) hB4 (fun k hk => by cases hk; omega)⟩
 | true =>
 have hx := HX.out
 rw [ap_ok h1 h2] at hx
 have h3 := (xin_iff n 0 0).1 h2
 have hc := fun w (h : Bx w (B + 2) 3 [mss]) => loseall_any c t n mss (B + 2) w ⟨by omega, by omega⟩ ⟨by omega, by omega⟩ h
 rw [h2] at hw
 clear HX h1 h2 hv h3
 obtain ⟨v, hv⟩ : ∃ v, (loC c mss) = v := ⟨_, rfl⟩
 rw [hv] at hx hc
 clear hv
 go_upto_region 5 with (first | (refine xw_load rfl (.tmp 6) rfl rfl e3 rfl ?_) | (go_at_call 46; refine hm.mono ?_; rintro e w4 ⟨rfl, hb4⟩; have e4 := e3.kept hb4; have y4 := y3.kept hb4; have f4 := f3.kept hb4; have o4 := o3.kept hb4; have b4 := b3.trans (hb4.mono hB3); have hB4 := Zl e4.lt; have o40 := o4.cell 0 rfl; have o41 := o4.cell 1 rfl) | (go_at_call 106; refine (hw _).mono ?_; rintro e wx ⟨rfl, rfl⟩) | (refine xw_load rfl (.tmp 6) rfl rfl e4 rfl ?_) | (go_at_call 229; refine (hc _ f4).mono ?_; rintro e w5 ⟨rfl, hb5⟩; have e5 := e4.kept hb5; have y5 := y4.kept hb5; have b5 := b4.trans (hb5.mono hB4)) | (refine xw_store rfl (.tmp 6) (.tmp 34) rfl rfl [mss, v] rfl e5 rfl rfl rfl ?_))
 have e6 := xw_put e5 [mss, v]
 have y6 := y5.grown (xw_grown w5 B #[mss, v]) (fun e => by cases e)
 have b6 := b5.grown (xw_grown w5 B #[mss, v]) (Zl e5.lt) (fun k hk => by cases hk; exact Nat.le_refl B)
 change Code.wp _ _ _ _ (w5.setRow B #[mss, v])
 generalize w5.setRow B #[mss, v] = w6 at e6 y6 b6 ⊢
 have hB6 := Zl e6.lt
 clear o40 o41 o4 o3
 refine tB 10 13 (fun (W : World) => W.cell? ⟨B, 0, none⟩ = some (.int .i64 mss) ∧ W.cell? ⟨B, 1, none⟩ = some (.int .i64 v) ∧ Bx W (B + 1) 36 [.int .i64 0, .int .i64 0] ∧ Below B w W) ⟨e6.drew.cell 0 rfl, e6.drew.cell 1 rfl, y6.drew, b6.drew⟩ (fun HS => ?_)
 refine tU 0 HS ?_
 refine tU 1 HS ?_
 refine tU 2 HS ?_
 refine tU 3 HS ?_
 refine tU 5 HS ?_
 refine tU 6 HS ?_
 refine tU 7 HS ?_
 refine tU 8 HS ?_
 refine tO 4 (fun K hK => ?_)
 go_simp
 refine (clx_any mss mss most _).mono ?_
 rintro e wx ⟨rfl, rfl⟩
 refine kK hK HS (fun HS => ?_)
 clear hK K
 refine tO 9 (fun K hK => ?_)
 go_simp
 refine (clx_any v mss most _).mono ?_
 rintro e wx ⟨rfl, rfl⟩
 refine kK hK HS (fun HS => ?_)
 clear hK K
 refine ⟨by kernel_rfl, ?_⟩
 simp only [List.drop_succ_cons, List.drop_zero]
 obtain ⟨hs0, hs1, hs2, hs3⟩ := HS
 obtain ⟨z1, hz1⟩ : ∃ z, cl2 mss mss most = z := ⟨_, rfl⟩
 obtain ⟨z2, hz2⟩ : ∃ z, cl2 v mss most = z := ⟨_, rfl⟩
 rw [hz1, hz2] at hx
 subst hx
 rw [hz1, hz2]
 go_wp2_with (refine xw_store rfl (.tmp 10) (.tmp 45) rfl rfl [z1, z2] rfl hs2 rfl rfl rfl ?_)
 refine xw_end2 (by rfl) (by rfl) (by rfl) (xw_put hs2 [z1, z2]) rfl rfl ?_
 exact ⟨rfl, hs3.grown (xw_grown _ (B + 1) #[z1, z2]) (Zl (Nat.lt_of_le_of_lt (Nat.le_succ B) hs2.lt)) (fun k hk => by cases hk; omega)⟩
end Go.Proofs.YtbijhkhkigdddaaGreat
