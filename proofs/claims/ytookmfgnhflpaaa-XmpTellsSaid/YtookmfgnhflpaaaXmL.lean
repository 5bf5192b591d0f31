/- Package xmp as it landed: Slow, Round, Cut, Loss; all contracts as contracts of the calls. -/
import Derived.Test.YtookmfgnhflpaaaXmL3
import Derived.Test.YtookmfgnhflpaaaXmL4
import Derived.Laws.EntriesVeiled
namespace Go.Proofs.Ytookmfgnhflpaaa
open Go.RowKit
set_option linter.unusedVariables false
set_option linter.unusedSimpArgs false


theorem ap_slow (c t b mss most : Int) : apR 1099511627776 (slC c t b) t c t b mss most = slowR c t b mss most := by
  unfold apR slowR
  by_cases h : xmB c t mss most = true ∧ 0 ≤ b ∧ b ≤ 1099511627776
  · rw [if_pos h, if_pos h]
    obtain ⟨v0, v1, v2, v3, v4, v5, v6, v7⟩ := (xmB_iff c t mss most).1 h.1
    unfold slC
    by_cases k : t ≤ c
    · rw [if_pos k, if_neg (by omega), cl2_in ⟨v4, v5⟩, cl2_in ⟨v6, v7⟩]
    · rw [if_neg k, if_pos (by omega), cl2_in (by omega), cl2_in ⟨v6, v7⟩]
  · rw [if_neg h, if_neg h]
theorem ap_round (c t b mss most : Int) : apR mss (grC c t b) t c t b mss most = rndR c t b mss most := by
  unfold apR rndR
  by_cases h : xmB c t mss most = true ∧ 0 ≤ b ∧ b ≤ mss
  · rw [if_pos h, if_pos h]
    obtain ⟨v0, v1, v2, v3, v4, v5, v6, v7⟩ := (xmB_iff c t mss most).1 h.1
    unfold grC
    by_cases k : c < t
    · rw [if_pos k, if_neg (by omega), cl2_in ⟨v4, v5⟩, cl2_in ⟨v6, v7⟩]
    · rw [if_neg k, if_pos (by omega), cl2_eq (by omega), cl2_in ⟨v6, v7⟩, Int.max_eq_left (by omega)]
  · rw [if_neg h, if_neg h]
theorem ap_cut (c t b mss most : Int) : apR 1024 (rdC c b) (rdC c b) c t b mss most = cutR c t b mss most := by
  unfold apR cutR
  by_cases h : xmB c t mss most = true ∧ 0 ≤ b ∧ b ≤ 1024
  · rw [if_pos h, if_pos h]
    obtain ⟨v0, v1, v2, v3, v4, v5, v6, v7⟩ := (xmB_iff c t mss most).1 h.1
    obtain ⟨u0, u1, u2, u3⟩ := cut_bd (c := c) (b := b) (by omega) h.2.1 h.2.2
    unfold rdC
    obtain ⟨y, hy⟩ : ∃ y, c * b / 2048 = y := ⟨_, rfl⟩
    rw [hy] at u0 u1 ⊢
    rw [cl2_eq (by omega), show min (max (c - y) mss) most = max mss (c - y) by omega]
  · rw [if_neg h, if_neg h]
theorem ap_lose (c t mss most : Int) (all : Bool) : apR 0 (if all then mss else loC c mss) (loC c mss) c t 0 mss most = lossR c t all mss most := by
  unfold apR lossR
  by_cases h : xmB c t mss most = true
  · rw [if_pos ⟨h, by omega, by omega⟩, if_pos h]
    obtain ⟨v0, v1, v2, v3, v4, v5, v6, v7⟩ := (xmB_iff c t mss most).1 h
    unfold loC lossN
    rw [cl2_eq (n := max (c / 2) (2 * mss)) (by omega), show min (max (max (c / 2) (2 * mss)) mss) most = min (max (c / 2) (2 * mss)) most by omega]
    cases all with
    | true => rw [if_pos rfl, if_pos rfl, cl2_in (by omega)]
    | false => rw [if_neg (by simp), if_neg (by simp), cl2_eq (by omega), show min (max (max (c / 2) (2 * mss)) mss) most = min (max (c / 2) (2 * mss)) most by omega]
  · rw [if_neg (fun q => h q.1), if_neg h]

set_option maxRecDepth 100000 in
set_option maxHeartbeats 8000000 in
theorem xwslow_any (c t b mss most : Int) (w : World) : Calls Try.prog 10 #[.agg #[.int .i64 c, .int .i64 t], .int .i64 b, .int .i64 mss, .int .i64 most] w fun e w' => TellX w w' e (slowR c t b mss most) := by
  have ha := fun w => apply0_any c t b mss most w
  rw [ap_slow] at ha
  unfold TellX at ha ⊢
  obtain ⟨x, hx⟩ : ∃ x, slowR c t b mss most = x := ⟨_, rfl⟩
  rw [hx] at ha ⊢
  clear hx
  obtain ⟨B, hB⟩ : ∃ B, w.heap.size = B := ⟨_, rfl⟩
  have e0 := (Bx.new w 23 [.int .i64 c, .int .i64 t]).alloc (.cells #[.int .i64 0, .int .i64 0] 23)
  have y0 := Bx.new (w.alloc (.cells #[.int .i64 c, .int .i64 t] 23)) 23 [.int .i64 0, .int .i64 0]
  rw [World.size_alloc] at y0
  rw [hB] at e0 y0 ⊢
  have b0 : Below B w ((w.alloc (.cells #[.int .i64 c, .int .i64 t] 23)).alloc (.cells #[.int .i64 0, .int .i64 0] 23)) := by rw [← hB]; exact ((Below.refl _ _).alloc (Nat.le_refl _) _).alloc (by simp) _
  go_enter Try.func10, Try.ntmps10
  go_upto_region 1 with fail
  generalize (w.alloc (.cells #[.int .i64 c, .int .i64 t] 23)).alloc (.cells #[.int .i64 0, .int .i64 0] 23) = w1 at e0 y0 b0 ⊢
  have hBs : B ≤ w1.heap.size := Nat.le_of_lt e0.lt
  have c0 := e0.cell 0 rfl; have c1 := e0.cell 1 rfl
  go_wp2_with (first | (refine xw_load rfl (.tmp 4) rfl rfl e0 rfl ?_) | (go_at_call 22; refine (ha _).mono ?_; rintro e w2 ⟨rfl, hb2⟩; have e2 := e0.kept hb2; have y2 := y0.kept hb2; have b2 := b0.trans (hb2.mono hBs)) | (refine xw_store rfl (.tmp 8) (.tmp 15) rfl rfl [.int .i64 x.1, .int .i64 x.2.1] rfl y2 rfl rfl rfl ?_))
  refine xw_end2 (by rfl) (by rfl) (by rfl) (xw_put y2 [.int .i64 x.1, .int .i64 x.2.1]) rfl rfl ?_
  exact ⟨rfl, b2.grown (xw_grown _ (B + 1) #[.int .i64 x.1, .int .i64 x.2.1]) (Nat.le_of_lt e2.lt) (fun k hk => by cases hk; omega)⟩

set_option maxRecDepth 100000 in
set_option maxHeartbeats 8000000 in
theorem xwround_any (c t b mss most : Int) (w : World) : Calls Try.prog 12 #[.agg #[.int .i64 c, .int .i64 t], .int .i64 b, .int .i64 mss, .int .i64 most] w fun e w' => TellX w w' e (rndR c t b mss most) := by
  have ha := fun w => apply1_any c t b mss most w
  rw [ap_round] at ha
  unfold TellX at ha ⊢
  obtain ⟨x, hx⟩ : ∃ x, rndR c t b mss most = x := ⟨_, rfl⟩
  rw [hx] at ha ⊢
  clear hx
  obtain ⟨B, hB⟩ : ∃ B, w.heap.size = B := ⟨_, rfl⟩
  have e0 := (Bx.new w 23 [.int .i64 c, .int .i64 t]).alloc (.cells #[.int .i64 0, .int .i64 0] 23)
  have y0 := Bx.new (w.alloc (.cells #[.int .i64 c, .int .i64 t] 23)) 23 [.int .i64 0, .int .i64 0]
  rw [World.size_alloc] at y0
  rw [hB] at e0 y0 ⊢
  have b0 : Below B w ((w.alloc (.cells #[.int .i64 c, .int .i64 t] 23)).alloc (.cells #[.int .i64 0, .int .i64 0] 23)) := by rw [← hB]; exact ((Below.refl _ _).alloc (Nat.le_refl _) _).alloc (by simp) _
  go_enter Try.func12, Try.ntmps12
  go_upto_region 1 with fail
  generalize (w.alloc (.cells #[.int .i64 c, .int .i64 t] 23)).alloc (.cells #[.int .i64 0, .int .i64 0] 23) = w1 at e0 y0 b0 ⊢
  have hBs : B ≤ w1.heap.size := Nat.le_of_lt e0.lt
  have c0 := e0.cell 0 rfl; have c1 := e0.cell 1 rfl
  go_wp2_with (first | (refine xw_load rfl (.tmp 4) rfl rfl e0 rfl ?_) | (go_at_call 22; refine (ha _).mono ?_; rintro e w2 ⟨rfl, hb2⟩; have e2 := e0.kept hb2; have y2 := y0.kept hb2; have b2 := b0.trans (hb2.mono hBs)) | (refine xw_store rfl (.tmp 8) (.tmp 15) rfl rfl [.int .i64 x.1, .int .i64 x.2.1] rfl y2 rfl rfl rfl ?_))
  refine xw_end2 (by rfl) (by rfl) (by rfl) (xw_put y2 [.int .i64 x.1, .int .i64 x.2.1]) rfl rfl ?_
  exact ⟨rfl, b2.grown (xw_grown _ (B + 1) #[.int .i64 x.1, .int .i64 x.2.1]) (Nat.le_of_lt e2.lt) (fun k hk => by cases hk; omega)⟩

set_option maxRecDepth 100000 in
set_option maxHeartbeats 8000000 in
theorem xwcut_any (c t b mss most : Int) (w : World) : Calls Try.prog 14 #[.agg #[.int .i64 c, .int .i64 t], .int .i64 b, .int .i64 mss, .int .i64 most] w fun e w' => TellX w w' e (cutR c t b mss most) := by
  have ha := fun w => apply2_any c t b mss most w
  rw [ap_cut] at ha
  unfold TellX at ha ⊢
  obtain ⟨x, hx⟩ : ∃ x, cutR c t b mss most = x := ⟨_, rfl⟩
  rw [hx] at ha ⊢
  clear hx
  obtain ⟨B, hB⟩ : ∃ B, w.heap.size = B := ⟨_, rfl⟩
  have e0 := (Bx.new w 23 [.int .i64 c, .int .i64 t]).alloc (.cells #[.int .i64 0, .int .i64 0] 23)
  have y0 := Bx.new (w.alloc (.cells #[.int .i64 c, .int .i64 t] 23)) 23 [.int .i64 0, .int .i64 0]
  rw [World.size_alloc] at y0
  rw [hB] at e0 y0 ⊢
  have b0 : Below B w ((w.alloc (.cells #[.int .i64 c, .int .i64 t] 23)).alloc (.cells #[.int .i64 0, .int .i64 0] 23)) := by rw [← hB]; exact ((Below.refl _ _).alloc (Nat.le_refl _) _).alloc (by simp) _
  go_enter Try.func14, Try.ntmps14
  go_upto_region 1 with fail
  generalize (w.alloc (.cells #[.int .i64 c, .int .i64 t] 23)).alloc (.cells #[.int .i64 0, .int .i64 0] 23) = w1 at e0 y0 b0 ⊢
  have hBs : B ≤ w1.heap.size := Nat.le_of_lt e0.lt
  have c0 := e0.cell 0 rfl; have c1 := e0.cell 1 rfl
  go_wp2_with (first | (refine xw_load rfl (.tmp 4) rfl rfl e0 rfl ?_) | (go_at_call 22; refine (ha _).mono ?_; rintro e w2 ⟨rfl, hb2⟩; have e2 := e0.kept hb2; have y2 := y0.kept hb2; have b2 := b0.trans (hb2.mono hBs)) | (refine xw_store rfl (.tmp 8) (.tmp 15) rfl rfl [.int .i64 x.1, .int .i64 x.2.1] rfl y2 rfl rfl rfl ?_))
  refine xw_end2 (by rfl) (by rfl) (by rfl) (xw_put y2 [.int .i64 x.1, .int .i64 x.2.1]) rfl rfl ?_
  exact ⟨rfl, b2.grown (xw_grown _ (B + 1) #[.int .i64 x.1, .int .i64 x.2.1]) (Nat.le_of_lt e2.lt) (fun k hk => by cases hk; omega)⟩

set_option maxRecDepth 100000 in
set_option maxHeartbeats 8000000 in
theorem xwloss_any (c t : Int) (all : Bool) (mss most : Int) (w : World) : Calls Try.prog 16 #[.agg #[.int .i64 c, .int .i64 t], .bool all, .int .i64 mss, .int .i64 most] w fun e w' => TellX w w' e (lossR c t all mss most) := by
  have hp := ap_lose c t mss most all
  unfold TellX
  obtain ⟨x, hx⟩ : ∃ x, lossR c t all mss most = x := ⟨_, rfl⟩
  rw [hx] at hp ⊢
  clear hx
  obtain ⟨B, hB⟩ : ∃ B, w.heap.size = B := ⟨_, rfl⟩
  have e0 := (Bx.new w 23 [.int .i64 c, .int .i64 t]).alloc (.cells #[.int .i64 0, .int .i64 0] 23)
  have y0 := Bx.new (w.alloc (.cells #[.int .i64 c, .int .i64 t] 23)) 23 [.int .i64 0, .int .i64 0]
  rw [World.size_alloc] at y0
  rw [hB] at e0 y0 ⊢
  have b0 : Below B w ((w.alloc (.cells #[.int .i64 c, .int .i64 t] 23)).alloc (.cells #[.int .i64 0, .int .i64 0] 23)) := by rw [← hB]; exact ((Below.refl _ _).alloc (Nat.le_refl _) _).alloc (by simp) _
  go_enter Try.func16, Try.ntmps16
  go_upto_region 1 with fail
  generalize (w.alloc (.cells #[.int .i64 c, .int .i64 t] 23)).alloc (.cells #[.int .i64 0, .int .i64 0] 23) = w1 at e0 y0 b0 ⊢
  have hBs : B ≤ w1.heap.size := Nat.le_of_lt e0.lt
  have c0 := e0.cell 0 rfl; have c1 := e0.cell 1 rfl
  cases all with
  | true =>
    have ha := fun w => apply4_any c t 0 mss most w
    rw [show apR 0 mss (loC c mss) c t 0 mss most = x from hp] at ha
    unfold TellX at ha
    go_wp2_with (first | (refine xw_load rfl (.tmp 4) rfl rfl e0 rfl ?_) | (go_at_call 22; refine (ha _).mono ?_; rintro e w2 ⟨rfl, hb2⟩; have e2 := e0.kept hb2; have y2 := y0.kept hb2; have b2 := b0.trans (hb2.mono hBs)) | (refine xw_store rfl (.tmp 8) (.tmp 15) rfl rfl [.int .i64 x.1, .int .i64 x.2.1] rfl y2 rfl rfl rfl ?_))
    refine xw_end2 (by rfl) (by rfl) (by rfl) (xw_put y2 [.int .i64 x.1, .int .i64 x.2.1]) rfl rfl ?_
    exact ⟨rfl, b2.grown (xw_grown _ (B + 1) #[.int .i64 x.1, .int .i64 x.2.1]) (Nat.le_of_lt e2.lt) (fun k hk => by cases hk; omega)⟩
  | false =>
    have ha := fun w => apply3_any c t 0 mss most w
    rw [show apR 0 (loC c mss) (loC c mss) c t 0 mss most = x from hp] at ha
    unfold TellX at ha
    go_wp2_with (first | (refine xw_load rfl (.tmp 4) rfl rfl e0 rfl ?_) | (go_at_call 22; refine (ha _).mono ?_; rintro e w2 ⟨rfl, hb2⟩; have e2 := e0.kept hb2; have y2 := y0.kept hb2; have b2 := b0.trans (hb2.mono hBs)) | (refine xw_store rfl (.tmp 8) (.tmp 21) rfl rfl [.int .i64 x.1, .int .i64 x.2.1] rfl y2 rfl rfl rfl ?_))
    refine xw_end2 (by rfl) (by rfl) (by rfl) (xw_put y2 [.int .i64 x.1, .int .i64 x.2.1]) rfl rfl ?_
    exact ⟨rfl, b2.grown (xw_grown _ (B + 1) #[.int .i64 x.1, .int .i64 x.2.1]) (Nat.le_of_lt e2.lt) (fun k hk => by cases hk; omega)⟩
end Go.Proofs.Ytookmfgnhflpaaa
