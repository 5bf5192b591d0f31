/- Package rate as it landed: Came and Sample as contracts of the call. -/
import Derived.Test.YtphkenicbbcjjaaRaL2
namespace Go.Proofs.Ytphkenicbbcjjaa
open Go.RowKit
set_option linter.unusedVariables false
set_option linter.unusedSimpArgs false

theorem win_no {n lo hi : Int} (h : winB n lo hi = false) : ¬ (lo ≤ n ∧ n ≤ hi) := fun k => by rw [(win_iff n lo hi).2 k] at h; cases h

set_option maxRecDepth 100000 in
set_option maxHeartbeats 8000000 in
theorem ratcame_any (total last : Int) (A : Option Addr) (n c : Nat) (l : List Int) (at_ bytes : Int) (p : Nat → Prop) (w : World) (hs : Sq w p A n c l) (hp : ∀ b, w.heap.size ≤ b → p b) :
    Calls Try.prog 10 #[.agg #[.int .i64 total, .int .i64 last, .slice A n c], .int .i64 at_, .int .i64 bytes] w fun e w' => TellCP p w w' e (cameR ⟨total, last, l⟩ at_ bytes) := by
  unfold TellCP
  obtain ⟨B, hB⟩ : ∃ B, w.heap.size = B := ⟨_, rfl⟩
  rw [hB] at hp ⊢
  have hl := hs.si.rd.len
  have e0 := (Bx.new w 24 [.int .i64 total, .int .i64 last, .slice A n c]).alloc (.cells #[.int .i64 0, .int .i64 0, .slice none 0 0] 24)
  have y0 := Bx.new (w.alloc (.cells #[.int .i64 total, .int .i64 last, .slice A n c] 24)) 24 [.int .i64 0, .int .i64 0, .slice none 0 0]
  rw [World.size_alloc] at y0
  rw [hB] at e0 y0
  have b0 : Below B w ((w.alloc (.cells #[.int .i64 total, .int .i64 last, .slice A n c] 24)).alloc (.cells #[.int .i64 0, .int .i64 0, .slice none 0 0] 24)) := by rw [← hB]; exact ((Below.refl _ _).alloc (Nat.le_refl _) _).alloc (by simp) _
  have s0 := (hs.si.alloc (.cells #[.int .i64 total, .int .i64 last, .slice A n c] 24)).alloc (.cells #[.int .i64 0, .int .i64 0, .slice none 0 0] 24)
  obtain ⟨x, hx⟩ : ∃ x, cameR ⟨total, last, l⟩ at_ bytes = x := ⟨_, rfl⟩
  rw [hx]
  have HX := Lib.hid hx; have HL := Lib.hid hl; have HS := Lib.hid hs; have HB := Lib.hid hB; have HP := Lib.hid hp; clear hx hl hs hp
  go_enter Try.func10, Try.ntmps10
  go_wp2_with (refine ra_load rfl (.tmp 3) rfl rfl e0 rfl ?_)
  generalize (w.alloc (.cells #[.int .i64 total, .int .i64 last, .slice A n c] 24)).alloc (.cells #[.int .i64 0, .int .i64 0, .slice none 0 0] 24) = w1 at e0 y0 b0 s0 ⊢
  clear hB
  refine (ratmay_any total last A n c l _ s0).mono ?_
  rintro e w2 ⟨rfl, hb2⟩
  have e2 := e0.kept hb2; have y2 := y0.kept hb2; have b2 := b0.trans (hb2.mono (Nat.le_of_lt e0.lt))
  have hBs : B ≤ w2.heap.size := Nat.le_of_lt e2.lt
  have x0 := e2.cell 0 rfl; have x1 := e2.cell 1 rfl; have x2 := e2.cell 2 rfl
  clear e0 y0 b0 s0 hb2
  cases hk : ramay ⟨total, last, l⟩ with
  | false =>
    have hx := HX.out
    rw [came_no (fun h => by have := h.1; rw [hk] at this; cases this)] at hx
    subst hx
    clear HX
    go_upto_region 2 with (go_at_call 19; refine (within_any _ _ _ _).mono ?_; rintro e wx ⟨rfl, rfl⟩)
    go_wp2_with (refine ra_store rfl (.tmp 6) (.tmp 23) rfl rfl [.int .i64 0, .int .i64 0, .slice none 0 0] rfl y2 rfl rfl rfl ?_)
    refine ra_end2 (by rfl) (by rfl) (by rfl) (ra_put y2 [.int .i64 0, .int .i64 0, .slice none 0 0]) rfl rfl ?_
    exact ⟨none, 0, 0, rfl, Sq.none _ _, b2.grown (ra_grown _ (B + 1) #[.int .i64 0, .int .i64 0, .slice none 0 0]) hBs (fun k hk => by cases hk; omega)⟩
  | true =>
  have hv := (ramay_iff _).1 hk
  have t0 : 0 ≤ total := hv.t0; have t1 : total ≤ 1152921504606846976 := hv.t1; have l0 : 0 ≤ last := hv.a0; have l1 : last ≤ 1152921504606846976 := hv.a1
  have hn : n ≤ 10 := by have := hv.len; dsimp only at this; rw [HL.out] at this; exact this
  have HK := Lib.hid hk; clear hk hv
  cases ha : winB at_ last 1152921504606846976 with
  | false =>
    have hx := HX.out
    rw [came_no (fun h => win_no ha ⟨h.2.1, ((t60_iff _).1 h.2.2.1).2⟩)] at hx
    subst hx
    clear HX
    go_upto_region 2 with (go_at_call 19; refine (within_any _ _ _ _).mono ?_; rintro e wx ⟨rfl, rfl⟩)
    go_wp2_with (refine ra_store rfl (.tmp 6) (.tmp 23) rfl rfl [.int .i64 0, .int .i64 0, .slice none 0 0] rfl y2 rfl rfl rfl ?_)
    refine ra_end2 (by rfl) (by rfl) (by rfl) (ra_put y2 [.int .i64 0, .int .i64 0, .slice none 0 0]) rfl rfl ?_
    exact ⟨none, 0, 0, rfl, Sq.none _ _, b2.grown (ra_grown _ (B + 1) #[.int .i64 0, .int .i64 0, .slice none 0 0]) hBs (fun k hk => by cases hk; omega)⟩
  | true =>
  cases hb : winB bytes 0 1099511627776 with
  | false =>
    have hx := HX.out
    rw [came_no (fun h => win_no hb ⟨h.2.2.2.1, h.2.2.2.2⟩)] at hx
    subst hx
    clear HX
    go_upto_region 2 with (go_at_call 19; refine (within_any _ _ _ _).mono ?_; rintro e wx ⟨rfl, rfl⟩)
    go_wp2_with (refine ra_store rfl (.tmp 6) (.tmp 23) rfl rfl [.int .i64 0, .int .i64 0, .slice none 0 0] rfl y2 rfl rfl rfl ?_)
    refine ra_end2 (by rfl) (by rfl) (by rfl) (ra_put y2 [.int .i64 0, .int .i64 0, .slice none 0 0]) rfl rfl ?_
    exact ⟨none, 0, 0, rfl, Sq.none _ _, b2.grown (ra_grown _ (B + 1) #[.int .i64 0, .int .i64 0, .slice none 0 0]) hBs (fun k hk => by cases hk; omega)⟩
  | true =>
  have va := (win_iff _ _ _).1 ha
  have vb := (win_iff _ _ _).1 hb
  obtain ⟨va0, va1⟩ := va
  obtain ⟨vb0, vb1⟩ := vb
  have hok : CameOk ⟨total, last, l⟩ at_ bytes := ⟨HK.out, va0, (t60_iff _).2 ⟨by omega, va1⟩, vb0, vb1⟩
  have HOK := Lib.hid hok; clear hok
  have i1 : IntKind.i64.wrap (total + bytes) = total + bytes := IntWalk.i64_in _ (by omega)
  go_upto_region 3 with (go_at_call 19; refine (within_any _ _ _ _).mono ?_; rintro e wx ⟨rfl, rfl⟩)
  clear ha hb
  by_cases c1 : total + bytes ≤ 1152921504606846976
  case neg =>
    have d1 : decide (1152921504606846976 < total + bytes) = true := decide_eq_true (by omega)
    have hx := HX.out
    rw [came_over HOK.out c1] at hx
    subst hx
    clear HX c1
    go_upto_region 4 with fail
    go_wp2_with (refine ra_store rfl (.tmp 6) (.tmp 29) rfl rfl [.int .i64 0, .int .i64 0, .slice none 0 0] rfl y2 rfl rfl rfl ?_)
    refine ra_end2 (by rfl) (by rfl) (by rfl) (ra_put y2 [.int .i64 0, .int .i64 0, .slice none 0 0]) rfl rfl ?_
    exact ⟨none, 0, 0, rfl, Sq.none _ _, b2.grown (ra_grown _ (B + 1) #[.int .i64 0, .int .i64 0, .slice none 0 0]) hBs (fun k hk => by cases hk; omega)⟩
  case pos =>
  have d1 : decide (1152921504606846976 < total + bytes) = false := decide_eq_false (by omega)
  have hx := HX.out
  rw [came_ok HOK.out c1] at hx
  subst hx
  clear HX
  have f0 := e2.free 0
  go_upto_region 6 with fail
  have e4 := e2.set 0 (.int .i64 (total + bytes)); simp only [List.set_cons_zero, List.set_cons_succ] at e4
  have y4 := y2.far (p := ⟨B, 0, none⟩) (by simp) (.int .i64 (total + bytes))
  have b4 := b2.grown (ra_gset w2 ⟨B, 0, none⟩ (.int .i64 (total + bytes))) hBs (fun k h => by cases h; exact Nat.le_refl B)
  clear x0 x1 x2 f0 e2 y2 b2 hBs
  generalize w2.setCell ⟨B, 0, none⟩ (.int .i64 (total + bytes)) = w4 at e4 y4 b4 ⊢
  have hBs : B ≤ w4.heap.size := Nat.le_of_lt e4.lt
  have x1 := e4.cell 1 rfl
  have f1 := e4.free 1
  go_upto_region 7 with fail
  have e5 := e4.set 1 (.int .i64 at_); simp only [List.set_cons_zero, List.set_cons_succ] at e5
  have y5 := y4.far (p := ⟨B, 1, none⟩) (by simp) (.int .i64 at_)
  have b5 := b4.grown (ra_gset w4 ⟨B, 1, none⟩ (.int .i64 at_)) hBs (fun k h => by cases h; exact Nat.le_refl B)
  clear x1 f1 e4 y4 b4 hBs
  generalize w4.setCell ⟨B, 1, none⟩ (.int .i64 at_) = w5 at e5 y5 b5 ⊢
  have s5 : Si w5 A n c l := HS.out.si.keep (by rw [HB.out]; exact b5)
  have HZ : Hid (B + 1 < w5.heap.size) := Lib.hid y5.lt
  have x2 := e5.cell 2 rfl
  go_wp2_with fail
  refine (raclone_any A n c l w5 s5 (by omega)).mono ?_
  rintro e w6 ⟨R, d, rfl, hg6, hb6⟩
  have e6 := e5.kept hb6; have y6 := y5.kept hb6; have b6 := b5.trans (hb6.mono (Nat.le_of_lt e5.lt))
  have h6 : B + 1 < w5.heap.size := HZ.out
  have h66 : w5.heap.size ≤ w6.heap.size := hb6.size
  have x2 := e6.cell 2 rfl
  have f2 := e6.free 2
  have HG := Lib.hid hg6
  clear hg6
  go_upto_region 8 with fail
  have e7 := e6.set 2 (.slice R n d); simp only [List.set_cons_zero, List.set_cons_succ] at e7
  have y7 := y6.far (p := ⟨B, 2, none⟩) (by simp) (.slice R n d)
  have b7 := b6.grown (ra_gset w6 ⟨B, 2, none⟩ (.slice R n d)) (by omega) (fun k h => by cases h; exact Nat.le_refl B)
  have g7 : Goti (w6.setCell ⟨B, 2, none⟩ (.slice R n d)) w5.heap.size 3 (.slice R n d) n (l) := ⟨HG.out.row.kept (ra_gset w6 ⟨B, 2, none⟩ (.slice R n d)) (.inr (fun h => by have := (HG.out.row.lt B h).1; omega)), HG.out.wide⟩
  have h7 : w6.heap.size = (w6.setCell ⟨B, 2, none⟩ (.slice R n d)).heap.size := by simp
  have HG7 := Lib.hid g7
  clear x2 f2 g7 e6 y6 b6 HG
  generalize w6.setCell ⟨B, 2, none⟩ (.slice R n d) = w7 at e7 y7 b7 HG7 h7 ⊢
  go_wp2_with (first | (refine ra_load rfl (.tmp 3) rfl rfl e7 rfl ?_) | (refine ra_store rfl (.tmp 6) (.tmp 41) rfl rfl [.int .i64 (total + bytes), .int .i64 at_, .slice R n d] rfl y7 rfl rfl rfl ?_))
  refine ra_end2 (by rfl) (by rfl) (by rfl) (ra_put y7 [.int .i64 (total + bytes), .int .i64 at_, .slice R n d]) rfl rfl ?_
  have g8 : Goti (w7.setRow (B + 1) #[.int .i64 (total + bytes), .int .i64 at_, .slice R n d]) w5.heap.size 3 (.slice R n d) n (l) := ⟨HG7.out.row.kept (ra_grown _ (B + 1) _) (.inr (fun h => by have := (HG7.out.row.lt (B + 1) h).1; omega)), HG7.out.wide⟩
  obtain ⟨R', d', hR', hsn⟩ := g8.sni
  cases hR'
  exact ⟨R, n, d, rfl, hsn.sq (fun b hb => HP.out b (by omega)), b7.grown (ra_grown _ (B + 1) _) (by omega) (fun k hk => by cases hk; omega)⟩

set_option maxRecDepth 100000 in
set_option maxHeartbeats 8000000 in
theorem ratsamp_any (total last : Int) (A : Option Addr) (n c : Nat) (l : List Int) (a b : Int) (p : Nat → Prop) (w : World) (hs : Sq w p A n c l) (hp : ∀ b, w.heap.size ≤ b → p b) :
    Calls Try.prog 13 #[.agg #[.int .i64 total, .int .i64 last, .slice A n c], .int .i64 a, .int .i64 b] w fun e w' => TellSP p w w' e (sampR ⟨total, last, l⟩ a b) := by
  unfold TellSP
  obtain ⟨B, hB⟩ : ∃ B, w.heap.size = B := ⟨_, rfl⟩
  rw [hB] at hp ⊢
  have hl := hs.si.rd.len
  have e0 := (Bx.new w 24 [.int .i64 total, .int .i64 last, .slice A n c]).alloc (.cells #[.int .i64 0, .int .i64 0, .slice none 0 0] 24)
  have y0 := Bx.new (w.alloc (.cells #[.int .i64 total, .int .i64 last, .slice A n c] 24)) 24 [.int .i64 0, .int .i64 0, .slice none 0 0]
  rw [World.size_alloc] at y0
  rw [hB] at e0 y0
  have b0 : Below B w ((w.alloc (.cells #[.int .i64 total, .int .i64 last, .slice A n c] 24)).alloc (.cells #[.int .i64 0, .int .i64 0, .slice none 0 0] 24)) := by rw [← hB]; exact ((Below.refl _ _).alloc (Nat.le_refl _) _).alloc (by simp) _
  have s0 := (hs.si.alloc (.cells #[.int .i64 total, .int .i64 last, .slice A n c] 24)).alloc (.cells #[.int .i64 0, .int .i64 0, .slice none 0 0] 24)
  obtain ⟨x, hx⟩ : ∃ x, sampR ⟨total, last, l⟩ a b = x := ⟨_, rfl⟩
  rw [hx]
  have HX := Lib.hid hx; have HL := Lib.hid hl; have HS := Lib.hid hs; have HB := Lib.hid hB; have HP := Lib.hid hp; clear hx hl hs hp
  go_enter Try.func13, Try.ntmps13
  go_wp2_with (refine ra_load rfl (.tmp 3) rfl rfl e0 rfl ?_)
  generalize (w.alloc (.cells #[.int .i64 total, .int .i64 last, .slice A n c] 24)).alloc (.cells #[.int .i64 0, .int .i64 0, .slice none 0 0] 24) = w1 at e0 y0 b0 s0 ⊢
  clear hB
  refine (ratmay_any total last A n c l _ s0).mono ?_
  rintro e w2 ⟨rfl, hb2⟩
  have e2 := e0.kept hb2; have y2 := y0.kept hb2; have b2 := b0.trans (hb2.mono (Nat.le_of_lt e0.lt))
  have hBs : B ≤ w2.heap.size := Nat.le_of_lt e2.lt
  have x0 := e2.cell 0 rfl; have x1 := e2.cell 1 rfl; have x2 := e2.cell 2 rfl
  clear e0 y0 b0 s0 hb2
  cases hk : ramay ⟨total, last, l⟩ with
  | false =>
    have hx := HX.out
    rw [samp_no (fun h => by have := h.1; rw [hk] at this; cases this)] at hx
    subst hx
    clear HX
    go_upto_region 2 with (go_at_call 19; refine (within_any _ _ _ _).mono ?_; rintro e wx ⟨rfl, rfl⟩)
    go_wp2_with (refine ra_store rfl (.tmp 6) (.tmp 27) rfl rfl [.int .i64 0, .int .i64 0, .slice none 0 0] rfl y2 rfl rfl rfl ?_)
    refine ra_end3 (by rfl) (by rfl) (by rfl) (by rfl) (ra_put y2 [.int .i64 0, .int .i64 0, .slice none 0 0]) rfl rfl ?_
    exact ⟨none, 0, 0, rfl, Sq.none _ _, b2.grown (ra_grown _ (B + 1) #[.int .i64 0, .int .i64 0, .slice none 0 0]) hBs (fun k hk => by cases hk; omega)⟩
  | true =>
  have hv := (ramay_iff _).1 hk
  have t0 : 0 ≤ total := hv.t0; have t1 : total ≤ 1152921504606846976 := hv.t1; have l0 : 0 ≤ last := hv.a0; have l1 : last ≤ 1152921504606846976 := hv.a1
  have hn : n ≤ 10 := by have := hv.len; dsimp only at this; rw [HL.out] at this; exact this
  have HK := Lib.hid hk; clear hk hv
  cases ha : winB a 0 total with
  | false =>
    have hx := HX.out
    rw [samp_no (fun h => win_no ha ⟨h.2.1, h.2.2.1⟩)] at hx
    subst hx
    clear HX
    go_upto_region 2 with (go_at_call 19; refine (within_any _ _ _ _).mono ?_; rintro e wx ⟨rfl, rfl⟩)
    go_wp2_with (refine ra_store rfl (.tmp 6) (.tmp 27) rfl rfl [.int .i64 0, .int .i64 0, .slice none 0 0] rfl y2 rfl rfl rfl ?_)
    refine ra_end3 (by rfl) (by rfl) (by rfl) (by rfl) (ra_put y2 [.int .i64 0, .int .i64 0, .slice none 0 0]) rfl rfl ?_
    exact ⟨none, 0, 0, rfl, Sq.none _ _, b2.grown (ra_grown _ (B + 1) #[.int .i64 0, .int .i64 0, .slice none 0 0]) hBs (fun k hk => by cases hk; omega)⟩
  | true =>
  cases hb : winB b 0 last with
  | false =>
    have hx := HX.out
    rw [samp_no (fun h => win_no hb ⟨h.2.2.2.1, h.2.2.2.2⟩)] at hx
    subst hx
    clear HX
    go_upto_region 2 with (go_at_call 19; refine (within_any _ _ _ _).mono ?_; rintro e wx ⟨rfl, rfl⟩)
    go_wp2_with (refine ra_store rfl (.tmp 6) (.tmp 27) rfl rfl [.int .i64 0, .int .i64 0, .slice none 0 0] rfl y2 rfl rfl rfl ?_)
    refine ra_end3 (by rfl) (by rfl) (by rfl) (by rfl) (ra_put y2 [.int .i64 0, .int .i64 0, .slice none 0 0]) rfl rfl ?_
    exact ⟨none, 0, 0, rfl, Sq.none _ _, b2.grown (ra_grown _ (B + 1) #[.int .i64 0, .int .i64 0, .slice none 0 0]) hBs (fun k hk => by cases hk; omega)⟩
  | true =>
  have va := (win_iff _ _ _).1 ha
  have vb := (win_iff _ _ _).1 hb
  obtain ⟨va0, va1⟩ := va
  obtain ⟨vb0, vb1⟩ := vb
  have hok : SampOk ⟨total, last, l⟩ a b := ⟨HK.out, va0, va1, vb0, vb1⟩
  have HOK := Lib.hid hok; clear hok
  go_upto_region 3 with (go_at_call 19; refine (within_any _ _ _ _).mono ?_; rintro e wx ⟨rfl, rfl⟩)
  clear ha hb
  by_cases c1 : b = last
  case pos =>
    have d1 : (b == last) = true := by simpa using c1
    have hx := HX.out
    rw [samp_same HOK.out (by dsimp only; omega)] at hx
    subst hx
    clear HX c1
    go_upto_region 4 with fail
    have s5 : Si w2 A n c l := HS.out.si.keep (by rw [HB.out]; exact b2)
    have HZ : Hid (B + 1 < w2.heap.size) := Lib.hid y2.lt
    have x2 := e2.cell 2 rfl
    go_wp2_with fail
    refine (raclone_any A n c l w2 s5 (by omega)).mono ?_
    rintro e w6 ⟨R, d, rfl, hg6, hb6⟩
    have e6 := e2.kept hb6; have y6 := y2.kept hb6; have b6 := b2.trans (hb6.mono (Nat.le_of_lt e2.lt))
    have h6 : B + 1 < w2.heap.size := HZ.out
    have h66 : w2.heap.size ≤ w6.heap.size := hb6.size
    have x2 := e6.cell 2 rfl
    have f2 := e6.free 2
    have HG := Lib.hid hg6
    clear hg6
    go_upto_region 5 with fail
    have e7 := e6.set 2 (.slice R n d); simp only [List.set_cons_zero, List.set_cons_succ] at e7
    have y7 := y6.far (p := ⟨B, 2, none⟩) (by simp) (.slice R n d)
    have b7 := b6.grown (ra_gset w6 ⟨B, 2, none⟩ (.slice R n d)) (by omega) (fun k h => by cases h; exact Nat.le_refl B)
    have g7 : Goti (w6.setCell ⟨B, 2, none⟩ (.slice R n d)) w2.heap.size 3 (.slice R n d) n (l) := ⟨HG.out.row.kept (ra_gset w6 ⟨B, 2, none⟩ (.slice R n d)) (.inr (fun h => by have := (HG.out.row.lt B h).1; omega)), HG.out.wide⟩
    have h7 : w6.heap.size = (w6.setCell ⟨B, 2, none⟩ (.slice R n d)).heap.size := by simp
    have HG7 := Lib.hid g7
    clear x2 f2 g7 e6 y6 b6 HG
    generalize w6.setCell ⟨B, 2, none⟩ (.slice R n d) = w7 at e7 y7 b7 HG7 h7 ⊢
    go_wp2_with (first | (refine ra_load rfl (.tmp 3) rfl rfl e7 rfl ?_) | (refine ra_store rfl (.tmp 6) (.tmp 36) rfl rfl [.int .i64 total, .int .i64 last, .slice R n d] rfl y7 rfl rfl rfl ?_))
    refine ra_end3 (by rfl) (by rfl) (by rfl) (by rfl) (ra_put y7 [.int .i64 total, .int .i64 last, .slice R n d]) rfl rfl ?_
    have g8 : Goti (w7.setRow (B + 1) #[.int .i64 total, .int .i64 last, .slice R n d]) w2.heap.size 3 (.slice R n d) n (l) := ⟨HG7.out.row.kept (ra_grown _ (B + 1) _) (.inr (fun h => by have := (HG7.out.row.lt (B + 1) h).1; omega)), HG7.out.wide⟩
    obtain ⟨R', d', hR', hsn⟩ := g8.sni
    cases hR'
    exact ⟨R, n, d, rfl, hsn.sq (fun b hb => HP.out b (by omega)), b7.grown (ra_grown _ (B + 1) _) (by omega) (fun k hk => by cases hk; omega)⟩
  case neg =>
  have d1 : (b == last) = false := by simpa using c1
  have hx := HX.out
  rw [samp_ok HOK.out (by dsimp only; omega)] at hx
  dsimp only at hx
  obtain ⟨aa, haa⟩ : ∃ aa, total - a = aa := ⟨_, rfl⟩
  obtain ⟨dd, hdd⟩ : ∃ dd, last - b = dd := ⟨_, rfl⟩
  rw [haa, hdd] at hx
  have i1 : IntKind.i64.wrap (total - a) = aa := by rw [haa]; exact IntWalk.i64_in _ (by omega)
  have i2 : IntKind.i64.wrap (last - b) = dd := by rw [hdd]; exact IntWalk.i64_in _ (by omega)
  have pp := fun w => persec_any aa dd w (by omega) (by omega) (by omega) (by omega)
  have hnb := num_bd (a := aa) (d := dd) (by omega) (by omega)
  obtain ⟨nr, hnre⟩ : ∃ nr, numR aa dd = nr := ⟨_, rfl⟩
  rw [hnre] at hx hnb pp
  obtain ⟨nr0, nr1⟩ := hnb
  have WN : Hid (W64 nr) := Lib.hid (by unfold W64; omega)
  subst hx
  have HA := Lib.hid haa; have HD := Lib.hid hdd
  clear HX c1 hnre
  go_upto_region 6 with fail
  go_upto_region 7 with (go_at_call 23; refine (pp _).mono ?_; rintro e w3 ⟨rfl, hb3⟩; have e3 := e2.kept hb3; have y3 := y2.kept hb3; have b3 := b2.trans (hb3.mono hBs); have hE3 : w2.heap.size ≤ w3.heap.size := hb3.size)
  clear x0 x1 x2 e2 y2 b2 hb3
  have s5 : Si w3 A n c l := HS.out.si.keep (by rw [HB.out]; exact b3)
  have HZ : Hid (B + 1 < w3.heap.size) := Lib.hid y3.lt
  have x2 := e3.cell 2 rfl
  go_wp2_with fail
  refine (joined_any A n c l nr w3 s5 (by omega) WN).mono ?_
  rintro e w6 ⟨R, m, d, rfl, hg6, hb6⟩
  have e6 := e3.kept hb6; have y6 := y3.kept hb6; have b6 := b3.trans (hb6.mono (Nat.le_of_lt e3.lt))
  have h6 : B + 1 < w3.heap.size := HZ.out
  have h66 : w3.heap.size ≤ w6.heap.size := hb6.size
  have x2 := e6.cell 2 rfl
  have f2 := e6.free 2
  have HG := Lib.hid hg6
  clear hg6
  go_upto_region 8 with fail
  have e7 := e6.set 2 (.slice R m d); simp only [List.set_cons_zero, List.set_cons_succ] at e7
  have y7 := y6.far (p := ⟨B, 2, none⟩) (by simp) (.slice R m d)
  have b7 := b6.grown (ra_gset w6 ⟨B, 2, none⟩ (.slice R m d)) (by omega) (fun k h => by cases h; exact Nat.le_refl B)
  have g7 : Goti (w6.setCell ⟨B, 2, none⟩ (.slice R m d)) w3.heap.size 3 (.slice R m d) m (pushR l nr) := ⟨HG.out.row.kept (ra_gset w6 ⟨B, 2, none⟩ (.slice R m d)) (.inr (fun h => by have := (HG.out.row.lt B h).1; omega)), HG.out.wide⟩
  have h7 : w6.heap.size = (w6.setCell ⟨B, 2, none⟩ (.slice R m d)).heap.size := by simp
  have HG7 := Lib.hid g7
  clear x2 f2 g7 e6 y6 b6 HG
  generalize w6.setCell ⟨B, 2, none⟩ (.slice R m d) = w7 at e7 y7 b7 HG7 h7 ⊢
  go_wp2_with (first | (refine ra_load rfl (.tmp 3) rfl rfl e7 rfl ?_) | (refine ra_store rfl (.tmp 6) (.tmp 51) rfl rfl [.int .i64 total, .int .i64 last, .slice R m d] rfl y7 rfl rfl rfl ?_))
  refine ra_end3 (by rfl) (by rfl) (by rfl) (by rfl) (ra_put y7 [.int .i64 total, .int .i64 last, .slice R m d]) rfl rfl ?_
  have g8 : Goti (w7.setRow (B + 1) #[.int .i64 total, .int .i64 last, .slice R m d]) w3.heap.size 3 (.slice R m d) m (pushR l nr) := ⟨HG7.out.row.kept (ra_grown _ (B + 1) _) (.inr (fun h => by have := (HG7.out.row.lt (B + 1) h).1; omega)), HG7.out.wide⟩
  obtain ⟨R', d', hR', hsn⟩ := g8.sni
  cases hR'
  exact ⟨R, m, d, rfl, hsn.sq (fun b hb => HP.out b (by omega)), b7.grown (ra_grown _ (B + 1) _) (by omega) (fun k hk => by cases hk; omega)⟩
end Go.Proofs.Ytphkenicbbcjjaa
