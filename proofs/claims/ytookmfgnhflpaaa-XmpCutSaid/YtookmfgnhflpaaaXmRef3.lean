/- The reference of package xmp: Slow, Round, Cut, Loss as contracts of the calls. -/
import Derived.Test.YtookmfgnhflpaaaXmRef1
namespace Go.Proofs.Ytookmfgnhflpaaa
open Go.RowKit
set_option linter.unusedVariables false
set_option linter.unusedSimpArgs false

/-- a window and an error -/
def TellX (w w' : World) (e : Ending) (x : Int × Int × Int) : Prop := e = .returned (.tuple #[.agg #[.int .i64 x.1, .int .i64 x.2.1], .int .i64 x.2.2]) ∧ Below w.heap.size w w'

set_option maxRecDepth 100000 in
set_option maxHeartbeats 8000000 in
theorem rxslow_any (c t : Int) (b : Int) (mss most : Int) (w : World) : Calls Try.prog 11 #[.agg #[.int .i64 c, .int .i64 t], .int .i64 b, .int .i64 mss, .int .i64 most] w fun e w' => TellX w w' e (slowR c t b mss most) := by
  unfold TellX
  obtain ⟨B, hB⟩ : ∃ B, w.heap.size = B := ⟨_, rfl⟩
  rw [hB]
  have e0 := (Bx.new w 23 [.int .i64 c, .int .i64 t]).alloc (.cells #[.int .i64 0, .int .i64 0] 23)
  have y0 := Bx.new (w.alloc (.cells #[.int .i64 c, .int .i64 t] 23)) 23 [.int .i64 0, .int .i64 0]
  rw [World.size_alloc] at y0
  rw [hB] at e0 y0
  have b0 : Below B w ((w.alloc (.cells #[.int .i64 c, .int .i64 t] 23)).alloc (.cells #[.int .i64 0, .int .i64 0] 23)) := by rw [← hB]; exact ((Below.refl _ _).alloc (Nat.le_refl _) _).alloc (by simp) _
  obtain ⟨x, hx⟩ : ∃ x, slowR c t b mss most = x := ⟨_, rfl⟩
  rw [hx]
  have HX := Lib.hid hx; clear hx
  go_enter Try.func11, Try.ntmps11
  go_wp2_with (refine xw_load rfl (.tmp 4) rfl rfl e0 rfl ?_)
  generalize (w.alloc (.cells #[.int .i64 c, .int .i64 t] 23)).alloc (.cells #[.int .i64 0, .int .i64 0] 23) = w1 at e0 y0 b0 ⊢
  clear hB
  refine (rxmay_any c t mss most _).mono ?_
  rintro e w2 ⟨rfl, hb2⟩
  have e2 := e0.kept hb2; have y2 := y0.kept hb2; have b2 := b0.trans (hb2.mono (Nat.le_of_lt e0.lt))
  have hBs : B ≤ w2.heap.size := Nat.le_of_lt e2.lt
  have x0 := e2.cell 0 rfl; have x1 := e2.cell 1 rfl
  clear e0 y0 b0 hb2
  cases hk : xmB c t mss most with
  | false =>
    have hx := HX.out
    rw [slow_no (fun h => by have h1 := h.1; rw [hk] at h1; cases h1)] at hx
    subst hx
    clear HX
    go_wp2_with (refine xw_store rfl (.tmp 8) (.tmp 26) rfl rfl [.int .i64 0, .int .i64 0] rfl y2 rfl rfl rfl ?_)
    refine xw_end2 (by rfl) (by rfl) (by rfl) (xw_put y2 [.int .i64 0, .int .i64 0]) rfl rfl ?_
    exact ⟨rfl, b2.grown (xw_grown _ (B + 1) #[.int .i64 0, .int .i64 0]) hBs (fun k hk => by cases hk; omega)⟩
  | true =>
  have hv := (xmB_iff c t mss most).1 hk
  have HV := Lib.hid hv; have HK := Lib.hid hk
  clear hk hv
  by_cases c0 : b < 0
  case pos =>
    have d0 : decide (b < 0) = true := decide_eq_true c0
    have hx := HX.out
    rw [slow_no (fun h => by have h1 := h.2; omega)] at hx
    subst hx
    clear HX
    go_wp2_with (refine xw_store rfl (.tmp 8) (.tmp 26) rfl rfl [.int .i64 0, .int .i64 0] rfl y2 rfl rfl rfl ?_)
    refine xw_end2 (by rfl) (by rfl) (by rfl) (xw_put y2 [.int .i64 0, .int .i64 0]) rfl rfl ?_
    exact ⟨rfl, b2.grown (xw_grown _ (B + 1) #[.int .i64 0, .int .i64 0]) hBs (fun k hk => by cases hk; omega)⟩
  case neg =>
  have d0 : decide (b < 0) = false := decide_eq_false c0
  by_cases c1 : 1099511627776 < b
  case pos =>
    have d1 : decide (1099511627776 < b) = true := decide_eq_true c1
    have hx := HX.out
    rw [slow_no (fun h => by have h1 := h.2; omega)] at hx
    subst hx
    clear HX
    go_wp2_with (refine xw_store rfl (.tmp 8) (.tmp 26) rfl rfl [.int .i64 0, .int .i64 0] rfl y2 rfl rfl rfl ?_)
    refine xw_end2 (by rfl) (by rfl) (by rfl) (xw_put y2 [.int .i64 0, .int .i64 0]) rfl rfl ?_
    exact ⟨rfl, b2.grown (xw_grown _ (B + 1) #[.int .i64 0, .int .i64 0]) hBs (fun k hk => by cases hk; omega)⟩
  case neg =>
  have d1 : decide (1099511627776 < b) = false := decide_eq_false c1
  obtain ⟨v0, v1, v2, v3, v4, v5, v6, v7⟩ := HV.out
  have hok : xmB c t mss most = true ∧ 0 ≤ b ∧ b ≤ 1099511627776 := ⟨HK.out, by omega, by omega⟩
  by_cases k : t ≤ c
  case pos =>
    have dk : decide (t ≤ c) = true := decide_eq_true k
    have hx := HX.out
    rw [slow_stay hok k] at hx
    subst hx
    clear HX hok
    go_wp2_with (first | (refine xw_load rfl (.tmp 4) rfl rfl e2 rfl ?_) | (refine xw_store rfl (.tmp 8) (.tmp 32) rfl rfl [.int .i64 c, .int .i64 t] rfl y2 rfl rfl rfl ?_))
    refine xw_end2 (by rfl) (by rfl) (by rfl) (xw_put y2 [.int .i64 c, .int .i64 t]) rfl rfl ?_
    exact ⟨rfl, b2.grown (xw_grown _ (B + 1) #[.int .i64 c, .int .i64 t]) hBs (fun k hk => by cases hk; omega)⟩
  case neg =>
  have dk : decide (t ≤ c) = false := decide_eq_false k
  have hx := HX.out
  rw [slow_ok hok k] at hx
  clear HX hok
  have i1 : IntKind.i64.wrap (c + b) = c + b := IntWalk.i64_in _ (by omega)
  by_cases g : t < c + b
  case pos =>
    have dg : decide (t < c + b) = true := decide_eq_true g
    rw [Int.min_eq_right (by omega)] at hx
    subst hx
    have pp := fun w => rxclamped_any t t mss most w
    rw [cl2_in (by omega : mss ≤ t ∧ t ≤ most)] at pp
    go_wp2_with fail
    refine (pp _).mono ?_
    rintro e w3 ⟨rfl, hb3⟩
    have e3 := e2.kept hb3; have y3 := y2.kept hb3; have b3 := b2.trans (hb3.mono hBs)
    have hB3 : B ≤ w3.heap.size := Nat.le_of_lt e3.lt
    clear x0 x1 e2 y2 b2 hb3
    go_wp2_with (refine xw_store rfl (.tmp 8) (.tmp 48) rfl rfl [.int .i64 t, .int .i64 t] rfl y3 rfl rfl rfl ?_)
    refine xw_end2 (by rfl) (by rfl) (by rfl) (xw_put y3 [.int .i64 t, .int .i64 t]) rfl rfl ?_
    exact ⟨rfl, b3.grown (xw_grown _ (B + 1) #[.int .i64 t, .int .i64 t]) hB3 (fun k hk => by cases hk; omega)⟩
  case neg =>
  have dg : decide (t < c + b) = false := decide_eq_false g
  rw [Int.min_eq_left (by omega)] at hx
  subst hx
  have pp := fun w => rxclamped_any (c + b) t mss most w
  rw [cl2_in (by omega : mss ≤ c + b ∧ c + b ≤ most), cl2_in (by omega : mss ≤ t ∧ t ≤ most)] at pp
  go_wp2_with fail
  refine (pp _).mono ?_
  rintro e w3 ⟨rfl, hb3⟩
  have e3 := e2.kept hb3; have y3 := y2.kept hb3; have b3 := b2.trans (hb3.mono hBs)
  have hB3 : B ≤ w3.heap.size := Nat.le_of_lt e3.lt
  clear x0 x1 e2 y2 b2 hb3
  go_wp2_with (refine xw_store rfl (.tmp 8) (.tmp 48) rfl rfl [.int .i64 (c + b), .int .i64 t] rfl y3 rfl rfl rfl ?_)
  refine xw_end2 (by rfl) (by rfl) (by rfl) (xw_put y3 [.int .i64 (c + b), .int .i64 t]) rfl rfl ?_
  exact ⟨rfl, b3.grown (xw_grown _ (B + 1) #[.int .i64 (c + b), .int .i64 t]) hB3 (fun k hk => by cases hk; omega)⟩

set_option maxRecDepth 100000 in
set_option maxHeartbeats 8000000 in
theorem rxround_any (c t : Int) (b : Int) (mss most : Int) (w : World) : Calls Try.prog 13 #[.agg #[.int .i64 c, .int .i64 t], .int .i64 b, .int .i64 mss, .int .i64 most] w fun e w' => TellX w w' e (rndR c t b mss most) := by
  unfold TellX
  obtain ⟨B, hB⟩ : ∃ B, w.heap.size = B := ⟨_, rfl⟩
  rw [hB]
  have e0 := (Bx.new w 23 [.int .i64 c, .int .i64 t]).alloc (.cells #[.int .i64 0, .int .i64 0] 23)
  have y0 := Bx.new (w.alloc (.cells #[.int .i64 c, .int .i64 t] 23)) 23 [.int .i64 0, .int .i64 0]
  rw [World.size_alloc] at y0
  rw [hB] at e0 y0
  have b0 : Below B w ((w.alloc (.cells #[.int .i64 c, .int .i64 t] 23)).alloc (.cells #[.int .i64 0, .int .i64 0] 23)) := by rw [← hB]; exact ((Below.refl _ _).alloc (Nat.le_refl _) _).alloc (by simp) _
  obtain ⟨x, hx⟩ : ∃ x, rndR c t b mss most = x := ⟨_, rfl⟩
  rw [hx]
  have HX := Lib.hid hx; clear hx
  go_enter Try.func13, Try.ntmps13
  go_wp2_with (refine xw_load rfl (.tmp 4) rfl rfl e0 rfl ?_)
  generalize (w.alloc (.cells #[.int .i64 c, .int .i64 t] 23)).alloc (.cells #[.int .i64 0, .int .i64 0] 23) = w1 at e0 y0 b0 ⊢
  clear hB
  refine (rxmay_any c t mss most _).mono ?_
  rintro e w2 ⟨rfl, hb2⟩
  have e2 := e0.kept hb2; have y2 := y0.kept hb2; have b2 := b0.trans (hb2.mono (Nat.le_of_lt e0.lt))
  have hBs : B ≤ w2.heap.size := Nat.le_of_lt e2.lt
  have x0 := e2.cell 0 rfl; have x1 := e2.cell 1 rfl
  clear e0 y0 b0 hb2
  cases hk : xmB c t mss most with
  | false =>
    have hx := HX.out
    rw [rnd_no (fun h => by have h1 := h.1; rw [hk] at h1; cases h1)] at hx
    subst hx
    clear HX
    go_wp2_with (refine xw_store rfl (.tmp 8) (.tmp 26) rfl rfl [.int .i64 0, .int .i64 0] rfl y2 rfl rfl rfl ?_)
    refine xw_end2 (by rfl) (by rfl) (by rfl) (xw_put y2 [.int .i64 0, .int .i64 0]) rfl rfl ?_
    exact ⟨rfl, b2.grown (xw_grown _ (B + 1) #[.int .i64 0, .int .i64 0]) hBs (fun k hk => by cases hk; omega)⟩
  | true =>
  have hv := (xmB_iff c t mss most).1 hk
  have HV := Lib.hid hv; have HK := Lib.hid hk
  clear hk hv
  by_cases c0 : b < 0
  case pos =>
    have d0 : decide (b < 0) = true := decide_eq_true c0
    have hx := HX.out
    rw [rnd_no (fun h => by have h1 := h.2; omega)] at hx
    subst hx
    clear HX
    go_wp2_with (refine xw_store rfl (.tmp 8) (.tmp 26) rfl rfl [.int .i64 0, .int .i64 0] rfl y2 rfl rfl rfl ?_)
    refine xw_end2 (by rfl) (by rfl) (by rfl) (xw_put y2 [.int .i64 0, .int .i64 0]) rfl rfl ?_
    exact ⟨rfl, b2.grown (xw_grown _ (B + 1) #[.int .i64 0, .int .i64 0]) hBs (fun k hk => by cases hk; omega)⟩
  case neg =>
  have d0 : decide (b < 0) = false := decide_eq_false c0
  by_cases c1 : mss < b
  case pos =>
    have d1 : decide (mss < b) = true := decide_eq_true c1
    have hx := HX.out
    rw [rnd_no (fun h => by have h1 := h.2; omega)] at hx
    subst hx
    clear HX
    go_wp2_with (refine xw_store rfl (.tmp 8) (.tmp 26) rfl rfl [.int .i64 0, .int .i64 0] rfl y2 rfl rfl rfl ?_)
    refine xw_end2 (by rfl) (by rfl) (by rfl) (xw_put y2 [.int .i64 0, .int .i64 0]) rfl rfl ?_
    exact ⟨rfl, b2.grown (xw_grown _ (B + 1) #[.int .i64 0, .int .i64 0]) hBs (fun k hk => by cases hk; omega)⟩
  case neg =>
  have d1 : decide (mss < b) = false := decide_eq_false c1
  obtain ⟨v0, v1, v2, v3, v4, v5, v6, v7⟩ := HV.out
  have hok : xmB c t mss most = true ∧ 0 ≤ b ∧ b ≤ mss := ⟨HK.out, by omega, by omega⟩
  by_cases k : c < t
  case pos =>
    have dk : decide (c < t) = true := decide_eq_true k
    have hx := HX.out
    rw [rnd_stay hok k] at hx
    subst hx
    clear HX hok
    go_wp2_with (first | (refine xw_load rfl (.tmp 4) rfl rfl e2 rfl ?_) | (refine xw_store rfl (.tmp 8) (.tmp 32) rfl rfl [.int .i64 c, .int .i64 t] rfl y2 rfl rfl rfl ?_))
    refine xw_end2 (by rfl) (by rfl) (by rfl) (xw_put y2 [.int .i64 c, .int .i64 t]) rfl rfl ?_
    exact ⟨rfl, b2.grown (xw_grown _ (B + 1) #[.int .i64 c, .int .i64 t]) hBs (fun k hk => by cases hk; omega)⟩
  case neg =>
  have dk : decide (c < t) = false := decide_eq_false k
  have hx := HX.out
  rw [rnd_ok hok k] at hx
  clear HX hok
  have i1 : IntKind.i64.wrap (c + b) = c + b := IntWalk.i64_in _ (by omega)
  have pp := fun w => rxclamped_any (c + b) t mss most w
  rw [cl2_eq (n := c + b) (by omega), Int.max_eq_left (by omega : mss ≤ c + b), cl2_in (by omega : mss ≤ t ∧ t ≤ most)] at pp
  obtain ⟨z, hz⟩ : ∃ z, min (c + b) most = z := ⟨_, rfl⟩
  rw [hz] at hx pp
  subst hx
  clear hz
  go_wp2_with fail
  refine (pp _).mono ?_
  rintro e w3 ⟨rfl, hb3⟩
  have e3 := e2.kept hb3; have y3 := y2.kept hb3; have b3 := b2.trans (hb3.mono hBs)
  have hB3 : B ≤ w3.heap.size := Nat.le_of_lt e3.lt
  clear x0 x1 e2 y2 b2 hb3
  go_wp2_with (refine xw_store rfl (.tmp 8) (.tmp 41) rfl rfl [.int .i64 z, .int .i64 t] rfl y3 rfl rfl rfl ?_)
  refine xw_end2 (by rfl) (by rfl) (by rfl) (xw_put y3 [.int .i64 z, .int .i64 t]) rfl rfl ?_
  exact ⟨rfl, b3.grown (xw_grown _ (B + 1) #[.int .i64 z, .int .i64 t]) hB3 (fun k hk => by cases hk; omega)⟩

set_option maxRecDepth 100000 in
set_option maxHeartbeats 8000000 in
theorem rxcut_any (c t : Int) (b : Int) (mss most : Int) (w : World) : Calls Try.prog 15 #[.agg #[.int .i64 c, .int .i64 t], .int .i64 b, .int .i64 mss, .int .i64 most] w fun e w' => TellX w w' e (cutR c t b mss most) := by
  unfold TellX
  obtain ⟨B, hB⟩ : ∃ B, w.heap.size = B := ⟨_, rfl⟩
  rw [hB]
  have e0 := (Bx.new w 23 [.int .i64 c, .int .i64 t]).alloc (.cells #[.int .i64 0, .int .i64 0] 23)
  have y0 := Bx.new (w.alloc (.cells #[.int .i64 c, .int .i64 t] 23)) 23 [.int .i64 0, .int .i64 0]
  rw [World.size_alloc] at y0
  rw [hB] at e0 y0
  have b0 : Below B w ((w.alloc (.cells #[.int .i64 c, .int .i64 t] 23)).alloc (.cells #[.int .i64 0, .int .i64 0] 23)) := by rw [← hB]; exact ((Below.refl _ _).alloc (Nat.le_refl _) _).alloc (by simp) _
  obtain ⟨x, hx⟩ : ∃ x, cutR c t b mss most = x := ⟨_, rfl⟩
  rw [hx]
  have HX := Lib.hid hx; clear hx
  go_enter Try.func15, Try.ntmps15
  go_wp2_with (refine xw_load rfl (.tmp 4) rfl rfl e0 rfl ?_)
  generalize (w.alloc (.cells #[.int .i64 c, .int .i64 t] 23)).alloc (.cells #[.int .i64 0, .int .i64 0] 23) = w1 at e0 y0 b0 ⊢
  clear hB
  refine (rxmay_any c t mss most _).mono ?_
  rintro e w2 ⟨rfl, hb2⟩
  have e2 := e0.kept hb2; have y2 := y0.kept hb2; have b2 := b0.trans (hb2.mono (Nat.le_of_lt e0.lt))
  have hBs : B ≤ w2.heap.size := Nat.le_of_lt e2.lt
  have x0 := e2.cell 0 rfl; have x1 := e2.cell 1 rfl
  clear e0 y0 b0 hb2
  cases hk : xmB c t mss most with
  | false =>
    have hx := HX.out
    rw [cut_no (fun h => by have h1 := h.1; rw [hk] at h1; cases h1)] at hx
    subst hx
    clear HX
    go_wp2_with (refine xw_store rfl (.tmp 8) (.tmp 27) rfl rfl [.int .i64 0, .int .i64 0] rfl y2 rfl rfl rfl ?_)
    refine xw_end2 (by rfl) (by rfl) (by rfl) (xw_put y2 [.int .i64 0, .int .i64 0]) rfl rfl ?_
    exact ⟨rfl, b2.grown (xw_grown _ (B + 1) #[.int .i64 0, .int .i64 0]) hBs (fun k hk => by cases hk; omega)⟩
  | true =>
  have hv := (xmB_iff c t mss most).1 hk
  have HV := Lib.hid hv; have HK := Lib.hid hk
  clear hk hv
  by_cases c0 : b < 0
  case pos =>
    have d0 : decide (b < 0) = true := decide_eq_true c0
    have hx := HX.out
    rw [cut_no (fun h => by have h1 := h.2; omega)] at hx
    subst hx
    clear HX
    go_wp2_with (refine xw_store rfl (.tmp 8) (.tmp 27) rfl rfl [.int .i64 0, .int .i64 0] rfl y2 rfl rfl rfl ?_)
    refine xw_end2 (by rfl) (by rfl) (by rfl) (xw_put y2 [.int .i64 0, .int .i64 0]) rfl rfl ?_
    exact ⟨rfl, b2.grown (xw_grown _ (B + 1) #[.int .i64 0, .int .i64 0]) hBs (fun k hk => by cases hk; omega)⟩
  case neg =>
  have d0 : decide (b < 0) = false := decide_eq_false c0
  by_cases c1 : 1024 < b
  case pos =>
    have d1 : decide (1024 < b) = true := decide_eq_true c1
    have hx := HX.out
    rw [cut_no (fun h => by have h1 := h.2; omega)] at hx
    subst hx
    clear HX
    go_wp2_with (refine xw_store rfl (.tmp 8) (.tmp 27) rfl rfl [.int .i64 0, .int .i64 0] rfl y2 rfl rfl rfl ?_)
    refine xw_end2 (by rfl) (by rfl) (by rfl) (xw_put y2 [.int .i64 0, .int .i64 0]) rfl rfl ?_
    exact ⟨rfl, b2.grown (xw_grown _ (B + 1) #[.int .i64 0, .int .i64 0]) hBs (fun k hk => by cases hk; omega)⟩
  case neg =>
  have d1 : decide (1024 < b) = false := decide_eq_false c1
  obtain ⟨v0, v1, v2, v3, v4, v5, v6, v7⟩ := HV.out
  have hok : xmB c t mss most = true ∧ 0 ≤ b ∧ b ≤ 1024 := ⟨HK.out, by omega, by omega⟩
  have hx := HX.out
  rw [cut_ok hok] at hx
  clear HX hok
  obtain ⟨u0, u1, u2, u3⟩ := cut_bd (c := c) (b := b) (by omega) (by omega) (by omega)
  have hmd : mdOk c b 2048 = true := by
    unfold mdOk
    rw [(inB_iff c).2 (by omega), (inB_iff b).2 (by omega), (inB_iff 2048).2 (by omega), decide_eq_true (by omega : (1 : Int) ≤ 2048), (inB_iff _).2 (by omega)]
    rfl
  have mm := fun w => rmd_any c b 2048 w
  rw [hmd] at mm
  obtain ⟨y, hy⟩ : ∃ y, c * b / 2048 = y := ⟨_, rfl⟩
  rw [hy] at mm hx u0 u1
  have ht : tell y true = y := rfl
  rw [ht] at mm
  clear u2 u3 hy hmd ht
  have i1 : IntKind.i64.wrap (c - y) = c - y := IntWalk.i64_in _ (by omega)
  have pp := fun w => rxclamped_any (c - y) (c - y) mss most w
  rw [cl2_eq (n := c - y) (by omega), Int.min_eq_left (by omega : max (c - y) mss ≤ most), Int.max_comm] at pp
  obtain ⟨z, hz⟩ : ∃ z, max mss (c - y) = z := ⟨_, rfl⟩
  rw [hz] at hx pp
  subst hx
  clear hz
  go_upto_region 5 with (go_at_call 24; refine (mm _).mono ?_; rintro e wx ⟨rfl, rfl⟩)
  go_wp2_with fail
  refine (pp _).mono ?_
  rintro e w3 ⟨rfl, hb3⟩
  have e3 := e2.kept hb3; have y3 := y2.kept hb3; have b3 := b2.trans (hb3.mono hBs)
  have hB3 : B ≤ w3.heap.size := Nat.le_of_lt e3.lt
  clear x0 x1 e2 y2 b2 hb3
  go_wp2_with (refine xw_store rfl (.tmp 8) (.tmp 45) rfl rfl [.int .i64 z, .int .i64 z] rfl y3 rfl rfl rfl ?_)
  refine xw_end2 (by rfl) (by rfl) (by rfl) (xw_put y3 [.int .i64 z, .int .i64 z]) rfl rfl ?_
  exact ⟨rfl, b3.grown (xw_grown _ (B + 1) #[.int .i64 z, .int .i64 z]) hB3 (fun k hk => by cases hk; omega)⟩

set_option maxRecDepth 100000 in
set_option maxHeartbeats 8000000 in
theorem rxloss_any (c t : Int) (all : Bool) (mss most : Int) (w : World) : Calls Try.prog 17 #[.agg #[.int .i64 c, .int .i64 t], .bool all, .int .i64 mss, .int .i64 most] w fun e w' => TellX w w' e (lossR c t all mss most) := by
  unfold TellX
  obtain ⟨B, hB⟩ : ∃ B, w.heap.size = B := ⟨_, rfl⟩
  rw [hB]
  have e0 := (Bx.new w 23 [.int .i64 c, .int .i64 t]).alloc (.cells #[.int .i64 0, .int .i64 0] 23)
  have y0 := Bx.new (w.alloc (.cells #[.int .i64 c, .int .i64 t] 23)) 23 [.int .i64 0, .int .i64 0]
  rw [World.size_alloc] at y0
  rw [hB] at e0 y0
  have b0 : Below B w ((w.alloc (.cells #[.int .i64 c, .int .i64 t] 23)).alloc (.cells #[.int .i64 0, .int .i64 0] 23)) := by rw [← hB]; exact ((Below.refl _ _).alloc (Nat.le_refl _) _).alloc (by simp) _
  obtain ⟨x, hx⟩ : ∃ x, lossR c t all mss most = x := ⟨_, rfl⟩
  rw [hx]
  have HX := Lib.hid hx; clear hx
  go_enter Try.func17, Try.ntmps17
  go_wp2_with (refine xw_load rfl (.tmp 4) rfl rfl e0 rfl ?_)
  generalize (w.alloc (.cells #[.int .i64 c, .int .i64 t] 23)).alloc (.cells #[.int .i64 0, .int .i64 0] 23) = w1 at e0 y0 b0 ⊢
  clear hB
  refine (rxmay_any c t mss most _).mono ?_
  rintro e w2 ⟨rfl, hb2⟩
  have e2 := e0.kept hb2; have y2 := y0.kept hb2; have b2 := b0.trans (hb2.mono (Nat.le_of_lt e0.lt))
  have hBs : B ≤ w2.heap.size := Nat.le_of_lt e2.lt
  have x0 := e2.cell 0 rfl; have x1 := e2.cell 1 rfl
  clear e0 y0 b0 hb2
  cases hk : xmB c t mss most with
  | false =>
    have hx := HX.out
    rw [loss_no (fun h => by have h1 := h; rw [hk] at h1; cases h1)] at hx
    subst hx
    clear HX
    go_wp2_with (refine xw_store rfl (.tmp 8) (.tmp 18) rfl rfl [.int .i64 0, .int .i64 0] rfl y2 rfl rfl rfl ?_)
    refine xw_end2 (by rfl) (by rfl) (by rfl) (xw_put y2 [.int .i64 0, .int .i64 0]) rfl rfl ?_
    exact ⟨rfl, b2.grown (xw_grown _ (B + 1) #[.int .i64 0, .int .i64 0]) hBs (fun k hk => by cases hk; omega)⟩
  | true =>
  have hv := (xmB_iff c t mss most).1 hk
  have HV := Lib.hid hv; have HK := Lib.hid hk
  clear hk hv
  obtain ⟨v0, v1, v2, v3, v4, v5, v6, v7⟩ := HV.out
  have hx := HX.out
  rw [loss_ok HK.out] at hx
  clear HX
  unfold lossN at hx
  obtain ⟨y, hy⟩ : ∃ y, c / 2 = y := ⟨_, rfl⟩
  have hq : Int.tdiv c 2 = y := by rw [Int.tdiv_eq_ediv_of_nonneg (by omega), hy]
  have hy2 : 2 * y ≤ c := by omega
  have hy3 : 0 ≤ y := by omega
  rw [hy] at hx
  have i2 : IntKind.i64.wrap (2 * mss) = 2 * mss := IntWalk.i64_in _ (by omega)
  have i3 : IntKind.i64.wrap y = y := IntWalk.i64_in _ (by omega)
  by_cases g : y < 2 * mss
  case pos =>
    have dg : decide (y < 2 * mss) = true := decide_eq_true g
    rw [Int.max_eq_right (by omega)] at hx
    have pa := cl2_eq (n := 2 * mss) (low := mss) (high := most) (by omega)
    rw [Int.max_eq_left (by omega : mss ≤ 2 * mss)] at pa
    obtain ⟨z, hz⟩ : ∃ z, min (2 * mss) most = z := ⟨_, rfl⟩
    rw [hz] at hx pa
    clear hy hz
    cases all with
    | true =>
      have pp := fun w => rxclamped_any mss (2 * mss) mss most w
      rw [cl2_in (by omega : mss ≤ mss ∧ mss ≤ most), pa] at pp
      rw [if_pos rfl] at hx
      subst hx
      clear pa
      go_wp2_with fail
      refine (pp _).mono ?_
      rintro e w3 ⟨rfl, hb3⟩
      have e3 := e2.kept hb3; have y3 := y2.kept hb3; have b3 := b2.trans (hb3.mono hBs)
      have hB3 : B ≤ w3.heap.size := Nat.le_of_lt e3.lt
      clear x0 x1 e2 y2 b2 hb3
      go_wp2_with (refine xw_store rfl (.tmp 8) (.tmp 33) rfl rfl [.int .i64 mss, .int .i64 z] rfl y3 rfl rfl rfl ?_)
      refine xw_end2 (by rfl) (by rfl) (by rfl) (xw_put y3 [.int .i64 mss, .int .i64 z]) rfl rfl ?_
      exact ⟨rfl, b3.grown (xw_grown _ (B + 1) #[.int .i64 mss, .int .i64 z]) hB3 (fun k hk => by cases hk; omega)⟩
    | false =>
      have pp := fun w => rxclamped_any (2 * mss) (2 * mss) mss most w
      rw [pa] at pp
      rw [if_neg (by simp)] at hx
      subst hx
      clear pa
      go_wp2_with fail
      refine (pp _).mono ?_
      rintro e w3 ⟨rfl, hb3⟩
      have e3 := e2.kept hb3; have y3 := y2.kept hb3; have b3 := b2.trans (hb3.mono hBs)
      have hB3 : B ≤ w3.heap.size := Nat.le_of_lt e3.lt
      clear x0 x1 e2 y2 b2 hb3
      go_wp2_with (refine xw_store rfl (.tmp 8) (.tmp 38) rfl rfl [.int .i64 z, .int .i64 z] rfl y3 rfl rfl rfl ?_)
      refine xw_end2 (by rfl) (by rfl) (by rfl) (xw_put y3 [.int .i64 z, .int .i64 z]) rfl rfl ?_
      exact ⟨rfl, b3.grown (xw_grown _ (B + 1) #[.int .i64 z, .int .i64 z]) hB3 (fun k hk => by cases hk; omega)⟩
  case neg =>
    have dg : decide (y < 2 * mss) = false := decide_eq_false g
    rw [Int.max_eq_left (by omega), Int.min_eq_left (by omega)] at hx
    have pa := cl2_in (n := y) (low := mss) (high := most) (by omega)
    clear hy
    cases all with
    | true =>
      have pp := fun w => rxclamped_any mss y mss most w
      rw [cl2_in (by omega : mss ≤ mss ∧ mss ≤ most), pa] at pp
      rw [if_pos rfl] at hx
      subst hx
      clear pa
      go_wp2_with fail
      refine (pp _).mono ?_
      rintro e w3 ⟨rfl, hb3⟩
      have e3 := e2.kept hb3; have y3 := y2.kept hb3; have b3 := b2.trans (hb3.mono hBs)
      have hB3 : B ≤ w3.heap.size := Nat.le_of_lt e3.lt
      clear x0 x1 e2 y2 b2 hb3
      go_wp2_with (refine xw_store rfl (.tmp 8) (.tmp 33) rfl rfl [.int .i64 mss, .int .i64 y] rfl y3 rfl rfl rfl ?_)
      refine xw_end2 (by rfl) (by rfl) (by rfl) (xw_put y3 [.int .i64 mss, .int .i64 y]) rfl rfl ?_
      exact ⟨rfl, b3.grown (xw_grown _ (B + 1) #[.int .i64 mss, .int .i64 y]) hB3 (fun k hk => by cases hk; omega)⟩
    | false =>
      have pp := fun w => rxclamped_any y y mss most w
      rw [pa] at pp
      rw [if_neg (by simp)] at hx
      subst hx
      clear pa
      go_wp2_with fail
      refine (pp _).mono ?_
      rintro e w3 ⟨rfl, hb3⟩
      have e3 := e2.kept hb3; have y3 := y2.kept hb3; have b3 := b2.trans (hb3.mono hBs)
      have hB3 : B ≤ w3.heap.size := Nat.le_of_lt e3.lt
      clear x0 x1 e2 y2 b2 hb3
      go_wp2_with (refine xw_store rfl (.tmp 8) (.tmp 38) rfl rfl [.int .i64 y, .int .i64 y] rfl y3 rfl rfl rfl ?_)
      refine xw_end2 (by rfl) (by rfl) (by rfl) (xw_put y3 [.int .i64 y, .int .i64 y]) rfl rfl ?_
      exact ⟨rfl, b3.grown (xw_grown _ (B + 1) #[.int .i64 y, .int .i64 y]) hB3 (fun k hk => by cases hk; omega)⟩
end Go.Proofs.Ytookmfgnhflpaaa
