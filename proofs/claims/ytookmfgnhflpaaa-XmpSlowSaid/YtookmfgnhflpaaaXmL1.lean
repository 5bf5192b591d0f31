/- Package xmp as it landed: within, May, the five operations as contracts of the calls. -/
import Derived.Test.YtookmfgnhflpaaaXmRef3
import Derived.Laws.EntriesVeiled
namespace Go.Proofs.Ytookmfgnhflpaaa
open Go.RowKit
set_option linter.unusedVariables false
set_option linter.unusedSimpArgs false

/-- low to high -/
def xinB (n lo hi : Int) : Bool := decide (lo ≤ n) && decide (n ≤ hi)
theorem xin_iff (n lo hi : Int) : xinB n lo hi = true ↔ lo ≤ n ∧ n ≤ hi := by unfold xinB; simp
theorem xwin_any (n lo hi : Int) (w : World) :
    Calls Try.prog 25 #[.int .i64 n, .int .i64 lo, .int .i64 hi] w fun e w' => e = .returned (.bool (xinB n lo hi)) ∧ w = w' := by
  by_cases h1 : lo ≤ n
  · have e1 : xinB n lo hi = decide (n ≤ hi) := by unfold xinB; rw [decide_eq_true h1]; rfl
    rw [e1]
    clear e1
    have d1 : decide (lo ≤ n) = true := decide_eq_true h1
    go_enter Try.func25, Try.ntmps25
    go_wp2
    go_ret
    exact ⟨rfl, rfl⟩
  · have e1 : xinB n lo hi = false := by unfold xinB; rw [decide_eq_false h1]; rfl
    rw [e1]
    clear e1
    have d1 : decide (lo ≤ n) = false := decide_eq_false h1
    go_enter Try.func25, Try.ntmps25
    go_wp2
    go_ret
    exact ⟨rfl, rfl⟩
theorem xmB_win (c t mss most : Int) : xmB c t mss most = (xinB mss 1 1460 && (xinB most mss 1073741824 && (xinB c mss most && xinB t mss most))) := by
  rw [Bool.eq_iff_iff, xmB_iff]
  simp only [Bool.and_eq_true, xin_iff]
  exact ⟨fun ⟨a, b, c, d, e, f, g, h⟩ => ⟨⟨a, b⟩, ⟨c, d⟩, ⟨e, f⟩, g, h⟩, fun ⟨⟨a, b⟩, ⟨c, d⟩, ⟨e, f⟩, g, h⟩ => ⟨a, b, c, d, e, f, g, h⟩⟩

set_option maxRecDepth 100000 in
set_option maxHeartbeats 8000000 in
theorem xwmay_any (c t mss most : Int) (w : World) :
    Calls Try.prog 20 #[.agg #[.int .i64 c, .int .i64 t], .int .i64 mss, .int .i64 most] w fun e w' => e = .returned (.bool (xmB c t mss most)) ∧ Below w.heap.size w w' := by
  obtain ⟨B, hB⟩ : ∃ B, w.heap.size = B := ⟨_, rfl⟩
  have e0 := Bx.new w 23 [.int .i64 c, .int .i64 t]
  rw [hB] at e0 ⊢
  have b0 : Below B w (w.alloc (.cells #[.int .i64 c, .int .i64 t] 23)) := by rw [← hB]; exact (Below.refl _ _).alloc (Nat.le_refl _) _
  obtain ⟨q, hq⟩ : ∃ q, xmB c t mss most = q := ⟨_, rfl⟩
  rw [hq]
  rw [xmB_win] at hq
  go_enter Try.func20, Try.ntmps20
  go_upto_region 1 with fail
  change Code.wp _ _ _ _ (w.alloc (.cells #[.int .i64 c, .int .i64 t] 23))
  generalize w.alloc (.cells #[.int .i64 c, .int .i64 t] 23) = w1 at e0 b0 ⊢
  have c0 := e0.cell 0 rfl; have c1 := e0.cell 1 rfl
  cases h0 : xinB mss 1 1460 with
  | false =>
    have hF : q = false := by rw [← hq]; simp [h0]
    subst hF
    clear hq
    go_wp2_with (go_at_call 25; refine (xwin_any _ _ _ _).mono ?_; rintro e wx ⟨rfl, rfl⟩)
    go_ret
    exact ⟨rfl, b0⟩
  | true =>
  cases h1 : xinB most mss 1073741824 with
  | false =>
    have hF : q = false := by rw [← hq]; simp [h0, h1]
    subst hF
    clear hq
    go_wp2_with (go_at_call 25; refine (xwin_any _ _ _ _).mono ?_; rintro e wx ⟨rfl, rfl⟩)
    go_ret
    exact ⟨rfl, b0⟩
  | true =>
  cases h2 : xinB c mss most with
  | false =>
    have hF : q = false := by rw [← hq]; simp [h0, h1, h2]
    subst hF
    clear hq
    go_wp2_with (go_at_call 25; refine (xwin_any _ _ _ _).mono ?_; rintro e wx ⟨rfl, rfl⟩)
    go_ret
    exact ⟨rfl, b0⟩
  | true =>
  have hF : q = xinB t mss most := by rw [← hq]; simp [h0, h1, h2]
  subst hF
  clear hq
  go_wp2_with (go_at_call 25; refine (xwin_any _ _ _ _).mono ?_; rintro e wx ⟨rfl, rfl⟩)
  go_ret
  exact ⟨rfl, b0⟩

/-- what the operations make of a window -/
def slC (c t n : Int) : Int := if c < t then min (c + n) t else c
def grC (c t n : Int) : Int := if t ≤ c then c + n else c
def rdC (c n : Int) : Int := c - c * n / 2048
def loC (c mss : Int) : Int := max (c / 2) (2 * mss)
set_option maxRecDepth 100000 in
set_option maxHeartbeats 8000000 in
theorem slowed_any (c t n : Int) (w : World) (h0 : 0 ≤ c ∧ c ≤ 1073741824) (h1 : 0 ≤ n ∧ n ≤ 1099511627776) :
    Calls Try.prog 41 #[.agg #[.int .i64 c, .int .i64 t], .int .i64 n] w fun e w' => e = .returned (.agg #[.int .i64 (slC c t n), .int .i64 t]) ∧ Below w.heap.size w w' := by
  obtain ⟨q, hq⟩ : ∃ q, slC c t n = q := ⟨_, rfl⟩
  rw [hq]
  unfold slC at hq
  have i1 : IntKind.i64.wrap (c + n) = c + n := IntWalk.i64_in _ (by omega)
  clear h0 h1
  obtain ⟨B, hB⟩ : ∃ B, w.heap.size = B := ⟨_, rfl⟩
  have e0 := (Bx.new w 23 [.int .i64 c, .int .i64 t]).alloc (.cells #[.int .i64 0, .int .i64 0] 23)
  have y0 := Bx.new (w.alloc (.cells #[.int .i64 c, .int .i64 t] 23)) 23 [.int .i64 0, .int .i64 0]
  rw [World.size_alloc] at y0
  rw [hB] at e0 y0 ⊢
  have b0 : Below B w ((w.alloc (.cells #[.int .i64 c, .int .i64 t] 23)).alloc (.cells #[.int .i64 0, .int .i64 0] 23)) := by rw [← hB]; exact ((Below.refl _ _).alloc (Nat.le_refl _) _).alloc (by simp) _
  go_enter Try.func41, Try.ntmps41
  go_upto_region 1 with fail
  generalize (w.alloc (.cells #[.int .i64 c, .int .i64 t] 23)).alloc (.cells #[.int .i64 0, .int .i64 0] 23) = w1 at e0 y0 b0 ⊢
  have hBs : B ≤ w1.heap.size := Nat.le_of_lt e0.lt
  have c0 := e0.cell 0 rfl; have c1 := e0.cell 1 rfl
  by_cases k : c < t
  case neg =>
    have dk : decide (c < t) = false := decide_eq_false k
    rw [if_neg k] at hq
    subst hq
    have e1 := e0; have y1 := y0; have b1 := b0
    have hB1 := hBs
    clear k
    go_wp2_with (first | (refine xw_load rfl (.tmp 2) rfl rfl e1 rfl ?_) | (refine xw_store rfl (.tmp 4) (.tmp 18) rfl rfl [.int .i64 c, .int .i64 t] rfl y1 rfl rfl rfl ?_))
    refine xw_end1 (by rfl) (by rfl) (xw_put y1 [.int .i64 c, .int .i64 t]) rfl rfl ?_
    exact ⟨rfl, b1.grown (xw_grown _ (B + 1) #[.int .i64 c, .int .i64 t]) hB1 (fun k hk => by cases hk; omega)⟩
  case pos =>
  have dk : decide (c < t) = true := decide_eq_true k
  rw [if_pos k] at hq
  clear k
  subst hq
  have e1 : Bx (w1.setCell ⟨B, 0, none⟩ (.int .i64 (min (c + n) t))) B 23 [.int .i64 (min (c + n) t), .int .i64 t] := e0.set 0 _
  have y1 : Bx (w1.setCell ⟨B, 0, none⟩ (.int .i64 (min (c + n) t))) (B + 1) 23 [.int .i64 0, .int .i64 0] := y0.far (by show B + 1 ≠ B; omega) _
  have b1 : Below B w (w1.setCell ⟨B, 0, none⟩ (.int .i64 (min (c + n) t))) := b0.grown (xw_gset _ _ _) hBs (fun k hk => by cases hk; exact Nat.le_refl B)
  have hB1 := Nat.le_of_lt e1.lt
  have fr0 := e0.free 0
  go_wp2_with (first | (refine xw_load rfl (.tmp 2) rfl rfl e1 rfl ?_) | (refine xw_store rfl (.tmp 4) (.tmp 18) rfl rfl [.int .i64 (min (c + n) t), .int .i64 t] rfl y1 rfl rfl rfl ?_))
  refine xw_end1 (by rfl) (by rfl) (xw_put y1 [.int .i64 (min (c + n) t), .int .i64 t]) rfl rfl ?_
  exact ⟨rfl, b1.grown (xw_grown _ (B + 1) #[.int .i64 (min (c + n) t), .int .i64 t]) hB1 (fun k hk => by cases hk; omega)⟩

set_option maxRecDepth 100000 in
set_option maxHeartbeats 8000000 in
theorem grown_any (c t n : Int) (w : World) (h0 : 0 ≤ c ∧ c ≤ 1073741824) (h1 : 0 ≤ n ∧ n ≤ 1099511627776) :
    Calls Try.prog 42 #[.agg #[.int .i64 c, .int .i64 t], .int .i64 n] w fun e w' => e = .returned (.agg #[.int .i64 (grC c t n), .int .i64 t]) ∧ Below w.heap.size w w' := by
  obtain ⟨q, hq⟩ : ∃ q, grC c t n = q := ⟨_, rfl⟩
  rw [hq]
  unfold grC at hq
  have i1 : IntKind.i64.wrap (c + n) = c + n := IntWalk.i64_in _ (by omega)
  clear h0 h1
  obtain ⟨B, hB⟩ : ∃ B, w.heap.size = B := ⟨_, rfl⟩
  have e0 := (Bx.new w 23 [.int .i64 c, .int .i64 t]).alloc (.cells #[.int .i64 0, .int .i64 0] 23)
  have y0 := Bx.new (w.alloc (.cells #[.int .i64 c, .int .i64 t] 23)) 23 [.int .i64 0, .int .i64 0]
  rw [World.size_alloc] at y0
  rw [hB] at e0 y0 ⊢
  have b0 : Below B w ((w.alloc (.cells #[.int .i64 c, .int .i64 t] 23)).alloc (.cells #[.int .i64 0, .int .i64 0] 23)) := by rw [← hB]; exact ((Below.refl _ _).alloc (Nat.le_refl _) _).alloc (by simp) _
  go_enter Try.func42, Try.ntmps42
  go_upto_region 1 with fail
  generalize (w.alloc (.cells #[.int .i64 c, .int .i64 t] 23)).alloc (.cells #[.int .i64 0, .int .i64 0] 23) = w1 at e0 y0 b0 ⊢
  have hBs : B ≤ w1.heap.size := Nat.le_of_lt e0.lt
  have c0 := e0.cell 0 rfl; have c1 := e0.cell 1 rfl
  by_cases k : t ≤ c
  case neg =>
    have dk : decide (t ≤ c) = false := decide_eq_false k
    rw [if_neg k] at hq
    subst hq
    have e1 := e0; have y1 := y0; have b1 := b0
    have hB1 := hBs
    clear k
    go_wp2_with (first | (refine xw_load rfl (.tmp 2) rfl rfl e1 rfl ?_) | (refine xw_store rfl (.tmp 4) (.tmp 15) rfl rfl [.int .i64 c, .int .i64 t] rfl y1 rfl rfl rfl ?_))
    refine xw_end1 (by rfl) (by rfl) (xw_put y1 [.int .i64 c, .int .i64 t]) rfl rfl ?_
    exact ⟨rfl, b1.grown (xw_grown _ (B + 1) #[.int .i64 c, .int .i64 t]) hB1 (fun k hk => by cases hk; omega)⟩
  case pos =>
  have dk : decide (t ≤ c) = true := decide_eq_true k
  rw [if_pos k] at hq
  clear k
  subst hq
  have e1 : Bx (w1.setCell ⟨B, 0, none⟩ (.int .i64 (c + n))) B 23 [.int .i64 (c + n), .int .i64 t] := e0.set 0 _
  have y1 : Bx (w1.setCell ⟨B, 0, none⟩ (.int .i64 (c + n))) (B + 1) 23 [.int .i64 0, .int .i64 0] := y0.far (by show B + 1 ≠ B; omega) _
  have b1 : Below B w (w1.setCell ⟨B, 0, none⟩ (.int .i64 (c + n))) := b0.grown (xw_gset _ _ _) hBs (fun k hk => by cases hk; exact Nat.le_refl B)
  have hB1 := Nat.le_of_lt e1.lt
  have fr0 := e0.free 0
  go_wp2_with (first | (refine xw_load rfl (.tmp 2) rfl rfl e1 rfl ?_) | (refine xw_store rfl (.tmp 4) (.tmp 15) rfl rfl [.int .i64 (c + n), .int .i64 t] rfl y1 rfl rfl rfl ?_))
  refine xw_end1 (by rfl) (by rfl) (xw_put y1 [.int .i64 (c + n), .int .i64 t]) rfl rfl ?_
  exact ⟨rfl, b1.grown (xw_grown _ (B + 1) #[.int .i64 (c + n), .int .i64 t]) hB1 (fun k hk => by cases hk; omega)⟩

set_option maxRecDepth 100000 in
set_option maxHeartbeats 8000000 in
theorem reduced_any (c t n : Int) (w : World) (h0 : 0 ≤ c ∧ c ≤ 1073741824) (h1 : 0 ≤ n ∧ n ≤ 1024) :
    Calls Try.prog 43 #[.agg #[.int .i64 c, .int .i64 t], .int .i64 n] w fun e w' => e = .returned (.agg #[.int .i64 (rdC c n), .int .i64 (rdC c n)]) ∧ Below w.heap.size w w' := by
  obtain ⟨u0, u1, u2, u3⟩ := cut_bd h0.1 h1.1 h1.2
  obtain ⟨p, hp⟩ : ∃ p, c * n = p := ⟨_, rfl⟩
  have i1 : IntKind.i64.wrap p = p := IntWalk.i64_in _ (by omega)
  have hdiv : Int.tdiv p 2048 = p / 2048 := Int.tdiv_eq_ediv_of_nonneg (by omega)
  have hr : rdC c n = c - p / 2048 := by unfold rdC; rw [hp]
  rw [hr]
  rw [hp] at u0 u1
  obtain ⟨y, hy⟩ : ∃ y, p / 2048 = y := ⟨_, rfl⟩
  rw [hy] at u0 u1 hdiv ⊢
  have i2 : IntKind.i64.wrap y = y := IntWalk.i64_in _ (by omega)
  have i3 : IntKind.i64.wrap (c - y) = c - y := IntWalk.i64_in _ (by omega)
  clear h0 h1 u0 u1 u2 u3 hr hy
  obtain ⟨B, hB⟩ : ∃ B, w.heap.size = B := ⟨_, rfl⟩
  have e0 := (Bx.new w 23 [.int .i64 c, .int .i64 t]).alloc (.cells #[.int .i64 0, .int .i64 0] 23)
  have y0 := Bx.new (w.alloc (.cells #[.int .i64 c, .int .i64 t] 23)) 23 [.int .i64 0, .int .i64 0]
  rw [World.size_alloc] at y0
  rw [hB] at e0 y0 ⊢
  have b0 : Below B w ((w.alloc (.cells #[.int .i64 c, .int .i64 t] 23)).alloc (.cells #[.int .i64 0, .int .i64 0] 23)) := by rw [← hB]; exact ((Below.refl _ _).alloc (Nat.le_refl _) _).alloc (by simp) _
  go_enter Try.func43, Try.ntmps43
  go_upto_region 1 with fail
  generalize (w.alloc (.cells #[.int .i64 c, .int .i64 t] 23)).alloc (.cells #[.int .i64 0, .int .i64 0] 23) = w1 at e0 y0 b0 ⊢
  have hBs : B ≤ w1.heap.size := Nat.le_of_lt e0.lt
  have c0 := e0.cell 0 rfl; have c1 := e0.cell 1 rfl
  have e1 := e0; have y1 := y0; have b1 := b0
  have hB1 := hBs
  go_wp2_with (refine xw_store rfl (.tmp 4) (.tmp 16) rfl rfl [.int .i64 (c - y), .int .i64 (c - y)] rfl y1 rfl rfl rfl ?_)
  refine xw_end1 (by rfl) (by rfl) (xw_put y1 [.int .i64 (c - y), .int .i64 (c - y)]) rfl rfl ?_
  exact ⟨rfl, b1.grown (xw_grown _ (B + 1) #[.int .i64 (c - y), .int .i64 (c - y)]) hB1 (fun k hk => by cases hk; omega)⟩

set_option maxRecDepth 100000 in
set_option maxHeartbeats 8000000 in
theorem lose_any (c t n mss : Int) (F : Nat) (w : World) (h0 : 0 ≤ c ∧ c ≤ 1073741824) (h1 : 1 ≤ mss ∧ mss ≤ 1460) (hF : Bx w F 3 [.int .i64 mss]) :
    Calls Try.prog 44 #[.agg #[.int .i64 c, .int .i64 t], .int .i64 n, .pointer (some ⟨F, 0, none⟩)] w fun e w' => e = .returned (.agg #[.int .i64 (loC c mss), .int .i64 (loC c mss)]) ∧ Below w.heap.size w w' := by
  obtain ⟨q, hq⟩ : ∃ q, loC c mss = q := ⟨_, rfl⟩
  rw [hq]
  unfold loC at hq
  have hd : Int.tdiv c 2 = c / 2 := Int.tdiv_eq_ediv_of_nonneg h0.1
  have i1 : IntKind.i64.wrap (2 * mss) = 2 * mss := IntWalk.i64_in _ (by omega)
  have i2 : IntKind.i64.wrap (c / 2) = c / 2 := IntWalk.i64_in _ (by omega)
  obtain ⟨y, hy⟩ : ∃ y, c / 2 = y := ⟨_, rfl⟩
  rw [hy] at hd i2 hq
  clear h0 h1 hy
  have f0 := (hF.alloc (.cells #[.int .i64 c, .int .i64 t] 23)).alloc (.cells #[.int .i64 0, .int .i64 0] 23)
  obtain ⟨B, hB⟩ : ∃ B, w.heap.size = B := ⟨_, rfl⟩
  have e0 := (Bx.new w 23 [.int .i64 c, .int .i64 t]).alloc (.cells #[.int .i64 0, .int .i64 0] 23)
  have y0 := Bx.new (w.alloc (.cells #[.int .i64 c, .int .i64 t] 23)) 23 [.int .i64 0, .int .i64 0]
  rw [World.size_alloc] at y0
  rw [hB] at e0 y0 ⊢
  have b0 : Below B w ((w.alloc (.cells #[.int .i64 c, .int .i64 t] 23)).alloc (.cells #[.int .i64 0, .int .i64 0] 23)) := by rw [← hB]; exact ((Below.refl _ _).alloc (Nat.le_refl _) _).alloc (by simp) _
  go_enter Try.func44, Try.ntmps44
  go_upto_region 1 with fail
  generalize (w.alloc (.cells #[.int .i64 c, .int .i64 t] 23)).alloc (.cells #[.int .i64 0, .int .i64 0] 23) = w1 at e0 y0 b0 f0 ⊢
  have hBs : B ≤ w1.heap.size := Nat.le_of_lt e0.lt
  have c0 := e0.cell 0 rfl; have c1 := e0.cell 1 rfl
  have f00 := f0.cell 0 rfl
  subst hq
  have e1 := e0; have y1 := y0; have b1 := b0
  have hB1 := hBs
  go_wp2_with (refine xw_store rfl (.tmp 5) (.tmp 15) rfl rfl [.int .i64 (max y (2 * mss)), .int .i64 (max y (2 * mss))] rfl y1 rfl rfl rfl ?_)
  refine xw_end1 (by rfl) (by rfl) (xw_put y1 [.int .i64 (max y (2 * mss)), .int .i64 (max y (2 * mss))]) rfl rfl ?_
  exact ⟨rfl, b1.grown (xw_grown _ (B + 1) #[.int .i64 (max y (2 * mss)), .int .i64 (max y (2 * mss))]) hB1 (fun k hk => by cases hk; omega)⟩

set_option maxRecDepth 100000 in
set_option maxHeartbeats 8000000 in
theorem loseall_any (c t n mss : Int) (F : Nat) (w : World) (h0 : 0 ≤ c ∧ c ≤ 1073741824) (h1 : 1 ≤ mss ∧ mss ≤ 1460) (hF : Bx w F 3 [.int .i64 mss]) :
    Calls Try.prog 45 #[.agg #[.int .i64 c, .int .i64 t], .int .i64 n, .pointer (some ⟨F, 0, none⟩)] w fun e w' => e = .returned (.agg #[.int .i64 mss, .int .i64 (loC c mss)]) ∧ Below w.heap.size w w' := by
  obtain ⟨q, hq⟩ : ∃ q, loC c mss = q := ⟨_, rfl⟩
  rw [hq]
  unfold loC at hq
  have hd : Int.tdiv c 2 = c / 2 := Int.tdiv_eq_ediv_of_nonneg h0.1
  have i1 : IntKind.i64.wrap (2 * mss) = 2 * mss := IntWalk.i64_in _ (by omega)
  have i2 : IntKind.i64.wrap (c / 2) = c / 2 := IntWalk.i64_in _ (by omega)
  obtain ⟨y, hy⟩ : ∃ y, c / 2 = y := ⟨_, rfl⟩
  rw [hy] at hd i2 hq
  clear h0 h1 hy
  have f0 := (hF.alloc (.cells #[.int .i64 c, .int .i64 t] 23)).alloc (.cells #[.int .i64 0, .int .i64 0] 23)
  obtain ⟨B, hB⟩ : ∃ B, w.heap.size = B := ⟨_, rfl⟩
  have e0 := (Bx.new w 23 [.int .i64 c, .int .i64 t]).alloc (.cells #[.int .i64 0, .int .i64 0] 23)
  have y0 := Bx.new (w.alloc (.cells #[.int .i64 c, .int .i64 t] 23)) 23 [.int .i64 0, .int .i64 0]
  rw [World.size_alloc] at y0
  rw [hB] at e0 y0 ⊢
  have b0 : Below B w ((w.alloc (.cells #[.int .i64 c, .int .i64 t] 23)).alloc (.cells #[.int .i64 0, .int .i64 0] 23)) := by rw [← hB]; exact ((Below.refl _ _).alloc (Nat.le_refl _) _).alloc (by simp) _
  go_enter Try.func45, Try.ntmps45
  go_upto_region 1 with fail
  generalize (w.alloc (.cells #[.int .i64 c, .int .i64 t] 23)).alloc (.cells #[.int .i64 0, .int .i64 0] 23) = w1 at e0 y0 b0 f0 ⊢
  have hBs : B ≤ w1.heap.size := Nat.le_of_lt e0.lt
  have c0 := e0.cell 0 rfl; have c1 := e0.cell 1 rfl
  have f00 := f0.cell 0 rfl
  subst hq
  have e1 := e0; have y1 := y0; have b1 := b0
  have hB1 := hBs
  go_wp2_with (refine xw_store rfl (.tmp 5) (.tmp 13) rfl rfl [.int .i64 mss, .int .i64 (max y (2 * mss))] rfl y1 rfl rfl rfl ?_)
  refine xw_end1 (by rfl) (by rfl) (xw_put y1 [.int .i64 mss, .int .i64 (max y (2 * mss))]) rfl rfl ?_
  exact ⟨rfl, b1.grown (xw_grown _ (B + 1) #[.int .i64 mss, .int .i64 (max y (2 * mss))]) hB1 (fun k hk => by cases hk; omega)⟩

end Go.Proofs.Ytookmfgnhflpaaa
