/- Package xmp as it landed: apply at each place as contracts of the calls. -/
import Derived.Test.YtookmfgnhflpaaaXmL2
import Derived.Test.YtookmfgnhflpaaaTail2
import Derived.Laws.EntriesVeiled
namespace Go.Proofs.Ytookmfgnhflpaaa
open Go.RowKit
set_option linter.unusedVariables false
set_option linter.unusedSimpArgs false

/-- what apply makes of a window: u and v where the number is in the range 0 to g -/
def apR (g u v c t n mss most : Int) : Int × Int × Int := if xmB c t mss most = true ∧ 0 ≤ n ∧ n ≤ g then (cl2 u mss most, cl2 v mss most, 0) else (0, 0, 1)
theorem ap_ok {g u v c t n mss most : Int} (h : xmB c t mss most = true) (k : xinB n 0 g = true) : apR g u v c t n mss most = (cl2 u mss most, cl2 v mss most, 0) := if_pos ⟨h, (xin_iff _ _ _).1 k⟩
theorem ap_no {g u v c t n mss most : Int} (h : xmB c t mss most = false) : apR g u v c t n mss most = (0, 0, 1) := if_neg (fun q => by rw [h] at q; cases q.1)
theorem ap_far {g u v c t n mss most : Int} (k : xinB n 0 g = false) : apR g u v c t n mss most = (0, 0, 1) := if_neg (fun q => by rw [(xin_iff n 0 g).2 q.2] at k; cases k)

set_option maxRecDepth 100000 in
set_option maxHeartbeats 8000000 in
theorem apply0_any (c t n mss most : Int) (w : World) :
    Calls Try.prog 22 #[.int .i64 0, .agg #[.int .i64 c, .int .i64 t], .int .i64 n, .int .i64 mss, .int .i64 most] w fun e w' => TellX w w' e (apR 1099511627776 (slC c t n) t c t n mss most) := by
  unfold TellX
  obtain ⟨x, hx⟩ : ∃ x, apR 1099511627776 (slC c t n) t c t n mss most = x := ⟨_, rfl⟩
  rw [hx]
  have HX := Lib.hid hx; clear hx
  obtain ⟨B, hB⟩ : ∃ B, w.heap.size = B := ⟨_, rfl⟩
  have e0 := (Bx.new w 23 [.int .i64 c, .int .i64 t]).alloc (.cells #[.int .i64 0, .int .i64 0] 23)
  have y0 := Bx.new (w.alloc (.cells #[.int .i64 c, .int .i64 t] 23)) 23 [.int .i64 0, .int .i64 0]
  rw [World.size_alloc] at y0
  rw [hB] at e0 y0 ⊢
  have b0 : Below B w ((w.alloc (.cells #[.int .i64 c, .int .i64 t] 23)).alloc (.cells #[.int .i64 0, .int .i64 0] 23)) := by rw [← hB]; exact ((Below.refl _ _).alloc (Nat.le_refl _) _).alloc (by simp) _
  have hsz : ((w.alloc (.cells #[.int .i64 c, .int .i64 t] 23)).alloc (.cells #[.int .i64 0, .int .i64 0] 23)).heap.size = B + 2 := by simp [hB]
  have ix : ∀ w, (Instr.index 49 (.agg #[.int .i64 1099511627776, (.func (.func 41) #[] #[]), .int .i64 mss, (.func (.func 42) #[] #[]), .int .i64 1024, (.func (.func 43) #[] #[]), .int .i64 0, (.func (.func 44) #[] #[.pointer (some ⟨B + 2, 0, none⟩)]), .int .i64 0, (.func (.func 45) #[] #[.pointer (some ⟨B + 2, 0, none⟩)])]) (.int .i64 0)).run Try.prog w = .ok (.agg #[.int .i64 1099511627776, (.func (.func 41) #[] #[])]) w := fun _ => by kernel_rfl
  have hen := ent_xop0
  go_enter Try.func22, Try.ntmps22
  go_upto_region 1 with fail
  generalize (w.alloc (.cells #[.int .i64 c, .int .i64 t] 23)).alloc (.cells #[.int .i64 0, .int .i64 0] 23) = w1 at e0 y0 b0 hsz ⊢
  clear hB
  go_upto_region 2 with (first | (go_at_call 30; refine (xops_any mss (B + 2) _ hsz).mono ?_; rintro e w2 ⟨rfl, f2, hb2⟩; have e2 := e0.below hb2 (by omega); have y2 := y0.below hb2 (by omega); have b2 := b0.trans (hb2.mono (by omega))) | (refine xo_store rfl (.tmp 12) (.tmp 16) rfl rfl [.int .i64 1099511627776, (.func (.func 41) #[] #[])] rfl (Bx.new w2 48 [.int .i64 0, .nilFunc]) rfl rfl rfl ?_))
  have hP : B + 2 < w2.heap.size := f2.lt
  have o3 := xo_put (Bx.new w2 48 [.int .i64 0, .nilFunc]) [.int .i64 1099511627776, (.func (.func 41) #[] #[])]
  have e3 := (e2.alloc (.cells #[.int .i64 0, .nilFunc] 48)).grown (xo_grown _ w2.heap.size #[.int .i64 1099511627776, (.func (.func 41) #[] #[])]) (fun e => by have := Option.some.inj e; omega)
  have y3 := (y2.alloc (.cells #[.int .i64 0, .nilFunc] 48)).grown (xo_grown _ w2.heap.size #[.int .i64 1099511627776, (.func (.func 41) #[] #[])]) (fun e => by have := Option.some.inj e; omega)
  have f3 := (f2.alloc (.cells #[.int .i64 0, .nilFunc] 48)).grown (xo_grown _ w2.heap.size #[.int .i64 1099511627776, (.func (.func 41) #[] #[])]) (fun e => by have := Option.some.inj e; omega)
  have b3 := (b2.alloc (by omega) (.cells #[.int .i64 0, .nilFunc] 48)).grown (xo_grown _ w2.heap.size #[.int .i64 1099511627776, (.func (.func 41) #[] #[])]) (by simp; omega) (fun k hk => by cases hk; omega)
  change Code.wp _ _ _ _ ((w2.alloc (.cells #[.int .i64 0, .nilFunc] 48)).setRow w2.heap.size #[.int .i64 1099511627776, (.func (.func 41) #[] #[])])
  obtain ⟨P, hPP⟩ : ∃ P, w2.heap.size = P := ⟨_, rfl⟩
  rw [hPP] at o3 e3 y3 f3 b3 ⊢
  generalize ((w2.alloc (.cells #[.int .i64 0, .nilFunc] 48)).setRow P #[.int .i64 1099511627776, (.func (.func 41) #[] #[])]) = w3 at o3 e3 y3 f3 b3 ⊢
  clear hPP hP hb2 e2 y2 b2 f2 e0 y0 b0 hsz
  have hB3 := Nat.le_of_lt e3.lt
  have hm := xwmay_any c t mss most w3
  have hw := fun w => xwin_any n 0 1099511627776 w
  cases h1 : xmB c t mss most with
  | false =>
    have hx := HX.out
    rw [ap_no h1] at hx
    subst hx
    rw [h1] at hm
    clear HX h1
    go_wp2_with (first | (refine xw_load rfl (.tmp 6) rfl rfl e3 rfl ?_) | (go_at_call 20; refine hm.mono ?_; rintro e w4 ⟨rfl, hb4⟩; have e4 := e3.kept hb4; have y4 := y3.kept hb4; have f4 := f3.kept hb4; have o4 := o3.kept hb4; have b4 := b3.trans (hb4.mono hB3); have hB4 := Nat.le_of_lt e4.lt; have o40 := o4.cell 0 rfl; have o41 := o4.cell 1 rfl) | (refine xw_store rfl (.tmp 10) (.tmp 29) rfl rfl [.int .i64 0, .int .i64 0] rfl y4 rfl rfl rfl ?_))
    refine xw_end2 (by rfl) (by rfl) (by rfl) (xw_put y4 [.int .i64 0, .int .i64 0]) rfl rfl ?_
    exact ⟨rfl, b4.grown (xw_grown _ (B + 1) #[.int .i64 0, .int .i64 0]) hB4 (fun k hk => by cases hk; omega)⟩
  | true =>
  have hv := (xmB_iff c t mss most).1 h1
  rw [h1] at hm
  cases h2 : xinB n 0 1099511627776 with
  | false =>
    have hx := HX.out
    rw [ap_far h2] at hx
    subst hx
    rw [h2] at hw
    clear HX h1 h2 hv
    go_wp2_with (first | (refine xw_load rfl (.tmp 6) rfl rfl e3 rfl ?_) | (go_at_call 20; refine hm.mono ?_; rintro e w4 ⟨rfl, hb4⟩; have e4 := e3.kept hb4; have y4 := y3.kept hb4; have f4 := f3.kept hb4; have o4 := o3.kept hb4; have b4 := b3.trans (hb4.mono hB3); have hB4 := Nat.le_of_lt e4.lt; have o40 := o4.cell 0 rfl; have o41 := o4.cell 1 rfl) | (go_at_call 25; refine (hw _).mono ?_; rintro e wx ⟨rfl, rfl⟩) | (refine xw_store rfl (.tmp 10) (.tmp 29) rfl rfl [.int .i64 0, .int .i64 0] rfl y4 rfl rfl rfl ?_))
    refine xw_end2 (by rfl) (by rfl) (by rfl) (xw_put y4 [.int .i64 0, .int .i64 0]) rfl rfl ?_
    exact ⟨rfl, b4.grown (xw_grown _ (B + 1) #[.int .i64 0, .int .i64 0]) hB4 (fun k hk => by cases hk; omega)⟩
  | true =>
  have hx := HX.out
  rw [ap_ok h1 h2] at hx
  have h3 := (xin_iff n 0 1099511627776).1 h2
  have hc := fun w (h : Bx w (B + 2) 3 [.int .i64 mss]) => slowed_any c t n w ⟨by omega, by omega⟩ ⟨by omega, by omega⟩
  rw [h2] at hw
  clear HX h1 h2 hv h3
  obtain ⟨u, hu⟩ : ∃ u, (slC c t n) = u := ⟨_, rfl⟩
  rw [hu] at hx hc
  clear hu
  go_upto_region 5 with (first | (refine xw_load rfl (.tmp 6) rfl rfl e3 rfl ?_) | (go_at_call 20; refine hm.mono ?_; rintro e w4 ⟨rfl, hb4⟩; have e4 := e3.kept hb4; have y4 := y3.kept hb4; have f4 := f3.kept hb4; have o4 := o3.kept hb4; have b4 := b3.trans (hb4.mono hB3); have hB4 := Nat.le_of_lt e4.lt; have o40 := o4.cell 0 rfl; have o41 := o4.cell 1 rfl) | (go_at_call 25; refine (hw _).mono ?_; rintro e wx ⟨rfl, rfl⟩) | (refine xw_load rfl (.tmp 6) rfl rfl e4 rfl ?_) | (go_at_call 41; refine (hc _ f4).mono ?_; rintro e w5 ⟨rfl, hb5⟩; have e5 := e4.kept hb5; have y5 := y4.kept hb5; have b5 := b4.trans (hb5.mono hB4)) | (refine xw_store rfl (.tmp 6) (.tmp 34) rfl rfl [.int .i64 u, .int .i64 t] rfl e5 rfl rfl rfl ?_))
  have e6 := xw_put e5 [.int .i64 u, .int .i64 t]
  have y6 := y5.grown (xw_grown w5 B #[.int .i64 u, .int .i64 t]) (fun e => by cases e)
  have b6 := b5.grown (xw_grown w5 B #[.int .i64 u, .int .i64 t]) (Nat.le_of_lt e5.lt) (fun k hk => by cases hk; exact Nat.le_refl B)
  change Code.wp _ _ _ _ (w5.setRow B #[.int .i64 u, .int .i64 t])
  generalize w5.setRow B #[.int .i64 u, .int .i64 t] = w6 at e6 y6 b6 ⊢
  have hB6 := Nat.le_of_lt e6.lt
  clear o40 o41 o4 o3
  refine wp_region_tail 10 13 (fun (W : World) => W.cell? ⟨B, 0, none⟩ = some (.int .i64 u) ∧ W.cell? ⟨B, 1, none⟩ = some (.int .i64 t) ∧ Bx W (B + 1) 23 [.int .i64 0, .int .i64 0] ∧ Below B w W) (by kernel_rfl) (by rfl) (by decide) ?_
  have HS : ((fun (W : World) => W.cell? ⟨B, 0, none⟩ = some (.int .i64 u) ∧ W.cell? ⟨B, 1, none⟩ = some (.int .i64 t) ∧ Bx W (B + 1) 23 [.int .i64 0, .int .i64 0] ∧ Below B w W)) _ := ⟨e6.drew.cell 0 rfl, e6.drew.cell 1 rfl, y6.drew, b6.drew⟩
  refine wpAnyT_take (i := 0) (v := ?vv1) rfl (by kernel_rfl) (fun _ _ _ h => h) (Or.inl ⟨by rfl, fun w hSw => ?yy1⟩) HS ?rr1
  case yy1 =>
    (try dsimp only at hSw); go_simp
    try with_reducible rfl
  try simp only [Act.put, List.setIfInBounds_toArray, List.set_cons_zero, List.set_cons_succ]
  refine wpAnyT_take (i := 1) (v := ?vv2) rfl (by kernel_rfl) (fun _ _ _ h => h) (Or.inl ⟨by rfl, fun w hSw => ?yy2⟩) HS ?rr2
  case yy2 =>
    (try dsimp only at hSw); go_simp
    try with_reducible rfl
  try simp only [Act.put, List.setIfInBounds_toArray, List.set_cons_zero, List.set_cons_succ]
  refine wpAnyT_take (i := 2) (v := ?vv3) rfl (by kernel_rfl) (fun _ _ _ h => h) (Or.inl ⟨by rfl, fun w hSw => ?yy3⟩) HS ?rr3
  case yy3 =>
    (try dsimp only at hSw); go_simp
    try with_reducible rfl
  try simp only [Act.put, List.setIfInBounds_toArray, List.set_cons_zero, List.set_cons_succ]
  refine wpAnyT_take (i := 3) (v := ?vv4) rfl (by kernel_rfl) (fun _ _ _ h => h) (Or.inl ⟨by rfl, fun w hSw => ?yy4⟩) HS ?rr4
  case yy4 =>
    (try dsimp only at hSw); go_simp
    try with_reducible rfl
  try simp only [Act.put, List.setIfInBounds_toArray, List.set_cons_zero, List.set_cons_succ]
  refine wpAnyT_take (i := 5) (v := ?vv5) rfl (by kernel_rfl) (fun _ _ _ h => h) (Or.inl ⟨by rfl, fun w hSw => ?yy5⟩) HS ?rr5
  case yy5 =>
    (try dsimp only at hSw); go_simp
    try with_reducible rfl
  try simp only [Act.put, List.setIfInBounds_toArray, List.set_cons_zero, List.set_cons_succ]
  refine wpAnyT_take (i := 6) (v := ?vv6) rfl (by kernel_rfl) (fun _ _ _ h => h) (Or.inl ⟨by rfl, fun w hSw => ?yy6⟩) HS ?rr6
  case yy6 =>
    (try dsimp only at hSw); go_simp
    try with_reducible rfl
  try simp only [Act.put, List.setIfInBounds_toArray, List.set_cons_zero, List.set_cons_succ]
  refine wpAnyT_take (i := 7) (v := ?vv7) rfl (by kernel_rfl) (fun _ _ _ h => h) (Or.inl ⟨by rfl, fun w hSw => ?yy7⟩) HS ?rr7
  case yy7 =>
    (try dsimp only at hSw); go_simp
    try with_reducible rfl
  try simp only [Act.put, List.setIfInBounds_toArray, List.set_cons_zero, List.set_cons_succ]
  refine wpAnyT_take (i := 8) (v := ?vv8) rfl (by kernel_rfl) (fun _ _ _ h => h) (Or.inl ⟨by rfl, fun w hSw => ?yy8⟩) HS ?rr8
  case yy8 =>
    (try dsimp only at hSw); go_simp
    try with_reducible rfl
  try simp only [Act.put, List.setIfInBounds_toArray, List.set_cons_zero, List.set_cons_succ]
  refine wpAnyT_one (k := 4) rfl (by kernel_rfl) (by decide) (fun K hK => ?_)
  go_simp
  refine (clx_any u mss most _).mono ?_
  rintro e wx ⟨rfl, rfl⟩
  have HS : ((fun (W : World) => W.cell? ⟨B, 0, none⟩ = some (.int .i64 u) ∧ W.cell? ⟨B, 1, none⟩ = some (.int .i64 t) ∧ Bx W (B + 1) 23 [.int .i64 0, .int .i64 0] ∧ Below B w W)) _ := HS
  refine hK _ _ HS ?_
  clear hK K
  try simp only [Act.put, List.setIfInBounds_toArray, List.set_cons_zero, List.set_cons_succ]
  refine wpAnyT_one (k := 9) rfl (by kernel_rfl) (by decide) (fun K hK => ?_)
  go_simp
  refine (clx_any t mss most _).mono ?_
  rintro e wx ⟨rfl, rfl⟩
  have HS : ((fun (W : World) => W.cell? ⟨B, 0, none⟩ = some (.int .i64 u) ∧ W.cell? ⟨B, 1, none⟩ = some (.int .i64 t) ∧ Bx W (B + 1) 23 [.int .i64 0, .int .i64 0] ∧ Below B w W)) _ := HS
  refine hK _ _ HS ?_
  clear hK K
  try simp only [Act.put, List.setIfInBounds_toArray, List.set_cons_zero, List.set_cons_succ]
  refine ⟨by kernel_rfl, ?_⟩
  simp only [List.drop_succ_cons, List.drop_zero]
  obtain ⟨hs0, hs1, hs2, hs3⟩ := HS
  obtain ⟨z1, hz1⟩ : ∃ z, cl2 u mss most = z := ⟨_, rfl⟩
  obtain ⟨z2, hz2⟩ : ∃ z, cl2 t mss most = z := ⟨_, rfl⟩
  rw [hz1, hz2] at hx
  subst hx
  rw [hz1, hz2]
  go_wp2_with (refine xw_store rfl (.tmp 10) (.tmp 45) rfl rfl [.int .i64 z1, .int .i64 z2] rfl hs2 rfl rfl rfl ?_)
  refine xw_end2 (by rfl) (by rfl) (by rfl) (xw_put hs2 [.int .i64 z1, .int .i64 z2]) rfl rfl ?_
  exact ⟨rfl, hs3.grown (xw_grown _ (B + 1) #[.int .i64 z1, .int .i64 z2]) (Nat.le_of_lt (Nat.lt_of_le_of_lt (Nat.le_succ B) hs2.lt)) (fun k hk => by cases hk; omega)⟩

set_option maxRecDepth 100000 in
set_option maxHeartbeats 8000000 in
theorem apply1_any (c t n mss most : Int) (w : World) :
    Calls Try.prog 22 #[.int .i64 1, .agg #[.int .i64 c, .int .i64 t], .int .i64 n, .int .i64 mss, .int .i64 most] w fun e w' => TellX w w' e (apR mss (grC c t n) t c t n mss most) := by
  unfold TellX
  obtain ⟨x, hx⟩ : ∃ x, apR mss (grC c t n) t c t n mss most = x := ⟨_, rfl⟩
  rw [hx]
  have HX := Lib.hid hx; clear hx
  obtain ⟨B, hB⟩ : ∃ B, w.heap.size = B := ⟨_, rfl⟩
  have e0 := (Bx.new w 23 [.int .i64 c, .int .i64 t]).alloc (.cells #[.int .i64 0, .int .i64 0] 23)
  have y0 := Bx.new (w.alloc (.cells #[.int .i64 c, .int .i64 t] 23)) 23 [.int .i64 0, .int .i64 0]
  rw [World.size_alloc] at y0
  rw [hB] at e0 y0 ⊢
  have b0 : Below B w ((w.alloc (.cells #[.int .i64 c, .int .i64 t] 23)).alloc (.cells #[.int .i64 0, .int .i64 0] 23)) := by rw [← hB]; exact ((Below.refl _ _).alloc (Nat.le_refl _) _).alloc (by simp) _
  have hsz : ((w.alloc (.cells #[.int .i64 c, .int .i64 t] 23)).alloc (.cells #[.int .i64 0, .int .i64 0] 23)).heap.size = B + 2 := by simp [hB]
  have ix : ∀ w, (Instr.index 49 (.agg #[.int .i64 1099511627776, (.func (.func 41) #[] #[]), .int .i64 mss, (.func (.func 42) #[] #[]), .int .i64 1024, (.func (.func 43) #[] #[]), .int .i64 0, (.func (.func 44) #[] #[.pointer (some ⟨B + 2, 0, none⟩)]), .int .i64 0, (.func (.func 45) #[] #[.pointer (some ⟨B + 2, 0, none⟩)])]) (.int .i64 1)).run Try.prog w = .ok (.agg #[.int .i64 mss, (.func (.func 42) #[] #[])]) w := fun _ => by kernel_rfl
  have hen := ent_xop1
  go_enter Try.func22, Try.ntmps22
  go_upto_region 1 with fail
  generalize (w.alloc (.cells #[.int .i64 c, .int .i64 t] 23)).alloc (.cells #[.int .i64 0, .int .i64 0] 23) = w1 at e0 y0 b0 hsz ⊢
  clear hB
  go_upto_region 2 with (first | (go_at_call 30; refine (xops_any mss (B + 2) _ hsz).mono ?_; rintro e w2 ⟨rfl, f2, hb2⟩; have e2 := e0.below hb2 (by omega); have y2 := y0.below hb2 (by omega); have b2 := b0.trans (hb2.mono (by omega))) | (refine xo_store rfl (.tmp 12) (.tmp 16) rfl rfl [.int .i64 mss, (.func (.func 42) #[] #[])] rfl (Bx.new w2 48 [.int .i64 0, .nilFunc]) rfl rfl rfl ?_))
  have hP : B + 2 < w2.heap.size := f2.lt
  have o3 := xo_put (Bx.new w2 48 [.int .i64 0, .nilFunc]) [.int .i64 mss, (.func (.func 42) #[] #[])]
  have e3 := (e2.alloc (.cells #[.int .i64 0, .nilFunc] 48)).grown (xo_grown _ w2.heap.size #[.int .i64 mss, (.func (.func 42) #[] #[])]) (fun e => by have := Option.some.inj e; omega)
  have y3 := (y2.alloc (.cells #[.int .i64 0, .nilFunc] 48)).grown (xo_grown _ w2.heap.size #[.int .i64 mss, (.func (.func 42) #[] #[])]) (fun e => by have := Option.some.inj e; omega)
  have f3 := (f2.alloc (.cells #[.int .i64 0, .nilFunc] 48)).grown (xo_grown _ w2.heap.size #[.int .i64 mss, (.func (.func 42) #[] #[])]) (fun e => by have := Option.some.inj e; omega)
  have b3 := (b2.alloc (by omega) (.cells #[.int .i64 0, .nilFunc] 48)).grown (xo_grown _ w2.heap.size #[.int .i64 mss, (.func (.func 42) #[] #[])]) (by simp; omega) (fun k hk => by cases hk; omega)
  change Code.wp _ _ _ _ ((w2.alloc (.cells #[.int .i64 0, .nilFunc] 48)).setRow w2.heap.size #[.int .i64 mss, (.func (.func 42) #[] #[])])
  obtain ⟨P, hPP⟩ : ∃ P, w2.heap.size = P := ⟨_, rfl⟩
  rw [hPP] at o3 e3 y3 f3 b3 ⊢
  generalize ((w2.alloc (.cells #[.int .i64 0, .nilFunc] 48)).setRow P #[.int .i64 mss, (.func (.func 42) #[] #[])]) = w3 at o3 e3 y3 f3 b3 ⊢
  clear hPP hP hb2 e2 y2 b2 f2 e0 y0 b0 hsz
  have hB3 := Nat.le_of_lt e3.lt
  have hm := xwmay_any c t mss most w3
  have hw := fun w => xwin_any n 0 mss w
  cases h1 : xmB c t mss most with
  | false =>
    have hx := HX.out
    rw [ap_no h1] at hx
    subst hx
    rw [h1] at hm
    clear HX h1
    go_wp2_with (first | (refine xw_load rfl (.tmp 6) rfl rfl e3 rfl ?_) | (go_at_call 20; refine hm.mono ?_; rintro e w4 ⟨rfl, hb4⟩; have e4 := e3.kept hb4; have y4 := y3.kept hb4; have f4 := f3.kept hb4; have o4 := o3.kept hb4; have b4 := b3.trans (hb4.mono hB3); have hB4 := Nat.le_of_lt e4.lt; have o40 := o4.cell 0 rfl; have o41 := o4.cell 1 rfl) | (refine xw_store rfl (.tmp 10) (.tmp 29) rfl rfl [.int .i64 0, .int .i64 0] rfl y4 rfl rfl rfl ?_))
    refine xw_end2 (by rfl) (by rfl) (by rfl) (xw_put y4 [.int .i64 0, .int .i64 0]) rfl rfl ?_
    exact ⟨rfl, b4.grown (xw_grown _ (B + 1) #[.int .i64 0, .int .i64 0]) hB4 (fun k hk => by cases hk; omega)⟩
  | true =>
  have hv := (xmB_iff c t mss most).1 h1
  rw [h1] at hm
  cases h2 : xinB n 0 mss with
  | false =>
    have hx := HX.out
    rw [ap_far h2] at hx
    subst hx
    rw [h2] at hw
    clear HX h1 h2 hv
    go_wp2_with (first | (refine xw_load rfl (.tmp 6) rfl rfl e3 rfl ?_) | (go_at_call 20; refine hm.mono ?_; rintro e w4 ⟨rfl, hb4⟩; have e4 := e3.kept hb4; have y4 := y3.kept hb4; have f4 := f3.kept hb4; have o4 := o3.kept hb4; have b4 := b3.trans (hb4.mono hB3); have hB4 := Nat.le_of_lt e4.lt; have o40 := o4.cell 0 rfl; have o41 := o4.cell 1 rfl) | (go_at_call 25; refine (hw _).mono ?_; rintro e wx ⟨rfl, rfl⟩) | (refine xw_store rfl (.tmp 10) (.tmp 29) rfl rfl [.int .i64 0, .int .i64 0] rfl y4 rfl rfl rfl ?_))
    refine xw_end2 (by rfl) (by rfl) (by rfl) (xw_put y4 [.int .i64 0, .int .i64 0]) rfl rfl ?_
    exact ⟨rfl, b4.grown (xw_grown _ (B + 1) #[.int .i64 0, .int .i64 0]) hB4 (fun k hk => by cases hk; omega)⟩
  | true =>
  have hx := HX.out
  rw [ap_ok h1 h2] at hx
  have h3 := (xin_iff n 0 mss).1 h2
  have hc := fun w (h : Bx w (B + 2) 3 [.int .i64 mss]) => grown_any c t n w ⟨by omega, by omega⟩ ⟨by omega, by omega⟩
  rw [h2] at hw
  clear HX h1 h2 hv h3
  obtain ⟨u, hu⟩ : ∃ u, (grC c t n) = u := ⟨_, rfl⟩
  rw [hu] at hx hc
  clear hu
  go_upto_region 5 with (first | (refine xw_load rfl (.tmp 6) rfl rfl e3 rfl ?_) | (go_at_call 20; refine hm.mono ?_; rintro e w4 ⟨rfl, hb4⟩; have e4 := e3.kept hb4; have y4 := y3.kept hb4; have f4 := f3.kept hb4; have o4 := o3.kept hb4; have b4 := b3.trans (hb4.mono hB3); have hB4 := Nat.le_of_lt e4.lt; have o40 := o4.cell 0 rfl; have o41 := o4.cell 1 rfl) | (go_at_call 25; refine (hw _).mono ?_; rintro e wx ⟨rfl, rfl⟩) | (refine xw_load rfl (.tmp 6) rfl rfl e4 rfl ?_) | (go_at_call 42; refine (hc _ f4).mono ?_; rintro e w5 ⟨rfl, hb5⟩; have e5 := e4.kept hb5; have y5 := y4.kept hb5; have b5 := b4.trans (hb5.mono hB4)) | (refine xw_store rfl (.tmp 6) (.tmp 34) rfl rfl [.int .i64 u, .int .i64 t] rfl e5 rfl rfl rfl ?_))
  have e6 := xw_put e5 [.int .i64 u, .int .i64 t]
  have y6 := y5.grown (xw_grown w5 B #[.int .i64 u, .int .i64 t]) (fun e => by cases e)
  have b6 := b5.grown (xw_grown w5 B #[.int .i64 u, .int .i64 t]) (Nat.le_of_lt e5.lt) (fun k hk => by cases hk; exact Nat.le_refl B)
  change Code.wp _ _ _ _ (w5.setRow B #[.int .i64 u, .int .i64 t])
  generalize w5.setRow B #[.int .i64 u, .int .i64 t] = w6 at e6 y6 b6 ⊢
  have hB6 := Nat.le_of_lt e6.lt
  clear o40 o41 o4 o3
  refine wp_region_tail 10 13 (fun (W : World) => W.cell? ⟨B, 0, none⟩ = some (.int .i64 u) ∧ W.cell? ⟨B, 1, none⟩ = some (.int .i64 t) ∧ Bx W (B + 1) 23 [.int .i64 0, .int .i64 0] ∧ Below B w W) (by kernel_rfl) (by rfl) (by decide) ?_
  have HS : ((fun (W : World) => W.cell? ⟨B, 0, none⟩ = some (.int .i64 u) ∧ W.cell? ⟨B, 1, none⟩ = some (.int .i64 t) ∧ Bx W (B + 1) 23 [.int .i64 0, .int .i64 0] ∧ Below B w W)) _ := ⟨e6.drew.cell 0 rfl, e6.drew.cell 1 rfl, y6.drew, b6.drew⟩
  refine wpAnyT_take (i := 0) (v := ?vv9) rfl (by kernel_rfl) (fun _ _ _ h => h) (Or.inl ⟨by rfl, fun w hSw => ?yy9⟩) HS ?rr9
  case yy9 =>
    (try dsimp only at hSw); go_simp
    try with_reducible rfl
  try simp only [Act.put, List.setIfInBounds_toArray, List.set_cons_zero, List.set_cons_succ]
  refine wpAnyT_take (i := 1) (v := ?vv10) rfl (by kernel_rfl) (fun _ _ _ h => h) (Or.inl ⟨by rfl, fun w hSw => ?yy10⟩) HS ?rr10
  case yy10 =>
    (try dsimp only at hSw); go_simp
    try with_reducible rfl
  try simp only [Act.put, List.setIfInBounds_toArray, List.set_cons_zero, List.set_cons_succ]
  refine wpAnyT_take (i := 2) (v := ?vv11) rfl (by kernel_rfl) (fun _ _ _ h => h) (Or.inl ⟨by rfl, fun w hSw => ?yy11⟩) HS ?rr11
  case yy11 =>
    (try dsimp only at hSw); go_simp
    try with_reducible rfl
  try simp only [Act.put, List.setIfInBounds_toArray, List.set_cons_zero, List.set_cons_succ]
  refine wpAnyT_take (i := 3) (v := ?vv12) rfl (by kernel_rfl) (fun _ _ _ h => h) (Or.inl ⟨by rfl, fun w hSw => ?yy12⟩) HS ?rr12
  case yy12 =>
    (try dsimp only at hSw); go_simp
    try with_reducible rfl
  try simp only [Act.put, List.setIfInBounds_toArray, List.set_cons_zero, List.set_cons_succ]
  refine wpAnyT_take (i := 5) (v := ?vv13) rfl (by kernel_rfl) (fun _ _ _ h => h) (Or.inl ⟨by rfl, fun w hSw => ?yy13⟩) HS ?rr13
  case yy13 =>
    (try dsimp only at hSw); go_simp
    try with_reducible rfl
  try simp only [Act.put, List.setIfInBounds_toArray, List.set_cons_zero, List.set_cons_succ]
  refine wpAnyT_take (i := 6) (v := ?vv14) rfl (by kernel_rfl) (fun _ _ _ h => h) (Or.inl ⟨by rfl, fun w hSw => ?yy14⟩) HS ?rr14
  case yy14 =>
    (try dsimp only at hSw); go_simp
    try with_reducible rfl
  try simp only [Act.put, List.setIfInBounds_toArray, List.set_cons_zero, List.set_cons_succ]
  refine wpAnyT_take (i := 7) (v := ?vv15) rfl (by kernel_rfl) (fun _ _ _ h => h) (Or.inl ⟨by rfl, fun w hSw => ?yy15⟩) HS ?rr15
  case yy15 =>
    (try dsimp only at hSw); go_simp
    try with_reducible rfl
  try simp only [Act.put, List.setIfInBounds_toArray, List.set_cons_zero, List.set_cons_succ]
  refine wpAnyT_take (i := 8) (v := ?vv16) rfl (by kernel_rfl) (fun _ _ _ h => h) (Or.inl ⟨by rfl, fun w hSw => ?yy16⟩) HS ?rr16
  case yy16 =>
    (try dsimp only at hSw); go_simp
    try with_reducible rfl
  try simp only [Act.put, List.setIfInBounds_toArray, List.set_cons_zero, List.set_cons_succ]
  refine wpAnyT_one (k := 4) rfl (by kernel_rfl) (by decide) (fun K hK => ?_)
  go_simp
  refine (clx_any u mss most _).mono ?_
  rintro e wx ⟨rfl, rfl⟩
  have HS : ((fun (W : World) => W.cell? ⟨B, 0, none⟩ = some (.int .i64 u) ∧ W.cell? ⟨B, 1, none⟩ = some (.int .i64 t) ∧ Bx W (B + 1) 23 [.int .i64 0, .int .i64 0] ∧ Below B w W)) _ := HS
  refine hK _ _ HS ?_
  clear hK K
  try simp only [Act.put, List.setIfInBounds_toArray, List.set_cons_zero, List.set_cons_succ]
  refine wpAnyT_one (k := 9) rfl (by kernel_rfl) (by decide) (fun K hK => ?_)
  go_simp
  refine (clx_any t mss most _).mono ?_
  rintro e wx ⟨rfl, rfl⟩
  have HS : ((fun (W : World) => W.cell? ⟨B, 0, none⟩ = some (.int .i64 u) ∧ W.cell? ⟨B, 1, none⟩ = some (.int .i64 t) ∧ Bx W (B + 1) 23 [.int .i64 0, .int .i64 0] ∧ Below B w W)) _ := HS
  refine hK _ _ HS ?_
  clear hK K
  try simp only [Act.put, List.setIfInBounds_toArray, List.set_cons_zero, List.set_cons_succ]
  refine ⟨by kernel_rfl, ?_⟩
  simp only [List.drop_succ_cons, List.drop_zero]
  obtain ⟨hs0, hs1, hs2, hs3⟩ := HS
  obtain ⟨z1, hz1⟩ : ∃ z, cl2 u mss most = z := ⟨_, rfl⟩
  obtain ⟨z2, hz2⟩ : ∃ z, cl2 t mss most = z := ⟨_, rfl⟩
  rw [hz1, hz2] at hx
  subst hx
  rw [hz1, hz2]
  go_wp2_with (refine xw_store rfl (.tmp 10) (.tmp 45) rfl rfl [.int .i64 z1, .int .i64 z2] rfl hs2 rfl rfl rfl ?_)
  refine xw_end2 (by rfl) (by rfl) (by rfl) (xw_put hs2 [.int .i64 z1, .int .i64 z2]) rfl rfl ?_
  exact ⟨rfl, hs3.grown (xw_grown _ (B + 1) #[.int .i64 z1, .int .i64 z2]) (Nat.le_of_lt (Nat.lt_of_le_of_lt (Nat.le_succ B) hs2.lt)) (fun k hk => by cases hk; omega)⟩

set_option maxRecDepth 100000 in
set_option maxHeartbeats 8000000 in
theorem apply2_any (c t n mss most : Int) (w : World) :
    Calls Try.prog 22 #[.int .i64 2, .agg #[.int .i64 c, .int .i64 t], .int .i64 n, .int .i64 mss, .int .i64 most] w fun e w' => TellX w w' e (apR 1024 (rdC c n) (rdC c n) c t n mss most) := by
  unfold TellX
  obtain ⟨x, hx⟩ : ∃ x, apR 1024 (rdC c n) (rdC c n) c t n mss most = x := ⟨_, rfl⟩
  rw [hx]
  have HX := Lib.hid hx; clear hx
  obtain ⟨B, hB⟩ : ∃ B, w.heap.size = B := ⟨_, rfl⟩
  have e0 := (Bx.new w 23 [.int .i64 c, .int .i64 t]).alloc (.cells #[.int .i64 0, .int .i64 0] 23)
  have y0 := Bx.new (w.alloc (.cells #[.int .i64 c, .int .i64 t] 23)) 23 [.int .i64 0, .int .i64 0]
  rw [World.size_alloc] at y0
  rw [hB] at e0 y0 ⊢
  have b0 : Below B w ((w.alloc (.cells #[.int .i64 c, .int .i64 t] 23)).alloc (.cells #[.int .i64 0, .int .i64 0] 23)) := by rw [← hB]; exact ((Below.refl _ _).alloc (Nat.le_refl _) _).alloc (by simp) _
  have hsz : ((w.alloc (.cells #[.int .i64 c, .int .i64 t] 23)).alloc (.cells #[.int .i64 0, .int .i64 0] 23)).heap.size = B + 2 := by simp [hB]
  have ix : ∀ w, (Instr.index 49 (.agg #[.int .i64 1099511627776, (.func (.func 41) #[] #[]), .int .i64 mss, (.func (.func 42) #[] #[]), .int .i64 1024, (.func (.func 43) #[] #[]), .int .i64 0, (.func (.func 44) #[] #[.pointer (some ⟨B + 2, 0, none⟩)]), .int .i64 0, (.func (.func 45) #[] #[.pointer (some ⟨B + 2, 0, none⟩)])]) (.int .i64 2)).run Try.prog w = .ok (.agg #[.int .i64 1024, (.func (.func 43) #[] #[])]) w := fun _ => by kernel_rfl
  have hen := ent_xop2
  go_enter Try.func22, Try.ntmps22
  go_upto_region 1 with fail
  generalize (w.alloc (.cells #[.int .i64 c, .int .i64 t] 23)).alloc (.cells #[.int .i64 0, .int .i64 0] 23) = w1 at e0 y0 b0 hsz ⊢
  clear hB
  go_upto_region 2 with (first | (go_at_call 30; refine (xops_any mss (B + 2) _ hsz).mono ?_; rintro e w2 ⟨rfl, f2, hb2⟩; have e2 := e0.below hb2 (by omega); have y2 := y0.below hb2 (by omega); have b2 := b0.trans (hb2.mono (by omega))) | (refine xo_store rfl (.tmp 12) (.tmp 16) rfl rfl [.int .i64 1024, (.func (.func 43) #[] #[])] rfl (Bx.new w2 48 [.int .i64 0, .nilFunc]) rfl rfl rfl ?_))
  have hP : B + 2 < w2.heap.size := f2.lt
  have o3 := xo_put (Bx.new w2 48 [.int .i64 0, .nilFunc]) [.int .i64 1024, (.func (.func 43) #[] #[])]
  have e3 := (e2.alloc (.cells #[.int .i64 0, .nilFunc] 48)).grown (xo_grown _ w2.heap.size #[.int .i64 1024, (.func (.func 43) #[] #[])]) (fun e => by have := Option.some.inj e; omega)
  have y3 := (y2.alloc (.cells #[.int .i64 0, .nilFunc] 48)).grown (xo_grown _ w2.heap.size #[.int .i64 1024, (.func (.func 43) #[] #[])]) (fun e => by have := Option.some.inj e; omega)
  have f3 := (f2.alloc (.cells #[.int .i64 0, .nilFunc] 48)).grown (xo_grown _ w2.heap.size #[.int .i64 1024, (.func (.func 43) #[] #[])]) (fun e => by have := Option.some.inj e; omega)
  have b3 := (b2.alloc (by omega) (.cells #[.int .i64 0, .nilFunc] 48)).grown (xo_grown _ w2.heap.size #[.int .i64 1024, (.func (.func 43) #[] #[])]) (by simp; omega) (fun k hk => by cases hk; omega)
  change Code.wp _ _ _ _ ((w2.alloc (.cells #[.int .i64 0, .nilFunc] 48)).setRow w2.heap.size #[.int .i64 1024, (.func (.func 43) #[] #[])])
  obtain ⟨P, hPP⟩ : ∃ P, w2.heap.size = P := ⟨_, rfl⟩
  rw [hPP] at o3 e3 y3 f3 b3 ⊢
  generalize ((w2.alloc (.cells #[.int .i64 0, .nilFunc] 48)).setRow P #[.int .i64 1024, (.func (.func 43) #[] #[])]) = w3 at o3 e3 y3 f3 b3 ⊢
  clear hPP hP hb2 e2 y2 b2 f2 e0 y0 b0 hsz
  have hB3 := Nat.le_of_lt e3.lt
  have hm := xwmay_any c t mss most w3
  have hw := fun w => xwin_any n 0 1024 w
  cases h1 : xmB c t mss most with
  | false =>
    have hx := HX.out
    rw [ap_no h1] at hx
    subst hx
    rw [h1] at hm
    clear HX h1
    go_wp2_with (first | (refine xw_load rfl (.tmp 6) rfl rfl e3 rfl ?_) | (go_at_call 20; refine hm.mono ?_; rintro e w4 ⟨rfl, hb4⟩; have e4 := e3.kept hb4; have y4 := y3.kept hb4; have f4 := f3.kept hb4; have o4 := o3.kept hb4; have b4 := b3.trans (hb4.mono hB3); have hB4 := Nat.le_of_lt e4.lt; have o40 := o4.cell 0 rfl; have o41 := o4.cell 1 rfl) | (refine xw_store rfl (.tmp 10) (.tmp 29) rfl rfl [.int .i64 0, .int .i64 0] rfl y4 rfl rfl rfl ?_))
    refine xw_end2 (by rfl) (by rfl) (by rfl) (xw_put y4 [.int .i64 0, .int .i64 0]) rfl rfl ?_
    exact ⟨rfl, b4.grown (xw_grown _ (B + 1) #[.int .i64 0, .int .i64 0]) hB4 (fun k hk => by cases hk; omega)⟩
  | true =>
  have hv := (xmB_iff c t mss most).1 h1
  rw [h1] at hm
  cases h2 : xinB n 0 1024 with
  | false =>
    have hx := HX.out
    rw [ap_far h2] at hx
    subst hx
    rw [h2] at hw
    clear HX h1 h2 hv
    go_wp2_with (first | (refine xw_load rfl (.tmp 6) rfl rfl e3 rfl ?_) | (go_at_call 20; refine hm.mono ?_; rintro e w4 ⟨rfl, hb4⟩; have e4 := e3.kept hb4; have y4 := y3.kept hb4; have f4 := f3.kept hb4; have o4 := o3.kept hb4; have b4 := b3.trans (hb4.mono hB3); have hB4 := Nat.le_of_lt e4.lt; have o40 := o4.cell 0 rfl; have o41 := o4.cell 1 rfl) | (go_at_call 25; refine (hw _).mono ?_; rintro e wx ⟨rfl, rfl⟩) | (refine xw_store rfl (.tmp 10) (.tmp 29) rfl rfl [.int .i64 0, .int .i64 0] rfl y4 rfl rfl rfl ?_))
    refine xw_end2 (by rfl) (by rfl) (by rfl) (xw_put y4 [.int .i64 0, .int .i64 0]) rfl rfl ?_
    exact ⟨rfl, b4.grown (xw_grown _ (B + 1) #[.int .i64 0, .int .i64 0]) hB4 (fun k hk => by cases hk; omega)⟩
  | true =>
  have hx := HX.out
  rw [ap_ok h1 h2] at hx
  have h3 := (xin_iff n 0 1024).1 h2
  have hc := fun w (h : Bx w (B + 2) 3 [.int .i64 mss]) => reduced_any c t n w ⟨by omega, by omega⟩ ⟨by omega, by omega⟩
  rw [h2] at hw
  clear HX h1 h2 hv h3
  obtain ⟨u, hu⟩ : ∃ u, (rdC c n) = u := ⟨_, rfl⟩
  rw [hu] at hx hc
  clear hu
  go_upto_region 5 with (first | (refine xw_load rfl (.tmp 6) rfl rfl e3 rfl ?_) | (go_at_call 20; refine hm.mono ?_; rintro e w4 ⟨rfl, hb4⟩; have e4 := e3.kept hb4; have y4 := y3.kept hb4; have f4 := f3.kept hb4; have o4 := o3.kept hb4; have b4 := b3.trans (hb4.mono hB3); have hB4 := Nat.le_of_lt e4.lt; have o40 := o4.cell 0 rfl; have o41 := o4.cell 1 rfl) | (go_at_call 25; refine (hw _).mono ?_; rintro e wx ⟨rfl, rfl⟩) | (refine xw_load rfl (.tmp 6) rfl rfl e4 rfl ?_) | (go_at_call 43; refine (hc _ f4).mono ?_; rintro e w5 ⟨rfl, hb5⟩; have e5 := e4.kept hb5; have y5 := y4.kept hb5; have b5 := b4.trans (hb5.mono hB4)) | (refine xw_store rfl (.tmp 6) (.tmp 34) rfl rfl [.int .i64 u, .int .i64 u] rfl e5 rfl rfl rfl ?_))
  have e6 := xw_put e5 [.int .i64 u, .int .i64 u]
  have y6 := y5.grown (xw_grown w5 B #[.int .i64 u, .int .i64 u]) (fun e => by cases e)
  have b6 := b5.grown (xw_grown w5 B #[.int .i64 u, .int .i64 u]) (Nat.le_of_lt e5.lt) (fun k hk => by cases hk; exact Nat.le_refl B)
  change Code.wp _ _ _ _ (w5.setRow B #[.int .i64 u, .int .i64 u])
  generalize w5.setRow B #[.int .i64 u, .int .i64 u] = w6 at e6 y6 b6 ⊢
  have hB6 := Nat.le_of_lt e6.lt
  clear o40 o41 o4 o3
  refine wp_region_tail 10 13 (fun (W : World) => W.cell? ⟨B, 0, none⟩ = some (.int .i64 u) ∧ W.cell? ⟨B, 1, none⟩ = some (.int .i64 u) ∧ Bx W (B + 1) 23 [.int .i64 0, .int .i64 0] ∧ Below B w W) (by kernel_rfl) (by rfl) (by decide) ?_
  have HS : ((fun (W : World) => W.cell? ⟨B, 0, none⟩ = some (.int .i64 u) ∧ W.cell? ⟨B, 1, none⟩ = some (.int .i64 u) ∧ Bx W (B + 1) 23 [.int .i64 0, .int .i64 0] ∧ Below B w W)) _ := ⟨e6.drew.cell 0 rfl, e6.drew.cell 1 rfl, y6.drew, b6.drew⟩
  refine wpAnyT_take (i := 0) (v := ?vv17) rfl (by kernel_rfl) (fun _ _ _ h => h) (Or.inl ⟨by rfl, fun w hSw => ?yy17⟩) HS ?rr17
  case yy17 =>
    (try dsimp only at hSw); go_simp
    try with_reducible rfl
  try simp only [Act.put, List.setIfInBounds_toArray, List.set_cons_zero, List.set_cons_succ]
  refine wpAnyT_take (i := 1) (v := ?vv18) rfl (by kernel_rfl) (fun _ _ _ h => h) (Or.inl ⟨by rfl, fun w hSw => ?yy18⟩) HS ?rr18
  case yy18 =>
    (try dsimp only at hSw); go_simp
    try with_reducible rfl
  try simp only [Act.put, List.setIfInBounds_toArray, List.set_cons_zero, List.set_cons_succ]
  refine wpAnyT_take (i := 2) (v := ?vv19) rfl (by kernel_rfl) (fun _ _ _ h => h) (Or.inl ⟨by rfl, fun w hSw => ?yy19⟩) HS ?rr19
  case yy19 =>
    (try dsimp only at hSw); go_simp
    try with_reducible rfl
  try simp only [Act.put, List.setIfInBounds_toArray, List.set_cons_zero, List.set_cons_succ]
  refine wpAnyT_take (i := 3) (v := ?vv20) rfl (by kernel_rfl) (fun _ _ _ h => h) (Or.inl ⟨by rfl, fun w hSw => ?yy20⟩) HS ?rr20
  case yy20 =>
    (try dsimp only at hSw); go_simp
    try with_reducible rfl
  try simp only [Act.put, List.setIfInBounds_toArray, List.set_cons_zero, List.set_cons_succ]
  refine wpAnyT_take (i := 5) (v := ?vv21) rfl (by kernel_rfl) (fun _ _ _ h => h) (Or.inl ⟨by rfl, fun w hSw => ?yy21⟩) HS ?rr21
  case yy21 =>
    (try dsimp only at hSw); go_simp
    try with_reducible rfl
  try simp only [Act.put, List.setIfInBounds_toArray, List.set_cons_zero, List.set_cons_succ]
  refine wpAnyT_take (i := 6) (v := ?vv22) rfl (by kernel_rfl) (fun _ _ _ h => h) (Or.inl ⟨by rfl, fun w hSw => ?yy22⟩) HS ?rr22
  case yy22 =>
    (try dsimp only at hSw); go_simp
    try with_reducible rfl
  try simp only [Act.put, List.setIfInBounds_toArray, List.set_cons_zero, List.set_cons_succ]
  refine wpAnyT_take (i := 7) (v := ?vv23) rfl (by kernel_rfl) (fun _ _ _ h => h) (Or.inl ⟨by rfl, fun w hSw => ?yy23⟩) HS ?rr23
  case yy23 =>
    (try dsimp only at hSw); go_simp
    try with_reducible rfl
  try simp only [Act.put, List.setIfInBounds_toArray, List.set_cons_zero, List.set_cons_succ]
  refine wpAnyT_take (i := 8) (v := ?vv24) rfl (by kernel_rfl) (fun _ _ _ h => h) (Or.inl ⟨by rfl, fun w hSw => ?yy24⟩) HS ?rr24
  case yy24 =>
    (try dsimp only at hSw); go_simp
    try with_reducible rfl
  try simp only [Act.put, List.setIfInBounds_toArray, List.set_cons_zero, List.set_cons_succ]
  refine wpAnyT_one (k := 4) rfl (by kernel_rfl) (by decide) (fun K hK => ?_)
  go_simp
  refine (clx_any u mss most _).mono ?_
  rintro e wx ⟨rfl, rfl⟩
  have HS : ((fun (W : World) => W.cell? ⟨B, 0, none⟩ = some (.int .i64 u) ∧ W.cell? ⟨B, 1, none⟩ = some (.int .i64 u) ∧ Bx W (B + 1) 23 [.int .i64 0, .int .i64 0] ∧ Below B w W)) _ := HS
  refine hK _ _ HS ?_
  clear hK K
  try simp only [Act.put, List.setIfInBounds_toArray, List.set_cons_zero, List.set_cons_succ]
  refine wpAnyT_one (k := 9) rfl (by kernel_rfl) (by decide) (fun K hK => ?_)
  go_simp
  refine (clx_any u mss most _).mono ?_
  rintro e wx ⟨rfl, rfl⟩
  have HS : ((fun (W : World) => W.cell? ⟨B, 0, none⟩ = some (.int .i64 u) ∧ W.cell? ⟨B, 1, none⟩ = some (.int .i64 u) ∧ Bx W (B + 1) 23 [.int .i64 0, .int .i64 0] ∧ Below B w W)) _ := HS
  refine hK _ _ HS ?_
  clear hK K
  try simp only [Act.put, List.setIfInBounds_toArray, List.set_cons_zero, List.set_cons_succ]
  refine ⟨by kernel_rfl, ?_⟩
  simp only [List.drop_succ_cons, List.drop_zero]
  obtain ⟨hs0, hs1, hs2, hs3⟩ := HS
  obtain ⟨z1, hz1⟩ : ∃ z, cl2 u mss most = z := ⟨_, rfl⟩
  rw [hz1] at hx
  subst hx
  rw [hz1]
  go_wp2_with (refine xw_store rfl (.tmp 10) (.tmp 45) rfl rfl [.int .i64 z1, .int .i64 z1] rfl hs2 rfl rfl rfl ?_)
  refine xw_end2 (by rfl) (by rfl) (by rfl) (xw_put hs2 [.int .i64 z1, .int .i64 z1]) rfl rfl ?_
  exact ⟨rfl, hs3.grown (xw_grown _ (B + 1) #[.int .i64 z1, .int .i64 z1]) (Nat.le_of_lt (Nat.lt_of_le_of_lt (Nat.le_succ B) hs2.lt)) (fun k hk => by cases hk; omega)⟩

set_option maxRecDepth 100000 in
set_option maxHeartbeats 8000000 in
theorem apply3_any (c t n mss most : Int) (w : World) :
    Calls Try.prog 22 #[.int .i64 3, .agg #[.int .i64 c, .int .i64 t], .int .i64 n, .int .i64 mss, .int .i64 most] w fun e w' => TellX w w' e (apR 0 (loC c mss) (loC c mss) c t n mss most) := by
  unfold TellX
  obtain ⟨x, hx⟩ : ∃ x, apR 0 (loC c mss) (loC c mss) c t n mss most = x := ⟨_, rfl⟩
  rw [hx]
  have HX := Lib.hid hx; clear hx
  obtain ⟨B, hB⟩ : ∃ B, w.heap.size = B := ⟨_, rfl⟩
  have e0 := (Bx.new w 23 [.int .i64 c, .int .i64 t]).alloc (.cells #[.int .i64 0, .int .i64 0] 23)
  have y0 := Bx.new (w.alloc (.cells #[.int .i64 c, .int .i64 t] 23)) 23 [.int .i64 0, .int .i64 0]
  rw [World.size_alloc] at y0
  rw [hB] at e0 y0 ⊢
  have b0 : Below B w ((w.alloc (.cells #[.int .i64 c, .int .i64 t] 23)).alloc (.cells #[.int .i64 0, .int .i64 0] 23)) := by rw [← hB]; exact ((Below.refl _ _).alloc (Nat.le_refl _) _).alloc (by simp) _
  have hsz : ((w.alloc (.cells #[.int .i64 c, .int .i64 t] 23)).alloc (.cells #[.int .i64 0, .int .i64 0] 23)).heap.size = B + 2 := by simp [hB]
  have ix : ∀ w, (Instr.index 49 (.agg #[.int .i64 1099511627776, (.func (.func 41) #[] #[]), .int .i64 mss, (.func (.func 42) #[] #[]), .int .i64 1024, (.func (.func 43) #[] #[]), .int .i64 0, (.func (.func 44) #[] #[.pointer (some ⟨B + 2, 0, none⟩)]), .int .i64 0, (.func (.func 45) #[] #[.pointer (some ⟨B + 2, 0, none⟩)])]) (.int .i64 3)).run Try.prog w = .ok (.agg #[.int .i64 0, (.func (.func 44) #[] #[.pointer (some ⟨B + 2, 0, none⟩)])]) w := fun _ => by kernel_rfl
  have hen := ent_xop3
  go_enter Try.func22, Try.ntmps22
  go_upto_region 1 with fail
  generalize (w.alloc (.cells #[.int .i64 c, .int .i64 t] 23)).alloc (.cells #[.int .i64 0, .int .i64 0] 23) = w1 at e0 y0 b0 hsz ⊢
  clear hB
  go_upto_region 2 with (first | (go_at_call 30; refine (xops_any mss (B + 2) _ hsz).mono ?_; rintro e w2 ⟨rfl, f2, hb2⟩; have e2 := e0.below hb2 (by omega); have y2 := y0.below hb2 (by omega); have b2 := b0.trans (hb2.mono (by omega))) | (refine xo_store rfl (.tmp 12) (.tmp 16) rfl rfl [.int .i64 0, (.func (.func 44) #[] #[.pointer (some ⟨B + 2, 0, none⟩)])] rfl (Bx.new w2 48 [.int .i64 0, .nilFunc]) rfl rfl rfl ?_))
  have hP : B + 2 < w2.heap.size := f2.lt
  have o3 := xo_put (Bx.new w2 48 [.int .i64 0, .nilFunc]) [.int .i64 0, (.func (.func 44) #[] #[.pointer (some ⟨B + 2, 0, none⟩)])]
  have e3 := (e2.alloc (.cells #[.int .i64 0, .nilFunc] 48)).grown (xo_grown _ w2.heap.size #[.int .i64 0, (.func (.func 44) #[] #[.pointer (some ⟨B + 2, 0, none⟩)])]) (fun e => by have := Option.some.inj e; omega)
  have y3 := (y2.alloc (.cells #[.int .i64 0, .nilFunc] 48)).grown (xo_grown _ w2.heap.size #[.int .i64 0, (.func (.func 44) #[] #[.pointer (some ⟨B + 2, 0, none⟩)])]) (fun e => by have := Option.some.inj e; omega)
  have f3 := (f2.alloc (.cells #[.int .i64 0, .nilFunc] 48)).grown (xo_grown _ w2.heap.size #[.int .i64 0, (.func (.func 44) #[] #[.pointer (some ⟨B + 2, 0, none⟩)])]) (fun e => by have := Option.some.inj e; omega)
  have b3 := (b2.alloc (by omega) (.cells #[.int .i64 0, .nilFunc] 48)).grown (xo_grown _ w2.heap.size #[.int .i64 0, (.func (.func 44) #[] #[.pointer (some ⟨B + 2, 0, none⟩)])]) (by simp; omega) (fun k hk => by cases hk; omega)
  change Code.wp _ _ _ _ ((w2.alloc (.cells #[.int .i64 0, .nilFunc] 48)).setRow w2.heap.size #[.int .i64 0, (.func (.func 44) #[] #[.pointer (some ⟨B + 2, 0, none⟩)])])
  obtain ⟨P, hPP⟩ : ∃ P, w2.heap.size = P := ⟨_, rfl⟩
  rw [hPP] at o3 e3 y3 f3 b3 ⊢
  generalize ((w2.alloc (.cells #[.int .i64 0, .nilFunc] 48)).setRow P #[.int .i64 0, (.func (.func 44) #[] #[.pointer (some ⟨B + 2, 0, none⟩)])]) = w3 at o3 e3 y3 f3 b3 ⊢
  clear hPP hP hb2 e2 y2 b2 f2 e0 y0 b0 hsz
  have hB3 := Nat.le_of_lt e3.lt
  have hm := xwmay_any c t mss most w3
  have hw := fun w => xwin_any n 0 0 w
  cases h1 : xmB c t mss most with
  | false =>
    have hx := HX.out
    rw [ap_no h1] at hx
    subst hx
    rw [h1] at hm
    clear HX h1
    go_wp2_with (first | (refine xw_load rfl (.tmp 6) rfl rfl e3 rfl ?_) | (go_at_call 20; refine hm.mono ?_; rintro e w4 ⟨rfl, hb4⟩; have e4 := e3.kept hb4; have y4 := y3.kept hb4; have f4 := f3.kept hb4; have o4 := o3.kept hb4; have b4 := b3.trans (hb4.mono hB3); have hB4 := Nat.le_of_lt e4.lt; have o40 := o4.cell 0 rfl; have o41 := o4.cell 1 rfl) | (refine xw_store rfl (.tmp 10) (.tmp 29) rfl rfl [.int .i64 0, .int .i64 0] rfl y4 rfl rfl rfl ?_))
    refine xw_end2 (by rfl) (by rfl) (by rfl) (xw_put y4 [.int .i64 0, .int .i64 0]) rfl rfl ?_
    exact ⟨rfl, b4.grown (xw_grown _ (B + 1) #[.int .i64 0, .int .i64 0]) hB4 (fun k hk => by cases hk; omega)⟩
  | true =>
  have hv := (xmB_iff c t mss most).1 h1
  rw [h1] at hm
  cases h2 : xinB n 0 0 with
  | false =>
    have hx := HX.out
    rw [ap_far h2] at hx
    subst hx
    rw [h2] at hw
    clear HX h1 h2 hv
    go_wp2_with (first | (refine xw_load rfl (.tmp 6) rfl rfl e3 rfl ?_) | (go_at_call 20; refine hm.mono ?_; rintro e w4 ⟨rfl, hb4⟩; have e4 := e3.kept hb4; have y4 := y3.kept hb4; have f4 := f3.kept hb4; have o4 := o3.kept hb4; have b4 := b3.trans (hb4.mono hB3); have hB4 := Nat.le_of_lt e4.lt; have o40 := o4.cell 0 rfl; have o41 := o4.cell 1 rfl) | (go_at_call 25; refine (hw _).mono ?_; rintro e wx ⟨rfl, rfl⟩) | (refine xw_store rfl (.tmp 10) (.tmp 29) rfl rfl [.int .i64 0, .int .i64 0] rfl y4 rfl rfl rfl ?_))
    refine xw_end2 (by rfl) (by rfl) (by rfl) (xw_put y4 [.int .i64 0, .int .i64 0]) rfl rfl ?_
    exact ⟨rfl, b4.grown (xw_grown _ (B + 1) #[.int .i64 0, .int .i64 0]) hB4 (fun k hk => by cases hk; omega)⟩
  | true =>
  have hx := HX.out
  rw [ap_ok h1 h2] at hx
  have h3 := (xin_iff n 0 0).1 h2
  have hc := fun w (h : Bx w (B + 2) 3 [.int .i64 mss]) => lose_any c t n mss (B + 2) w ⟨by omega, by omega⟩ ⟨by omega, by omega⟩ h
  rw [h2] at hw
  clear HX h1 h2 hv h3
  obtain ⟨u, hu⟩ : ∃ u, (loC c mss) = u := ⟨_, rfl⟩
  rw [hu] at hx hc
  clear hu
  go_upto_region 5 with (first | (refine xw_load rfl (.tmp 6) rfl rfl e3 rfl ?_) | (go_at_call 20; refine hm.mono ?_; rintro e w4 ⟨rfl, hb4⟩; have e4 := e3.kept hb4; have y4 := y3.kept hb4; have f4 := f3.kept hb4; have o4 := o3.kept hb4; have b4 := b3.trans (hb4.mono hB3); have hB4 := Nat.le_of_lt e4.lt; have o40 := o4.cell 0 rfl; have o41 := o4.cell 1 rfl) | (go_at_call 25; refine (hw _).mono ?_; rintro e wx ⟨rfl, rfl⟩) | (refine xw_load rfl (.tmp 6) rfl rfl e4 rfl ?_) | (go_at_call 44; refine (hc _ f4).mono ?_; rintro e w5 ⟨rfl, hb5⟩; have e5 := e4.kept hb5; have y5 := y4.kept hb5; have b5 := b4.trans (hb5.mono hB4)) | (refine xw_store rfl (.tmp 6) (.tmp 34) rfl rfl [.int .i64 u, .int .i64 u] rfl e5 rfl rfl rfl ?_))
  have e6 := xw_put e5 [.int .i64 u, .int .i64 u]
  have y6 := y5.grown (xw_grown w5 B #[.int .i64 u, .int .i64 u]) (fun e => by cases e)
  have b6 := b5.grown (xw_grown w5 B #[.int .i64 u, .int .i64 u]) (Nat.le_of_lt e5.lt) (fun k hk => by cases hk; exact Nat.le_refl B)
  change Code.wp _ _ _ _ (w5.setRow B #[.int .i64 u, .int .i64 u])
  generalize w5.setRow B #[.int .i64 u, .int .i64 u] = w6 at e6 y6 b6 ⊢
  have hB6 := Nat.le_of_lt e6.lt
  clear o40 o41 o4 o3
  refine wp_region_tail 10 13 (fun (W : World) => W.cell? ⟨B, 0, none⟩ = some (.int .i64 u) ∧ W.cell? ⟨B, 1, none⟩ = some (.int .i64 u) ∧ Bx W (B + 1) 23 [.int .i64 0, .int .i64 0] ∧ Below B w W) (by kernel_rfl) (by rfl) (by decide) ?_
  have HS : ((fun (W : World) => W.cell? ⟨B, 0, none⟩ = some (.int .i64 u) ∧ W.cell? ⟨B, 1, none⟩ = some (.int .i64 u) ∧ Bx W (B + 1) 23 [.int .i64 0, .int .i64 0] ∧ Below B w W)) _ := ⟨e6.drew.cell 0 rfl, e6.drew.cell 1 rfl, y6.drew, b6.drew⟩
  refine wpAnyT_take (i := 0) (v := ?vv25) rfl (by kernel_rfl) (fun _ _ _ h => h) (Or.inl ⟨by rfl, fun w hSw => ?yy25⟩) HS ?rr25
  case yy25 =>
    (try dsimp only at hSw); go_simp
    try with_reducible rfl
  try simp only [Act.put, List.setIfInBounds_toArray, List.set_cons_zero, List.set_cons_succ]
  refine wpAnyT_take (i := 1) (v := ?vv26) rfl (by kernel_rfl) (fun _ _ _ h => h) (Or.inl ⟨by rfl, fun w hSw => ?yy26⟩) HS ?rr26
  case yy26 =>
    (try dsimp only at hSw); go_simp
    try with_reducible rfl
  try simp only [Act.put, List.setIfInBounds_toArray, List.set_cons_zero, List.set_cons_succ]
  refine wpAnyT_take (i := 2) (v := ?vv27) rfl (by kernel_rfl) (fun _ _ _ h => h) (Or.inl ⟨by rfl, fun w hSw => ?yy27⟩) HS ?rr27
  case yy27 =>
    (try dsimp only at hSw); go_simp
    try with_reducible rfl
  try simp only [Act.put, List.setIfInBounds_toArray, List.set_cons_zero, List.set_cons_succ]
  refine wpAnyT_take (i := 3) (v := ?vv28) rfl (by kernel_rfl) (fun _ _ _ h => h) (Or.inl ⟨by rfl, fun w hSw => ?yy28⟩) HS ?rr28
  case yy28 =>
    (try dsimp only at hSw); go_simp
    try with_reducible rfl
  try simp only [Act.put, List.setIfInBounds_toArray, List.set_cons_zero, List.set_cons_succ]
  refine wpAnyT_take (i := 5) (v := ?vv29) rfl (by kernel_rfl) (fun _ _ _ h => h) (Or.inl ⟨by rfl, fun w hSw => ?yy29⟩) HS ?rr29
  case yy29 =>
    (try dsimp only at hSw); go_simp
    try with_reducible rfl
  try simp only [Act.put, List.setIfInBounds_toArray, List.set_cons_zero, List.set_cons_succ]
  refine wpAnyT_take (i := 6) (v := ?vv30) rfl (by kernel_rfl) (fun _ _ _ h => h) (Or.inl ⟨by rfl, fun w hSw => ?yy30⟩) HS ?rr30
  case yy30 =>
    (try dsimp only at hSw); go_simp
    try with_reducible rfl
  try simp only [Act.put, List.setIfInBounds_toArray, List.set_cons_zero, List.set_cons_succ]
  refine wpAnyT_take (i := 7) (v := ?vv31) rfl (by kernel_rfl) (fun _ _ _ h => h) (Or.inl ⟨by rfl, fun w hSw => ?yy31⟩) HS ?rr31
  case yy31 =>
    (try dsimp only at hSw); go_simp
    try with_reducible rfl
  try simp only [Act.put, List.setIfInBounds_toArray, List.set_cons_zero, List.set_cons_succ]
  refine wpAnyT_take (i := 8) (v := ?vv32) rfl (by kernel_rfl) (fun _ _ _ h => h) (Or.inl ⟨by rfl, fun w hSw => ?yy32⟩) HS ?rr32
  case yy32 =>
    (try dsimp only at hSw); go_simp
    try with_reducible rfl
  try simp only [Act.put, List.setIfInBounds_toArray, List.set_cons_zero, List.set_cons_succ]
  refine wpAnyT_one (k := 4) rfl (by kernel_rfl) (by decide) (fun K hK => ?_)
  go_simp
  refine (clx_any u mss most _).mono ?_
  rintro e wx ⟨rfl, rfl⟩
  have HS : ((fun (W : World) => W.cell? ⟨B, 0, none⟩ = some (.int .i64 u) ∧ W.cell? ⟨B, 1, none⟩ = some (.int .i64 u) ∧ Bx W (B + 1) 23 [.int .i64 0, .int .i64 0] ∧ Below B w W)) _ := HS
  refine hK _ _ HS ?_
  clear hK K
  try simp only [Act.put, List.setIfInBounds_toArray, List.set_cons_zero, List.set_cons_succ]
  refine wpAnyT_one (k := 9) rfl (by kernel_rfl) (by decide) (fun K hK => ?_)
  go_simp
  refine (clx_any u mss most _).mono ?_
  rintro e wx ⟨rfl, rfl⟩
  have HS : ((fun (W : World) => W.cell? ⟨B, 0, none⟩ = some (.int .i64 u) ∧ W.cell? ⟨B, 1, none⟩ = some (.int .i64 u) ∧ Bx W (B + 1) 23 [.int .i64 0, .int .i64 0] ∧ Below B w W)) _ := HS
  refine hK _ _ HS ?_
  clear hK K
  try simp only [Act.put, List.setIfInBounds_toArray, List.set_cons_zero, List.set_cons_succ]
  refine ⟨by kernel_rfl, ?_⟩
  simp only [List.drop_succ_cons, List.drop_zero]
  obtain ⟨hs0, hs1, hs2, hs3⟩ := HS
  obtain ⟨z1, hz1⟩ : ∃ z, cl2 u mss most = z := ⟨_, rfl⟩
  rw [hz1] at hx
  subst hx
  rw [hz1]
  go_wp2_with (refine xw_store rfl (.tmp 10) (.tmp 45) rfl rfl [.int .i64 z1, .int .i64 z1] rfl hs2 rfl rfl rfl ?_)
  refine xw_end2 (by rfl) (by rfl) (by rfl) (xw_put hs2 [.int .i64 z1, .int .i64 z1]) rfl rfl ?_
  exact ⟨rfl, hs3.grown (xw_grown _ (B + 1) #[.int .i64 z1, .int .i64 z1]) (Nat.le_of_lt (Nat.lt_of_le_of_lt (Nat.le_succ B) hs2.lt)) (fun k hk => by cases hk; omega)⟩

set_option maxRecDepth 100000 in
set_option maxHeartbeats 8000000 in
theorem apply4_any (c t n mss most : Int) (w : World) :
    Calls Try.prog 22 #[.int .i64 4, .agg #[.int .i64 c, .int .i64 t], .int .i64 n, .int .i64 mss, .int .i64 most] w fun e w' => TellX w w' e (apR 0 mss (loC c mss) c t n mss most) := by
  unfold TellX
  obtain ⟨x, hx⟩ : ∃ x, apR 0 mss (loC c mss) c t n mss most = x := ⟨_, rfl⟩
  rw [hx]
  have HX := Lib.hid hx; clear hx
  obtain ⟨B, hB⟩ : ∃ B, w.heap.size = B := ⟨_, rfl⟩
  have e0 := (Bx.new w 23 [.int .i64 c, .int .i64 t]).alloc (.cells #[.int .i64 0, .int .i64 0] 23)
  have y0 := Bx.new (w.alloc (.cells #[.int .i64 c, .int .i64 t] 23)) 23 [.int .i64 0, .int .i64 0]
  rw [World.size_alloc] at y0
  rw [hB] at e0 y0 ⊢
  have b0 : Below B w ((w.alloc (.cells #[.int .i64 c, .int .i64 t] 23)).alloc (.cells #[.int .i64 0, .int .i64 0] 23)) := by rw [← hB]; exact ((Below.refl _ _).alloc (Nat.le_refl _) _).alloc (by simp) _
  have hsz : ((w.alloc (.cells #[.int .i64 c, .int .i64 t] 23)).alloc (.cells #[.int .i64 0, .int .i64 0] 23)).heap.size = B + 2 := by simp [hB]
  have ix : ∀ w, (Instr.index 49 (.agg #[.int .i64 1099511627776, (.func (.func 41) #[] #[]), .int .i64 mss, (.func (.func 42) #[] #[]), .int .i64 1024, (.func (.func 43) #[] #[]), .int .i64 0, (.func (.func 44) #[] #[.pointer (some ⟨B + 2, 0, none⟩)]), .int .i64 0, (.func (.func 45) #[] #[.pointer (some ⟨B + 2, 0, none⟩)])]) (.int .i64 4)).run Try.prog w = .ok (.agg #[.int .i64 0, (.func (.func 45) #[] #[.pointer (some ⟨B + 2, 0, none⟩)])]) w := fun _ => by kernel_rfl
  have hen := ent_xop4
  go_enter Try.func22, Try.ntmps22
  go_upto_region 1 with fail
  generalize (w.alloc (.cells #[.int .i64 c, .int .i64 t] 23)).alloc (.cells #[.int .i64 0, .int .i64 0] 23) = w1 at e0 y0 b0 hsz ⊢
  clear hB
  go_upto_region 2 with (first | (go_at_call 30; refine (xops_any mss (B + 2) _ hsz).mono ?_; rintro e w2 ⟨rfl, f2, hb2⟩; have e2 := e0.below hb2 (by omega); have y2 := y0.below hb2 (by omega); have b2 := b0.trans (hb2.mono (by omega))) | (refine xo_store rfl (.tmp 12) (.tmp 16) rfl rfl [.int .i64 0, (.func (.func 45) #[] #[.pointer (some ⟨B + 2, 0, none⟩)])] rfl (Bx.new w2 48 [.int .i64 0, .nilFunc]) rfl rfl rfl ?_))
  have hP : B + 2 < w2.heap.size := f2.lt
  have o3 := xo_put (Bx.new w2 48 [.int .i64 0, .nilFunc]) [.int .i64 0, (.func (.func 45) #[] #[.pointer (some ⟨B + 2, 0, none⟩)])]
  have e3 := (e2.alloc (.cells #[.int .i64 0, .nilFunc] 48)).grown (xo_grown _ w2.heap.size #[.int .i64 0, (.func (.func 45) #[] #[.pointer (some ⟨B + 2, 0, none⟩)])]) (fun e => by have := Option.some.inj e; omega)
  have y3 := (y2.alloc (.cells #[.int .i64 0, .nilFunc] 48)).grown (xo_grown _ w2.heap.size #[.int .i64 0, (.func (.func 45) #[] #[.pointer (some ⟨B + 2, 0, none⟩)])]) (fun e => by have := Option.some.inj e; omega)
  have f3 := (f2.alloc (.cells #[.int .i64 0, .nilFunc] 48)).grown (xo_grown _ w2.heap.size #[.int .i64 0, (.func (.func 45) #[] #[.pointer (some ⟨B + 2, 0, none⟩)])]) (fun e => by have := Option.some.inj e; omega)
  have b3 := (b2.alloc (by omega) (.cells #[.int .i64 0, .nilFunc] 48)).grown (xo_grown _ w2.heap.size #[.int .i64 0, (.func (.func 45) #[] #[.pointer (some ⟨B + 2, 0, none⟩)])]) (by simp; omega) (fun k hk => by cases hk; omega)
  change Code.wp _ _ _ _ ((w2.alloc (.cells #[.int .i64 0, .nilFunc] 48)).setRow w2.heap.size #[.int .i64 0, (.func (.func 45) #[] #[.pointer (some ⟨B + 2, 0, none⟩)])])
  obtain ⟨P, hPP⟩ : ∃ P, w2.heap.size = P := ⟨_, rfl⟩
  rw [hPP] at o3 e3 y3 f3 b3 ⊢
  generalize ((w2.alloc (.cells #[.int .i64 0, .nilFunc] 48)).setRow P #[.int .i64 0, (.func (.func 45) #[] #[.pointer (some ⟨B + 2, 0, none⟩)])]) = w3 at o3 e3 y3 f3 b3 ⊢
  clear hPP hP hb2 e2 y2 b2 f2 e0 y0 b0 hsz
  have hB3 := Nat.le_of_lt e3.lt
  have hm := xwmay_any c t mss most w3
  have hw := fun w => xwin_any n 0 0 w
  cases h1 : xmB c t mss most with
  | false =>
    have hx := HX.out
    rw [ap_no h1] at hx
    subst hx
    rw [h1] at hm
    clear HX h1
    go_wp2_with (first | (refine xw_load rfl (.tmp 6) rfl rfl e3 rfl ?_) | (go_at_call 20; refine hm.mono ?_; rintro e w4 ⟨rfl, hb4⟩; have e4 := e3.kept hb4; have y4 := y3.kept hb4; have f4 := f3.kept hb4; have o4 := o3.kept hb4; have b4 := b3.trans (hb4.mono hB3); have hB4 := Nat.le_of_lt e4.lt; have o40 := o4.cell 0 rfl; have o41 := o4.cell 1 rfl) | (refine xw_store rfl (.tmp 10) (.tmp 29) rfl rfl [.int .i64 0, .int .i64 0] rfl y4 rfl rfl rfl ?_))
    refine xw_end2 (by rfl) (by rfl) (by rfl) (xw_put y4 [.int .i64 0, .int .i64 0]) rfl rfl ?_
    exact ⟨rfl, b4.grown (xw_grown _ (B + 1) #[.int .i64 0, .int .i64 0]) hB4 (fun k hk => by cases hk; omega)⟩
  | true =>
  have hv := (xmB_iff c t mss most).1 h1
  rw [h1] at hm
  cases h2 : xinB n 0 0 with
  | false =>
    have hx := HX.out
    rw [ap_far h2] at hx
    subst hx
    rw [h2] at hw
    clear HX h1 h2 hv
    go_wp2_with (first | (refine xw_load rfl (.tmp 6) rfl rfl e3 rfl ?_) | (go_at_call 20; refine hm.mono ?_; rintro e w4 ⟨rfl, hb4⟩; have e4 := e3.kept hb4; have y4 := y3.kept hb4; have f4 := f3.kept hb4; have o4 := o3.kept hb4; have b4 := b3.trans (hb4.mono hB3); have hB4 := Nat.le_of_lt e4.lt; have o40 := o4.cell 0 rfl; have o41 := o4.cell 1 rfl) | (go_at_call 25; refine (hw _).mono ?_; rintro e wx ⟨rfl, rfl⟩) | (refine xw_store rfl (.tmp 10) (.tmp 29) rfl rfl [.int .i64 0, .int .i64 0] rfl y4 rfl rfl rfl ?_))
    refine xw_end2 (by rfl) (by rfl) (by rfl) (xw_put y4 [.int .i64 0, .int .i64 0]) rfl rfl ?_
    exact ⟨rfl, b4.grown (xw_grown _ (B + 1) #[.int .i64 0, .int .i64 0]) hB4 (fun k hk => by cases hk; omega)⟩
  | true =>
  have hx := HX.out
  rw [ap_ok h1 h2] at hx
  have h3 := (xin_iff n 0 0).1 h2
  have hc := fun w (h : Bx w (B + 2) 3 [.int .i64 mss]) => loseall_any c t n mss (B + 2) w ⟨by omega, by omega⟩ ⟨by omega, by omega⟩ h
  rw [h2] at hw
  clear HX h1 h2 hv h3
  obtain ⟨v, hv⟩ : ∃ v, (loC c mss) = v := ⟨_, rfl⟩
  rw [hv] at hx hc
  clear hv
  go_upto_region 5 with (first | (refine xw_load rfl (.tmp 6) rfl rfl e3 rfl ?_) | (go_at_call 20; refine hm.mono ?_; rintro e w4 ⟨rfl, hb4⟩; have e4 := e3.kept hb4; have y4 := y3.kept hb4; have f4 := f3.kept hb4; have o4 := o3.kept hb4; have b4 := b3.trans (hb4.mono hB3); have hB4 := Nat.le_of_lt e4.lt; have o40 := o4.cell 0 rfl; have o41 := o4.cell 1 rfl) | (go_at_call 25; refine (hw _).mono ?_; rintro e wx ⟨rfl, rfl⟩) | (refine xw_load rfl (.tmp 6) rfl rfl e4 rfl ?_) | (go_at_call 45; refine (hc _ f4).mono ?_; rintro e w5 ⟨rfl, hb5⟩; have e5 := e4.kept hb5; have y5 := y4.kept hb5; have b5 := b4.trans (hb5.mono hB4)) | (refine xw_store rfl (.tmp 6) (.tmp 34) rfl rfl [.int .i64 mss, .int .i64 v] rfl e5 rfl rfl rfl ?_))
  have e6 := xw_put e5 [.int .i64 mss, .int .i64 v]
  have y6 := y5.grown (xw_grown w5 B #[.int .i64 mss, .int .i64 v]) (fun e => by cases e)
  have b6 := b5.grown (xw_grown w5 B #[.int .i64 mss, .int .i64 v]) (Nat.le_of_lt e5.lt) (fun k hk => by cases hk; exact Nat.le_refl B)
  change Code.wp _ _ _ _ (w5.setRow B #[.int .i64 mss, .int .i64 v])
  generalize w5.setRow B #[.int .i64 mss, .int .i64 v] = w6 at e6 y6 b6 ⊢
  have hB6 := Nat.le_of_lt e6.lt
  clear o40 o41 o4 o3
  refine wp_region_tail 10 13 (fun (W : World) => W.cell? ⟨B, 0, none⟩ = some (.int .i64 mss) ∧ W.cell? ⟨B, 1, none⟩ = some (.int .i64 v) ∧ Bx W (B + 1) 23 [.int .i64 0, .int .i64 0] ∧ Below B w W) (by kernel_rfl) (by rfl) (by decide) ?_
  have HS : ((fun (W : World) => W.cell? ⟨B, 0, none⟩ = some (.int .i64 mss) ∧ W.cell? ⟨B, 1, none⟩ = some (.int .i64 v) ∧ Bx W (B + 1) 23 [.int .i64 0, .int .i64 0] ∧ Below B w W)) _ := ⟨e6.drew.cell 0 rfl, e6.drew.cell 1 rfl, y6.drew, b6.drew⟩
  refine wpAnyT_take (i := 0) (v := ?vv33) rfl (by kernel_rfl) (fun _ _ _ h => h) (Or.inl ⟨by rfl, fun w hSw => ?yy33⟩) HS ?rr33
  case yy33 =>
    (try dsimp only at hSw); go_simp
    try with_reducible rfl
  try simp only [Act.put, List.setIfInBounds_toArray, List.set_cons_zero, List.set_cons_succ]
  refine wpAnyT_take (i := 1) (v := ?vv34) rfl (by kernel_rfl) (fun _ _ _ h => h) (Or.inl ⟨by rfl, fun w hSw => ?yy34⟩) HS ?rr34
  case yy34 =>
    (try dsimp only at hSw); go_simp
    try with_reducible rfl
  try simp only [Act.put, List.setIfInBounds_toArray, List.set_cons_zero, List.set_cons_succ]
  refine wpAnyT_take (i := 2) (v := ?vv35) rfl (by kernel_rfl) (fun _ _ _ h => h) (Or.inl ⟨by rfl, fun w hSw => ?yy35⟩) HS ?rr35
  case yy35 =>
    (try dsimp only at hSw); go_simp
    try with_reducible rfl
  try simp only [Act.put, List.setIfInBounds_toArray, List.set_cons_zero, List.set_cons_succ]
  refine wpAnyT_take (i := 3) (v := ?vv36) rfl (by kernel_rfl) (fun _ _ _ h => h) (Or.inl ⟨by rfl, fun w hSw => ?yy36⟩) HS ?rr36
  case yy36 =>
    (try dsimp only at hSw); go_simp
    try with_reducible rfl
  try simp only [Act.put, List.setIfInBounds_toArray, List.set_cons_zero, List.set_cons_succ]
  refine wpAnyT_take (i := 5) (v := ?vv37) rfl (by kernel_rfl) (fun _ _ _ h => h) (Or.inl ⟨by rfl, fun w hSw => ?yy37⟩) HS ?rr37
  case yy37 =>
    (try dsimp only at hSw); go_simp
    try with_reducible rfl
  try simp only [Act.put, List.setIfInBounds_toArray, List.set_cons_zero, List.set_cons_succ]
  refine wpAnyT_take (i := 6) (v := ?vv38) rfl (by kernel_rfl) (fun _ _ _ h => h) (Or.inl ⟨by rfl, fun w hSw => ?yy38⟩) HS ?rr38
  case yy38 =>
    (try dsimp only at hSw); go_simp
    try with_reducible rfl
  try simp only [Act.put, List.setIfInBounds_toArray, List.set_cons_zero, List.set_cons_succ]
  refine wpAnyT_take (i := 7) (v := ?vv39) rfl (by kernel_rfl) (fun _ _ _ h => h) (Or.inl ⟨by rfl, fun w hSw => ?yy39⟩) HS ?rr39
  case yy39 =>
    (try dsimp only at hSw); go_simp
    try with_reducible rfl
  try simp only [Act.put, List.setIfInBounds_toArray, List.set_cons_zero, List.set_cons_succ]
  refine wpAnyT_take (i := 8) (v := ?vv40) rfl (by kernel_rfl) (fun _ _ _ h => h) (Or.inl ⟨by rfl, fun w hSw => ?yy40⟩) HS ?rr40
  case yy40 =>
    (try dsimp only at hSw); go_simp
    try with_reducible rfl
  try simp only [Act.put, List.setIfInBounds_toArray, List.set_cons_zero, List.set_cons_succ]
  refine wpAnyT_one (k := 4) rfl (by kernel_rfl) (by decide) (fun K hK => ?_)
  go_simp
  refine (clx_any mss mss most _).mono ?_
  rintro e wx ⟨rfl, rfl⟩
  have HS : ((fun (W : World) => W.cell? ⟨B, 0, none⟩ = some (.int .i64 mss) ∧ W.cell? ⟨B, 1, none⟩ = some (.int .i64 v) ∧ Bx W (B + 1) 23 [.int .i64 0, .int .i64 0] ∧ Below B w W)) _ := HS
  refine hK _ _ HS ?_
  clear hK K
  try simp only [Act.put, List.setIfInBounds_toArray, List.set_cons_zero, List.set_cons_succ]
  refine wpAnyT_one (k := 9) rfl (by kernel_rfl) (by decide) (fun K hK => ?_)
  go_simp
  refine (clx_any v mss most _).mono ?_
  rintro e wx ⟨rfl, rfl⟩
  have HS : ((fun (W : World) => W.cell? ⟨B, 0, none⟩ = some (.int .i64 mss) ∧ W.cell? ⟨B, 1, none⟩ = some (.int .i64 v) ∧ Bx W (B + 1) 23 [.int .i64 0, .int .i64 0] ∧ Below B w W)) _ := HS
  refine hK _ _ HS ?_
  clear hK K
  try simp only [Act.put, List.setIfInBounds_toArray, List.set_cons_zero, List.set_cons_succ]
  refine ⟨by kernel_rfl, ?_⟩
  simp only [List.drop_succ_cons, List.drop_zero]
  obtain ⟨hs0, hs1, hs2, hs3⟩ := HS
  obtain ⟨z1, hz1⟩ : ∃ z, cl2 mss mss most = z := ⟨_, rfl⟩
  obtain ⟨z2, hz2⟩ : ∃ z, cl2 v mss most = z := ⟨_, rfl⟩
  rw [hz1, hz2] at hx
  subst hx
  rw [hz1, hz2]
  go_wp2_with (refine xw_store rfl (.tmp 10) (.tmp 45) rfl rfl [.int .i64 z1, .int .i64 z2] rfl hs2 rfl rfl rfl ?_)
  refine xw_end2 (by rfl) (by rfl) (by rfl) (xw_put hs2 [.int .i64 z1, .int .i64 z2]) rfl rfl ?_
  exact ⟨rfl, hs3.grown (xw_grown _ (B + 1) #[.int .i64 z1, .int .i64 z2]) (Nat.le_of_lt (Nat.lt_of_le_of_lt (Nat.le_succ B) hs2.lt)) (fun k hk => by cases hk; omega)⟩
end Go.Proofs.Ytookmfgnhflpaaa
