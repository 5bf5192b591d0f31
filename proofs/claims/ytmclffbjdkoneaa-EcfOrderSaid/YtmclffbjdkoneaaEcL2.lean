/- Package ecf as it landed: rounds, less, worth as contracts of the calls. -/
import Derived.Test.YtmclffbjdkoneaaEcL1
import Derived.Test.YtmclffbjdkoneaaMul
import Derived.Test.YtmclffbjdkoneaaTail2
import Derived.Laws.EntriesVeiled
import Derived.Lib.MinMax
import Derived.Shelf.Abstract
namespace Go.Proofs.Ytmclffbjdkoneaa
open Go.RowKit
set_option linter.unusedVariables false
set_option linter.unusedSimpArgs false


set_option maxRecDepth 100000 in
set_option maxHeartbeats 8000000 in
theorem ecrounds_any (bytes : Int) (x : Chv) (w : World) (h : 0 ≤ bytes ∧ bytes ≤ 1099511627776) (hc : 1 ≤ x.cwnd) : Calls Try.prog 21 #[.int .i64 bytes, .agg #[.bool x.up, .int .i64 x.cwnd, .int .i64 x.flight, .int .i64 x.srtt, .int .i64 x.vr]] w fun e w' => e = .returned (.int .i64 (1 + bytes / x.cwnd)) ∧ Below w.heap.size w w' := by
  obtain ⟨B, hB⟩ : ∃ B, w.heap.size = B := ⟨_, rfl⟩
  have e0 := Bx.new w 28 [.bool x.up, .int .i64 x.cwnd, .int .i64 x.flight, .int .i64 x.srtt, .int .i64 x.vr]
  rw [hB] at e0 ⊢
  have b0 : Below B w (w.alloc (.cells #[.bool x.up, .int .i64 x.cwnd, .int .i64 x.flight, .int .i64 x.srtt, .int .i64 x.vr] 28)) := by rw [← hB]; exact (Below.refl _ _).alloc (Nat.le_refl _) _
  obtain ⟨up, cw, fl, sr, vr⟩ := x
  dsimp only at e0 b0 hc ⊢
  have q0 : 0 ≤ bytes / cw := Int.ediv_nonneg h.1 (by omega)
  have q1 : bytes / cw ≤ bytes := Int.ediv_le_self _ h.1
  have ht : Int.tdiv bytes cw = bytes / cw := Int.tdiv_eq_ediv_of_nonneg h.1
  obtain ⟨q, hq⟩ : ∃ q, bytes / cw = q := ⟨_, rfl⟩
  rw [hq] at q0 q1 ht ⊢
  have i1 : IntKind.i64.wrap q = q := IntWalk.i64_in _ (by omega)
  have i2 : IntKind.i64.wrap (1 + q) = 1 + q := IntWalk.i64_in _ (by omega)
  have z0 : ¬ cw = 0 := by omega
  have z1 : (cw == 0) = false := by simp; omega
  clear hq h q0 q1 hc
  go_enter Try.func21, Try.ntmps21
  go_upto_region 1 with fail
  change Code.wp _ _ _ _ (w.alloc (.cells #[.bool up, .int .i64 cw, .int .i64 fl, .int .i64 sr, .int .i64 vr] 28))
  generalize w.alloc (.cells #[.bool up, .int .i64 cw, .int .i64 fl, .int .i64 sr, .int .i64 vr] 28) = w1 at e0 b0 ⊢
  have c1 := e0.cell 1 rfl
  clear hB e0
  go_wp2
  go_ret
  exact ⟨rfl, b0⟩

theorem md_one {a b : Int} (ha : 0 ≤ a ∧ a ≤ 4611686018427387904) (hb : 0 ≤ b ∧ b ≤ 4611686018427387904) : mdOk a b 1 = decide (a * b ≤ 4611686018427387904) := by
  have h0 : 0 ≤ a * b := Int.mul_nonneg ha.1 hb.1
  unfold mdOk
  rw [Int.ediv_one, Bool.eq_iff_iff]
  simp only [Bool.and_eq_true, inB_iff, decide_eq_true_eq]
  omega
set_option maxRecDepth 100000 in
set_option maxHeartbeats 8000000 in
theorem ecless_any (a b limit : Int) (w : World) (ha : 0 ≤ a ∧ a ≤ 4611686018427387904) (hb : 0 ≤ b ∧ b ≤ 4611686018427387904) (hl : limit ≤ 4611686018427387904) : Calls Try.prog 22 #[.int .i64 a, .int .i64 b, .int .i64 limit] w fun e w' => e = .returned (.bool (decide (a * b < limit))) ∧ Below w.heap.size w w' := by
  have mm := fun w => mul_any a b w
  rw [md_one ha hb] at mm
  obtain ⟨p, hp⟩ : ∃ p, a * b = p := ⟨_, rfl⟩
  rw [hp] at mm ⊢
  clear ha hb hp
  by_cases h : p ≤ 4611686018427387904
  · rw [decide_eq_true h] at mm
    obtain ⟨t, ht⟩ : ∃ t, tell p true = t := ⟨_, rfl⟩
    have hp : p = t := by rw [← ht]; rfl
    rw [ht] at mm
    subst hp
    clear ht h hl
    go_enter Try.func22, Try.ntmps22
    go_wp2_with (go_at_call 25; refine (mm _).mono ?_; rintro e wm ⟨rfl, hbm⟩)
    go_ret
    exact ⟨rfl, hbm⟩
  · rw [decide_eq_false h] at mm
    rw [decide_eq_false (by omega : ¬ p < limit)]
    obtain ⟨t, ht⟩ : ∃ t, tell p false = t := ⟨_, rfl⟩
    rw [ht] at mm
    clear ht h hl
    go_enter Try.func22, Try.ntmps22
    go_wp2_with (go_at_call 25; refine (mm _).mono ?_; rintro e wm ⟨rfl, hbm⟩)
    go_ret
    exact ⟨rfl, hbm⟩

theorem wait_eq (f s : Chv) (bytes : Int) (waits : Bool) : waitB f s bytes waits = (decide ((4 * (1 + bytes / f.cwnd)) * f.srtt < (if waits then 5 else 4) * (s.srtt + max f.vr s.vr)) && !decide ((1 + bytes / s.cwnd) * s.srtt < 2 * f.srtt + max f.vr s.vr)) := by
  unfold waitB
  rw [Int.one_mul, Bool.eq_iff_iff]
  simp only [Bool.and_eq_true, decide_eq_true_eq, Bool.not_eq_true', decide_eq_false_iff_not]
theorem round_bd {bytes c : Int} (h : 1 ≤ bytes ∧ bytes ≤ 1099511627776) (hc : 1 ≤ c) : 1 ≤ 1 + bytes / c ∧ 1 + bytes / c ≤ 1099511627777 := by
  have q0 : 0 ≤ bytes / c := Int.ediv_nonneg (by omega) (by omega)
  have q1 : bytes / c ≤ bytes := Int.ediv_le_self _ (by omega)
  omega

set_option maxRecDepth 100000 in
set_option maxHeartbeats 8000000 in
theorem ecworth_any (f s : Chv) (bytes : Int) (waits : Bool) (w : World) (hf : ChOk f) (hs : ChOk s) (h : 1 ≤ bytes ∧ bytes ≤ 1099511627776) : Calls Try.prog 18 #[.agg #[.bool f.up, .int .i64 f.cwnd, .int .i64 f.flight, .int .i64 f.srtt, .int .i64 f.vr], .agg #[.bool s.up, .int .i64 s.cwnd, .int .i64 s.flight, .int .i64 s.srtt, .int .i64 s.vr], .int .i64 bytes, .bool waits] w fun e w' => e = .returned (.bool (waitB f s bytes waits)) ∧ Below w.heap.size w w' := by
  rw [wait_eq]
  obtain ⟨B, hB⟩ : ∃ B, w.heap.size = B := ⟨_, rfl⟩
  have e0 := (Bx.new w 28 [.bool f.up, .int .i64 f.cwnd, .int .i64 f.flight, .int .i64 f.srtt, .int .i64 f.vr]).alloc (.cells #[.bool s.up, .int .i64 s.cwnd, .int .i64 s.flight, .int .i64 s.srtt, .int .i64 s.vr] 28)
  have y0 := Bx.new (w.alloc (.cells #[.bool f.up, .int .i64 f.cwnd, .int .i64 f.flight, .int .i64 f.srtt, .int .i64 f.vr] 28)) 28 [.bool s.up, .int .i64 s.cwnd, .int .i64 s.flight, .int .i64 s.srtt, .int .i64 s.vr]
  rw [World.size_alloc] at y0
  rw [hB] at e0 y0 ⊢
  have b0 : Below B w ((w.alloc (.cells #[.bool f.up, .int .i64 f.cwnd, .int .i64 f.flight, .int .i64 f.srtt, .int .i64 f.vr] 28)).alloc (.cells #[.bool s.up, .int .i64 s.cwnd, .int .i64 s.flight, .int .i64 s.srtt, .int .i64 s.vr] 28)) := by rw [← hB]; exact ((Below.refl _ _).alloc (Nat.le_refl _) _).alloc (by simp) _
  have hrf := fun W => ecrounds_any bytes f W ⟨by omega, h.2⟩ hf.c0
  have hrs := fun W => ecrounds_any bytes s W ⟨by omega, h.2⟩ hs.c0
  obtain ⟨n0, n1⟩ := round_bd h hf.c0
  obtain ⟨m0, m1⟩ := round_bd h hs.c0
  obtain ⟨n, hn⟩ : ∃ n, 1 + bytes / f.cwnd = n := ⟨_, rfl⟩
  obtain ⟨m, hm⟩ : ∃ m, 1 + bytes / s.cwnd = m := ⟨_, rfl⟩
  rw [hn] at hrf n0 n1 ⊢
  rw [hm] at hrs m0 m1 ⊢
  have f0 := hf.s0; have f1 := hf.s1; have f2 := hf.v0; have f3 := hf.v1
  have s0 := hs.s0; have s1 := hs.s1; have s2 := hs.v0; have s3 := hs.v1
  have hdm : 0 ≤ max f.vr s.vr ∧ max f.vr s.vr ≤ 1099511627776 := by omega
  obtain ⟨d, hd⟩ : ∃ d, max f.vr s.vr = d := ⟨_, rfl⟩
  rw [hd] at hdm ⊢
  obtain ⟨pt, hpt⟩ : ∃ pt : Int, (if waits then 5 else 4) = pt := ⟨_, rfl⟩
  have hp4 : 4 ≤ pt ∧ pt ≤ 5 := by rw [← hpt]; cases waits <;> decide
  rw [hpt]
  have t0 : 0 ≤ pt * (s.srtt + d) ∧ pt * (s.srtt + d) ≤ 5 * 2199023255552 := ⟨Int.mul_nonneg (by omega) (by omega), Int.mul_le_mul hp4.2 (by omega) (by omega) (by omega)⟩
  obtain ⟨tt, htt⟩ : ∃ tt, pt * (s.srtt + d) = tt := ⟨_, rfl⟩
  rw [htt] at t0 ⊢
  have l1 := fun W => ecless_any (4 * n) f.srtt tt W (by omega) (by omega) (by omega)
  have l2 := fun W => ecless_any m s.srtt (2 * f.srtt + d) W (by omega) (by omega) (by omega)
  have i1 : IntKind.i64.wrap (4 * n) = 4 * n := IntWalk.i64_in _ (by omega)
  have i2 : IntKind.i64.wrap (s.srtt + d) = s.srtt + d := IntWalk.i64_in _ (by omega)
  have i3 : IntKind.i64.wrap tt = tt := IntWalk.i64_in _ (by omega)
  have i4 : IntKind.i64.wrap (2 * f.srtt) = 2 * f.srtt := IntWalk.i64_in _ (by omega)
  have i5 : IntKind.i64.wrap (2 * f.srtt + d) = 2 * f.srtt + d := IntWalk.i64_in _ (by omega)
  obtain ⟨lim, hlim⟩ : ∃ q, 2 * f.srtt + d = q := ⟨_, rfl⟩
  obtain ⟨z1, hz1⟩ : ∃ z, decide (4 * n * f.srtt < tt) = z := ⟨_, rfl⟩
  obtain ⟨z2, hz2⟩ : ∃ z, decide (m * s.srtt < lim) = z := ⟨_, rfl⟩
  rw [hlim] at l2 i5 ⊢
  rw [hz1] at l1 ⊢
  rw [hz2] at l2 ⊢
  have L1 := Lib.hid l1; have L2 := Lib.hid l2; have RF := Lib.hid hrf; have RS := Lib.hid hrs
  clear l1 l2 hrf hrs hn hm n0 n1 m0 m1 f0 f1 f2 f3 s0 s1 s2 s3 hdm hp4 t0 hz1 hz2 hf hs h
  go_enter Try.func18, Try.ntmps18
  go_upto_region 1 with fail
  generalize (w.alloc (.cells #[.bool f.up, .int .i64 f.cwnd, .int .i64 f.flight, .int .i64 f.srtt, .int .i64 f.vr] 28)).alloc (.cells #[.bool s.up, .int .i64 s.cwnd, .int .i64 s.flight, .int .i64 s.srtt, .int .i64 s.vr] 28) = w1 at e0 y0 b0 ⊢
  have c4 := e0.cell 4 rfl; have d4 := y0.cell 4 rfl
  go_upto_region 2 with fail
  clear c4 d4 hd
  have hTT := htt
  cases waits with
  | true =>
    rw [if_pos rfl] at hpt
    subst hpt
    go_upto_region 5 with fail
    have hrf := RF.out; have hrs := RS.out
    refine wp_region_tail 7 8 (fun (W : World) => Bx W B 28 [.bool f.up, .int .i64 f.cwnd, .int .i64 f.flight, .int .i64 f.srtt, .int .i64 f.vr] ∧ Bx W (B + 1) 28 [.bool s.up, .int .i64 s.cwnd, .int .i64 s.flight, .int .i64 s.srtt, .int .i64 s.vr] ∧ Below B w W) (by kernel_rfl) (by rfl) (by decide) ?_
    have HS : (fun (W : World) => Bx W B 28 [.bool f.up, .int .i64 f.cwnd, .int .i64 f.flight, .int .i64 f.srtt, .int .i64 f.vr] ∧ Bx W (B + 1) 28 [.bool s.up, .int .i64 s.cwnd, .int .i64 s.flight, .int .i64 s.srtt, .int .i64 s.vr] ∧ Below B w W) w1.drew := ⟨e0.drew, y0.drew, b0.drew⟩
    refine wpAnyT_take (i := 0) (v := ?vv1) rfl (by kernel_rfl) (fun _ _ _ h => h) (Or.inl ⟨by rfl, fun w hSw => ?yy1⟩) HS ?rr1
    case yy1 =>
      (try dsimp only at hSw); go_simp
      try with_reducible rfl
    try simp only [Act.put, List.setIfInBounds_toArray, List.set_cons_zero, List.set_cons_succ]
    refine wpAnyT_take (i := 1) (v := .agg #[.bool f.up, .int .i64 f.cwnd, .int .i64 f.flight, .int .i64 f.srtt, .int .i64 f.vr]) rfl (by kernel_rfl) (fun _ _ _ h => h) (ch_yields (by rfl) (.tmp 4) rfl rfl [.bool f.up, .int .i64 f.cwnd, .int .i64 f.flight, .int .i64 f.srtt, .int .i64 f.vr] rfl 28 (fun W hW => hW.1)) HS ?_
    try simp only [Act.put, List.setIfInBounds_toArray, List.set_cons_zero, List.set_cons_succ]
    refine wpAnyT_take (i := 3) (v := ?vv2) rfl (by kernel_rfl) (fun _ _ _ h => h) (Or.inl ⟨by rfl, fun w hSw => ?yy2⟩) HS ?rr2
    case yy2 =>
      (try dsimp only at hSw); go_simp
      try with_reducible rfl
    try simp only [Act.put, List.setIfInBounds_toArray, List.set_cons_zero, List.set_cons_succ]
    refine wpAnyT_take (i := 4) (v := .agg #[.bool s.up, .int .i64 s.cwnd, .int .i64 s.flight, .int .i64 s.srtt, .int .i64 s.vr]) rfl (by kernel_rfl) (fun _ _ _ h => h) (ch_yields (by rfl) (.tmp 5) rfl rfl [.bool s.up, .int .i64 s.cwnd, .int .i64 s.flight, .int .i64 s.srtt, .int .i64 s.vr] rfl 28 (fun W hW => hW.2.1)) HS ?_
    try simp only [Act.put, List.setIfInBounds_toArray, List.set_cons_zero, List.set_cons_succ]
    refine wpAnyT_one (k := 2) rfl (by kernel_rfl) (by decide) (fun K hK => ?_)
    go_simp
    refine ((hrf _).mono ?_)
    rintro e wvf ⟨rfl, hbf⟩
    have HS : (fun (W : World) => Bx W B 28 [.bool f.up, .int .i64 f.cwnd, .int .i64 f.flight, .int .i64 f.srtt, .int .i64 f.vr] ∧ Bx W (B + 1) 28 [.bool s.up, .int .i64 s.cwnd, .int .i64 s.flight, .int .i64 s.srtt, .int .i64 s.vr] ∧ Below B w W) wvf := ⟨HS.1.kept hbf, HS.2.1.kept hbf, HS.2.2.trans (hbf.mono (Nat.le_of_lt HS.1.lt))⟩
    refine hK _ _ HS ?_
    clear hK K
    try simp only [Act.put, List.setIfInBounds_toArray, List.set_cons_zero, List.set_cons_succ]
    refine wpAnyT_one (k := 5) rfl (by kernel_rfl) (by decide) (fun K hK => ?_)
    go_simp
    refine ((hrs _).mono ?_)
    rintro e wvs ⟨rfl, hbs⟩
    have HS : (fun (W : World) => Bx W B 28 [.bool f.up, .int .i64 f.cwnd, .int .i64 f.flight, .int .i64 f.srtt, .int .i64 f.vr] ∧ Bx W (B + 1) 28 [.bool s.up, .int .i64 s.cwnd, .int .i64 s.flight, .int .i64 s.srtt, .int .i64 s.vr] ∧ Below B w W) wvs := ⟨HS.1.kept hbs, HS.2.1.kept hbs, HS.2.2.trans (hbs.mono (Nat.le_of_lt HS.1.lt))⟩
    refine hK _ _ HS ?_
    clear hK K
    try simp only [Act.put, List.setIfInBounds_toArray, List.set_cons_zero, List.set_cons_succ]
    refine wpAnyT_one (k := 6) rfl (by kernel_rfl) (by decide) (fun K hK => ?_)
    go_simp
    refine hK _ _ HS ?_
    clear hK K
    try simp only [Act.put, List.setIfInBounds_toArray, List.set_cons_zero, List.set_cons_succ]
    refine ⟨by kernel_rfl, ?_⟩
    simp only [List.drop_succ_cons, List.drop_zero]
    obtain ⟨e2, y2, b2⟩ := HS
    have hBs := Nat.le_of_lt e2.lt
    have c3 := e2.cell 3 rfl; have d3 := y2.cell 3 rfl
    clear hbf hbs hrf hrs e0 y0 b0
    go_upto_region 6 with fail
    have l1 := L1.out
    go_wp2_with fail
    refine (l1 _).mono ?_
    rintro e w3 ⟨rfl, hb3⟩
    have b3 := b2.trans (hb3.mono hBs); have e3 := e2.kept hb3; have y3 := y2.kept hb3; have g3 := y3.cell 3 rfl; have k3 := e3.cell 3 rfl
    clear c3 d3 e2 y2 b2 hBs l1 L1 RF RS hb3
    cases z1 with
    | false =>
      go_wp2_with fail
      go_ret
      exact ⟨rfl, b3⟩
    | true =>
      go_wp2_with fail
      refine (L2.out _).mono ?_
      rintro e w4 ⟨rfl, hb4⟩
      have b4 := b3.trans (hb4.mono (Nat.le_of_lt e3.lt))
      go_wp2_with fail
      go_ret
      exact ⟨rfl, b4⟩
  | false =>
    rw [if_neg (by simp)] at hpt
    subst hpt
    go_upto_region 5 with fail
    have hrf := RF.out; have hrs := RS.out
    refine wp_region_tail 7 8 (fun (W : World) => Bx W B 28 [.bool f.up, .int .i64 f.cwnd, .int .i64 f.flight, .int .i64 f.srtt, .int .i64 f.vr] ∧ Bx W (B + 1) 28 [.bool s.up, .int .i64 s.cwnd, .int .i64 s.flight, .int .i64 s.srtt, .int .i64 s.vr] ∧ Below B w W) (by kernel_rfl) (by rfl) (by decide) ?_
    have HS : (fun (W : World) => Bx W B 28 [.bool f.up, .int .i64 f.cwnd, .int .i64 f.flight, .int .i64 f.srtt, .int .i64 f.vr] ∧ Bx W (B + 1) 28 [.bool s.up, .int .i64 s.cwnd, .int .i64 s.flight, .int .i64 s.srtt, .int .i64 s.vr] ∧ Below B w W) w1.drew := ⟨e0.drew, y0.drew, b0.drew⟩
    refine wpAnyT_take (i := 0) (v := ?vv1b) rfl (by kernel_rfl) (fun _ _ _ h => h) (Or.inl ⟨by rfl, fun w hSw => ?yy1b⟩) HS ?rr1b
    case yy1b =>
      (try dsimp only at hSw); go_simp
      try with_reducible rfl
    try simp only [Act.put, List.setIfInBounds_toArray, List.set_cons_zero, List.set_cons_succ]
    refine wpAnyT_take (i := 1) (v := .agg #[.bool f.up, .int .i64 f.cwnd, .int .i64 f.flight, .int .i64 f.srtt, .int .i64 f.vr]) rfl (by kernel_rfl) (fun _ _ _ h => h) (ch_yields (by rfl) (.tmp 4) rfl rfl [.bool f.up, .int .i64 f.cwnd, .int .i64 f.flight, .int .i64 f.srtt, .int .i64 f.vr] rfl 28 (fun W hW => hW.1)) HS ?_
    try simp only [Act.put, List.setIfInBounds_toArray, List.set_cons_zero, List.set_cons_succ]
    refine wpAnyT_take (i := 3) (v := ?vv2b) rfl (by kernel_rfl) (fun _ _ _ h => h) (Or.inl ⟨by rfl, fun w hSw => ?yy2b⟩) HS ?rr2b
    case yy2b =>
      (try dsimp only at hSw); go_simp
      try with_reducible rfl
    try simp only [Act.put, List.setIfInBounds_toArray, List.set_cons_zero, List.set_cons_succ]
    refine wpAnyT_take (i := 4) (v := .agg #[.bool s.up, .int .i64 s.cwnd, .int .i64 s.flight, .int .i64 s.srtt, .int .i64 s.vr]) rfl (by kernel_rfl) (fun _ _ _ h => h) (ch_yields (by rfl) (.tmp 5) rfl rfl [.bool s.up, .int .i64 s.cwnd, .int .i64 s.flight, .int .i64 s.srtt, .int .i64 s.vr] rfl 28 (fun W hW => hW.2.1)) HS ?_
    try simp only [Act.put, List.setIfInBounds_toArray, List.set_cons_zero, List.set_cons_succ]
    refine wpAnyT_one (k := 2) rfl (by kernel_rfl) (by decide) (fun K hK => ?_)
    go_simp
    refine ((hrf _).mono ?_)
    rintro e wvf ⟨rfl, hbf⟩
    have HS : (fun (W : World) => Bx W B 28 [.bool f.up, .int .i64 f.cwnd, .int .i64 f.flight, .int .i64 f.srtt, .int .i64 f.vr] ∧ Bx W (B + 1) 28 [.bool s.up, .int .i64 s.cwnd, .int .i64 s.flight, .int .i64 s.srtt, .int .i64 s.vr] ∧ Below B w W) wvf := ⟨HS.1.kept hbf, HS.2.1.kept hbf, HS.2.2.trans (hbf.mono (Nat.le_of_lt HS.1.lt))⟩
    refine hK _ _ HS ?_
    clear hK K
    try simp only [Act.put, List.setIfInBounds_toArray, List.set_cons_zero, List.set_cons_succ]
    refine wpAnyT_one (k := 5) rfl (by kernel_rfl) (by decide) (fun K hK => ?_)
    go_simp
    refine ((hrs _).mono ?_)
    rintro e wvs ⟨rfl, hbs⟩
    have HS : (fun (W : World) => Bx W B 28 [.bool f.up, .int .i64 f.cwnd, .int .i64 f.flight, .int .i64 f.srtt, .int .i64 f.vr] ∧ Bx W (B + 1) 28 [.bool s.up, .int .i64 s.cwnd, .int .i64 s.flight, .int .i64 s.srtt, .int .i64 s.vr] ∧ Below B w W) wvs := ⟨HS.1.kept hbs, HS.2.1.kept hbs, HS.2.2.trans (hbs.mono (Nat.le_of_lt HS.1.lt))⟩
    refine hK _ _ HS ?_
    clear hK K
    try simp only [Act.put, List.setIfInBounds_toArray, List.set_cons_zero, List.set_cons_succ]
    refine wpAnyT_one (k := 6) rfl (by kernel_rfl) (by decide) (fun K hK => ?_)
    go_simp
    refine hK _ _ HS ?_
    clear hK K
    try simp only [Act.put, List.setIfInBounds_toArray, List.set_cons_zero, List.set_cons_succ]
    refine ⟨by kernel_rfl, ?_⟩
    simp only [List.drop_succ_cons, List.drop_zero]
    obtain ⟨e2, y2, b2⟩ := HS
    have hBs := Nat.le_of_lt e2.lt
    have c3 := e2.cell 3 rfl; have d3 := y2.cell 3 rfl
    clear hbf hbs hrf hrs e0 y0 b0
    go_upto_region 6 with fail
    have l1 := L1.out
    go_wp2_with fail
    refine (l1 _).mono ?_
    rintro e w3 ⟨rfl, hb3⟩
    have b3 := b2.trans (hb3.mono hBs); have e3 := e2.kept hb3; have y3 := y2.kept hb3; have g3 := y3.cell 3 rfl; have k3 := e3.cell 3 rfl
    clear c3 d3 e2 y2 b2 hBs l1 L1 RF RS hb3
    cases z1 with
    | false =>
      go_wp2_with fail
      go_ret
      exact ⟨rfl, b3⟩
    | true =>
      go_wp2_with fail
      refine (L2.out _).mono ?_
      rintro e w4 ⟨rfl, hb4⟩
      have b4 := b3.trans (hb4.mono (Nat.le_of_lt e3.lt))
      go_wp2_with fail
      go_ret
      exact ⟨rfl, b4⟩
end Go.Proofs.Ytmclffbjdkoneaa
