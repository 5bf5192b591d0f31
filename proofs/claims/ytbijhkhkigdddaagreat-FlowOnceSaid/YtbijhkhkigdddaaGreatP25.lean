/- TmL FlL4 FlRun. -/
import Derived.Test.YtbijhkhkigdddaaGreatP11
import Derived.Test.YtbijhkhkigdddaaGreatP24
import Derived.Deep.LoopGhost
set_option linter.all false
set_option maxRecDepth 100000
set_option maxHeartbeats 32000000
namespace Go.Proofs.YtbijhkhkigdddaaGreat
open Go.RowKit
theorem tiset_any (r : Rt) (A : Option Addr) (n c : Nat) (l : List Prt) (pb : Bool) (now most : Int) (w : World) (hs : Se w A n c l) :
  Calls Tryz.prog 116 #[.agg #[r.has, r.srtt, r.vr, r.rto, r.shift], .slice A n c, pb, now, most] w fun e w' => TellT w w' e (setR r l pb now most) := by
 unfold TellT
 obtain ⟨B, hB⟩ : ∃ B, w.heap.size = B := ⟨_, rfl⟩
 have HA := Zh hs; have HB := Zh hB
 have e0 := (Bx.new w 24 [r.has, r.srtt, r.vr, r.rto, r.shift]).alloc (.cells #[.int .i64 0, .int .i64 0] 38)
 have y0 := Bx.new (w.alloc (.cells #[r.has, r.srtt, r.vr, r.rto, r.shift] 24)) 38 [.int .i64 0, .int .i64 0]
 rw [World.size_alloc] at y0
 have b0 : Below w.heap.size w ((w.alloc (.cells #[r.has, r.srtt, r.vr, r.rto, r.shift] 24)).alloc (.cells #[.int .i64 0, .int .i64 0] 38)) := ((Zb).alloc Zr _).alloc (by simp) _
 rw [hB] at e0 y0 b0
 obtain ⟨z, hz⟩ : ∃ z, setR r l pb now most = z := ⟨_, rfl⟩
 rw [hz, hB]
 have HZ := Zh hz
 clear hs hz
 go_enter Tryz.func116, Tryz.ntmps116
 go_wp2_with (refine rt_load rfl (.tmp 5) rfl rfl e0 rfl ?_)
 generalize ((w.alloc (.cells #[r.has, r.srtt, r.vr, r.rto, r.shift] 24)).alloc (.cells #[.int .i64 0, .int .i64 0] 38)) = w1 at e0 y0 b0 ⊢
 refine (rtmay_any r.has r.srtt r.vr r.rto r.shift _).mono ?_
 rintro e w2 ⟨rfl, hb2⟩
 have e2 := e0.kept hb2; have y2 := y0.kept hb2; have b2 := b0.trans (hb2.mono (Zl e0.lt))
 have hB2 : B ≤ w2.heap.size := Zl e2.lt
 clear e0 y0 b0 hb2
 have hm := stmay_any A n c l w2 (HA.out.keep (by rw [HB.out]; exact b2))
 obtain ⟨q1, hq1⟩ : ∃ q, rtB ⟨r.has, r.srtt, r.vr, r.rto, r.shift⟩ = q := ⟨_, rfl⟩
 have hq1' : rtB r = q1 := hq1
 rw [hq1]
 clear hq1
 cases q1 with
 | false =>
  have hz := HZ.out
  rw [set_no (fun h => by have := h.1; rw [hq1'] at this; cases this)] at hz
  subst hz
  clear HZ hq1'
  go_wp2_with (first | (refine tm_store rfl (.tmp 10) (.tmp 35) rfl rfl [.int .i64 0, .int .i64 0] rfl y2 rfl rfl rfl ?_))
  refine tm_end2 (by rfl) (by rfl) (by rfl) (tm_put y2 [.int .i64 0, .int .i64 0]) rfl rfl ?_
  exact ⟨rfl, b2.grown (tm_grown _ (B + 1) #[.int .i64 0, .int .i64 0]) hB2 (fun k hk => by cases hk; omega)⟩
 | true =>
 cases hf : smayB l with
 | false =>
  rw [hf] at hm
  have hz := HZ.out
  rw [set_no (fun h => by have := h.2.1; rw [hf] at this; cases this)] at hz
  subst hz
  clear HZ hq1' hf
  go_wp2_with (first | (go_at_call 97; refine hm.mono ?_; rintro e w3 ⟨rfl, hb3⟩; have e3 := e2.kept hb3; have y3 := y2.kept hb3; have b3 : Below B w w3 := b2.trans (hb3.mono hB2)) | (go_at_call 107; refine (twin_any _ _ _ _).mono ?_; rintro e wx ⟨rfl, rfl⟩) | (refine tm_store rfl (.tmp 10) (.tmp 35) rfl rfl [.int .i64 0, .int .i64 0] rfl y3 rfl rfl rfl ?_))
  refine tm_end2 (by rfl) (by rfl) (by rfl) (tm_put y3 [.int .i64 0, .int .i64 0]) rfl rfl ?_
  exact ⟨rfl, b3.grown (tm_grown _ (B + 1) #[.int .i64 0, .int .i64 0]) (Zl e3.lt) (fun k hk => by cases hk; omega)⟩
 | true =>
 rw [hf] at hm
 cases ht : winB now 0 1152921504606846976 with
 | false =>
  have htn : ¬ (0 ≤ now ∧ now ≤ 1152921504606846976) := fun h => by rw [(win_iff _ _ _).2 h] at ht; cases ht
  have hz := HZ.out
  rw [set_no (fun h => by exact htn ⟨h.2.2.1, h.2.2.2.1⟩)] at hz
  subst hz
  clear HZ hq1' hf htn
  go_wp2_with (first | (go_at_call 97; refine hm.mono ?_; rintro e w3 ⟨rfl, hb3⟩; have e3 := e2.kept hb3; have y3 := y2.kept hb3; have b3 : Below B w w3 := b2.trans (hb3.mono hB2)) | (go_at_call 107; refine (twin_any _ _ _ _).mono ?_; rintro e wx ⟨rfl, rfl⟩) | (refine tm_store rfl (.tmp 10) (.tmp 35) rfl rfl [.int .i64 0, .int .i64 0] rfl y3 rfl rfl rfl ?_))
  refine tm_end2 (by rfl) (by rfl) (by rfl) (tm_put y3 [.int .i64 0, .int .i64 0]) rfl rfl ?_
  exact ⟨rfl, b3.grown (tm_grown _ (B + 1) #[.int .i64 0, .int .i64 0]) (Zl e3.lt) (fun k hk => by cases hk; omega)⟩
 | true =>
 cases hr : winB most 1 1099511627776 with
 | false =>
  have htn : ¬ (1 ≤ most ∧ most ≤ 1099511627776) := fun h => by rw [(win_iff _ _ _).2 h] at hr; cases hr
  have hz := HZ.out
  rw [set_no (fun h => by exact htn ⟨h.2.2.2.2.1, h.2.2.2.2.2⟩)] at hz
  subst hz
  clear HZ hq1' hf htn
  go_wp2_with (first | (go_at_call 97; refine hm.mono ?_; rintro e w3 ⟨rfl, hb3⟩; have e3 := e2.kept hb3; have y3 := y2.kept hb3; have b3 : Below B w w3 := b2.trans (hb3.mono hB2)) | (go_at_call 107; refine (twin_any _ _ _ _).mono ?_; rintro e wx ⟨rfl, rfl⟩) | (refine tm_store rfl (.tmp 10) (.tmp 35) rfl rfl [.int .i64 0, .int .i64 0] rfl y3 rfl rfl rfl ?_))
  refine tm_end2 (by rfl) (by rfl) (by rfl) (tm_put y3 [.int .i64 0, .int .i64 0]) rfl rfl ?_
  exact ⟨rfl, b3.grown (tm_grown _ (B + 1) #[.int .i64 0, .int .i64 0]) (Zl e3.lt) (fun k hk => by cases hk; omega)⟩
 | true =>
 have hnb := (win_iff _ _ _).1 ht
 have hmb := (win_iff _ _ _).1 hr
 have hok : SetOk r l now most := ⟨hq1', hf, hnb.1, hnb.2, hmb.1, hmb.2⟩
 have hz := HZ.out
 rw [set_ok hok] at hz
 have hv := (rtB_iff r).1 hq1'
 have hsr0 := hv.s0; have hsr1 := hv.s1
 have hwt := wt_bd (most := most) hv hmb
 have hlo := lastR_ok hf l.length
 rw [List.take_length] at hlo
 obtain ⟨n0, n1⟩ := hnb
 obtain ⟨t0, t1⟩ := hmb
 obtain ⟨W, hW⟩ : ∃ W, wt r most = W := ⟨_, rfl⟩
 rw [hW] at hwt
 obtain ⟨W0, W1⟩ := hwt
 obtain ⟨F, hF⟩ : ∃ F, lastR l = F := ⟨_, rfl⟩
 rw [hF] at hlo
 obtain ⟨F0, F1⟩ := hlo
 unfold setT endAt at hz
 rw [hF, hW] at hz
 have HZ2 := Zh hz; have HW := Zh hW; have HF := Zh hF
 have HFF := Zh hf
 have hsr := fun W h => Se.keep (w' := W) HA.out h
 clear HZ hz hok hq1' hv hW hF hf
 go_upto_region 3 with (first | (go_at_call 97; refine hm.mono ?_; rintro e w3 ⟨rfl, hb3⟩; have e3 := e2.kept hb3; have y3 := y2.kept hb3; have b3 : Below B w w3 := b2.trans (hb3.mono hB2)) | (go_at_call 107; refine (twin_any _ _ _ _).mono ?_; rintro e wx ⟨rfl, rfl⟩))
 clear e2 y2 b2 hb3 hB2 hm ht hr
 obtain ⟨T, hT⟩ : ∃ T, w3.heap.size = T := ⟨_, rfl⟩
 have t3 : Bx (w3.alloc (.cells #[.int .i64 0, .int .i64 0] 38)) T 38 [.int .i64 0, .int .i64 0] := hT ▸ Bx.new w3 38 [.int .i64 0, .int .i64 0]
 have hBT : B + 1 < T := hT ▸ y3.lt
 have e4 := e3.alloc (.cells #[.int .i64 0, .int .i64 0] 38); have y4 := y3.alloc (.cells #[.int .i64 0, .int .i64 0] 38)
 have b4 : Below B w (w3.alloc (.cells #[.int .i64 0, .int .i64 0] 38)) := b3.alloc (by rw [hT]; omega) _
 clear e3 y3 b3
 go_upto_region 4 with fail
 try rw [hT]
 generalize (w3.alloc (.cells #[.int .i64 0, .int .i64 0] 38)) = w4 at t3 e4 y4 b4 ⊢
 have hla := tilatest_any A n c l w4 (HA.out.keep (by rw [HB.out]; exact b4)) HFF.out
 rw [HF.out] at hla
 obtain ⟨D, hD⟩ : ∃ D, latA F = D := ⟨_, rfl⟩
 rw [hD] at hla
 have HD := Zh hD
 clear hD
 go_upto_region 5 with (go_at_call 160; refine hla.mono ?_; rintro e w5 ⟨rfl, hb5⟩)
 have e5 := e4.kept hb5; have y5 := y4.kept hb5; have t5 := t3.kept hb5; have b5 := b4.trans (hb5.mono (Zl e4.lt))
 clear e4 y4 t3 b4 hb5 hla
 go_wp2_with (refine rt_load rfl (.tmp 5) rfl rfl e5 rfl ?_)
 refine (rtwait_any r.has r.srtt r.vr r.rto r.shift most _).mono ?_
 rintro e w6 ⟨rfl, hb6⟩
 have hwe : wt ⟨r.has, r.srtt, r.vr, r.rto, r.shift⟩ most = W := HW.out
 rw [hwe]
 have e6 := e5.kept hb6; have y6 := y5.kept hb6; have t6 := t5.kept hb6; have b6 := b5.trans (hb6.mono (Zl e5.lt))
 have hB6 : B ≤ w6.heap.size := Zl e6.lt
 clear e5 y5 t5 b5 hb6 hwe
 have x0 := e6.cell 0 rfl; have x1 := e6.cell 1 rfl
 have c0 := t6.cell 0 rfl; have fr := t6.free 0
 by_cases cf : F < 0
 case pos =>
  have df : decide (0 ≤ F) = false := Zf (by omega)
  have hz := HZ2.out
  rw [if_pos cf] at hz
  subst hz
  clear HZ2
  go_upto_region 11 with fail
  have t7 : Bx (w6.setCell ⟨T, 0, none⟩ (.int .i64 0)) T 38 [.int .i64 0, .int .i64 0] := t6.set 0 (.int .i64 0)
  have y7 : Bx (w6.setCell ⟨T, 0, none⟩ (.int .i64 0)) (B + 1) 38 [.int .i64 0, .int .i64 0] := y6.far (p := ⟨T, 0, none⟩) (show B + 1 ≠ T by omega) _
  have b7 : Below B w (w6.setCell ⟨T, 0, none⟩ (.int .i64 0)) := b6.grown (tm_gset w6 ⟨T, 0, none⟩ _) hB6 (fun k hk => by cases hk; show B ≤ T; omega)
  have hB7 : B ≤ (w6.setCell ⟨T, 0, none⟩ (.int .i64 0)).heap.size := Zn hB6 (by simp)
  generalize w6.setCell ⟨T, 0, none⟩ (.int .i64 0) = w7 at t7 y7 b7 hB7 ⊢
  clear x0 x1 c0 fr e6 y6 t6 b6
  go_wp2_with (first | (refine tm_load rfl (.tmp 12) rfl rfl t7 rfl ?_) | (refine tm_store rfl (.tmp 10) (.tmp 68) rfl rfl [.int .i64 0, .int .i64 0] rfl y7 rfl rfl rfl ?_))
  refine tm_end2 (by rfl) (by rfl) (by rfl) (tm_put y7 [.int .i64 0, .int .i64 0]) rfl rfl ?_
  exact ⟨rfl, b7.grown (tm_grown _ (B + 1) #[.int .i64 0, .int .i64 0]) hB7 (fun k hk => by cases hk; omega)⟩
 case neg =>
 have df : decide (0 ≤ F) = true := Zt (by omega)
 obtain rfl : F = D := by rw [← HD.out, latA_pos (by omega)]
 obtain ⟨E, hE⟩ : ∃ E, (if now < F then now else F) = E := ⟨_, rfl⟩
 have hz := HZ2.out
 rw [if_neg cf, hE] at hz
 have HZ3 := Zh hz
 clear hz HZ2 HD HFF HF
 by_cases cn : now < F
 case pos =>
  have dn : decide (now < F) = true := Zt cn
  have mn1 : min F now = now := by omega
  obtain rfl : now = E := by rw [← hE, if_pos cn]
  clear hE
  have hz := HZ3.out
  clear HZ3 c0 fr
  cases pb with
  | true =>
   have hz : z = (⟨2, now + W⟩, 0) := by rw [← hz]; rfl
   subst hz
   cases hh : r.has with
   | true =>
    rw [hh] at x0
    clear HW hh e6
    go_upto_region 11 with (refine tm_store rfl (.tmp 12) (.tmp 67) rfl rfl [.int .i64 2, .int .i64 (now + W)] rfl t6 rfl rfl rfl ?_)
    have t9 := tm_put t6 [.int .i64 2, .int .i64 (now + W)]
    have y9 := y6.grown (tm_grown w6 T #[.int .i64 2, .int .i64 (now + W)]) (by intro h; injection h; omega)
    have b9 := b6.grown (tm_grown w6 T #[.int .i64 2, .int .i64 (now + W)]) hB6 (fun k hk => by cases hk; omega)
    have hB9 : B ≤ (w6.setRow T #[.int .i64 2, .int .i64 (now + W)]).heap.size := Zn hB6 (by simp [World.setRow])
    generalize w6.setRow T #[.int .i64 2, .int .i64 (now + W)] = w9 at t9 y9 b9 hB9 ⊢
    go_wp2_with (first | (refine tm_load rfl (.tmp 12) rfl rfl t9 rfl ?_) | (refine tm_store rfl (.tmp 10) (.tmp 68) rfl rfl [.int .i64 2, .int .i64 (now + W)] rfl y9 rfl rfl rfl ?_))
    refine tm_end2 (by rfl) (by rfl) (by rfl) (tm_put y9 [.int .i64 2, .int .i64 (now + W)]) rfl rfl ?_
    exact ⟨rfl, b9.grown (tm_grown _ (B + 1) #[.int .i64 2, .int .i64 (now + W)]) hB9 (fun k hk => by cases hk; omega)⟩
   | false =>
    rw [hh] at x0
    clear HW hh e6
    go_upto_region 11 with (refine tm_store rfl (.tmp 12) (.tmp 67) rfl rfl [.int .i64 2, .int .i64 (now + W)] rfl t6 rfl rfl rfl ?_)
    have t9 := tm_put t6 [.int .i64 2, .int .i64 (now + W)]
    have y9 := y6.grown (tm_grown w6 T #[.int .i64 2, .int .i64 (now + W)]) (by intro h; injection h; omega)
    have b9 := b6.grown (tm_grown w6 T #[.int .i64 2, .int .i64 (now + W)]) hB6 (fun k hk => by cases hk; omega)
    have hB9 : B ≤ (w6.setRow T #[.int .i64 2, .int .i64 (now + W)]).heap.size := Zn hB6 (by simp [World.setRow])
    generalize w6.setRow T #[.int .i64 2, .int .i64 (now + W)] = w9 at t9 y9 b9 hB9 ⊢
    go_wp2_with (first | (refine tm_load rfl (.tmp 12) rfl rfl t9 rfl ?_) | (refine tm_store rfl (.tmp 10) (.tmp 68) rfl rfl [.int .i64 2, .int .i64 (now + W)] rfl y9 rfl rfl rfl ?_))
    refine tm_end2 (by rfl) (by rfl) (by rfl) (tm_put y9 [.int .i64 2, .int .i64 (now + W)]) rfl rfl ?_
    exact ⟨rfl, b9.grown (tm_grown _ (B + 1) #[.int .i64 2, .int .i64 (now + W)]) hB9 (fun k hk => by cases hk; omega)⟩
  | false =>
  cases hh : r.has with
  | false =>
   have hz : z = (⟨2, now + W⟩, 0) := by rw [← hz, hh]; rfl
   rw [hh] at x0
   subst hz
   clear HW hh e6
   go_upto_region 11 with (refine tm_store rfl (.tmp 12) (.tmp 67) rfl rfl [.int .i64 2, .int .i64 (now + W)] rfl t6 rfl rfl rfl ?_)
   have t9 := tm_put t6 [.int .i64 2, .int .i64 (now + W)]
   have y9 := y6.grown (tm_grown w6 T #[.int .i64 2, .int .i64 (now + W)]) (by intro h; injection h; omega)
   have b9 := b6.grown (tm_grown w6 T #[.int .i64 2, .int .i64 (now + W)]) hB6 (fun k hk => by cases hk; omega)
   have hB9 : B ≤ (w6.setRow T #[.int .i64 2, .int .i64 (now + W)]).heap.size := Zn hB6 (by simp [World.setRow])
   generalize w6.setRow T #[.int .i64 2, .int .i64 (now + W)] = w9 at t9 y9 b9 hB9 ⊢
   go_wp2_with (first | (refine tm_load rfl (.tmp 12) rfl rfl t9 rfl ?_) | (refine tm_store rfl (.tmp 10) (.tmp 68) rfl rfl [.int .i64 2, .int .i64 (now + W)] rfl y9 rfl rfl rfl ?_))
   refine tm_end2 (by rfl) (by rfl) (by rfl) (tm_put y9 [.int .i64 2, .int .i64 (now + W)]) rfl rfl ?_
   exact ⟨rfl, b9.grown (tm_grown _ (B + 1) #[.int .i64 2, .int .i64 (now + W)]) hB9 (fun k hk => by cases hk; omega)⟩
  | true =>
  rw [hh] at x0
  have hz : z = (⟨1, now + probeT r most⟩, 0) := by rw [← hz, hh]; rfl
  unfold probeT soonT at hz
  rw [HW.out] at hz
  clear HW hh e6
  have bd : ∀ m, Below w6.heap.size w6 (w6.drewN m) := fun m => below_drewN (Zb) m
  by_cases s1 : 2 * r.srtt < 1000
  case pos =>
   have ds1 : decide (2 * r.srtt < 1000) = true := Zt s1
   have mx1 : max (2 * r.srtt) 1000 = 1000 := by omega
   rw [if_pos s1] at hz
   by_cases s2 : 1000 < W
   case pos =>
    have ds2 : decide (1000 < W) = true := Zt s2
    have mn2 : min W (1000) = 1000 := by omega
    rw [if_pos s2] at hz
    subst hz
    go_upto_region 9 with fail
    go_quiet (fail)
    go_upto_region 10 with fail
    generalize hW : w6.drewN nq = w8
    have b8 : Below w6.heap.size w6 w8 := by rw [← hW]; exact bd _
    have t8 := t6.kept b8; have y8 := y6.kept b8; have b8' := b6.trans (b8.mono hB6)
    have hB8 : B ≤ w8.heap.size := Zn hB6 b8.size
    clear hW bd b8 t6 y6 x0 x1
    go_upto_region 11 with (refine tm_store rfl (.tmp 12) (.tmp 67) rfl rfl [.int .i64 1, .int .i64 (now + 1000)] rfl t8 rfl rfl rfl ?_)
    have t9 := tm_put t8 [.int .i64 1, .int .i64 (now + 1000)]
    have y9 := y8.grown (tm_grown w8 T #[.int .i64 1, .int .i64 (now + 1000)]) (by intro h; injection h; omega)
    have b9 := b8'.grown (tm_grown w8 T #[.int .i64 1, .int .i64 (now + 1000)]) hB8 (fun k hk => by cases hk; omega)
    have hB9 : B ≤ (w8.setRow T #[.int .i64 1, .int .i64 (now + 1000)]).heap.size := Zn hB8 (by simp [World.setRow])
    generalize w8.setRow T #[.int .i64 1, .int .i64 (now + 1000)] = w9 at t9 y9 b9 hB9 ⊢
    go_wp2_with (first | (refine tm_load rfl (.tmp 12) rfl rfl t9 rfl ?_) | (refine tm_store rfl (.tmp 10) (.tmp 68) rfl rfl [.int .i64 1, .int .i64 (now + 1000)] rfl y9 rfl rfl rfl ?_))
    refine tm_end2 (by rfl) (by rfl) (by rfl) (tm_put y9 [.int .i64 1, .int .i64 (now + 1000)]) rfl rfl ?_
    exact ⟨rfl, b9.grown (tm_grown _ (B + 1) #[.int .i64 1, .int .i64 (now + 1000)]) hB9 (fun k hk => by cases hk; omega)⟩
   case neg =>
    have ds2 : decide (1000 < W) = false := Zf s2
    have mn2 : min W (1000) = W := by omega
    rw [if_neg s2] at hz
    subst hz
    go_upto_region 9 with fail
    go_quiet (fail)
    go_upto_region 10 with fail
    generalize hW : w6.drewN nq = w8
    have b8 : Below w6.heap.size w6 w8 := by rw [← hW]; exact bd _
    have t8 := t6.kept b8; have y8 := y6.kept b8; have b8' := b6.trans (b8.mono hB6)
    have hB8 : B ≤ w8.heap.size := Zn hB6 b8.size
    clear hW bd b8 t6 y6 x0 x1
    go_upto_region 11 with (refine tm_store rfl (.tmp 12) (.tmp 67) rfl rfl [.int .i64 1, .int .i64 (now + W)] rfl t8 rfl rfl rfl ?_)
    have t9 := tm_put t8 [.int .i64 1, .int .i64 (now + W)]
    have y9 := y8.grown (tm_grown w8 T #[.int .i64 1, .int .i64 (now + W)]) (by intro h; injection h; omega)
    have b9 := b8'.grown (tm_grown w8 T #[.int .i64 1, .int .i64 (now + W)]) hB8 (fun k hk => by cases hk; omega)
    have hB9 : B ≤ (w8.setRow T #[.int .i64 1, .int .i64 (now + W)]).heap.size := Zn hB8 (by simp [World.setRow])
    generalize w8.setRow T #[.int .i64 1, .int .i64 (now + W)] = w9 at t9 y9 b9 hB9 ⊢
    go_wp2_with (first | (refine tm_load rfl (.tmp 12) rfl rfl t9 rfl ?_) | (refine tm_store rfl (.tmp 10) (.tmp 68) rfl rfl [.int .i64 1, .int .i64 (now + W)] rfl y9 rfl rfl rfl ?_))
    refine tm_end2 (by rfl) (by rfl) (by rfl) (tm_put y9 [.int .i64 1, .int .i64 (now + W)]) rfl rfl ?_
    exact ⟨rfl, b9.grown (tm_grown _ (B + 1) #[.int .i64 1, .int .i64 (now + W)]) hB9 (fun k hk => by cases hk; omega)⟩
  case neg =>
   have ds1 : decide (2 * r.srtt < 1000) = false := Zf s1
   have mx1 : max (2 * r.srtt) 1000 = 2 * r.srtt := by omega
   rw [if_neg s1] at hz
   by_cases s2 : 2 * r.srtt < W
   case pos =>
    have ds2 : decide (2 * r.srtt < W) = true := Zt s2
    have mn2 : min W (2 * r.srtt) = 2 * r.srtt := by omega
    rw [if_pos s2] at hz
    subst hz
    go_upto_region 9 with fail
    go_quiet (fail)
    go_upto_region 10 with fail
    generalize hW : w6.drewN nq = w8
    have b8 : Below w6.heap.size w6 w8 := by rw [← hW]; exact bd _
    have t8 := t6.kept b8; have y8 := y6.kept b8; have b8' := b6.trans (b8.mono hB6)
    have hB8 : B ≤ w8.heap.size := Zn hB6 b8.size
    clear hW bd b8 t6 y6 x0 x1
    go_upto_region 11 with (refine tm_store rfl (.tmp 12) (.tmp 67) rfl rfl [.int .i64 1, .int .i64 (now + 2 * r.srtt)] rfl t8 rfl rfl rfl ?_)
    have t9 := tm_put t8 [.int .i64 1, .int .i64 (now + 2 * r.srtt)]
    have y9 := y8.grown (tm_grown w8 T #[.int .i64 1, .int .i64 (now + 2 * r.srtt)]) (by intro h; injection h; omega)
    have b9 := b8'.grown (tm_grown w8 T #[.int .i64 1, .int .i64 (now + 2 * r.srtt)]) hB8 (fun k hk => by cases hk; omega)
    have hB9 : B ≤ (w8.setRow T #[.int .i64 1, .int .i64 (now + 2 * r.srtt)]).heap.size := Zn hB8 (by simp [World.setRow])
    generalize w8.setRow T #[.int .i64 1, .int .i64 (now + 2 * r.srtt)] = w9 at t9 y9 b9 hB9 ⊢
    go_wp2_with (first | (refine tm_load rfl (.tmp 12) rfl rfl t9 rfl ?_) | (refine tm_store rfl (.tmp 10) (.tmp 68) rfl rfl [.int .i64 1, .int .i64 (now + 2 * r.srtt)] rfl y9 rfl rfl rfl ?_))
    refine tm_end2 (by rfl) (by rfl) (by rfl) (tm_put y9 [.int .i64 1, .int .i64 (now + 2 * r.srtt)]) rfl rfl ?_
    exact ⟨rfl, b9.grown (tm_grown _ (B + 1) #[.int .i64 1, .int .i64 (now + 2 * r.srtt)]) hB9 (fun k hk => by cases hk; omega)⟩
   case neg =>
    have ds2 : decide (2 * r.srtt < W) = false := Zf s2
    have mn2 : min W (2 * r.srtt) = W := by omega
    rw [if_neg s2] at hz
    subst hz
    go_upto_region 9 with fail
    go_quiet (fail)
    go_upto_region 10 with fail
    generalize hW : w6.drewN nq = w8
    have b8 : Below w6.heap.size w6 w8 := by rw [← hW]; exact bd _
    have t8 := t6.kept b8; have y8 := y6.kept b8; have b8' := b6.trans (b8.mono hB6)
    have hB8 : B ≤ w8.heap.size := Zn hB6 b8.size
    clear hW bd b8 t6 y6 x0 x1
    go_upto_region 11 with (refine tm_store rfl (.tmp 12) (.tmp 67) rfl rfl [.int .i64 1, .int .i64 (now + W)] rfl t8 rfl rfl rfl ?_)
    have t9 := tm_put t8 [.int .i64 1, .int .i64 (now + W)]
    have y9 := y8.grown (tm_grown w8 T #[.int .i64 1, .int .i64 (now + W)]) (by intro h; injection h; omega)
    have b9 := b8'.grown (tm_grown w8 T #[.int .i64 1, .int .i64 (now + W)]) hB8 (fun k hk => by cases hk; omega)
    have hB9 : B ≤ (w8.setRow T #[.int .i64 1, .int .i64 (now + W)]).heap.size := Zn hB8 (by simp [World.setRow])
    generalize w8.setRow T #[.int .i64 1, .int .i64 (now + W)] = w9 at t9 y9 b9 hB9 ⊢
    go_wp2_with (first | (refine tm_load rfl (.tmp 12) rfl rfl t9 rfl ?_) | (refine tm_store rfl (.tmp 10) (.tmp 68) rfl rfl [.int .i64 1, .int .i64 (now + W)] rfl y9 rfl rfl rfl ?_))
    refine tm_end2 (by rfl) (by rfl) (by rfl) (tm_put y9 [.int .i64 1, .int .i64 (now + W)]) rfl rfl ?_
    exact ⟨rfl, b9.grown (tm_grown _ (B + 1) #[.int .i64 1, .int .i64 (now + W)]) hB9 (fun k hk => by cases hk; omega)⟩
 case neg =>
  have dn : decide (now < F) = false := Zf cn
  have mn1 : min F now = F := by omega
  obtain rfl : F = E := by rw [← hE, if_neg cn]
  clear hE
  have hz := HZ3.out
  clear HZ3 c0 fr
  cases pb with
  | true =>
   have hz : z = (⟨2, F + W⟩, 0) := by rw [← hz]; rfl
   subst hz
   cases hh : r.has with
   | true =>
    rw [hh] at x0
    clear HW hh e6
    go_upto_region 11 with (refine tm_store rfl (.tmp 12) (.tmp 67) rfl rfl [.int .i64 2, .int .i64 (F + W)] rfl t6 rfl rfl rfl ?_)
    have t9 := tm_put t6 [.int .i64 2, .int .i64 (F + W)]
    have y9 := y6.grown (tm_grown w6 T #[.int .i64 2, .int .i64 (F + W)]) (by intro h; injection h; omega)
    have b9 := b6.grown (tm_grown w6 T #[.int .i64 2, .int .i64 (F + W)]) hB6 (fun k hk => by cases hk; omega)
    have hB9 : B ≤ (w6.setRow T #[.int .i64 2, .int .i64 (F + W)]).heap.size := Zn hB6 (by simp [World.setRow])
    generalize w6.setRow T #[.int .i64 2, .int .i64 (F + W)] = w9 at t9 y9 b9 hB9 ⊢
    go_wp2_with (first | (refine tm_load rfl (.tmp 12) rfl rfl t9 rfl ?_) | (refine tm_store rfl (.tmp 10) (.tmp 68) rfl rfl [.int .i64 2, .int .i64 (F + W)] rfl y9 rfl rfl rfl ?_))
    refine tm_end2 (by rfl) (by rfl) (by rfl) (tm_put y9 [.int .i64 2, .int .i64 (F + W)]) rfl rfl ?_
    exact ⟨rfl, b9.grown (tm_grown _ (B + 1) #[.int .i64 2, .int .i64 (F + W)]) hB9 (fun k hk => by cases hk; omega)⟩
   | false =>
    rw [hh] at x0
    clear HW hh e6
    go_upto_region 11 with (refine tm_store rfl (.tmp 12) (.tmp 67) rfl rfl [.int .i64 2, .int .i64 (F + W)] rfl t6 rfl rfl rfl ?_)
    have t9 := tm_put t6 [.int .i64 2, .int .i64 (F + W)]
    have y9 := y6.grown (tm_grown w6 T #[.int .i64 2, .int .i64 (F + W)]) (by intro h; injection h; omega)
    have b9 := b6.grown (tm_grown w6 T #[.int .i64 2, .int .i64 (F + W)]) hB6 (fun k hk => by cases hk; omega)
    have hB9 : B ≤ (w6.setRow T #[.int .i64 2, .int .i64 (F + W)]).heap.size := Zn hB6 (by simp [World.setRow])
    generalize w6.setRow T #[.int .i64 2, .int .i64 (F + W)] = w9 at t9 y9 b9 hB9 ⊢
    go_wp2_with (first | (refine tm_load rfl (.tmp 12) rfl rfl t9 rfl ?_) | (refine tm_store rfl (.tmp 10) (.tmp 68) rfl rfl [.int .i64 2, .int .i64 (F + W)] rfl y9 rfl rfl rfl ?_))
    refine tm_end2 (by rfl) (by rfl) (by rfl) (tm_put y9 [.int .i64 2, .int .i64 (F + W)]) rfl rfl ?_
    exact ⟨rfl, b9.grown (tm_grown _ (B + 1) #[.int .i64 2, .int .i64 (F + W)]) hB9 (fun k hk => by cases hk; omega)⟩
  | false =>
  cases hh : r.has with
  | false =>
   have hz : z = (⟨2, F + W⟩, 0) := by rw [← hz, hh]; rfl
   rw [hh] at x0
   subst hz
   clear HW hh e6
   go_upto_region 11 with (refine tm_store rfl (.tmp 12) (.tmp 67) rfl rfl [.int .i64 2, .int .i64 (F + W)] rfl t6 rfl rfl rfl ?_)
   have t9 := tm_put t6 [.int .i64 2, .int .i64 (F + W)]
   have y9 := y6.grown (tm_grown w6 T #[.int .i64 2, .int .i64 (F + W)]) (by intro h; injection h; omega)
   have b9 := b6.grown (tm_grown w6 T #[.int .i64 2, .int .i64 (F + W)]) hB6 (fun k hk => by cases hk; omega)
   have hB9 : B ≤ (w6.setRow T #[.int .i64 2, .int .i64 (F + W)]).heap.size := Zn hB6 (by simp [World.setRow])
   generalize w6.setRow T #[.int .i64 2, .int .i64 (F + W)] = w9 at t9 y9 b9 hB9 ⊢
   go_wp2_with (first | (refine tm_load rfl (.tmp 12) rfl rfl t9 rfl ?_) | (refine tm_store rfl (.tmp 10) (.tmp 68) rfl rfl [.int .i64 2, .int .i64 (F + W)] rfl y9 rfl rfl rfl ?_))
   refine tm_end2 (by rfl) (by rfl) (by rfl) (tm_put y9 [.int .i64 2, .int .i64 (F + W)]) rfl rfl ?_
   exact ⟨rfl, b9.grown (tm_grown _ (B + 1) #[.int .i64 2, .int .i64 (F + W)]) hB9 (fun k hk => by cases hk; omega)⟩
  | true =>
  rw [hh] at x0
  have hz : z = (⟨1, F + probeT r most⟩, 0) := by rw [← hz, hh]; rfl
  unfold probeT soonT at hz
  rw [HW.out] at hz
  clear HW hh e6
  have bd : ∀ m, Below w6.heap.size w6 (w6.drewN m) := fun m => below_drewN (Zb) m
  by_cases s1 : 2 * r.srtt < 1000
  case pos =>
   have ds1 : decide (2 * r.srtt < 1000) = true := Zt s1
   have mx1 : max (2 * r.srtt) 1000 = 1000 := by omega
   rw [if_pos s1] at hz
   by_cases s2 : 1000 < W
   case pos =>
    have ds2 : decide (1000 < W) = true := Zt s2
    have mn2 : min W (1000) = 1000 := by omega
    rw [if_pos s2] at hz
    subst hz
    go_upto_region 9 with fail
    go_quiet (fail)
    go_upto_region 10 with fail
    generalize hW : w6.drewN nq = w8
    have b8 : Below w6.heap.size w6 w8 := by rw [← hW]; exact bd _
    have t8 := t6.kept b8; have y8 := y6.kept b8; have b8' := b6.trans (b8.mono hB6)
    have hB8 : B ≤ w8.heap.size := Zn hB6 b8.size
    clear hW bd b8 t6 y6 x0 x1
    go_upto_region 11 with (refine tm_store rfl (.tmp 12) (.tmp 67) rfl rfl [.int .i64 1, .int .i64 (F + 1000)] rfl t8 rfl rfl rfl ?_)
    have t9 := tm_put t8 [.int .i64 1, .int .i64 (F + 1000)]
    have y9 := y8.grown (tm_grown w8 T #[.int .i64 1, .int .i64 (F + 1000)]) (by intro h; injection h; omega)
    have b9 := b8'.grown (tm_grown w8 T #[.int .i64 1, .int .i64 (F + 1000)]) hB8 (fun k hk => by cases hk; omega)
    have hB9 : B ≤ (w8.setRow T #[.int .i64 1, .int .i64 (F + 1000)]).heap.size := Zn hB8 (by simp [World.setRow])
    generalize w8.setRow T #[.int .i64 1, .int .i64 (F + 1000)] = w9 at t9 y9 b9 hB9 ⊢
    go_wp2_with (first | (refine tm_load rfl (.tmp 12) rfl rfl t9 rfl ?_) | (refine tm_store rfl (.tmp 10) (.tmp 68) rfl rfl [.int .i64 1, .int .i64 (F + 1000)] rfl y9 rfl rfl rfl ?_))
    refine tm_end2 (by rfl) (by rfl) (by rfl) (tm_put y9 [.int .i64 1, .int .i64 (F + 1000)]) rfl rfl ?_
    exact ⟨rfl, b9.grown (tm_grown _ (B + 1) #[.int .i64 1, .int .i64 (F + 1000)]) hB9 (fun k hk => by cases hk; omega)⟩
   case neg =>
    have ds2 : decide (1000 < W) = false := Zf s2
    have mn2 : min W (1000) = W := by omega
    rw [if_neg s2] at hz
    subst hz
    go_upto_region 9 with fail
    go_quiet (fail)
    go_upto_region 10 with fail
    generalize hW : w6.drewN nq = w8
    have b8 : Below w6.heap.size w6 w8 := by rw [← hW]; exact bd _
    have t8 := t6.kept b8; have y8 := y6.kept b8; have b8' := b6.trans (b8.mono hB6)
    have hB8 : B ≤ w8.heap.size := Zn hB6 b8.size
    clear hW bd b8 t6 y6 x0 x1
    go_upto_region 11 with (refine tm_store rfl (.tmp 12) (.tmp 67) rfl rfl [.int .i64 1, .int .i64 (F + W)] rfl t8 rfl rfl rfl ?_)
    have t9 := tm_put t8 [.int .i64 1, .int .i64 (F + W)]
    have y9 := y8.grown (tm_grown w8 T #[.int .i64 1, .int .i64 (F + W)]) (by intro h; injection h; omega)
    have b9 := b8'.grown (tm_grown w8 T #[.int .i64 1, .int .i64 (F + W)]) hB8 (fun k hk => by cases hk; omega)
    have hB9 : B ≤ (w8.setRow T #[.int .i64 1, .int .i64 (F + W)]).heap.size := Zn hB8 (by simp [World.setRow])
    generalize w8.setRow T #[.int .i64 1, .int .i64 (F + W)] = w9 at t9 y9 b9 hB9 ⊢
    go_wp2_with (first | (refine tm_load rfl (.tmp 12) rfl rfl t9 rfl ?_) | (refine tm_store rfl (.tmp 10) (.tmp 68) rfl rfl [.int .i64 1, .int .i64 (F + W)] rfl y9 rfl rfl rfl ?_))
    refine tm_end2 (by rfl) (by rfl) (by rfl) (tm_put y9 [.int .i64 1, .int .i64 (F + W)]) rfl rfl ?_
    exact ⟨rfl, b9.grown (tm_grown _ (B + 1) #[.int .i64 1, .int .i64 (F + W)]) hB9 (fun k hk => by cases hk; omega)⟩
  case neg =>
   have ds1 : decide (2 * r.srtt < 1000) = false := Zf s1
   have mx1 : max (2 * r.srtt) 1000 = 2 * r.srtt := by omega
   rw [if_neg s1] at hz
   by_cases s2 : 2 * r.srtt < W
   case pos =>
    have ds2 : decide (2 * r.srtt < W) = true := Zt s2
    have mn2 : min W (2 * r.srtt) = 2 * r.srtt := by omega
    rw [if_pos s2] at hz
    subst hz
    go_upto_region 9 with fail
    go_quiet (fail)
    go_upto_region 10 with fail
    generalize hW : w6.drewN nq = w8
    have b8 : Below w6.heap.size w6 w8 := by rw [← hW]; exact bd _
    have t8 := t6.kept b8; have y8 := y6.kept b8; have b8' := b6.trans (b8.mono hB6)
    have hB8 : B ≤ w8.heap.size := Zn hB6 b8.size
    clear hW bd b8 t6 y6 x0 x1
    go_upto_region 11 with (refine tm_store rfl (.tmp 12) (.tmp 67) rfl rfl [.int .i64 1, .int .i64 (F + 2 * r.srtt)] rfl t8 rfl rfl rfl ?_)
    have t9 := tm_put t8 [.int .i64 1, .int .i64 (F + 2 * r.srtt)]
    have y9 := y8.grown (tm_grown w8 T #[.int .i64 1, .int .i64 (F + 2 * r.srtt)]) (by intro h; injection h; omega)
    have b9 := b8'.grown (tm_grown w8 T #[.int .i64 1, .int .i64 (F + 2 * r.srtt)]) hB8 (fun k hk => by cases hk; omega)
    have hB9 : B ≤ (w8.setRow T #[.int .i64 1, .int .i64 (F + 2 * r.srtt)]).heap.size := Zn hB8 (by simp [World.setRow])
    generalize w8.setRow T #[.int .i64 1, .int .i64 (F + 2 * r.srtt)] = w9 at t9 y9 b9 hB9 ⊢
    go_wp2_with (first | (refine tm_load rfl (.tmp 12) rfl rfl t9 rfl ?_) | (refine tm_store rfl (.tmp 10) (.tmp 68) rfl rfl [.int .i64 1, .int .i64 (F + 2 * r.srtt)] rfl y9 rfl rfl rfl ?_))
    refine tm_end2 (by rfl) (by rfl) (by rfl) (tm_put y9 [.int .i64 1, .int .i64 (F + 2 * r.srtt)]) rfl rfl ?_
    exact ⟨rfl, b9.grown (tm_grown _ (B + 1) #[.int .i64 1, .int .i64 (F + 2 * r.srtt)]) hB9 (fun k hk => by cases hk; omega)⟩
   case neg =>
    have ds2 : decide (2 * r.srtt < W) = false := Zf s2
    have mn2 : min W (2 * r.srtt) = W := by omega
    rw [if_neg s2] at hz
    subst hz
    go_upto_region 9 with fail
    go_quiet (fail)
    go_upto_region 10 with fail
    generalize hW : w6.drewN nq = w8
    have b8 : Below w6.heap.size w6 w8 := by rw [← hW]; exact bd _
    have t8 := t6.kept b8; have y8 := y6.kept b8; have b8' := b6.trans (b8.mono hB6)
    have hB8 : B ≤ w8.heap.size := Zn hB6 b8.size
    clear hW bd b8 t6 y6 x0 x1
    go_upto_region 11 with (refine tm_store rfl (.tmp 12) (.tmp 67) rfl rfl [.int .i64 1, .int .i64 (F + W)] rfl t8 rfl rfl rfl ?_)
    have t9 := tm_put t8 [.int .i64 1, .int .i64 (F + W)]
    have y9 := y8.grown (tm_grown w8 T #[.int .i64 1, .int .i64 (F + W)]) (by intro h; injection h; omega)
    have b9 := b8'.grown (tm_grown w8 T #[.int .i64 1, .int .i64 (F + W)]) hB8 (fun k hk => by cases hk; omega)
    have hB9 : B ≤ (w8.setRow T #[.int .i64 1, .int .i64 (F + W)]).heap.size := Zn hB8 (by simp [World.setRow])
    generalize w8.setRow T #[.int .i64 1, .int .i64 (F + W)] = w9 at t9 y9 b9 hB9 ⊢
    go_wp2_with (first | (refine tm_load rfl (.tmp 12) rfl rfl t9 rfl ?_) | (refine tm_store rfl (.tmp 10) (.tmp 68) rfl rfl [.int .i64 1, .int .i64 (F + W)] rfl y9 rfl rfl rfl ?_))
    refine tm_end2 (by rfl) (by rfl) (by rfl) (tm_put y9 [.int .i64 1, .int .i64 (F + W)]) rfl rfl ?_
    exact ⟨rfl, b9.grown (tm_grown _ (B + 1) #[.int .i64 1, .int .i64 (F + W)]) hB9 (fun k hk => by cases hk; omega)⟩
theorem flset_any (n₀ : Nat) (l : List Nat) (S : Nat) (s : Fs) (f : Fv) (c : Cf) (now e : Int) (w : World) (h : St n₀ l w S s f c now e) (hok : FvOk f c) (ht : t60 now = true) : Calls Tryz.prog 65 #[.pointer (some ⟨S, 0, none⟩)] w fun e' w' => e' = .returned (.tuple #[]) ∧ St n₀ l w' S s (setF f c now) c now e ∧ Fr n₀ l w w' := by
 obtain ⟨x, hx⟩ : ∃ x, setR f.r f.l f.pb now c.longest = x := ⟨_, rfl⟩
 have HX := Zh hx
 have HW := Zh (w_valid (setF_ok hok ht))
 clear hx hok ht
 go_enter Tryz.func65, Tryz.ntmps65
 refine kB [32] 33 (fun (W : World) => St n₀ l W S s f c now e ∧ Fr n₀ l w W) ⟨h.drew, Fr.call (Zb).drew h.size h.old⟩ (fun HS => ?_)
 generalize w.drew = wd at HS  ⊢
 refine kU 0 HS ?_
 refine kU 1 HS ?_
 refine kU 2 HS ?_
 refine kU 3 HS ?_
 refine kU 4 HS ?_
 refine kS 5 rfl (sub_y (cs := (scs s f c now e)) (vs := [f.r.has, f.r.srtt, f.r.vr, f.r.rto, f.r.shift]) is_rtt (by rfl) (.tmp 7) rfl rfl (fun w hSw => hSw.1.bx) rfl rfl) HS ?_
 refine kU 6 HS ?_
 refine kU 7 HS ?_
 refine kU 8 HS ?_
 refine kU 9 HS ?_
 refine kC 10 (v := .slice s.a1 s.n1 s.c1) (fun w hSw => hSw.1.bx.cell 1 rfl) HS ?_
 refine kU 11 HS ?_
 refine kU 12 HS ?_
 refine kU 13 HS ?_
 refine kU 14 HS ?_
 refine kC 15 (v := .bool f.pb) (fun w hSw => hSw.1.bx.cell 32 rfl) HS ?_
 refine kU 16 HS ?_
 refine kU 17 HS ?_
 refine kU 18 HS ?_
 refine kC 19 (v := .int .i64 now) (fun w hSw => hSw.1.bx.cell 42 rfl) HS ?_
 refine kU 20 HS ?_
 refine kU 21 HS ?_
 refine kU 22 HS ?_
 refine kU 23 HS ?_
 refine kC 24 (v := .int .i64 c.longest) (fun w hSw => hSw.1.bx.cell 36 rfl) HS ?_
 refine wpAnyV_one (k := 25) rfl (by kernel_rfl) (fun K hK => ?_)
 go_simp
 refine (tiset_any f.r _ _ _ f.l _ _ _ _ HS.1.fm.l).mono ?_
 rintro e2 w2 ⟨he, hb⟩
 rw [HX.out] at he
 subst he
 refine kK hK ⟨HS.1.call hb, HS.2.trans (HS.1.fr hb)⟩ (fun HS => ?_)
 clear hK K
 refine kU 26 HS ?_
 refine kU 27 HS ?_
 refine kUv 28 (.int .i64 x.2) HS ?_
 refine kU 29 HS ?_
 refine kU 30 HS ?_
 refine kU 31 HS ?_
 refine wpAnyV_end (k := 32) rfl (by kernel_rfl) (fun K hK => ?_)
 refine sub_end is_timer (by rfl) (.tmp 33) (.tmp 29) rfl rfl [x.1.kd, x.1.at_] rfl HS.1.bx (by show (29 : Nat) ≤ 44; decide) rfl rfl ?_
 refine hK _ _ ?_
 clear hK K
 try simp only [Act.put, List.setIfInBounds_toArray, List.set_cons_zero, List.set_cons_succ]
 refine ⟨by kernel_rfl, ?_⟩
 go_wp2_with fail
 go_end0
 have hx := HX.out
 subst hx
 exact ⟨rfl, HS.1.cells 27 _ rfl (HS.1.fm.same rfl rfl rfl rfl HW.out), HS.2.trans (HS.1.frc 27 _)⟩
theorem flfits_any (n₀ : Nat) (l : List Nat) (S : Nat) (s : Fs) (f : Fv) (c : Cf) (now e : Int) (w : World) (h : St n₀ l w S s f c now e) (n : Int) (hok : FvOk f c) (hn : -1000000 ≤ n ∧ n ≤ 1000000) : Calls Tryz.prog 61 #[.pointer (some ⟨S, 0, none⟩), n] w fun e' w' => e' = .returned (.bool (decide (flightR f.l + n ≤ f.cw))) ∧ Below w.heap.size w w' := by
 have hfl : 0 ≤ flightR f.l ∧ flightR f.l ≤ 730000 := by
  rw [flight_eq hok.l]
  obtain ⟨h1, h2⟩ := (smay_iff _).1 hok.l
  have h3 := flySum_bd h2 f.l.length Zr
  rw [List.take_length] at h3
  omega
 obtain ⟨x, hx⟩ : ∃ x, flightR f.l = x := ⟨_, rfl⟩
 rw [hx] at hfl ⊢
 have i1 : IntKind.i64.wrap (x + n) = x + n := IntWalk.i64_in _ (by omega)
 obtain ⟨q, hq⟩ : ∃ q, decide (x + n ≤ f.cw) = q := ⟨_, rfl⟩
 have HX := Zh hx
 rw [hq]
 clear hx hok hfl hn
 go_enter Tryz.func61, Tryz.ntmps61
 go_upto_region 1 with fail
 refine tB 15 16 (fun (W : World) => St n₀ l W S s f c now e ∧ Below w.heap.size w W) ⟨h.drew, (Zb).drew⟩ (fun HS => ?_)
 refine tV 0 (.pointer (some ⟨S, 0, none⟩)) (fun w hSw => ?_) HS ?_
 ·clear hSw HS
  go_simp
 refine tV 1 (.pointer (some ⟨S, 0, none⟩)) (fun w hSw => ?_) HS ?_
 ·clear hSw HS
  go_simp
 refine tV 2 (.pointer (some ⟨S, 0, none⟩)) (fun w hSw => ?_) HS ?_
 ·clear hSw HS
  go_simp
 refine tV 3 (.pointer (some ⟨S, 1, none⟩)) (fun w hSw => ?_) HS ?_
 ·clear hSw HS
  go_simp
 refine tV 4 (.slice s.a1 s.n1 s.c1) (fun w hSw => ?_) HS ?_
 ·have cc := Bx.cell (hSw.1.bx) 1 (v := .slice s.a1 s.n1 s.c1) rfl
  clear hSw HS
  go_simp
 refine tV 6 (.int .i64 n) (fun w hSw => ?_) HS ?_
 ·clear hSw HS
  go_simp
 refine tV 8 (.pointer (some ⟨S, 0, none⟩)) (fun w hSw => ?_) HS ?_
 ·clear hSw HS
  go_simp
 refine tV 9 (.pointer (some ⟨S, 0, none⟩)) (fun w hSw => ?_) HS ?_
 ·clear hSw HS
  go_simp
 refine tV 10 (.pointer (some ⟨S, 0, none⟩)) (fun w hSw => ?_) HS ?_
 ·clear hSw HS
  go_simp
 refine tV 11 (.pointer (some ⟨S, 25, none⟩)) (fun w hSw => ?_) HS ?_
 ·clear hSw HS
  go_simp
 refine tV 12 (.pointer (some ⟨S, 25, none⟩)) (fun w hSw => ?_) HS ?_
 ·clear hSw HS
  go_simp
 refine tV 13 (.int .i64 f.cw) (fun w hSw => ?_) HS ?_
 ·have cc := Bx.cell (hSw.1.bx) 25 (v := .int .i64 f.cw) rfl
  clear hSw HS
  go_simp
 refine tO 5 (fun K hK => ?_)
 go_simp
 refine (stflight_any _ _ _ f.l _ HS.1.fm.l).mono ?_
 rintro e2 w2 ⟨he, hb⟩
 rw [HX.out] at he
 subst he
 refine kK hK ⟨HS.1.call hb, HS.2.trans (hb.mono HS.2.size)⟩ (fun HS => ?_)
 clear hK K
 refine tV 7 (.int .i64 (x + n)) (fun w hSw => ?_) HS ?_
 ·clear hSw HS
  go_simp
 refine tV 14 (.bool q) (fun w hSw => ?_) HS ?_
 ·clear hSw HS
  go_simp
 refine ⟨by kernel_rfl, ?_⟩
 simp only [List.drop_succ_cons, List.drop_zero]
 go_wp2_with fail
 go_ret
 exact ⟨rfl, HS.2⟩
theorem flbase_any (n₀ : Nat) (l : List Nat) (S : Nat) (s : Fs) (f : Fv) (c : Cf) (now e : Int) (w : World) (h : St n₀ l w S s f c now e) : Calls Tryz.prog 125 #[.pointer (some ⟨S, 0, none⟩)] w fun e' w' => e' = .returned (.int .i64 (ofR f.b now).1) ∧ Below w.heap.size w w' := by
 obtain ⟨x, hx⟩ : ∃ x, ofR f.b now = x := ⟨_, rfl⟩
 have HX := Zh (show ofR ⟨f.b.span, f.b.l, f.b.high⟩ now = x from hx)
 rw [hx]
 clear hx
 go_enter Tryz.func125, Tryz.ntmps125
 go_upto_region 1 with fail
 refine kB [] 15 (fun (W : World) => St n₀ l W S s f c now e ∧ Below w.heap.size w W) ⟨h.drew, (Zb).drew⟩ (fun HS => ?_)
 generalize w.drew = wd at HS  ⊢
 refine kU 0 HS ?_
 refine kU 1 HS ?_
 refine kU 2 HS ?_
 refine kU 3 HS ?_
 refine kS 4 rfl (sub_y (cs := (scs s f c now e)) (vs := [f.b.span, .slice s.a2 s.n2 s.c2, f.b.high]) is_least (by rfl) (.tmp 9) rfl rfl (fun w hSw => hSw.1.bx) rfl rfl) HS ?_
 refine kU 5 HS ?_
 refine kU 6 HS ?_
 refine kU 7 HS ?_
 refine kC 8 (v := .int .i64 now) (fun w hSw => hSw.1.bx.cell 42 rfl) HS ?_
 refine wpAnyV_one (k := 9) rfl (by kernel_rfl) (fun K hK => ?_)
 go_simp
 refine (leof_any _ _ _ _ _ f.b.l _ _ HS.1.fm.b).mono ?_
 rintro e2 w2 ⟨he, hb⟩
 rw [HX.out] at he
 subst he
 refine kK hK ⟨HS.1.call hb, HS.2.trans (hb.mono HS.2.size)⟩ (fun HS => ?_)
 clear hK K
 refine kU 10 HS ?_
 refine kUv 11 (.int .i64 x.1) HS ?_
 refine kUv 12 (.bool x.2) HS ?_
 refine kUv 13 (.int .i64 x.1) HS ?_
 refine kUv 14 (.bool x.2) HS ?_
 refine ⟨by kernel_rfl, ?_⟩
 go_wp2_with fail
 go_ret
 exact ⟨rfl, HS.2⟩
theorem flrun_any (R S n : Nat) (fs : Nat → Nat × Array Value × Array Value) (J : Nat → World → Prop) (Post : World → Prop) (w : World) (hn : n ≤ 100)
  (hent : ∀ i args w, (callFunc (fs i).1 args).run Tryz.prog w = .ok (.enter (fs i).1 args) w)
  (hrow : Hid (∀ i, i < n → ∀ W, J i W → W.cell? ⟨R, i, none⟩ = some (.func (.func (fs i).1) (fs i).2.1 (fs i).2.2)))
  (hstep : Hid (∀ i, i < n → ∀ W, J i W → Calls Tryz.prog (fs i).1 ((fs i).2.1 ++ (fs i).2.2) W fun e W' => e = .returned (.tuple #[]) ∧ ((J (i + 1) W' ∧ W'.cell? ⟨S, 43, none⟩ = some (.int .i64 0)) ∨ (Post W' ∧ ∃ z, z ≠ 0 ∧ W'.cell? ⟨S, 43, none⟩ = some (.int .i64 z)))))
  (hend : Hid (∀ W, J n W → Post W)) (h0 : J 0 w) :
  Calls Tryz.prog 64 #[.pointer (some ⟨S, 0, none⟩), .slice (some ⟨R, 0, none⟩) n n] w fun e w' => e = .returned (.tuple #[]) ∧ Post w' := by
 have HJ := Zh h0
 have HN := Zh hn
 clear h0 hn
 go_enter Tryz.func64, Tryz.ntmps64
 go_wp2_with fail
 go_loopw [8] (fun i wr => ∃ k : Nat, k ≤ n ∧ i = .int .i64 (k : Int) ∧ Hid (J k wr)) (fun i _ => n - (intOf i).toNat)
 case atStart => exact ⟨0, Nat.zero_le _, rfl, HJ.out⟩
 case round =>
  obtain ⟨k, hk, rfl, HK⟩ := hrel
  have hn := HN.out
  by_cases hlt : k < n
  ·have dlt : decide (k < n) = true := Zt hlt
   have hr := hrow.out k hlt wr HK.out
   have hs := hstep.out k hlt wr HK.out
   have he := hent k
   obtain ⟨⟨g, b, c⟩, hx⟩ : ∃ x, x = fs k := ⟨_, rfl⟩
   rw [← hx] at hr hs he
   have HS := Zh hs
   clear hs hx hrow hstep hent
   dsimp only at he hr
   go_upto_region 3 with fail
   go_wp2_with fail
   refine HS.out.mono ?_
   rintro e wv ⟨rfl, hv⟩
   have HV := Zh hv
   clear hv hr he
   rcases HV.out with ⟨hj, hc⟩ | ⟨hp, z, hz, hc⟩
   ·have HJ2 := Zh hj
    clear hj HV
    go_wp2_with fail
    go_roundw
    case rel => exact ⟨k + 1, by omega, by go_num, HJ2⟩
    case measure => simp [intOf]; omega
   ·have HP2 := Zh hp
    have dz : (z != 0) = true := by simpa using hz
    clear hp HV
    go_wp2_with fail
    (try simp only [Exit.inBlock, Exit.then])
    refine bodyPost_ret (results_none rfl _ _ _) rfl ?_
    exact ⟨rfl, HP2.out⟩
  ·obtain rfl : k = n := by omega
   have dlt : decide (k < k) = false := Zf (by omega)
   have hp := hend.out wr HK.out
   go_wp2_with fail
   go_end0
   exact ⟨rfl, hp⟩
theorem ent_set : ∀ args w, (callFunc 65 args).run Tryz.prog w = .ok (.enter 65 args) w := enters_of Tryz.func65 (by kernel_rfl) rfl
theorem flrun_two (n₀ : Nat) (l : List Nat) (S R g : Nat) (b k : Array Value) (s : Fs) (f f' : Fv) (c : Cf) (now : Int) (w : World) (hent : ∀ args w, (callFunc g args).run Tryz.prog w = .ok (.enter g args) w)
  (hT : St n₀ l w S s f c now 0) (hR : R ∈ l) (bR : Bx w R 1 [.func (.func g) b k, .func (.func 65) #[.pointer (some ⟨S, 0, none⟩)] #[]]) (hok : FvOk f' c) (ht : t60 now = true)
  (hstep : Calls Tryz.prog g (b ++ k) w fun e W' => e = .returned (.tuple #[]) ∧ (∃ s', St n₀ l W' S s' f' c now 0) ∧ Fr n₀ l w W') :
  Calls Tryz.prog 64 #[.pointer (some ⟨S, 0, none⟩), .slice (some ⟨R, 0, none⟩) 2 2] w fun e w' => e = .returned (.tuple #[]) ∧ (∃ s', St n₀ l w' S s' (setF f' c now) c now 0) ∧ Fr n₀ l w w' := by
 refine flrun_any R S 2 (fun i => match i with | 0 => (g, b, k) | _ => (65, #[.pointer (some ⟨S, 0, none⟩)], #[])) (fun i W => match i with | 0 => W = w | 1 => (∃ s', St n₀ l W S s' f' c now 0) ∧ Fr n₀ l w W | _ => (∃ s', St n₀ l W S s' (setF f' c now) c now 0) ∧ Fr n₀ l w W) (fun W => (∃ s', St n₀ l W S s' (setF f' c now) c now 0) ∧ Fr n₀ l w W) w (by omega) ?_ ?_ ?_ ?_ rfl
 ·intro i args w
  match i with
  | 0 => exact hent args w
  | _ + 1 => exact ent_set args w
 ·refine Zh (fun i hi W hJ => ?_)
  match i, hi, hJ with
  | 0, _, hJ => rw [show W = w from hJ]; exact bR.cell 0 rfl
  | 1, _, hJ => exact (hJ.2.bx bR hR).cell 1 rfl
 ·refine Zh (fun i hi W hJ => ?_)
  match i, hi, hJ with
  | 0, _, hJ =>
   rw [show W = w from hJ]
   refine hstep.mono ?_
   rintro e W' ⟨rfl, ⟨s', hs⟩, hf⟩
   exact ⟨rfl, .inl ⟨⟨⟨s', hs⟩, hf⟩, hs.bx.cell 43 rfl⟩⟩
  | 1, _, hJ =>
   obtain ⟨⟨s', hs⟩, hf⟩ := hJ
   refine (flset_any n₀ l S s' f' c now 0 W hs hok ht).mono ?_
   rintro e W' ⟨rfl, hs2, hf2⟩
   exact ⟨rfl, .inl ⟨⟨⟨s', hs2⟩, hf.trans hf2⟩, hs2.bx.cell 43 rfl⟩⟩
 ·exact Zh (fun W hJ => hJ)
end Go.Proofs.YtbijhkhkigdddaaGreat
