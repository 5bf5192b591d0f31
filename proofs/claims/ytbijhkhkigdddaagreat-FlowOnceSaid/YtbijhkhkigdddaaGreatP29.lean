/- XmL FlL9 FlBk. -/
import Derived.Test.YtbijhkhkigdddaaGreatP28
set_option linter.all false
set_option maxRecDepth 100000
set_option maxHeartbeats 32000000
namespace Go.Proofs.YtbijhkhkigdddaaGreat
open Go.RowKit
theorem ap_slow (c t b mss most : Int) : apR 1099511627776 (slC c t b) t c t b mss most = slowR c t b mss most := by
 unfold apR slowR
 by_cases h : xmB c t mss most = true ∧ 0 ≤ b ∧ b ≤ 1099511627776
 ·rw [if_pos h, if_pos h]
  obtain ⟨v0, v1, v2, v3, v4, v5, v6, v7⟩ := (xmB_iff c t mss most).1 h.1
  unfold slC
  by_cases k : t ≤ c
  ·rw [if_pos k, if_neg (by omega), cl2_in ⟨v4, v5⟩, cl2_in ⟨v6, v7⟩]
  ·rw [if_neg k, if_pos (by omega), cl2_in (by omega), cl2_in ⟨v6, v7⟩]
 ·rw [if_neg h, if_neg h]
theorem ap_round (c t b mss most : Int) : apR mss (grC c t b) t c t b mss most = rndR c t b mss most := by
 unfold apR rndR
 by_cases h : xmB c t mss most = true ∧ 0 ≤ b ∧ b ≤ mss
 ·rw [if_pos h, if_pos h]
  obtain ⟨v0, v1, v2, v3, v4, v5, v6, v7⟩ := (xmB_iff c t mss most).1 h.1
  unfold grC
  by_cases k : c < t
  ·rw [if_pos k, if_neg (by omega), cl2_in ⟨v4, v5⟩, cl2_in ⟨v6, v7⟩]
  ·rw [if_neg k, if_pos (by omega), cl2_eq (by omega), cl2_in ⟨v6, v7⟩, Int.max_eq_left (by omega)]
 ·rw [if_neg h, if_neg h]
theorem ap_cut (c t b mss most : Int) : apR 1024 (rdC c b) (rdC c b) c t b mss most = xcutR c t b mss most := by
 unfold apR xcutR
 by_cases h : xmB c t mss most = true ∧ 0 ≤ b ∧ b ≤ 1024
 ·rw [if_pos h, if_pos h]
  obtain ⟨v0, v1, v2, v3, v4, v5, v6, v7⟩ := (xmB_iff c t mss most).1 h.1
  obtain ⟨u0, u1, u2, u3⟩ := cut_bd (c := c) (b := b) (by omega) h.2.1 h.2.2
  unfold rdC
  obtain ⟨y, hy⟩ : ∃ y, c * b / 2048 = y := ⟨_, rfl⟩
  rw [hy] at u0 u1 ⊢
  rw [cl2_eq (by omega), show min (max (c - y) mss) most = max mss (c - y) by omega]
 ·rw [if_neg h, if_neg h]
theorem ap_lose (c t mss most : Int) (all : Bool) : apR 0 (if all then mss else loC c mss) (loC c mss) c t 0 mss most = lossR c t all mss most := by
 unfold apR lossR
 by_cases h : xmB c t mss most = true
 ·rw [if_pos ⟨h, by omega, by omega⟩, if_pos h]
  obtain ⟨v0, v1, v2, v3, v4, v5, v6, v7⟩ := (xmB_iff c t mss most).1 h
  unfold loC lossN
  rw [cl2_eq (n := max (c / 2) (2 * mss)) (by omega), show min (max (max (c / 2) (2 * mss)) mss) most = min (max (c / 2) (2 * mss)) most by omega]
  cases all with
  | true => rw [if_pos rfl, if_pos rfl, cl2_in (by omega)]
  | false => rw [if_neg (by simp), if_neg (by simp), cl2_eq (by omega), show min (max (max (c / 2) (2 * mss)) mss) most = min (max (c / 2) (2 * mss)) most by omega]
 ·rw [if_neg (fun q => h q.1), if_neg h]
theorem xwslow_any (c t b mss most : Int) (w : World) : Calls Tryz.prog 129 #[.agg #[c, t], b, mss, most] w fun e w' => TellX w w' e (slowR c t b mss most) := by
 have ha := fun w => apply0_any c t b mss most w
 rw [ap_slow] at ha
 unfold TellX at ha ⊢
 obtain ⟨x, hx⟩ : ∃ x, slowR c t b mss most = x := ⟨_, rfl⟩
 rw [hx] at ha ⊢
 clear hx
 obtain ⟨B, hB⟩ : ∃ B, w.heap.size = B := ⟨_, rfl⟩
 have e0 := (Bx.new w 36 [c, t]).alloc (.cells #[.int .i64 0, .int .i64 0] 36)
 have y0 := Bx.new (w.alloc (.cells #[c, t] 36)) 36 [.int .i64 0, .int .i64 0]
 rw [World.size_alloc] at y0
 rw [hB] at e0 y0 ⊢
 have b0 : Below B w ((w.alloc (.cells #[c, t] 36)).alloc (.cells #[.int .i64 0, .int .i64 0] 36)) := by rw [← hB]; exact ((Zb).alloc Zr _).alloc (by simp) _
 go_enter Tryz.func129, Tryz.ntmps129
 go_upto_region 1 with fail
 generalize (w.alloc (.cells #[c, t] 36)).alloc (.cells #[.int .i64 0, .int .i64 0] 36) = w1 at e0 y0 b0 ⊢
 have hBs : B ≤ w1.heap.size := Zl e0.lt
 have c0 := e0.cell 0 rfl; have c1 := e0.cell 1 rfl
 go_wp2_with (first | (refine xw_load rfl (.tmp 4) rfl rfl e0 rfl ?_) | (go_at_call 183; refine (ha _).mono ?_; rintro e w2 ⟨rfl, hb2⟩; have e2 := e0.kept hb2; have y2 := y0.kept hb2; have b2 := b0.trans (hb2.mono hBs)) | (refine xw_store rfl (.tmp 8) (.tmp 15) rfl rfl [x.1, x.2.1] rfl y2 rfl rfl rfl ?_))
 refine xw_end2 (by rfl) (by rfl) (by rfl) (xw_put y2 [x.1, x.2.1]) rfl rfl ?_
 exact ⟨rfl, b2.grown (xw_grown _ (B + 1) #[x.1, x.2.1]) (Zl e2.lt) (fun k hk => by cases hk; omega)⟩
theorem xwround_any (c t b mss most : Int) (w : World) : Calls Tryz.prog 186 #[.agg #[c, t], b, mss, most] w fun e w' => TellX w w' e (rndR c t b mss most) := by
 have ha := fun w => apply1_any c t b mss most w
 rw [ap_round] at ha
 unfold TellX at ha ⊢
 obtain ⟨x, hx⟩ : ∃ x, rndR c t b mss most = x := ⟨_, rfl⟩
 rw [hx] at ha ⊢
 clear hx
 obtain ⟨B, hB⟩ : ∃ B, w.heap.size = B := ⟨_, rfl⟩
 have e0 := (Bx.new w 36 [c, t]).alloc (.cells #[.int .i64 0, .int .i64 0] 36)
 have y0 := Bx.new (w.alloc (.cells #[c, t] 36)) 36 [.int .i64 0, .int .i64 0]
 rw [World.size_alloc] at y0
 rw [hB] at e0 y0 ⊢
 have b0 : Below B w ((w.alloc (.cells #[c, t] 36)).alloc (.cells #[.int .i64 0, .int .i64 0] 36)) := by rw [← hB]; exact ((Zb).alloc Zr _).alloc (by simp) _
 go_enter Tryz.func186, Tryz.ntmps186
 go_upto_region 1 with fail
 generalize (w.alloc (.cells #[c, t] 36)).alloc (.cells #[.int .i64 0, .int .i64 0] 36) = w1 at e0 y0 b0 ⊢
 have hBs : B ≤ w1.heap.size := Zl e0.lt
 have c0 := e0.cell 0 rfl; have c1 := e0.cell 1 rfl
 go_wp2_with (first | (refine xw_load rfl (.tmp 4) rfl rfl e0 rfl ?_) | (go_at_call 183; refine (ha _).mono ?_; rintro e w2 ⟨rfl, hb2⟩; have e2 := e0.kept hb2; have y2 := y0.kept hb2; have b2 := b0.trans (hb2.mono hBs)) | (refine xw_store rfl (.tmp 8) (.tmp 15) rfl rfl [x.1, x.2.1] rfl y2 rfl rfl rfl ?_))
 refine xw_end2 (by rfl) (by rfl) (by rfl) (xw_put y2 [x.1, x.2.1]) rfl rfl ?_
 exact ⟨rfl, b2.grown (xw_grown _ (B + 1) #[x.1, x.2.1]) (Zl e2.lt) (fun k hk => by cases hk; omega)⟩
theorem xwcut_any (c t b mss most : Int) (w : World) : Calls Tryz.prog 130 #[.agg #[c, t], b, mss, most] w fun e w' => TellX w w' e (xcutR c t b mss most) := by
 have ha := fun w => apply2_any c t b mss most w
 rw [ap_cut] at ha
 unfold TellX at ha ⊢
 obtain ⟨x, hx⟩ : ∃ x, xcutR c t b mss most = x := ⟨_, rfl⟩
 rw [hx] at ha ⊢
 clear hx
 obtain ⟨B, hB⟩ : ∃ B, w.heap.size = B := ⟨_, rfl⟩
 have e0 := (Bx.new w 36 [c, t]).alloc (.cells #[.int .i64 0, .int .i64 0] 36)
 have y0 := Bx.new (w.alloc (.cells #[c, t] 36)) 36 [.int .i64 0, .int .i64 0]
 rw [World.size_alloc] at y0
 rw [hB] at e0 y0 ⊢
 have b0 : Below B w ((w.alloc (.cells #[c, t] 36)).alloc (.cells #[.int .i64 0, .int .i64 0] 36)) := by rw [← hB]; exact ((Zb).alloc Zr _).alloc (by simp) _
 go_enter Tryz.func130, Tryz.ntmps130
 go_upto_region 1 with fail
 generalize (w.alloc (.cells #[c, t] 36)).alloc (.cells #[.int .i64 0, .int .i64 0] 36) = w1 at e0 y0 b0 ⊢
 have hBs : B ≤ w1.heap.size := Zl e0.lt
 have c0 := e0.cell 0 rfl; have c1 := e0.cell 1 rfl
 go_wp2_with (first | (refine xw_load rfl (.tmp 4) rfl rfl e0 rfl ?_) | (go_at_call 183; refine (ha _).mono ?_; rintro e w2 ⟨rfl, hb2⟩; have e2 := e0.kept hb2; have y2 := y0.kept hb2; have b2 := b0.trans (hb2.mono hBs)) | (refine xw_store rfl (.tmp 8) (.tmp 15) rfl rfl [x.1, x.2.1] rfl y2 rfl rfl rfl ?_))
 refine xw_end2 (by rfl) (by rfl) (by rfl) (xw_put y2 [x.1, x.2.1]) rfl rfl ?_
 exact ⟨rfl, b2.grown (xw_grown _ (B + 1) #[x.1, x.2.1]) (Zl e2.lt) (fun k hk => by cases hk; omega)⟩
theorem xwloss_any (c t : Int) (all : Bool) (mss most : Int) (w : World) : Calls Tryz.prog 133 #[.agg #[c, t], all, mss, most] w fun e w' => TellX w w' e (lossR c t all mss most) := by
 have hp := ap_lose c t mss most all
 unfold TellX
 obtain ⟨x, hx⟩ : ∃ x, lossR c t all mss most = x := ⟨_, rfl⟩
 rw [hx] at hp ⊢
 clear hx
 obtain ⟨B, hB⟩ : ∃ B, w.heap.size = B := ⟨_, rfl⟩
 have e0 := (Bx.new w 36 [c, t]).alloc (.cells #[.int .i64 0, .int .i64 0] 36)
 have y0 := Bx.new (w.alloc (.cells #[c, t] 36)) 36 [.int .i64 0, .int .i64 0]
 rw [World.size_alloc] at y0
 rw [hB] at e0 y0 ⊢
 have b0 : Below B w ((w.alloc (.cells #[c, t] 36)).alloc (.cells #[.int .i64 0, .int .i64 0] 36)) := by rw [← hB]; exact ((Zb).alloc Zr _).alloc (by simp) _
 go_enter Tryz.func133, Tryz.ntmps133
 go_upto_region 1 with fail
 generalize (w.alloc (.cells #[c, t] 36)).alloc (.cells #[.int .i64 0, .int .i64 0] 36) = w1 at e0 y0 b0 ⊢
 have hBs : B ≤ w1.heap.size := Zl e0.lt
 have c0 := e0.cell 0 rfl; have c1 := e0.cell 1 rfl
 cases all with
 | true =>
  have ha := fun w => apply4_any c t 0 mss most w
  rw [show apR 0 mss (loC c mss) c t 0 mss most = x from hp] at ha
  unfold TellX at ha
  go_wp2_with (first | (refine xw_load rfl (.tmp 4) rfl rfl e0 rfl ?_) | (go_at_call 183; refine (ha _).mono ?_; rintro e w2 ⟨rfl, hb2⟩; have e2 := e0.kept hb2; have y2 := y0.kept hb2; have b2 := b0.trans (hb2.mono hBs)) | (refine xw_store rfl (.tmp 8) (.tmp 15) rfl rfl [x.1, x.2.1] rfl y2 rfl rfl rfl ?_))
  refine xw_end2 (by rfl) (by rfl) (by rfl) (xw_put y2 [x.1, x.2.1]) rfl rfl ?_
  exact ⟨rfl, b2.grown (xw_grown _ (B + 1) #[x.1, x.2.1]) (Zl e2.lt) (fun k hk => by cases hk; omega)⟩
 | false =>
  have ha := fun w => apply3_any c t 0 mss most w
  rw [show apR 0 (loC c mss) (loC c mss) c t 0 mss most = x from hp] at ha
  unfold TellX at ha
  go_wp2_with (first | (refine xw_load rfl (.tmp 4) rfl rfl e0 rfl ?_) | (go_at_call 183; refine (ha _).mono ?_; rintro e w2 ⟨rfl, hb2⟩; have e2 := e0.kept hb2; have y2 := y0.kept hb2; have b2 := b0.trans (hb2.mono hBs)) | (refine xw_store rfl (.tmp 8) (.tmp 21) rfl rfl [x.1, x.2.1] rfl y2 rfl rfl rfl ?_))
  refine xw_end2 (by rfl) (by rfl) (by rfl) (xw_put y2 [x.1, x.2.1]) rfl rfl ?_
  exact ⟨rfl, b2.grown (xw_grown _ (B + 1) #[x.1, x.2.1]) (Zl e2.lt) (fun k hk => by cases hk; omega)⟩
theorem outst_any (x : Prt) (w : World) : Calls Tryz.prog 154 #[.agg #[x.seq, x.len, x.dsn, x.at_, x.tries, x.came, x.lost, x.total, x.last]] w fun e w' => e = .returned (.bool (toutB x)) ∧ Below w.heap.size w w' := by
 obtain ⟨B, hB⟩ : ∃ B, w.heap.size = B := ⟨_, rfl⟩
 have e0 := Bx.new w 57 [x.seq, x.len, x.dsn, x.at_, x.tries, x.came, x.lost, x.total, x.last]
 rw [hB] at e0 ⊢
 have b0 : Below B w (w.alloc (.cells #[x.seq, x.len, x.dsn, x.at_, x.tries, x.came, x.lost, x.total, x.last] 57)) := by rw [← hB]; exact (Zb).alloc Zr _
 obtain ⟨q, hq⟩ : ∃ q, toutB x = q := ⟨_, rfl⟩
 rw [hq]
 unfold toutB at hq
 go_enter Tryz.func154, Tryz.ntmps154
 go_upto_region 1 with fail
 generalize w.alloc (.cells #[x.seq, x.len, x.dsn, x.at_, x.tries, x.came, x.lost, x.total, x.last] 57) = w1 at e0 b0 ⊢
 have c5 := e0.cell 5 rfl; have c6 := e0.cell 6 rfl
 cases h1 : x.came <;> cases h2 : x.lost <;> rw [h1] at c5 hq <;> rw [h2] at c6 hq <;> simp only [Bool.not_true, Bool.not_false, Bool.and_true, Bool.and_false, Bool.true_and, Bool.false_and] at hq <;> subst hq <;> clear h1 h2
 all_goals (go_wp2_with fail; go_ret; exact ⟨rfl, b0⟩)
theorem part_zero (f : Fv) : ((f.l.take 0).map allLost ++ f.l.drop 0) = f.l := by simp
theorem part_all {f : Fv} {n : Nat} (h : f.l.length = n) : ((f.l.take n).map allLost ++ f.l.drop n) = f.l.map allLost := by rw [← h]; simp
theorem part_ge {f : Fv} {k : Nat} (h : k < f.l.length) : ge ((f.l.take k).map allLost ++ f.l.drop k) k = ge f.l k := by
 unfold ge
 rw [List.getD_eq_getElem?_getD, List.getElem?_append_right (by simp; omega), List.getD_eq_getElem?_getD]
 simp
 rw [Nat.min_eq_left (by omega)]
 simp
theorem part_next {f : Fv} {k : Nat} (h : k < f.l.length) : ((f.l.take (k + 1)).map allLost ++ f.l.drop (k + 1)) = (((f.l.take k).map allLost ++ f.l.drop k)).set k (allLost (ge f.l k)) := by
 rw [take_ge h, drop_ge h, List.map_append, List.append_assoc, List.set_append_right _ _ (by simp; omega)]
 simp
 rw [Nat.min_eq_left (by omega)]
 simp
theorem part_same {f : Fv} {k : Nat} (h : k < f.l.length) (hn : toutB (ge f.l k) = false) : ((f.l.take (k + 1)).map allLost ++ f.l.drop (k + 1)) = ((f.l.take k).map allLost ++ f.l.drop k) := by
 rw [part_next h]
 have : allLost (ge f.l k) = ge ((f.l.take k).map allLost ++ f.l.drop k) k := by rw [part_ge h]; unfold allLost; rw [if_neg (by rw [hn]; simp)]
 rw [this, ge_eq (by simp; omega), List.set_getElem_self]
theorem flresend_any (n₀ : Nat) (l : List Nat) (S : Nat) (s : Fs) (f : Fv) (c : Cf) (now e : Int) (w : World) (h : St n₀ l w S s f c now e) (hap : ApL s) (hth : Thaw w s) (hok : FvOk f c) (hwF : FvW { f with l := f.l.map allLost, r := (dbl f.r).1, cw := (lossR f.cw f.th true c.mss c.most).1, th := (lossR f.cw f.th true c.mss c.most).2.1, cut := true, pb := false }) : Calls Tryz.prog 93 #[.pointer (some ⟨S, 0, none⟩)] w fun e' w' => e' = .returned (.tuple #[]) ∧ (∃ s', St n₀ l w' S s' { f with l := f.l.map allLost, r := (dbl f.r).1, cw := (lossR f.cw f.th true c.mss c.most).1, th := (lossR f.cw f.th true c.mss c.most).2.1, cut := true, pb := false } c now e) ∧ Fr n₀ l w w' := by
 have hlen := h.fm.l.rd.len
 have hle := h.fm.l.le; have hmx := h.fm.l.max
 unfold maxLen at hmx
 have H0 := Zh h; have HLEN := Zh hlen; have HAP := Zh hap; have HOK := Zh hok; have HTH := Zh hth
 obtain ⟨x, hx⟩ : ∃ x, dbl f.r = x := ⟨_, rfl⟩
 obtain ⟨y, hy⟩ : ∃ y, lossR f.cw f.th true c.mss c.most = y := ⟨_, rfl⟩
 rw [hx, hy] at hwF
 rw [hx, hy]
 have HX := Zh (show dbl ⟨f.r.has, f.r.srtt, f.r.vr, f.r.rto, f.r.shift⟩ = x from hx); have HYL := Zh hy; have HWF := Zh hwF
 have m3 : s.n1 ≤ 9223372036854775807 := by omega
 have c1 : w.cell? ⟨S, 1, none⟩ = some (.slice s.a1 s.n1 s.c1) := h.bx.cell 1 rfl
 obtain ⟨A, hA⟩ : ∃ A, s.a1 = A := ⟨_, rfl⟩
 rw [hA] at c1
 have HA0 := Zh hA
 clear hA hap hok hth hx hy hwF hlen hle hmx h
 go_enter Tryz.func93, Tryz.ntmps93
 go_upto_region 0 with fail
 go_wp2_with fail
 clear c1
 go_loopw [10] (fun i wr => ∃ k : Nat, k ≤ s.n1 ∧ i = .int .i64 (k : Int) ∧ Hid (St n₀ l wr S s { f with l := ((f.l.take k).map allLost ++ f.l.drop k) } c now e ∧ Fr n₀ l w wr ∧ Thaw wr s)) (fun i _ => s.n1 - (intOf i).toNat)
 case atStart => exact ⟨0, Nat.zero_le _, rfl, Zh ⟨by rw [part_zero]; exact H0.out, Fr.refl _ _ _, HTH.out⟩⟩
 case round =>
  obtain ⟨k, hk, rfl, HK⟩ := hrel
  by_cases hlt : k < s.n1
  case pos =>
   have dlt : decide (k < s.n1) = true := Zt hlt
   have hkl : k < f.l.length := by rw [HLEN.out]; exact hlt
   obtain ⟨bb, oo, ha, hbl, hcl⟩ := HK.out.1.fm.l.rd.at_ (by omega)
   have hcc := hcl k hlt
   rw [part_ge hkl] at hcc
   obtain ⟨y', hy⟩ : ∃ y', ge f.l k = y' := ⟨_, rfl⟩
   rw [hy] at hcc
   have hyw : PrtW y' := by rw [← hy]; exact (parts_bd HOK.out.l _ (ge_mem hkl)).w
   have c0 : wr.cell? ⟨bb, oo + k * 9, none⟩ = some (.int .i64 y'.seq) := hcc 0 _ rfl
   have c1 : wr.cell? ⟨bb, oo + k * 9 + 1, none⟩ = some (.int .i64 y'.len) := hcc 1 _ rfl
   have c2 : wr.cell? ⟨bb, oo + k * 9 + 2, none⟩ = some (.int .i64 y'.dsn) := hcc 2 _ rfl
   have c3 : wr.cell? ⟨bb, oo + k * 9 + 3, none⟩ = some (.int .i64 y'.at_) := hcc 3 _ rfl
   have c4 : wr.cell? ⟨bb, oo + k * 9 + 4, none⟩ = some (.int .i64 y'.tries) := hcc 4 _ rfl
   have c5 : wr.cell? ⟨bb, oo + k * 9 + 5, none⟩ = some (.bool y'.came) := hcc 5 _ rfl
   have c6 : wr.cell? ⟨bb, oo + k * 9 + 6, none⟩ = some (.bool y'.lost) := hcc 6 _ rfl
   have c7 : wr.cell? ⟨bb, oo + k * 9 + 7, none⟩ = some (.int .i64 y'.total) := hcc 7 _ rfl
   have c8 : wr.cell? ⟨bb, oo + k * 9 + 8, none⟩ = some (.int .i64 y'.last) := hcc 8 _ rfl
   have hAA : A = some ⟨bb, oo, none⟩ := by rw [← HA0.out]; exact ha
   subst hAA
   have HY := Zh hy; have HYW := Zh hyw; have HA := Zh ha; have HKL := Zh hkl; have HLT := Zh hlt
   obtain ⟨X, hX⟩ : ∃ X, wr.heap.size = X := ⟨_, rfl⟩
   have al : Below wr.heap.size wr (wr.alloc (.cells #[y'.seq, y'.len, y'.dsn, y'.at_, y'.tries, y'.came, y'.lost, y'.total, y'.last] 57)) := (Zb).alloc Zr _
   have x1 := Bx.new wr 57 [y'.seq, y'.len, y'.dsn, y'.at_, y'.tries, y'.came, y'.lost, y'.total, y'.last]
   have T1 := HK.out.1.call al
   have F1 := HK.out.2.1.trans (HK.out.1.fr al)
   have TH1 := HK.out.2.2.keep HK.out.1 al
   clear hcl hcc hbl hy hyw hkl ha
   go_upto_region 3 with fail
   rw [hX] at x1
   try rw [hX]
   generalize wr.alloc (.cells #[y'.seq, y'.len, y'.dsn, y'.at_, y'.tries, y'.came, y'.lost, y'.total, y'.last] 57) = w1 at x1 T1 F1 TH1 ⊢
   clear al c0 c1 c2 c3 c4 c5 c6 c7 c8 hX HK
   have HH := Zh (And.intro T1 (And.intro F1 TH1))
   clear T1 F1 TH1
   go_wp2_with (refine fp_load rfl (.tmp 3) rfl rfl x1 rfl ?_)
   refine (outst_any y' _).mono ?_
   rintro e' w2 ⟨rfl, hb⟩
   have HH2 := Zh (And.intro (HH.out.1.call hb) (And.intro (HH.out.2.1.trans (HH.out.1.fr hb)) (HH.out.2.2.keep HH.out.1 hb)))
   clear HH x1 hb
   cases hq : toutB y' with
   | false =>
    have hps := part_same HKL.out (by rw [HY.out]; exact hq)
    have HPS := Zh hps
    clear hq hps
    go_wp2_with fail
    go_roundw
    case rel => exact ⟨k + 1, by omega, by go_num, Zh ⟨by rw [HPS.out]; exact HH2.out.1, HH2.out.2⟩⟩
    case measure => simp [intOf]; omega
   | true =>
    have hnx := part_next HKL.out
    rw [HY.out] at hnx
    have hal : allLost y' = { y' with lost := true } := by unfold allLost; rw [if_pos hq]
    rw [hal] at hnx
    have hput := HH2.out.1.put1 HAP.out (k := k) (j := 6) (u := .bool true) (y := { y' with lost := true }) HA.out HLT.out (by omega) (by dsimp only; rw [part_ge HKL.out, HY.out]; rfl) ⟨HYW.out.seq, HYW.out.len, HYW.out.dsn, HYW.out.at_, HYW.out.tries, HYW.out.total, HYW.out.last⟩
    have cS : w2.cell? ⟨S, 1, none⟩ = some (.slice (some ⟨bb, oo, none⟩) s.n1 s.c1) := by have := HH2.out.1.bx.cell 1 (v := .slice s.a1 s.n1 s.c1) rfl; rw [HA.out] at this; exact this
    have c6 := HH2.out.1.part HA.out HLT.out 6 (u := .bool y'.lost) (by dsimp only; rw [part_ge HKL.out, HY.out]; rfl)
    have fr := HH2.out.2.2 (by omega) bb oo none HA.out (oo + k * 9 + 6)
    have TH3 := HH2.out.2.2.setCell ⟨bb, oo + k * 9 + 6, none⟩ (.bool true)
    have HP := Zh hput; have HNX := Zh hnx; have HF2 := Zh HH2.out.2.1; have HTH3 := Zh TH3
    clear hq hal hput hnx TH3 HH2
    go_wp2_with fail
    go_roundw
    case rel => exact ⟨k + 1, by omega, by go_num, Zh ⟨by rw [HNX.out]; exact HP.out.1, HF2.out.trans HP.out.2.1, HTH3.out⟩⟩
    case measure => simp [intOf]; omega
  case neg =>
   obtain rfl : k = s.n1 := by omega
   have dlt : decide (s.n1 < s.n1) = false := Zf (by omega)
   have T9 := Zh (show St n₀ l wr S s { f with l := f.l.map allLost } c now e by have := HK.out.1; rwa [part_all HLEN.out] at this)
   have F9 := Zh HK.out.2.1
   clear HK hlt dlt
   go_upto_region 6 with fail
   have HW0 := Zh (w_valid HOK.out)
   go_wp2_with (refine sub_load (vs := [f.r.has, f.r.srtt, f.r.vr, f.r.rto, f.r.shift]) is_rtt rfl (.tmp 31) rfl rfl T9.out.bx rfl rfl ?_)
   refine (rtdouble_any _ _ _ _ _ _).mono ?_
   rintro e2 w2 ⟨he, hb⟩
   rw [HX.out] at he
   subst he
   have T8 := Zh (T9.out.call hb)
   have F8 := Zh (F9.out.trans (T9.out.fr hb))
   clear hb T9 F9
   go_upto_region 7 with (refine sub_store is_rtt rfl (.tmp 38) (.tmp 34) rfl rfl [x.1.has, x.1.srtt, x.1.vr, x.1.rto, x.1.shift] rfl T8.out.bx (by show (8 : Nat) ≤ 44; decide) rfl rfl ?_)
   have T := Zh (show St n₀ l (w2.setCells S 3 [x.1.has, x.1.srtt, x.1.vr, x.1.rto, x.1.shift]) S s { f with l := f.l.map allLost, r := x.1 } c now e from T8.out.cells 3 _ rfl (T8.out.fm.same rfl rfl rfl rfl ⟨HW0.out.next, HWF.out.r1, HWF.out.r2, HWF.out.r3, HWF.out.r4, HW0.out.b1, HW0.out.b2, HW0.out.m1, HW0.out.m2, HW0.out.m3, HW0.out.m4, HW0.out.m5, HW0.out.d1, HW0.out.d2, HW0.out.k1, HW0.out.k2, HW0.out.k3, HW0.out.k4, HW0.out.k5, HW0.out.cw, HW0.out.th, HW0.out.t1, HW0.out.t2, HW0.out.rd⟩))
   have F := Zh (F8.out.trans (T8.out.frc 3 [x.1.has, x.1.srtt, x.1.vr, x.1.rto, x.1.shift]))
   clear T8 F8
   generalize w2.setCells S 3 [x.1.has, x.1.srtt, x.1.vr, x.1.rto, x.1.shift] = w3 at T F ⊢
   refine kB [23] 24 (fun (W : World) => St n₀ l W S s { f with l := f.l.map allLost, r := x.1 } c now e ∧ Fr n₀ l w W) ⟨T.out.drew, F.out.trans (Fr.call (Zb).drew T.out.size T.out.old)⟩ (fun HS => ?_)
   generalize w3.drew = wd3 at HS  ⊢
   refine kU 0 HS ?_
   refine kU 1 HS ?_
   refine kU 2 HS ?_
   refine kU 3 HS ?_
   refine kU 4 HS ?_
   refine kS 5 rfl (sub_y (cs := (scs s { f with l := f.l.map allLost, r := x.1 } c now e)) (vs := [f.cw, f.th]) is_win (by rfl) (.tmp 44) rfl rfl (fun w hSw => hSw.1.bx) rfl rfl) HS ?_
   refine kU 6 HS ?_
   refine kU 7 HS ?_
   refine kU 8 HS ?_
   refine kU 9 HS ?_
   refine kC 10 (v := .int .i64 c.mss) (fun w hSw => hSw.1.bx.cell 33 rfl) HS ?_
   refine kU 11 HS ?_
   refine kU 12 HS ?_
   refine kU 13 HS ?_
   refine kU 14 HS ?_
   refine kC 15 (v := .int .i64 c.most) (fun w hSw => hSw.1.bx.cell 34 rfl) HS ?_
   refine wpAnyV_one (k := 16) rfl (by kernel_rfl) (fun K hK => ?_)
   go_simp
   refine (xwloss_any _ _ _ _ _ _).mono ?_
   rintro e2 w4 ⟨he, hb⟩
   rw [HYL.out] at he
   subst he
   refine kK hK ⟨HS.1.call hb, HS.2.trans (HS.1.fr hb)⟩ (fun HS => ?_)
   clear hK K
   refine kU 17 HS ?_
   refine kU 18 HS ?_
   refine kUv 19 (.int .i64 y.2.2) HS ?_
   refine kU 20 HS ?_
   refine kU 21 HS ?_
   refine kU 22 HS ?_
   refine wpAnyV_end (k := 23) rfl (by kernel_rfl) (fun K hK => ?_)
   refine sub_end is_win (by rfl) (.tmp 61) (.tmp 57) rfl rfl [y.1, y.2.1] rfl HS.1.bx (by show (27 : Nat) ≤ 44; decide) rfl rfl ?_
   have TT := Zh (show St n₀ l (w4.setCells S 25 [y.1, y.2.1]) S s { f with l := f.l.map allLost, r := x.1, cw := y.1, th := y.2.1 } c now e from HS.1.cells 25 _ rfl (HS.1.fm.same rfl rfl rfl rfl ⟨HWF.out.next, HWF.out.r1, HWF.out.r2, HWF.out.r3, HWF.out.r4, HWF.out.b1, HWF.out.b2, HWF.out.m1, HWF.out.m2, HWF.out.m3, HWF.out.m4, HWF.out.m5, HWF.out.d1, HWF.out.d2, HWF.out.k1, HWF.out.k2, HWF.out.k3, HWF.out.k4, HWF.out.k5, HWF.out.cw, HWF.out.th, HWF.out.t1, HWF.out.t2, HWF.out.rd⟩))
   have FF := Zh (HS.2.trans (HS.1.frc 25 [y.1, y.2.1]))
   clear HS hb
   refine hK _ _ ?_
   clear hK K
   generalize w4.setCells S 25 [y.1, y.2.1] = w5 at TT FF ⊢
   try simp only [Act.put, List.setIfInBounds_toArray, List.set_cons_zero, List.set_cons_succ]
   refine ⟨by kernel_rfl, ?_⟩
   clear T F
   have TA : St n₀ l (w5.setCell ⟨S, 31, none⟩ (.bool true)) S s { f with l := f.l.map allLost, r := x.1, cw := y.1, th := y.2.1, cut := true } c now e := TT.out.set 31 (.bool true) rfl (TT.out.fm.same rfl rfl rfl rfl ⟨HWF.out.next, HWF.out.r1, HWF.out.r2, HWF.out.r3, HWF.out.r4, HWF.out.b1, HWF.out.b2, HWF.out.m1, HWF.out.m2, HWF.out.m3, HWF.out.m4, HWF.out.m5, HWF.out.d1, HWF.out.d2, HWF.out.k1, HWF.out.k2, HWF.out.k3, HWF.out.k4, HWF.out.k5, HWF.out.cw, HWF.out.th, HWF.out.t1, HWF.out.t2, HWF.out.rd⟩)
   have TB : St n₀ l ((w5.setCell ⟨S, 31, none⟩ (.bool true)).setCell ⟨S, 32, none⟩ (.bool false)) S s { f with l := f.l.map allLost, r := x.1, cw := y.1, th := y.2.1, cut := true, pb := false } c now e := TA.set 32 (.bool false) rfl (TA.fm.same rfl rfl rfl rfl ⟨HWF.out.next, HWF.out.r1, HWF.out.r2, HWF.out.r3, HWF.out.r4, HWF.out.b1, HWF.out.b2, HWF.out.m1, HWF.out.m2, HWF.out.m3, HWF.out.m4, HWF.out.m5, HWF.out.d1, HWF.out.d2, HWF.out.k1, HWF.out.k2, HWF.out.k3, HWF.out.k4, HWF.out.k5, HWF.out.cw, HWF.out.th, HWF.out.t1, HWF.out.t2, HWF.out.rd⟩)
   have FB := (FF.out.trans (TT.out.frs 31 (.bool true))).trans (TA.frs 32 (.bool false))
   have HB := Zh (And.intro TB FB)
   have g1 := TT.out.bx.cell 31 rfl; have g2 := TT.out.bx.free 31; have g3 := TA.bx.cell 32 rfl; have g4 := TA.bx.free 32
   clear TA TB FB TT FF
   go_wp2_with fail
   go_end0
   exact ⟨rfl, ⟨s, HB.out.1⟩, HB.out.2⟩
end Go.Proofs.YtbijhkhkigdddaaGreat
namespace Go.Proofs.YtbijhkhkigdddaaGreat
open Go.RowKit Go.Shelf
attribute [local go_sem] Oper.semAt_some
def revs (n : Nat) : List (Fin n) := (List.finRange n).reverse
theorem revs_len (n : Nat) : (revs n).length = n := by unfold revs; simp
theorem revs_at {n k : Nat} (h : k < n) : (revs n)[k]'(by rw [revs_len]; exact h) = ⟨n - 1 - k, by omega⟩ := by unfold revs; apply Fin.ext; simp
theorem revs_take {n k : Nat} (h : k < n) : (revs n).take (k + 1) = (revs n).take k ++ [⟨n - 1 - k, by omega⟩] := by
 rw [List.take_succ_eq_append_getElem (by rw [revs_len]; exact h), revs_at h]
theorem revs_all (n : Nat) : (revs n).take n = revs n := by
 have := List.take_length (l := revs n)
 rwa [revs_len] at this
theorem back1_in (F : Fence) (n : Nat) (h7 : F.fn 170) (hro : F.round = none) (hn : 1 ≤ n) (r L b o len cap : Nat) (l : List Prt) (hl : l.length = len) (n₁ : Nat) (hb : b < n₁) (hLn : L < n₁) (J Jx : List (Fin len) → World → Prop) (hreach : len ≤ 1000000000) (hcap : len ≤ cap)
  (W : World) (hn1 : n₁ ≤ W.heap.size)
  (hY : ∀ pre (x : Fin len) W, J pre W → pre.length < len → YieldAt F (n - 1) Tryz.prog r #[.int .i64 ((x : Nat) : Int), .agg #[.int .i64 (ge l x).seq, .int .i64 (ge l x).len, .int .i64 (ge l x).dsn, .int .i64 (ge l x).at_, .int .i64 (ge l x).tries, .bool (ge l x).came, .bool (ge l x).lost, .int .i64 (ge l x).total, .int .i64 (ge l x).last]] W fun e W' =>
   (e = .returned (.bool true) ∧ J (pre ++ [x]) W' ∧ Below n₁ W W') ∨ (e = .returned (.bool false) ∧ Jx (pre ++ [x]) W'))
  (hL : Bx W L 22 [.slice (some ⟨b, o, none⟩) len cap]) (hc : ∀ i, i < len → ∀ j u, (El.cells (ge l i))[j]? = some u → W.cell? ⟨b, o + i * 9 + j, none⟩ = some u) (h0 : J [] W) :
  CallsIn F n Tryz.prog 170 #[.func (.yield r) #[] #[], .pointer (some ⟨L, 0, none⟩)] W fun e W' => (∃ v, e = .returned v) ∧
   ((∃ ys, ys = revs len ∧ J ys W') ∨ (∃ pre, (∃ rest, revs len = pre ++ rest) ∧ Jx pre W')) := by
 refine callsIn_of_wp Tryz.func170 rfl h7 ?_ hro
 simp only [Tryz.ntmps170, List.size_toArray, List.length_cons, List.length_nil, Nat.reduceAdd, Nat.reduceSub, Array.replicate_succ, Array.replicate_zero, List.push_toArray, List.append_toArray, List.nil_append, List.cons_append]
 have x1 := hL.cell 0 rfl
 have i0 : IntKind.i64.wrap ((len : Int) - 1) = (len : Int) - 1 := IntWalk.i64_in _ (by omega)
 gi_wp2
 gi_loopw [3] (fun i wr => ∃ k : Nat, k ≤ len ∧ i = .int .i64 ((len : Int) - 1 - k) ∧ J ((revs len).take k) wr ∧ Below n₁ W wr)
  (fun i _ => (intOf i + 1).toNat)
 case atStart => exact ⟨0, Nat.zero_le _, by simp, by simpa using h0, Below.refl _ _⟩
 case round =>
  obtain ⟨k, hk, rfl, hJs, hnx⟩ := hrel
  by_cases hlt : k < len
  ·obtain ⟨x, hx⟩ : ∃ x : Nat, len - 1 - k = x := ⟨_, rfl⟩
   have hxi : (len : Int) - 1 - k = (x : Int) := by omega
   have hxl : x < len := by omega
   rw [hxi]
   have hLr := hL.below hnx hLn
   have z0 := hLr.cell 0 rfl
   have c0 : wr.cell? ⟨b, o + x * 9, none⟩ = some (.int .i64 (ge l x).seq) := (hnx.cell (p := ⟨b, o + x * 9, none⟩) hb).trans (hc x hxl 0 _ rfl)
   have c1 : wr.cell? ⟨b, o + x * 9 + 1, none⟩ = some (.int .i64 (ge l x).len) := (hnx.cell (p := ⟨b, o + x * 9 + 1, none⟩) hb).trans (hc x hxl 1 _ rfl)
   have c2 : wr.cell? ⟨b, o + x * 9 + 2, none⟩ = some (.int .i64 (ge l x).dsn) := (hnx.cell (p := ⟨b, o + x * 9 + 2, none⟩) hb).trans (hc x hxl 2 _ rfl)
   have c3 : wr.cell? ⟨b, o + x * 9 + 3, none⟩ = some (.int .i64 (ge l x).at_) := (hnx.cell (p := ⟨b, o + x * 9 + 3, none⟩) hb).trans (hc x hxl 3 _ rfl)
   have c4 : wr.cell? ⟨b, o + x * 9 + 4, none⟩ = some (.int .i64 (ge l x).tries) := (hnx.cell (p := ⟨b, o + x * 9 + 4, none⟩) hb).trans (hc x hxl 4 _ rfl)
   have c5 : wr.cell? ⟨b, o + x * 9 + 5, none⟩ = some (.bool (ge l x).came) := (hnx.cell (p := ⟨b, o + x * 9 + 5, none⟩) hb).trans (hc x hxl 5 _ rfl)
   have c6 : wr.cell? ⟨b, o + x * 9 + 6, none⟩ = some (.bool (ge l x).lost) := (hnx.cell (p := ⟨b, o + x * 9 + 6, none⟩) hb).trans (hc x hxl 6 _ rfl)
   have c7 : wr.cell? ⟨b, o + x * 9 + 7, none⟩ = some (.int .i64 (ge l x).total) := (hnx.cell (p := ⟨b, o + x * 9 + 7, none⟩) hb).trans (hc x hxl 7 _ rfl)
   have c8 : wr.cell? ⟨b, o + x * 9 + 8, none⟩ = some (.int .i64 (ge l x).last) := (hnx.cell (p := ⟨b, o + x * 9 + 8, none⟩) hb).trans (hc x hxl 8 _ rfl)
   have d0 : decide (0 ≤ (x : Int)) = true := Zt (by omega)
   have i1 : IntKind.i64.wrap ((x : Int) - 1) = (x : Int) - 1 := IntWalk.i64_in _ (by omega)
   have hsn := revs_take hlt
   have hsn : (revs len).take (k + 1) = (revs len).take k ++ [⟨x, hxl⟩] := by rw [hsn]; congr 3
   have HSN := Zh hsn; have HXI := Zh hxi; clear hsn hxi
   obtain ⟨fn, tmps, assign, body, hy, hR⟩ := hY _ ⟨x, hxl⟩ _ hJs (by rw [List.length_take, revs_len]; omega)
   gi_wp2
   refine hR.mono ?_
   rintro e W3 (⟨rfl, hJ3, hk3⟩ | ⟨rfl, hJx3⟩)
   ·gi_wp2
    go_roundw
    case rel => exact ⟨k + 1, by omega, by have := HXI.out; congr 1; omega, by rw [HSN.out]; exact hJ3, hnx.trans hk3⟩
    case measure => (simp [intOf]) <;> omega
   ·gi_wp2
    refine bodyPost_ret (results_none rfl _ _ _) rfl ?_
    exact ⟨⟨_, rfl⟩, .inr ⟨_, ⟨(revs len).drop (k + 1), by rw [← HSN.out, List.take_append_drop]⟩, hJx3⟩⟩
  ·obtain rfl : k = len := by omega
   have d0 : decide (0 ≤ (k : Int) - 1 - k) = false := Zf (by omega)
   rw [revs_all] at hJs
   gi_wp2
   go_end0
   exact ⟨⟨_, rfl⟩, .inl ⟨_, rfl, hJs⟩⟩
theorem back10_in (F : Fence) (n : Nat) (h7 : F.fn 170) (hro : F.round = none) (r L cap : Nat) (A : Option Addr) (J : List (Fin 0) → World → Prop) (W : World) (hL : Bx W L 22 [.slice A 0 cap]) (h0 : J [] W) :
  CallsIn F n Tryz.prog 170 #[.func (.yield r) #[] #[], .pointer (some ⟨L, 0, none⟩)] W fun e W' => (∃ v, e = .returned v) ∧ J [] W' := by
 refine callsIn_of_wp Tryz.func170 rfl h7 ?_ hro
 simp only [Tryz.ntmps170, List.size_toArray, List.length_cons, List.length_nil, Nat.reduceAdd, Nat.reduceSub, Array.replicate_succ, Array.replicate_zero, List.push_toArray, List.append_toArray, List.nil_append, List.cons_append]
 have x1 := hL.cell 0 rfl
 gi_wp2
 gi_loopw [3] (fun i wr => i = .int .i64 (-1) ∧ J [] wr) (fun _ _ => 0)
 case atStart => exact ⟨rfl, h0⟩
 case round =>
  obtain ⟨rfl, hJs⟩ := hrel
  gi_wp2
  go_end0
  exact ⟨⟨_, rfl⟩, hJs⟩
theorem back_in (F : Fence) (n : Nat) (h5 : F.fn 122) (hro : F.round = none) (a : Option Addr) (len cap : Nat) (w : World) :
  CallsIn F n Tryz.prog 122 #[.slice a len cap] w fun e w' => e = .returned (.func (.func 170) #[] #[.pointer (some ⟨w.heap.size, 0, none⟩)]) ∧ w' = w.alloc (.cells #[.slice a len cap] 22) := by
 refine callsIn_of_wp Tryz.func122 rfl h5 ?_ hro
 simp only [Tryz.ntmps122, List.size_toArray, List.length_cons, List.length_nil, Nat.reduceAdd, Nat.reduceSub, Array.replicate_succ, Array.replicate_zero, List.push_toArray, List.append_toArray, List.nil_append, List.cons_append]
 gi_wp2
 go_ret
 exact ⟨rfl, rfl⟩
theorem back_stops (F : Fence) (n : Nat) (h7 : F.fn 170) (hro : F.round = none) (hn : 1 ≤ n) (L n₁ : Nat) (A : Option Addr) (len cap : Nat) (l : List Prt) (hreach : len ≤ 1000000000) (w : World) (hn₁ : n₁ ≤ w.heap.size) (hLn : L < n₁)
  (hL : Bx w L 22 [.slice A len cap]) (hI : Se w A len cap l) (hlt : ∀ b o, A = some ⟨b, o, none⟩ → 0 < len → b < n₁) :
  SeqStopsK F n Tryz.prog 170 #[.pointer (some ⟨L, 0, none⟩)] (fun x : Fin len => #[Value.int .i64 ((x : Nat) : Int), .agg #[.int .i64 (ge l x).seq, .int .i64 (ge l x).len, .int .i64 (ge l x).dsn, .int .i64 (ge l x).at_, .int .i64 (ge l x).tries, .bool (ge l x).came, .bool (ge l x).lost, .int .i64 (ge l x).total, .int .i64 (ge l x).last]]) (Below n₁) (fun ys => ys = revs len)
   (fun pre => ∃ rest, revs len = pre ++ rest) len w := fun r J Jx W hW hJ _ hY h0 => by
 have hL' := hL.kept hW
 have hI' := hI.keep hW
 rcases Nat.eq_zero_or_pos len with hz | hz
 ·subst hz
  exact (back10_in F n h7 hro r L cap A J W hL' h0).mono fun e W' ⟨he, hj⟩ => ⟨he, .inl ⟨[], by unfold revs; simp, hj⟩⟩
 ·obtain ⟨b, o, rfl, _, hcs⟩ := hI'.rd.at_ hz
  exact back1_in F n h7 hro hn r L b o len cap l hI.rd.len n₁ (hlt b o rfl hz) hLn J Jx hreach hI.le W (Zn hn₁ hW.size) hY hL' hcs h0
end Go.Proofs.YtbijhkhkigdddaaGreat
