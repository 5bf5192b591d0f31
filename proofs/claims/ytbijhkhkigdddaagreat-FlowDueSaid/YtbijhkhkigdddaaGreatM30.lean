/- XmL FlBk VgL1 VgRef2 VgL MsL2. -/
import Derived.Test.YtbijhkhkigdddaaGreatM29
set_option linter.all false
set_option maxRecDepth 100000
set_option maxHeartbeats 32000000
namespace Go.Proofs.YtbijhkhkigdddaaGreat
open Go.RowKit
theorem ap_slow (c t b mss most : Int) : apR 1099511627776 (slC c t b) t c t b mss most = slowR c t b mss most := by
 unfold apR slowR
 by_cases h : xmB c t mss most = true ∧ 0 ≤ b ∧ b ≤ 1099511627776
 ·rw [if_pos h, if_pos h]
  obtain ⟨v0, v1, v2, v3, v4, v5, v6, v7⟩ := (xmB_iff c t mss most).1 h.1
  unfold slC
  by_cases k : t ≤ c
  ·rw [if_pos k, if_neg (by omega), cl2_in ⟨v4, v5⟩, cl2_in ⟨v6, v7⟩]
  ·rw [if_neg k, if_pos (by omega), cl2_in (by omega), cl2_in ⟨v6, v7⟩]
 ·rw [if_neg h, if_neg h]
theorem ap_round (c t b mss most : Int) : apR mss (grC c t b) t c t b mss most = rndR c t b mss most := by
 unfold apR rndR
 by_cases h : xmB c t mss most = true ∧ 0 ≤ b ∧ b ≤ mss
 ·rw [if_pos h, if_pos h]
  obtain ⟨v0, v1, v2, v3, v4, v5, v6, v7⟩ := (xmB_iff c t mss most).1 h.1
  unfold grC
  by_cases k : c < t
  ·rw [if_pos k, if_neg (by omega), cl2_in ⟨v4, v5⟩, cl2_in ⟨v6, v7⟩]
  ·rw [if_neg k, if_pos (by omega), cl2_eq (by omega), cl2_in ⟨v6, v7⟩, Int.max_eq_left (by omega)]
 ·rw [if_neg h, if_neg h]
theorem ap_cut (c t b mss most : Int) : apR 1024 (rdC c b) (rdC c b) c t b mss most = xcutR c t b mss most := by
 unfold apR xcutR
 by_cases h : xmB c t mss most = true ∧ 0 ≤ b ∧ b ≤ 1024
 ·rw [if_pos h, if_pos h]
  obtain ⟨v0, v1, v2, v3, v4, v5, v6, v7⟩ := (xmB_iff c t mss most).1 h.1
  obtain ⟨u0, u1, u2, u3⟩ := cut_bd (c := c) (b := b) (by omega) h.2.1 h.2.2
  unfold rdC
  obtain ⟨y, hy⟩ : ∃ y, c * b / 2048 = y := ⟨_, rfl⟩
  rw [hy] at u0 u1 ⊢
  rw [cl2_eq (by omega), show min (max (c - y) mss) most = max mss (c - y) by omega]
 ·rw [if_neg h, if_neg h]
theorem ap_lose (c t mss most : Int) (all : Bool) : apR 0 (if all then mss else loC c mss) (loC c mss) c t 0 mss most = lossR c t all mss most := by
 unfold apR lossR
 by_cases h : xmB c t mss most = true
 ·rw [if_pos ⟨h, by omega, by omega⟩, if_pos h]
  obtain ⟨v0, v1, v2, v3, v4, v5, v6, v7⟩ := (xmB_iff c t mss most).1 h
  unfold loC lossN
  rw [cl2_eq (n := max (c / 2) (2 * mss)) (by omega), show min (max (max (c / 2) (2 * mss)) mss) most = min (max (c / 2) (2 * mss)) most by omega]
  cases all with
  | true => rw [if_pos rfl, if_pos rfl, cl2_in (by omega)]
  | false => rw [if_neg (by simp), if_neg (by simp), cl2_eq (by omega), show min (max (max (c / 2) (2 * mss)) mss) most = min (max (c / 2) (2 * mss)) most by omega]
 ·rw [if_neg (fun q => h q.1), if_neg h]
theorem xwslow_any (c t b mss most : Int) (w : World) : Calls Tryz.prog 129 #[.agg #[c, t], b, mss, most] w fun e w' => TellX w w' e (slowR c t b mss most) := by
 have ha := fun w => apply0_any c t b mss most w
 rw [ap_slow] at ha
 unfold TellX at ha ⊢
 obtain ⟨x, hx⟩ : ∃ x, slowR c t b mss most = x := ⟨_, rfl⟩
 rw [hx] at ha ⊢
 clear hx
 obtain ⟨B, hB⟩ : ∃ B, w.heap.size = B := ⟨_, rfl⟩
 have e0 := (Bx.new w 36 [c, t]).alloc (.cells #[.int .i64 0, .int .i64 0] 36)
 have y0 := Bx.new (w.alloc (.cells #[c, t] 36)) 36 [.int .i64 0, .int .i64 0]
 rw [World.size_alloc] at y0
 rw [hB] at e0 y0 ⊢
 have b0 : Below B w ((w.alloc (.cells #[c, t] 36)).alloc (.cells #[.int .i64 0, .int .i64 0] 36)) := by rw [← hB]; exact ((Zb).alloc Zr _).alloc (by simp) _
 go_enter Tryz.func129, Tryz.ntmps129
 go_upto_region 1 with fail
 generalize (w.alloc (.cells #[c, t] 36)).alloc (.cells #[.int .i64 0, .int .i64 0] 36) = w1 at e0 y0 b0 ⊢
 have hBs : B ≤ w1.heap.size := Zl e0.lt
 have c0 := e0.cell 0 rfl; have c1 := e0.cell 1 rfl
 go_wp2_with (first | (refine xw_load rfl (.tmp 4) rfl rfl e0 rfl ?_) | (go_at_call 183; refine (ha _).mono ?_; rintro e w2 ⟨rfl, hb2⟩; have e2 := e0.kept hb2; have y2 := y0.kept hb2; have b2 := b0.trans (hb2.mono hBs)) | (refine xw_store rfl (.tmp 8) (.tmp 15) rfl rfl [x.1, x.2.1] rfl y2 rfl rfl rfl ?_))
 refine xw_end2 (by rfl) (by rfl) (by rfl) (xw_put y2 [x.1, x.2.1]) rfl rfl ?_
 exact ⟨rfl, b2.grown (xw_grown _ (B + 1) #[x.1, x.2.1]) (Zl e2.lt) (fun k hk => by cases hk; omega)⟩
theorem xwround_any (c t b mss most : Int) (w : World) : Calls Tryz.prog 186 #[.agg #[c, t], b, mss, most] w fun e w' => TellX w w' e (rndR c t b mss most) := by
 have ha := fun w => apply1_any c t b mss most w
 rw [ap_round] at ha
 unfold TellX at ha ⊢
 obtain ⟨x, hx⟩ : ∃ x, rndR c t b mss most = x := ⟨_, rfl⟩
 rw [hx] at ha ⊢
 clear hx
 obtain ⟨B, hB⟩ : ∃ B, w.heap.size = B := ⟨_, rfl⟩
 have e0 := (Bx.new w 36 [c, t]).alloc (.cells #[.int .i64 0, .int .i64 0] 36)
 have y0 := Bx.new (w.alloc (.cells #[c, t] 36)) 36 [.int .i64 0, .int .i64 0]
 rw [World.size_alloc] at y0
 rw [hB] at e0 y0 ⊢
 have b0 : Below B w ((w.alloc (.cells #[c, t] 36)).alloc (.cells #[.int .i64 0, .int .i64 0] 36)) := by rw [← hB]; exact ((Zb).alloc Zr _).alloc (by simp) _
 go_enter Tryz.func186, Tryz.ntmps186
 go_upto_region 1 with fail
 generalize (w.alloc (.cells #[c, t] 36)).alloc (.cells #[.int .i64 0, .int .i64 0] 36) = w1 at e0 y0 b0 ⊢
 have hBs : B ≤ w1.heap.size := Zl e0.lt
 have c0 := e0.cell 0 rfl; have c1 := e0.cell 1 rfl
 go_wp2_with (first | (refine xw_load rfl (.tmp 4) rfl rfl e0 rfl ?_) | (go_at_call 183; refine (ha _).mono ?_; rintro e w2 ⟨rfl, hb2⟩; have e2 := e0.kept hb2; have y2 := y0.kept hb2; have b2 := b0.trans (hb2.mono hBs)) | (refine xw_store rfl (.tmp 8) (.tmp 15) rfl rfl [x.1, x.2.1] rfl y2 rfl rfl rfl ?_))
 refine xw_end2 (by rfl) (by rfl) (by rfl) (xw_put y2 [x.1, x.2.1]) rfl rfl ?_
 exact ⟨rfl, b2.grown (xw_grown _ (B + 1) #[x.1, x.2.1]) (Zl e2.lt) (fun k hk => by cases hk; omega)⟩
theorem xwcut_any (c t b mss most : Int) (w : World) : Calls Tryz.prog 130 #[.agg #[c, t], b, mss, most] w fun e w' => TellX w w' e (xcutR c t b mss most) := by
 have ha := fun w => apply2_any c t b mss most w
 rw [ap_cut] at ha
 unfold TellX at ha ⊢
 obtain ⟨x, hx⟩ : ∃ x, xcutR c t b mss most = x := ⟨_, rfl⟩
 rw [hx] at ha ⊢
 clear hx
 obtain ⟨B, hB⟩ : ∃ B, w.heap.size = B := ⟨_, rfl⟩
 have e0 := (Bx.new w 36 [c, t]).alloc (.cells #[.int .i64 0, .int .i64 0] 36)
 have y0 := Bx.new (w.alloc (.cells #[c, t] 36)) 36 [.int .i64 0, .int .i64 0]
 rw [World.size_alloc] at y0
 rw [hB] at e0 y0 ⊢
 have b0 : Below B w ((w.alloc (.cells #[c, t] 36)).alloc (.cells #[.int .i64 0, .int .i64 0] 36)) := by rw [← hB]; exact ((Zb).alloc Zr _).alloc (by simp) _
 go_enter Tryz.func130, Tryz.ntmps130
 go_upto_region 1 with fail
 generalize (w.alloc (.cells #[c, t] 36)).alloc (.cells #[.int .i64 0, .int .i64 0] 36) = w1 at e0 y0 b0 ⊢
 have hBs : B ≤ w1.heap.size := Zl e0.lt
 have c0 := e0.cell 0 rfl; have c1 := e0.cell 1 rfl
 go_wp2_with (first | (refine xw_load rfl (.tmp 4) rfl rfl e0 rfl ?_) | (go_at_call 183; refine (ha _).mono ?_; rintro e w2 ⟨rfl, hb2⟩; have e2 := e0.kept hb2; have y2 := y0.kept hb2; have b2 := b0.trans (hb2.mono hBs)) | (refine xw_store rfl (.tmp 8) (.tmp 15) rfl rfl [x.1, x.2.1] rfl y2 rfl rfl rfl ?_))
 refine xw_end2 (by rfl) (by rfl) (by rfl) (xw_put y2 [x.1, x.2.1]) rfl rfl ?_
 exact ⟨rfl, b2.grown (xw_grown _ (B + 1) #[x.1, x.2.1]) (Zl e2.lt) (fun k hk => by cases hk; omega)⟩
theorem xwloss_any (c t : Int) (all : Bool) (mss most : Int) (w : World) : Calls Tryz.prog 133 #[.agg #[c, t], all, mss, most] w fun e w' => TellX w w' e (lossR c t all mss most) := by
 have hp := ap_lose c t mss most all
 unfold TellX
 obtain ⟨x, hx⟩ : ∃ x, lossR c t all mss most = x := ⟨_, rfl⟩
 rw [hx] at hp ⊢
 clear hx
 obtain ⟨B, hB⟩ : ∃ B, w.heap.size = B := ⟨_, rfl⟩
 have e0 := (Bx.new w 36 [c, t]).alloc (.cells #[.int .i64 0, .int .i64 0] 36)
 have y0 := Bx.new (w.alloc (.cells #[c, t] 36)) 36 [.int .i64 0, .int .i64 0]
 rw [World.size_alloc] at y0
 rw [hB] at e0 y0 ⊢
 have b0 : Below B w ((w.alloc (.cells #[c, t] 36)).alloc (.cells #[.int .i64 0, .int .i64 0] 36)) := by rw [← hB]; exact ((Zb).alloc Zr _).alloc (by simp) _
 go_enter Tryz.func133, Tryz.ntmps133
 go_upto_region 1 with fail
 generalize (w.alloc (.cells #[c, t] 36)).alloc (.cells #[.int .i64 0, .int .i64 0] 36) = w1 at e0 y0 b0 ⊢
 have hBs : B ≤ w1.heap.size := Zl e0.lt
 have c0 := e0.cell 0 rfl; have c1 := e0.cell 1 rfl
 cases all with
 | true =>
  have ha := fun w => apply4_any c t 0 mss most w
  rw [show apR 0 mss (loC c mss) c t 0 mss most = x from hp] at ha
  unfold TellX at ha
  go_wp2_with (first | (refine xw_load rfl (.tmp 4) rfl rfl e0 rfl ?_) | (go_at_call 183; refine (ha _).mono ?_; rintro e w2 ⟨rfl, hb2⟩; have e2 := e0.kept hb2; have y2 := y0.kept hb2; have b2 := b0.trans (hb2.mono hBs)) | (refine xw_store rfl (.tmp 8) (.tmp 15) rfl rfl [x.1, x.2.1] rfl y2 rfl rfl rfl ?_))
  refine xw_end2 (by rfl) (by rfl) (by rfl) (xw_put y2 [x.1, x.2.1]) rfl rfl ?_
  exact ⟨rfl, b2.grown (xw_grown _ (B + 1) #[x.1, x.2.1]) (Zl e2.lt) (fun k hk => by cases hk; omega)⟩
 | false =>
  have ha := fun w => apply3_any c t 0 mss most w
  rw [show apR 0 (loC c mss) (loC c mss) c t 0 mss most = x from hp] at ha
  unfold TellX at ha
  go_wp2_with (first | (refine xw_load rfl (.tmp 4) rfl rfl e0 rfl ?_) | (go_at_call 183; refine (ha _).mono ?_; rintro e w2 ⟨rfl, hb2⟩; have e2 := e0.kept hb2; have y2 := y0.kept hb2; have b2 := b0.trans (hb2.mono hBs)) | (refine xw_store rfl (.tmp 8) (.tmp 21) rfl rfl [x.1, x.2.1] rfl y2 rfl rfl rfl ?_))
  refine xw_end2 (by rfl) (by rfl) (by rfl) (xw_put y2 [x.1, x.2.1]) rfl rfl ?_
  exact ⟨rfl, b2.grown (xw_grown _ (B + 1) #[x.1, x.2.1]) (Zl e2.lt) (fun k hk => by cases hk; omega)⟩
end Go.Proofs.YtbijhkhkigdddaaGreat
namespace Go.Proofs.YtbijhkhkigdddaaGreat
open Go.RowKit Go.Shelf
attribute [local go_sem] Oper.semAt_some
def revs (n : Nat) : List (Fin n) := (List.finRange n).reverse
theorem revs_len (n : Nat) : (revs n).length = n := by unfold revs; simp
theorem revs_at {n k : Nat} (h : k < n) : (revs n)[k]'(by rw [revs_len]; exact h) = ⟨n - 1 - k, by omega⟩ := by unfold revs; apply Fin.ext; simp
theorem revs_take {n k : Nat} (h : k < n) : (revs n).take (k + 1) = (revs n).take k ++ [⟨n - 1 - k, by omega⟩] := by
 rw [List.take_succ_eq_append_getElem (by rw [revs_len]; exact h), revs_at h]
theorem revs_all (n : Nat) : (revs n).take n = revs n := by
 have := List.take_length (l := revs n)
 rwa [revs_len] at this
theorem back1_in (F : Fence) (n : Nat) (h7 : F.fn 170) (hro : F.round = none) (hn : 1 ≤ n) (r L b o len cap : Nat) (l : List Prt) (hl : l.length = len) (n₁ : Nat) (hb : b < n₁) (hLn : L < n₁) (J Jx : List (Fin len) → World → Prop) (hreach : len ≤ 1000000000) (hcap : len ≤ cap)
  (W : World) (hn1 : n₁ ≤ W.heap.size)
  (hY : ∀ pre (x : Fin len) W, J pre W → pre.length < len → YieldAt F (n - 1) Tryz.prog r #[.int .i64 ((x : Nat) : Int), .agg #[.int .i64 (ge l x).seq, .int .i64 (ge l x).len, .int .i64 (ge l x).dsn, .int .i64 (ge l x).at_, .int .i64 (ge l x).tries, .bool (ge l x).came, .bool (ge l x).lost, .int .i64 (ge l x).total, .int .i64 (ge l x).last]] W fun e W' =>
   (e = .returned (.bool true) ∧ J (pre ++ [x]) W' ∧ Below n₁ W W') ∨ (e = .returned (.bool false) ∧ Jx (pre ++ [x]) W'))
  (hL : Bx W L 22 [.slice (some ⟨b, o, none⟩) len cap]) (hc : ∀ i, i < len → ∀ j u, (El.cells (ge l i))[j]? = some u → W.cell? ⟨b, o + i * 9 + j, none⟩ = some u) (h0 : J [] W) :
  CallsIn F n Tryz.prog 170 #[.func (.yield r) #[] #[], .pointer (some ⟨L, 0, none⟩)] W fun e W' => (∃ v, e = .returned v) ∧
   ((∃ ys, ys = revs len ∧ J ys W') ∨ (∃ pre, (∃ rest, revs len = pre ++ rest) ∧ Jx pre W')) := by
 refine callsIn_of_wp Tryz.func170 rfl h7 ?_ hro
 simp only [Tryz.ntmps170, List.size_toArray, List.length_cons, List.length_nil, Nat.reduceAdd, Nat.reduceSub, Array.replicate_succ, Array.replicate_zero, List.push_toArray, List.append_toArray, List.nil_append, List.cons_append]
 have x1 := hL.cell 0 rfl
 have i0 : IntKind.i64.wrap ((len : Int) - 1) = (len : Int) - 1 := IntWalk.i64_in _ (by omega)
 gi_wp2
 gi_loopw [3] (fun i wr => ∃ k : Nat, k ≤ len ∧ i = .int .i64 ((len : Int) - 1 - k) ∧ J ((revs len).take k) wr ∧ Below n₁ W wr)
  (fun i _ => (intOf i + 1).toNat)
 case atStart => exact ⟨0, Nat.zero_le _, by simp, by simpa using h0, Below.refl _ _⟩
 case round =>
  obtain ⟨k, hk, rfl, hJs, hnx⟩ := hrel
  by_cases hlt : k < len
  ·obtain ⟨x, hx⟩ : ∃ x : Nat, len - 1 - k = x := ⟨_, rfl⟩
   have hxi : (len : Int) - 1 - k = (x : Int) := by omega
   have hxl : x < len := by omega
   rw [hxi]
   have hLr := hL.below hnx hLn
   have z0 := hLr.cell 0 rfl
   have c0 : wr.cell? ⟨b, o + x * 9, none⟩ = some (.int .i64 (ge l x).seq) := (hnx.cell (p := ⟨b, o + x * 9, none⟩) hb).trans (hc x hxl 0 _ rfl)
   have c1 : wr.cell? ⟨b, o + x * 9 + 1, none⟩ = some (.int .i64 (ge l x).len) := (hnx.cell (p := ⟨b, o + x * 9 + 1, none⟩) hb).trans (hc x hxl 1 _ rfl)
   have c2 : wr.cell? ⟨b, o + x * 9 + 2, none⟩ = some (.int .i64 (ge l x).dsn) := (hnx.cell (p := ⟨b, o + x * 9 + 2, none⟩) hb).trans (hc x hxl 2 _ rfl)
   have c3 : wr.cell? ⟨b, o + x * 9 + 3, none⟩ = some (.int .i64 (ge l x).at_) := (hnx.cell (p := ⟨b, o + x * 9 + 3, none⟩) hb).trans (hc x hxl 3 _ rfl)
   have c4 : wr.cell? ⟨b, o + x * 9 + 4, none⟩ = some (.int .i64 (ge l x).tries) := (hnx.cell (p := ⟨b, o + x * 9 + 4, none⟩) hb).trans (hc x hxl 4 _ rfl)
   have c5 : wr.cell? ⟨b, o + x * 9 + 5, none⟩ = some (.bool (ge l x).came) := (hnx.cell (p := ⟨b, o + x * 9 + 5, none⟩) hb).trans (hc x hxl 5 _ rfl)
   have c6 : wr.cell? ⟨b, o + x * 9 + 6, none⟩ = some (.bool (ge l x).lost) := (hnx.cell (p := ⟨b, o + x * 9 + 6, none⟩) hb).trans (hc x hxl 6 _ rfl)
   have c7 : wr.cell? ⟨b, o + x * 9 + 7, none⟩ = some (.int .i64 (ge l x).total) := (hnx.cell (p := ⟨b, o + x * 9 + 7, none⟩) hb).trans (hc x hxl 7 _ rfl)
   have c8 : wr.cell? ⟨b, o + x * 9 + 8, none⟩ = some (.int .i64 (ge l x).last) := (hnx.cell (p := ⟨b, o + x * 9 + 8, none⟩) hb).trans (hc x hxl 8 _ rfl)
   have d0 : decide (0 ≤ (x : Int)) = true := Zt (by omega)
   have i1 : IntKind.i64.wrap ((x : Int) - 1) = (x : Int) - 1 := IntWalk.i64_in _ (by omega)
   have hsn := revs_take hlt
   have hsn : (revs len).take (k + 1) = (revs len).take k ++ [⟨x, hxl⟩] := by rw [hsn]; congr 3
   have HSN := Zh hsn; have HXI := Zh hxi; clear hsn hxi
   obtain ⟨fn, tmps, assign, body, hy, hR⟩ := hY _ ⟨x, hxl⟩ _ hJs (by rw [List.length_take, revs_len]; omega)
   gi_wp2
   refine hR.mono ?_
   rintro e W3 (⟨rfl, hJ3, hk3⟩ | ⟨rfl, hJx3⟩)
   ·gi_wp2
    go_roundw
    case rel => exact ⟨k + 1, by omega, by have := HXI.out; congr 1; omega, by rw [HSN.out]; exact hJ3, hnx.trans hk3⟩
    case measure => (simp [intOf]) <;> omega
   ·gi_wp2
    refine bodyPost_ret (results_none rfl _ _ _) rfl ?_
    exact ⟨⟨_, rfl⟩, .inr ⟨_, ⟨(revs len).drop (k + 1), by rw [← HSN.out, List.take_append_drop]⟩, hJx3⟩⟩
  ·obtain rfl : k = len := by omega
   have d0 : decide (0 ≤ (k : Int) - 1 - k) = false := Zf (by omega)
   rw [revs_all] at hJs
   gi_wp2
   go_end0
   exact ⟨⟨_, rfl⟩, .inl ⟨_, rfl, hJs⟩⟩
theorem back10_in (F : Fence) (n : Nat) (h7 : F.fn 170) (hro : F.round = none) (r L cap : Nat) (A : Option Addr) (J : List (Fin 0) → World → Prop) (W : World) (hL : Bx W L 22 [.slice A 0 cap]) (h0 : J [] W) :
  CallsIn F n Tryz.prog 170 #[.func (.yield r) #[] #[], .pointer (some ⟨L, 0, none⟩)] W fun e W' => (∃ v, e = .returned v) ∧ J [] W' := by
 refine callsIn_of_wp Tryz.func170 rfl h7 ?_ hro
 simp only [Tryz.ntmps170, List.size_toArray, List.length_cons, List.length_nil, Nat.reduceAdd, Nat.reduceSub, Array.replicate_succ, Array.replicate_zero, List.push_toArray, List.append_toArray, List.nil_append, List.cons_append]
 have x1 := hL.cell 0 rfl
 gi_wp2
 gi_loopw [3] (fun i wr => i = .int .i64 (-1) ∧ J [] wr) (fun _ _ => 0)
 case atStart => exact ⟨rfl, h0⟩
 case round =>
  obtain ⟨rfl, hJs⟩ := hrel
  gi_wp2
  go_end0
  exact ⟨⟨_, rfl⟩, hJs⟩
theorem back_in (F : Fence) (n : Nat) (h5 : F.fn 122) (hro : F.round = none) (a : Option Addr) (len cap : Nat) (w : World) :
  CallsIn F n Tryz.prog 122 #[.slice a len cap] w fun e w' => e = .returned (.func (.func 170) #[] #[.pointer (some ⟨w.heap.size, 0, none⟩)]) ∧ w' = w.alloc (.cells #[.slice a len cap] 22) := by
 refine callsIn_of_wp Tryz.func122 rfl h5 ?_ hro
 simp only [Tryz.ntmps122, List.size_toArray, List.length_cons, List.length_nil, Nat.reduceAdd, Nat.reduceSub, Array.replicate_succ, Array.replicate_zero, List.push_toArray, List.append_toArray, List.nil_append, List.cons_append]
 gi_wp2
 go_ret
 exact ⟨rfl, rfl⟩
theorem back_stops (F : Fence) (n : Nat) (h7 : F.fn 170) (hro : F.round = none) (hn : 1 ≤ n) (L n₁ : Nat) (A : Option Addr) (len cap : Nat) (l : List Prt) (hreach : len ≤ 1000000000) (w : World) (hn₁ : n₁ ≤ w.heap.size) (hLn : L < n₁)
  (hL : Bx w L 22 [.slice A len cap]) (hI : Se w A len cap l) (hlt : ∀ b o, A = some ⟨b, o, none⟩ → 0 < len → b < n₁) :
  SeqStopsK F n Tryz.prog 170 #[.pointer (some ⟨L, 0, none⟩)] (fun x : Fin len => #[Value.int .i64 ((x : Nat) : Int), .agg #[.int .i64 (ge l x).seq, .int .i64 (ge l x).len, .int .i64 (ge l x).dsn, .int .i64 (ge l x).at_, .int .i64 (ge l x).tries, .bool (ge l x).came, .bool (ge l x).lost, .int .i64 (ge l x).total, .int .i64 (ge l x).last]]) (Below n₁) (fun ys => ys = revs len)
   (fun pre => ∃ rest, revs len = pre ++ rest) len w := fun r J Jx W hW hJ _ hY h0 => by
 have hL' := hL.kept hW
 have hI' := hI.keep hW
 rcases Nat.eq_zero_or_pos len with hz | hz
 ·subst hz
  exact (back10_in F n h7 hro r L cap A J W hL' h0).mono fun e W' ⟨he, hj⟩ => ⟨he, .inl ⟨[], by unfold revs; simp, hj⟩⟩
 ·obtain ⟨b, o, rfl, _, hcs⟩ := hI'.rd.at_ hz
  exact back1_in F n h7 hro hn r L b o len cap l hI.rd.len n₁ (hlt b o rfl hz) hLn J Jx hreach hI.le W (Zn hn₁ hW.size) hY hL' hcs h0
end Go.Proofs.YtbijhkhkigdddaaGreat
namespace Go.Proofs.YtbijhkhkigdddaaGreat
open Go.RowKit
def vinB (n lo hi : Int) : Bool := decide (lo ≤ n) && decide (n ≤ hi)
theorem vin_iff (n lo hi : Int) : vinB n lo hi = true ↔ lo ≤ n ∧ n ≤ hi := by unfold vinB; simp
theorem vin_any (n lo hi : Int) (w : World) :
  Calls Tryz.prog 217 #[n, lo, hi] w fun e w' => e = .returned (.bool (vinB n lo hi)) ∧ w = w' := by
 by_cases h1 : lo ≤ n
 ·have e1 : vinB n lo hi = decide (n ≤ hi) := by unfold vinB; rw [Zt h1]; rfl
  rw [e1]
  clear e1
  have d1 : decide (lo ≤ n) = true := Zt h1
  go_enter Tryz.func217, Tryz.ntmps217
  go_wp2
  go_ret
  exact ⟨rfl, rfl⟩
 ·have e1 : vinB n lo hi = false := by unfold vinB; rw [Zf h1]; rfl
  rw [e1]
  clear e1
  have d1 : decide (lo ≤ n) = false := Zf h1
  go_enter Tryz.func217, Tryz.ntmps217
  go_wp2
  go_ret
  exact ⟨rfl, rfl⟩
theorem vverd_same (q a : Int) (slow : Bool) (w : World) : Calls Tryz.prog 218 #[q, a, slow] w fun e w' => e = .returned (.int .i64 (verdR q a slow)) ∧ w = w' := by
 by_cases h1 : a < q
 ·have d1 : decide (a < q) = true := Zt h1
  have d2 : decide (q < a) = false := Zf (by omega)
  have d3 : decide (q = a) = false := Zf (by omega)
  have d4 : (q == a) = false := by simp; omega
  cases slow with
  | true =>
   rw [show verdR q a true = 3 from by unfold verdR; rw [if_pos rfl, if_pos h1]]
   go_enter Tryz.func218, Tryz.ntmps218
   go_wp2
   go_ret
   exact ⟨rfl, rfl⟩
  | false =>
   rw [show verdR q a false = 2 from by unfold verdR; rw [if_neg (by simp), if_neg (by omega), if_pos h1]]
   go_enter Tryz.func218, Tryz.ntmps218
   go_wp2
   go_ret
   exact ⟨rfl, rfl⟩
 ·have d1 : decide (a < q) = false := Zf h1
  cases slow with
  | true =>
   rw [show verdR q a true = 0 from by unfold verdR; rw [if_pos rfl, if_neg h1]]
   go_enter Tryz.func218, Tryz.ntmps218
   go_wp2
   go_ret
   exact ⟨rfl, rfl⟩
  | false =>
   by_cases h2 : q < a
   ·have d2 : decide (q < a) = true := Zt h2
    have d3 : decide (q = a) = false := Zf (by omega)
    have d4 : (q == a) = false := by simp; omega
    rw [show verdR q a false = 1 from by unfold verdR; rw [if_neg (by simp), if_pos h2]]
    go_enter Tryz.func218, Tryz.ntmps218
    go_wp2
    go_ret
    exact ⟨rfl, rfl⟩
   ·have d2 : decide (q < a) = false := Zf h2
    have d3 : decide (q = a) = true := Zt (by omega)
    have d4 : (q == a) = true := by simp; omega
    rw [show verdR q a false = 0 from by unfold verdR; rw [if_neg (by simp), if_neg h2, if_neg h1]]
    go_enter Tryz.func218, Tryz.ntmps218
    go_wp2
    go_ret
    exact ⟨rfl, rfl⟩
theorem vgqueue_any (cwnd srtt base mss : Int) (w : World) : Calls Tryz.prog 187 #[cwnd, srtt, base, mss] w fun e w' => e = .returned (.int .i64 (queueR cwnd srtt base mss)) ∧ Below w.heap.size w w' := by
 obtain ⟨q, hq⟩ : ∃ q, queueR cwnd srtt base mss = q := ⟨_, rfl⟩
 rw [hq]
 have HQ := Zh hq; clear hq
 cases h0 : vinB srtt 1 1099511627776 with
 | false =>
  have hF : q = 0 := by rw [← HQ.out]; exact queue_no (fun h => by rw [(vin_iff _ _ _).2 ⟨h.2.2.1, h.2.2.2.1⟩] at h0; cases h0)
  subst hF
  clear HQ
  go_enter Tryz.func187, Tryz.ntmps187
  go_wp2_with (go_at_call 217; refine (vin_any _ _ _ _).mono ?_; rintro e wx ⟨rfl, rfl⟩)
  go_ret
  exact ⟨rfl, Below.refl _ _⟩
 | true =>
 cases h1 : vinB base 1 srtt with
 | false =>
  have hF : q = 0 := by rw [← HQ.out]; exact queue_no (fun h => by rw [(vin_iff _ _ _).2 ⟨h.2.2.2.2.1, h.2.2.2.2.2.1⟩] at h1; cases h1)
  subst hF
  clear HQ
  go_enter Tryz.func187, Tryz.ntmps187
  go_wp2_with (go_at_call 217; refine (vin_any _ _ _ _).mono ?_; rintro e wx ⟨rfl, rfl⟩)
  go_ret
  exact ⟨rfl, Below.refl _ _⟩
 | true =>
 cases h2 : vinB cwnd 1 1073741824 with
 | false =>
  have hF : q = 0 := by rw [← HQ.out]; exact queue_no (fun h => by rw [(vin_iff _ _ _).2 ⟨h.1, h.2.1⟩] at h2; cases h2)
  subst hF
  clear HQ
  go_enter Tryz.func187, Tryz.ntmps187
  go_wp2_with (go_at_call 217; refine (vin_any _ _ _ _).mono ?_; rintro e wx ⟨rfl, rfl⟩)
  go_ret
  exact ⟨rfl, Below.refl _ _⟩
 | true =>
 cases h3 : vinB mss 1 1460 with
 | false =>
  have hF : q = 0 := by rw [← HQ.out]; exact queue_no (fun h => by rw [(vin_iff _ _ _).2 h.2.2.2.2.2.2] at h3; cases h3)
  subst hF
  clear HQ
  go_enter Tryz.func187, Tryz.ntmps187
  go_wp2_with (go_at_call 217; refine (vin_any _ _ _ _).mono ?_; rintro e wx ⟨rfl, rfl⟩)
  go_ret
  exact ⟨rfl, Below.refl _ _⟩
 | true =>
 have g0 := (vin_iff _ _ _).1 h0; have g1 := (vin_iff _ _ _).1 h1; have g2 := (vin_iff _ _ _).1 h2; have g3 := (vin_iff _ _ _).1 h3
 have hok : QuOk cwnd srtt base mss := ⟨g2.1, g2.2, g0.1, g0.2, g1.1, g1.2, g3.1, g3.2⟩
 have hF := HQ.out
 rw [queue_ok hok] at hF
 obtain ⟨u0, u1⟩ := qb_bd hok
 rw [Int.mul_comm] at hF u0 u1
 have m1 : mdOk cwnd (srtt - base) srtt = true := by
  unfold mdOk
  rw [(inB_iff (srtt - base)).2 (by omega), (inB_iff cwnd).2 (by omega), (inB_iff srtt).2 (by omega), Zt (by omega : 1 ≤ srtt), (inB_iff _).2 (by omega)]
  rfl
 have p1 := fun w => md_any cwnd (srtt - base) srtt w
 rw [m1] at p1
 obtain ⟨y, hy⟩ : ∃ y, cwnd * (srtt - base) / srtt = y := ⟨_, rfl⟩
 rw [hy] at p1 hF u0 u1
 have ht : tell y true = y := rfl
 rw [ht] at p1
 have v0 : 0 ≤ y / mss := Int.ediv_nonneg u0 (by omega)
 have v1 : y / mss ≤ y := Int.ediv_le_self _ u0
 have i1 : IntKind.i64.wrap (srtt - base) = srtt - base := IntWalk.i64_in _ (by omega)
 have a3 : y.tdiv mss = q := by rw [Int.tdiv_eq_ediv_of_nonneg u0]; exact hF
 have i2 : IntKind.i64.wrap q = q := IntWalk.i64_in _ (by omega)
 have hn0 : ¬ mss = 0 := by omega
 have hne : (mss == 0) = false := by simpa using hn0
 clear hok hF m1 hy ht v0 v1 HQ u0 u1 g0 g1 g2 g3
 go_enter Tryz.func187, Tryz.ntmps187
 go_wp2_with (first | (go_at_call 217; refine (vin_any _ _ _ _).mono ?_; rintro e wx ⟨rfl, rfl⟩) | (go_at_call 184; refine (p1 _).mono ?_; rintro e wm ⟨rfl, hbm⟩))
 go_ret
 exact ⟨rfl, hbm⟩
def TellV (w w' : World) (e : Ending) (x : Int × Int × Int) : Prop := e = .returned (.tuple #[.agg #[x.1, x.2.1], x.2.2]) ∧ Below w.heap.size w w'
theorem vclamp_any (n low high : Int) (w : World) : Calls Tryz.prog 157 #[n, low, high] w fun e w' => e = .returned (.int .i64 (cl2 n low high)) ∧ w = w' := clamp_any n low high w
theorem vground_any (c t q a mss most : Int) (w : World) : Calls Tryz.prog 188 #[.agg #[c, t], q, a, mss, most] w fun e w' => TellV w w' e (vrndR c t q a mss most) := by
 unfold TellV
 obtain ⟨B, hB⟩ : ∃ B, w.heap.size = B := ⟨_, rfl⟩
 have e0 := (Bx.new w 36 [c, t]).alloc (.cells #[.int .i64 0, .int .i64 0] 36)
 have y0 := Bx.new (w.alloc (.cells #[c, t] 36)) 36 [.int .i64 0, .int .i64 0]
 rw [World.size_alloc] at y0
 rw [hB] at e0 y0 ⊢
 have b0 : Below B w ((w.alloc (.cells #[c, t] 36)).alloc (.cells #[.int .i64 0, .int .i64 0] 36)) := by rw [← hB]; exact ((Zb).alloc Zr _).alloc (by simp) _
 obtain ⟨x, hx⟩ : ∃ x, vrndR c t q a mss most = x := ⟨_, rfl⟩
 rw [hx]
 have HX := Zh hx; clear hx
 go_enter Tryz.func188, Tryz.ntmps188
 go_upto_region 1 with fail
 generalize (w.alloc (.cells #[c, t] 36)).alloc (.cells #[.int .i64 0, .int .i64 0] 36) = w1 at e0 y0 b0 ⊢
 have hBs : B ≤ w1.heap.size := Zl e0.lt
 clear hB
 have mm := fun w => xwmay_any c t mss most w
 cases hk : xmB c t mss most with
 | false =>
  rw [hk] at mm
  have hx := HX.out
  rw [vrnd_no (fun h => by have h1 := h.1; rw [hk] at h1; cases h1)] at hx
  subst hx
  clear HX
  go_wp2_with (first | (refine xw_load rfl (.tmp 5) rfl rfl e0 rfl ?_) | (go_at_call 46; refine (mm _).mono ?_; rintro e w2 ⟨rfl, hb2⟩; have e2 := e0.kept hb2; have y2 := y0.kept hb2; have b2 := b0.trans (hb2.mono hBs); have hB2 := Zl e2.lt) | (go_at_call 217; refine (vin_any _ _ _ _).mono ?_; rintro e wx ⟨rfl, rfl⟩) | (refine xw_store rfl (.tmp 10) (.tmp 27) rfl rfl [.int .i64 0, .int .i64 0] rfl y2 rfl rfl rfl ?_))
  refine xw_end2 (by rfl) (by rfl) (by rfl) (xw_put y2 [.int .i64 0, .int .i64 0]) rfl rfl ?_
  exact ⟨rfl, b2.grown (xw_grown _ (B + 1) #[.int .i64 0, .int .i64 0]) hB2 (fun k hk => by cases hk; omega)⟩
 | true =>
 rw [hk] at mm
 cases h1 : vinB q 0 1073741824 with
 | false =>
  have hx := HX.out
  rw [vrnd_no (fun h => by rw [(vin_iff _ _ _).2 ⟨h.2.1, h.2.2.1⟩] at h1; cases h1)] at hx
  subst hx
  clear HX
  go_wp2_with (first | (refine xw_load rfl (.tmp 5) rfl rfl e0 rfl ?_) | (go_at_call 46; refine (mm _).mono ?_; rintro e w2 ⟨rfl, hb2⟩; have e2 := e0.kept hb2; have y2 := y0.kept hb2; have b2 := b0.trans (hb2.mono hBs); have hB2 := Zl e2.lt) | (go_at_call 217; refine (vin_any _ _ _ _).mono ?_; rintro e wx ⟨rfl, rfl⟩) | (refine xw_store rfl (.tmp 10) (.tmp 27) rfl rfl [.int .i64 0, .int .i64 0] rfl y2 rfl rfl rfl ?_))
  refine xw_end2 (by rfl) (by rfl) (by rfl) (xw_put y2 [.int .i64 0, .int .i64 0]) rfl rfl ?_
  exact ⟨rfl, b2.grown (xw_grown _ (B + 1) #[.int .i64 0, .int .i64 0]) hB2 (fun k hk => by cases hk; omega)⟩
 | true =>
 cases h2 : vinB a 0 1073741824 with
 | false =>
  have hx := HX.out
  rw [vrnd_no (fun h => by rw [(vin_iff _ _ _).2 h.2.2.2] at h2; cases h2)] at hx
  subst hx
  clear HX
  go_wp2_with (first | (refine xw_load rfl (.tmp 5) rfl rfl e0 rfl ?_) | (go_at_call 46; refine (mm _).mono ?_; rintro e w2 ⟨rfl, hb2⟩; have e2 := e0.kept hb2; have y2 := y0.kept hb2; have b2 := b0.trans (hb2.mono hBs); have hB2 := Zl e2.lt) | (go_at_call 217; refine (vin_any _ _ _ _).mono ?_; rintro e wx ⟨rfl, rfl⟩) | (refine xw_store rfl (.tmp 10) (.tmp 27) rfl rfl [.int .i64 0, .int .i64 0] rfl y2 rfl rfl rfl ?_))
  refine xw_end2 (by rfl) (by rfl) (by rfl) (xw_put y2 [.int .i64 0, .int .i64 0]) rfl rfl ?_
  exact ⟨rfl, b2.grown (xw_grown _ (B + 1) #[.int .i64 0, .int .i64 0]) hB2 (fun k hk => by cases hk; omega)⟩
 | true =>
 have g1 := (vin_iff _ _ _).1 h1; have g2 := (vin_iff _ _ _).1 h2
 have hok : RdOk c t q a mss most := ⟨hk, g1.1, g1.2, g2.1, g2.2⟩
 obtain ⟨v0, v1, v2, v3, v4, v5, v6, v7⟩ := (xmB_iff c t mss most).1 hk
 have HOK := Zh hok
 clear hok hk g1 g2
 go_upto_region 3 with (first | (refine xw_load rfl (.tmp 5) rfl rfl e0 rfl ?_) | (go_at_call 46; refine (mm _).mono ?_; rintro e w2 ⟨rfl, hb2⟩; have e2 := e0.kept hb2; have y2 := y0.kept hb2; have b2 := b0.trans (hb2.mono hBs); have hB2 := Zl e2.lt) | (go_at_call 217; refine (vin_any _ _ _ _).mono ?_; rintro e wx ⟨rfl, rfl⟩))
 clear e0 y0 b0 hb2 hBs h1 h2 mm
 have x0 := e2.cell 0 rfl; have x1 := e2.cell 1 rfl
 by_cases g : c < t
 case pos =>
  have dg : decide (c < t) = true := Zt g
  have hx := HX.out
  rw [vrnd_slow HOK.out g] at hx
  clear HX HOK
  have pp := fun w => vclamp_any c mss most w
  rw [cl2_in ⟨v4, v5⟩] at pp
  by_cases k : a < q
  case pos =>
   rw [if_pos k] at hx
   subst hx
   have fi := e2.free 1
   have vv := fun w => vverd_same q a true w
   rw [show verdR q a true = 3 from by unfold verdR; rw [if_pos rfl, if_pos k]] at vv
   go_upto_region 4 with (go_at_call 218; refine (vv _).mono ?_; rintro e wx ⟨rfl, rfl⟩)
   go_upto_region 10 with fail
   have e4 := e2.set 1 (.int .i64 c); simp only [List.set_cons_zero, List.set_cons_succ] at e4
   have y4 := y2.far (p := ⟨B, 1, none⟩) (by simp) (.int .i64 c)
   have b4 := b2.grown (xw_gset w2 ⟨B, 1, none⟩ (.int .i64 c)) hB2 (fun k h => by cases h; exact Nat.le_refl B)
   clear x0 x1 fi
   generalize w2.setCell ⟨B, 1, none⟩ (.int .i64 c) = w4 at e4 y4 b4 ⊢
   have hB4 : B ≤ w4.heap.size := Zl e4.lt
   clear e2 y2 b2 hB2
   have f0 := e4.free 0
   have z0 := e4.cell 0 rfl
   go_upto_region 11 with (go_at_call 157; refine (pp _).mono ?_; rintro e wx ⟨rfl, rfl⟩)
   have e5 := e4.set 0 (.int .i64 c); simp only [List.set_cons_zero, List.set_cons_succ] at e5
   have y5 := y4.far (p := ⟨B, 0, none⟩) (by simp) (.int .i64 c)
   have b5 := b4.grown (xw_gset w4 ⟨B, 0, none⟩ (.int .i64 c)) hB4 (fun k h => by cases h; exact Nat.le_refl B)
   clear f0 z0
   generalize w4.setCell ⟨B, 0, none⟩ (.int .i64 c) = w5 at e5 y5 b5 ⊢
   have hB5 : B ≤ w5.heap.size := Zl e5.lt
   go_wp2_with (first | (refine xw_load rfl (.tmp 5) rfl rfl e5 rfl ?_) | (refine xw_store rfl (.tmp 10) (.tmp 61) rfl rfl [c, c] rfl y5 rfl rfl rfl ?_))
   refine xw_end2 (by rfl) (by rfl) (by rfl) (xw_put y5 [c, c]) rfl rfl ?_
   exact ⟨rfl, b5.grown (xw_grown _ (B + 1) #[c, c]) hB5 (fun k hk => by cases hk; omega)⟩
  case neg =>
   rw [if_neg k] at hx
   subst hx
   have vv := fun w => vverd_same q a true w
   rw [show verdR q a true = 0 from by unfold verdR; rw [if_pos rfl, if_neg k]] at vv
   go_upto_region 4 with (go_at_call 218; refine (vv _).mono ?_; rintro e wx ⟨rfl, rfl⟩)
   go_upto_region 10 with fail
   clear x0 x1
   have f0 := e2.free 0
   have z0 := e2.cell 0 rfl
   go_upto_region 11 with (go_at_call 157; refine (pp _).mono ?_; rintro e wx ⟨rfl, rfl⟩)
   have e5 := e2.set 0 (.int .i64 c); simp only [List.set_cons_zero, List.set_cons_succ] at e5
   have y5 := y2.far (p := ⟨B, 0, none⟩) (by simp) (.int .i64 c)
   have b5 := b2.grown (xw_gset w2 ⟨B, 0, none⟩ (.int .i64 c)) hB2 (fun k h => by cases h; exact Nat.le_refl B)
   clear f0 z0
   generalize w2.setCell ⟨B, 0, none⟩ (.int .i64 c) = w5 at e5 y5 b5 ⊢
   have hB5 : B ≤ w5.heap.size := Zl e5.lt
   go_wp2_with (first | (refine xw_load rfl (.tmp 5) rfl rfl e5 rfl ?_) | (refine xw_store rfl (.tmp 10) (.tmp 61) rfl rfl [c, t] rfl y5 rfl rfl rfl ?_))
   refine xw_end2 (by rfl) (by rfl) (by rfl) (xw_put y5 [c, t]) rfl rfl ?_
   exact ⟨rfl, b5.grown (xw_grown _ (B + 1) #[c, t]) hB5 (fun k hk => by cases hk; omega)⟩
 case neg =>
 have dg : decide (c < t) = false := Zf g
 have hx := HX.out
 rw [vrnd_fast HOK.out g] at hx
 clear HX HOK
 by_cases k1 : q < a
 case pos =>
  rw [if_pos k1] at hx
  have i1 : IntKind.i64.wrap (c + mss) = c + mss := IntWalk.i64_in _ (by omega)
  have pp := fun w => vclamp_any (c + mss) mss most w
  rw [cl2_eq (by omega), Int.max_eq_left (by omega : mss ≤ c + mss)] at pp
  obtain ⟨z, hz⟩ : ∃ z, min (c + mss) most = z := ⟨_, rfl⟩
  rw [hz] at pp hx
  obtain ⟨u, hu⟩ : ∃ u, c + mss = u := ⟨_, rfl⟩
  rw [hu] at pp i1
  subst hx
  clear hz
  have fi := e2.free 0
  have vv := fun w => vverd_same q a false w
  rw [show verdR q a false = 1 from by unfold verdR; rw [if_neg (by simp), if_pos k1]] at vv
  go_upto_region 4 with (go_at_call 218; refine (vv _).mono ?_; rintro e wx ⟨rfl, rfl⟩)
  go_upto_region 10 with fail
  have e4 := e2.set 0 (.int .i64 u); simp only [List.set_cons_zero, List.set_cons_succ] at e4
  have y4 := y2.far (p := ⟨B, 0, none⟩) (by simp) (.int .i64 u)
  have b4 := b2.grown (xw_gset w2 ⟨B, 0, none⟩ (.int .i64 u)) hB2 (fun k h => by cases h; exact Nat.le_refl B)
  clear x0 x1 fi
  generalize w2.setCell ⟨B, 0, none⟩ (.int .i64 u) = w4 at e4 y4 b4 ⊢
  have hB4 : B ≤ w4.heap.size := Zl e4.lt
  clear e2 y2 b2 hB2
  have f0 := e4.free 0
  have z0 := e4.cell 0 rfl
  go_upto_region 11 with (go_at_call 157; refine (pp _).mono ?_; rintro e wx ⟨rfl, rfl⟩)
  have e5 := e4.set 0 (.int .i64 z); simp only [List.set_cons_zero, List.set_cons_succ] at e5
  have y5 := y4.far (p := ⟨B, 0, none⟩) (by simp) (.int .i64 z)
  have b5 := b4.grown (xw_gset w4 ⟨B, 0, none⟩ (.int .i64 z)) hB4 (fun k h => by cases h; exact Nat.le_refl B)
  clear f0 z0
  generalize w4.setCell ⟨B, 0, none⟩ (.int .i64 z) = w5 at e5 y5 b5 ⊢
  have hB5 : B ≤ w5.heap.size := Zl e5.lt
  go_wp2_with (first | (refine xw_load rfl (.tmp 5) rfl rfl e5 rfl ?_) | (refine xw_store rfl (.tmp 10) (.tmp 61) rfl rfl [z, t] rfl y5 rfl rfl rfl ?_))
  refine xw_end2 (by rfl) (by rfl) (by rfl) (xw_put y5 [z, t]) rfl rfl ?_
  exact ⟨rfl, b5.grown (xw_grown _ (B + 1) #[z, t]) hB5 (fun k hk => by cases hk; omega)⟩
 case neg =>
 rw [if_neg k1] at hx
 by_cases k2 : a < q
 case pos =>
  rw [if_pos k2] at hx
  have i1 : IntKind.i64.wrap (c - mss) = c - mss := IntWalk.i64_in _ (by omega)
  have pp := fun w => vclamp_any (c - mss) mss most w
  rw [cl2_eq (by omega), show min (max (c - mss) mss) most = max (c - mss) mss by omega] at pp
  obtain ⟨z, hz⟩ : ∃ z, max (c - mss) mss = z := ⟨_, rfl⟩
  rw [hz] at pp hx
  obtain ⟨u, hu⟩ : ∃ u, c - mss = u := ⟨_, rfl⟩
  rw [hu] at pp i1
  subst hx
  clear hz
  have fi := e2.free 0
  have vv := fun w => vverd_same q a false w
  rw [show verdR q a false = 2 from by unfold verdR; rw [if_neg (by simp), if_neg k1, if_pos k2]] at vv
  go_upto_region 4 with (go_at_call 218; refine (vv _).mono ?_; rintro e wx ⟨rfl, rfl⟩)
  go_upto_region 10 with fail
  have e4 := e2.set 0 (.int .i64 u); simp only [List.set_cons_zero, List.set_cons_succ] at e4
  have y4 := y2.far (p := ⟨B, 0, none⟩) (by simp) (.int .i64 u)
  have b4 := b2.grown (xw_gset w2 ⟨B, 0, none⟩ (.int .i64 u)) hB2 (fun k h => by cases h; exact Nat.le_refl B)
  clear x0 x1 fi
  generalize w2.setCell ⟨B, 0, none⟩ (.int .i64 u) = w4 at e4 y4 b4 ⊢
  have hB4 : B ≤ w4.heap.size := Zl e4.lt
  clear e2 y2 b2 hB2
  have f0 := e4.free 0
  have z0 := e4.cell 0 rfl
  go_upto_region 11 with (go_at_call 157; refine (pp _).mono ?_; rintro e wx ⟨rfl, rfl⟩)
  have e5 := e4.set 0 (.int .i64 z); simp only [List.set_cons_zero, List.set_cons_succ] at e5
  have y5 := y4.far (p := ⟨B, 0, none⟩) (by simp) (.int .i64 z)
  have b5 := b4.grown (xw_gset w4 ⟨B, 0, none⟩ (.int .i64 z)) hB4 (fun k h => by cases h; exact Nat.le_refl B)
  clear f0 z0
  generalize w4.setCell ⟨B, 0, none⟩ (.int .i64 z) = w5 at e5 y5 b5 ⊢
  have hB5 : B ≤ w5.heap.size := Zl e5.lt
  go_wp2_with (first | (refine xw_load rfl (.tmp 5) rfl rfl e5 rfl ?_) | (refine xw_store rfl (.tmp 10) (.tmp 61) rfl rfl [z, t] rfl y5 rfl rfl rfl ?_))
  refine xw_end2 (by rfl) (by rfl) (by rfl) (xw_put y5 [z, t]) rfl rfl ?_
  exact ⟨rfl, b5.grown (xw_grown _ (B + 1) #[z, t]) hB5 (fun k hk => by cases hk; omega)⟩
 case neg =>
 rw [if_neg k2] at hx
 subst hx
 have pp := fun w => vclamp_any c mss most w
 rw [cl2_in ⟨v4, v5⟩] at pp
 have vv := fun w => vverd_same q a false w
 rw [show verdR q a false = 0 from by unfold verdR; rw [if_neg (by simp), if_neg k1, if_neg k2]] at vv
 go_upto_region 4 with (go_at_call 218; refine (vv _).mono ?_; rintro e wx ⟨rfl, rfl⟩)
 go_upto_region 10 with fail
 clear x0 x1
 have f0 := e2.free 0
 have z0 := e2.cell 0 rfl
 go_upto_region 11 with (go_at_call 157; refine (pp _).mono ?_; rintro e wx ⟨rfl, rfl⟩)
 have e5 := e2.set 0 (.int .i64 c); simp only [List.set_cons_zero, List.set_cons_succ] at e5
 have y5 := y2.far (p := ⟨B, 0, none⟩) (by simp) (.int .i64 c)
 have b5 := b2.grown (xw_gset w2 ⟨B, 0, none⟩ (.int .i64 c)) hB2 (fun k h => by cases h; exact Nat.le_refl B)
 clear f0 z0
 generalize w2.setCell ⟨B, 0, none⟩ (.int .i64 c) = w5 at e5 y5 b5 ⊢
 have hB5 : B ≤ w5.heap.size := Zl e5.lt
 go_wp2_with (first | (refine xw_load rfl (.tmp 5) rfl rfl e5 rfl ?_) | (refine xw_store rfl (.tmp 10) (.tmp 61) rfl rfl [c, t] rfl y5 rfl rfl rfl ?_))
 refine xw_end2 (by rfl) (by rfl) (by rfl) (xw_put y5 [c, t]) rfl rfl ?_
 exact ⟨rfl, b5.grown (xw_grown _ (B + 1) #[c, t]) hB5 (fun k hk => by cases hk; omega)⟩
theorem modulo_ex (m : Int) (w : World) :
  Calls Tryz.prog 179 #[m] w fun e w' => ∃ V, e = .returned (.func (.func 208) #[] #[.pointer (some ⟨V, 0, none⟩)]) ∧ Bx w' V 3 [m] ∧ Below w.heap.size w w' :=
 (modulo_any m w).mono (fun _ _ h => ⟨_, h⟩)
end Go.Proofs.YtbijhkhkigdddaaGreat
