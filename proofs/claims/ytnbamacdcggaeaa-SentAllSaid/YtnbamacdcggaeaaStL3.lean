/- Package sent as it landed: Span, Flight as contracts of the calls. -/
import Derived.Test.YtnbamacdcggaeaaStL2
namespace Go.Proofs.Ytnbamacdcggaeaa
open Go.RowKit
set_option linter.unusedVariables false
set_option linter.unusedSimpArgs false

set_option maxRecDepth 100000 in
set_option maxHeartbeats 8000000 in
theorem stspan_any (A : Option Addr) (n c : Nat) (l : List Prt) (w : World) (hs : Se w A n c l) :
    Calls Try.prog 21 #[.slice A n c] w fun e w' => e = .returned (.agg #[.int .i64 (spanR l).1, .int .i64 (spanR l).2]) ∧ Below w.heap.size w w' := by
  obtain ⟨B, hB⟩ : ∃ B, w.heap.size = B := ⟨_, rfl⟩
  rw [hB]
  have hl := hs.rd.len
  have m1 := hs.le
  have m2 := hs.max
  have m3 : n ≤ 9223372036854775807 := by unfold maxLen at m2; omega
  clear m1 m2
  have y0 := Bx.new w 37 [.int .i64 0, .int .i64 0]
  rw [hB] at y0
  have b0 : Below B w (w.alloc (.cells #[.int .i64 0, .int .i64 0] 37)) := by rw [← hB]; exact (Below.refl _ _).alloc (Nat.le_refl _) _
  have hs0 := hs.alloc (.cells #[.int .i64 0, .int .i64 0] 37)
  obtain ⟨x, hx⟩ : ∃ x, spanR l = x := ⟨_, rfl⟩
  rw [hx]
  have HX := Lib.hid hx
  have HL := Lib.hid hl
  clear hx hs hl
  go_enter Try.func21, Try.ntmps21
  go_upto_region 1 with fail
  generalize w.alloc (.cells #[.int .i64 0, .int .i64 0] 37) = w1 at y0 b0 hs0 ⊢
  by_cases hn : n = 0
  · subst hn
    have hx := HX.out
    rw [show spanR l = (0, 0) by unfold spanR; rw [if_neg (by rw [HL.out]; omega)]] at hx
    subst hx
    clear HX
    have c0 := y0.cell 0 rfl; have c1 := y0.cell 1 rfl; have f0 := y0.free 0; have f1 := y0.free 1
    go_wp2_with (refine sg_store rfl (.tmp 2) (.tmp 11) rfl rfl [.int .i64 0, .int .i64 0] rfl y0 rfl rfl rfl ?_)
    refine sg_end1 (by rfl) (by rfl) (sg_put y0 [.int .i64 0, .int .i64 0]) rfl rfl ?_
    exact ⟨rfl, b0.grown (sg_grown _ B #[.int .i64 0, .int .i64 0]) (Nat.le_of_lt y0.lt) (fun k hk => by cases hk; exact Nat.le_refl _)⟩
  have hn0 : (n == 0) = false := by simpa using hn
  have hn1 : ((n : Int) == 0) = false := by simp; omega
  have hn2 : 0 < n := by omega
  have hm := stmay_any A n c l w1 hs0
  cases hk : smayB l with
  | false =>
    have hx := HX.out
    rw [show spanR l = (0, 0) by unfold spanR; rw [if_neg (fun h => by rw [hk] at h; simp at h)]] at hx
    subst hx
    rw [hk] at hm
    clear HX hk hn
    go_wp2_with (first | (go_at_call 17; refine hm.mono ?_; rintro e w2 ⟨rfl, hb2⟩; have y2 := y0.kept hb2; have b2 := b0.trans (hb2.mono (Nat.le_of_lt y0.lt)); have c0 := y2.cell 0 rfl; have c1 := y2.cell 1 rfl; have f0 := y2.free 0; have f1 := y2.free 1) | (refine sg_store rfl (.tmp 2) (.tmp 11) rfl rfl [.int .i64 0, .int .i64 0] rfl y2 rfl rfl rfl ?_))
    refine sg_end1 (by rfl) (by rfl) (sg_put y2 [.int .i64 0, .int .i64 0]) rfl rfl ?_
    exact ⟨rfl, b2.grown (sg_grown _ B #[.int .i64 0, .int .i64 0]) (Nat.le_of_lt y2.lt) (fun k hk => by cases hk; exact Nat.le_refl _)⟩
  | true =>
  rw [hk] at hm
  have hch := ((smay_iff l).1 hk).2
  obtain ⟨j, rfl⟩ : ∃ j, n = j + 1 := ⟨n - 1, by omega⟩
  have hx := HX.out
  rw [show spanR l = ((ge l 0).seq, endP (ge l j)) by unfold spanR; rw [if_pos ⟨by rw [HL.out]; omega, hk⟩, HL.out, Nat.add_sub_cancel]] at hx
  subst hx
  have heo := endOk (hch j (by rw [HL.out]; omega)).1
  clear HX hk hn hch
  go_upto_region 3 with (go_at_call 17; refine hm.mono ?_; rintro e w2 ⟨rfl, hb2⟩; have y2 := y0.kept hb2; have b2 := b0.trans (hb2.mono (Nat.le_of_lt y0.lt)); have hs2 := hs0.keep hb2)
  obtain ⟨b, o, rfl, hbl, hc⟩ := hs2.rd.at_ (by omega)
  have X := prt_at hc (show 0 < j + 1 by omega)
  have Y := prt_at hc (show j < j + 1 by omega)
  simp only [Nat.zero_mul, Nat.add_zero] at X
  obtain ⟨p, hp⟩ : ∃ p, ge l 0 = p := ⟨_, rfl⟩
  obtain ⟨p', hp'⟩ : ∃ p, ge l j = p := ⟨_, rfl⟩
  rw [hp] at X; rw [hp'] at Y heo
  have hend := fun W => stend_any p' W heo
  have hj1 : (0 : Int) < (j : Int) + 1 := by omega
  have hj2 : (0 : Int) ≤ (j : Int) + 1 := by omega
  have hj4 : (j : Int) < (j : Int) + 1 := by omega
  have hs3 : IntKind.i64.wrap (j : Int) = (j : Int) := IntWalk.i64_in _ (by omega)
  have HP := Lib.hid hp; have HP' := Lib.hid hp'
  have HEO := Lib.hid heo
  clear hp hp' hc heo
  have cX0 := X.c0
  clear X hs2
  have hB2 : B < w2.heap.size := y2.lt
  refine wp_region_tail 12 13 (fun (W : World) => W.cell? ⟨b, o, none⟩ = some (.int .i64 p.seq) ∧ Nine W b (o + j * 9) p' ∧ Bx W B 37 [.int .i64 0, .int .i64 0] ∧ Below B w W) (by kernel_rfl) (by rfl) (by decide) ?_
  have HS : ((fun (W : World) => W.cell? ⟨b, o, none⟩ = some (.int .i64 p.seq) ∧ Nine W b (o + j * 9) p' ∧ Bx W B 37 [.int .i64 0, .int .i64 0] ∧ Below B w W)) w2.drew := ⟨cX0, Y.drew.nine, y2.drew, b2.drew⟩
  refine wpAnyT_take (i := 0) (v := ?vv1) rfl (by kernel_rfl) (fun _ _ _ h => h) (Or.inl ⟨by rfl, fun w hSw => ?yy1⟩) HS ?rr1
  case yy1 =>
    (try dsimp only [Nine] at hSw); go_simp
    try with_reducible rfl
  try simp only [Act.put, List.setIfInBounds_toArray, List.set_cons_zero, List.set_cons_succ]
  refine wpAnyT_take (i := 1) (v := ?vv2) rfl (by kernel_rfl) (fun _ _ _ h => h) (Or.inl ⟨by rfl, fun w hSw => ?yy2⟩) HS ?rr2
  case yy2 =>
    (try dsimp only [Nine] at hSw); go_simp
    try with_reducible rfl
  try simp only [Act.put, List.setIfInBounds_toArray, List.set_cons_zero, List.set_cons_succ]
  refine wpAnyT_take (i := 2) (v := ?vv3) rfl (by kernel_rfl) (fun _ _ _ h => h) (Or.inl ⟨by rfl, fun w hSw => ?yy3⟩) HS ?rr3
  case yy3 =>
    (try dsimp only [Nine] at hSw); go_simp
    try with_reducible rfl
  try simp only [Act.put, List.setIfInBounds_toArray, List.set_cons_zero, List.set_cons_succ]
  refine wpAnyT_take (i := 3) (v := ?vv4) rfl (by kernel_rfl) (fun _ _ _ h => h) (Or.inl ⟨by rfl, fun w hSw => ?yy4⟩) HS ?rr4
  case yy4 =>
    (try dsimp only [Nine] at hSw); go_simp
    try with_reducible rfl
  try simp only [Act.put, List.setIfInBounds_toArray, List.set_cons_zero, List.set_cons_succ]
  refine wpAnyT_take (i := 4) (v := ?vv5) rfl (by kernel_rfl) (fun _ _ _ h => h) (Or.inl ⟨by rfl, fun w hSw => ?yy5⟩) HS ?rr5
  case yy5 =>
    (try dsimp only [Nine] at hSw); go_simp
    try with_reducible rfl
  try simp only [Act.put, List.setIfInBounds_toArray, List.set_cons_zero, List.set_cons_succ]
  refine wpAnyT_take (i := 5) (v := ?vv6) rfl (by kernel_rfl) (fun _ _ _ h => h) (Or.inl ⟨by rfl, fun w hSw => ?yy6⟩) HS ?rr6
  case yy6 =>
    (try dsimp only [Nine] at hSw); go_simp
    try with_reducible rfl
  try simp only [Act.put, List.setIfInBounds_toArray, List.set_cons_zero, List.set_cons_succ]
  refine wpAnyT_take (i := 6) (v := ?vv7) rfl (by kernel_rfl) (fun _ _ _ h => h) (Or.inl ⟨by rfl, fun w hSw => ?yy7⟩) HS ?rr7
  case yy7 =>
    (try dsimp only [Nine] at hSw); go_simp
    try with_reducible rfl
  try simp only [Act.put, List.setIfInBounds_toArray, List.set_cons_zero, List.set_cons_succ]
  refine wpAnyT_take (i := 7) (v := ?vv8) rfl (by kernel_rfl) (fun _ _ _ h => h) (Or.inl ⟨by rfl, fun w hSw => ?yy8⟩) HS ?rr8
  case yy8 =>
    (try dsimp only [Nine] at hSw); go_simp
    try with_reducible rfl
  try simp only [Act.put, List.setIfInBounds_toArray, List.set_cons_zero, List.set_cons_succ]
  refine wpAnyT_take (i := 8) (v := ?vv9) rfl (by kernel_rfl) (fun _ _ _ h => h) (Or.inl ⟨by rfl, fun w hSw => ?yy9⟩) HS ?rr9
  case yy9 =>
    (try dsimp only [Nine] at hSw); go_simp
    try with_reducible rfl
  try simp only [Act.put, List.setIfInBounds_toArray, List.set_cons_zero, List.set_cons_succ]
  refine wpAnyT_take (i := 9) (v := ?vv10) rfl (by kernel_rfl) (fun _ _ _ h => h) (Or.inl ⟨by rfl, fun w hSw => ?yy10⟩) HS ?rr10
  case yy10 =>
    (try dsimp only [Nine] at hSw); go_simp
    try with_reducible rfl
  try simp only [Act.put, List.setIfInBounds_toArray, List.set_cons_zero, List.set_cons_succ]
  refine wpAnyT_one (k := 10) rfl (by kernel_rfl) (by decide) (fun K hK => ?_)
  go_simp
  refine (hend _).mono ?_
  rintro e wv ⟨rfl, hb1⟩
  have HS : ((fun (W : World) => W.cell? ⟨b, o, none⟩ = some (.int .i64 p.seq) ∧ Nine W b (o + j * 9) p' ∧ Bx W B 37 [.int .i64 0, .int .i64 0] ∧ Below B w W)) _ := ⟨(hb1.cell (p := ⟨b, o, none⟩) hbl).trans cX0, (Y.drew.keep (w' := wv) hb1 hbl).nine, y2.drew.kept hb1, b2.drew.trans (hb1.mono (Nat.le_of_lt hB2))⟩
  refine hK _ _ HS ?_
  clear hK K
  try simp only [Act.put, List.setIfInBounds_toArray, List.set_cons_zero, List.set_cons_succ]
  refine wpAnyT_take (i := 11) (v := ?vv11) rfl (by kernel_rfl) (fun _ _ _ h => h) (Or.inl ⟨by rfl, fun w hSw => ?yy11⟩) HS ?rr11
  case yy11 =>
    (try dsimp only [Nine] at hSw); go_simp
    try with_reducible rfl
  try simp only [Act.put, List.setIfInBounds_toArray, List.set_cons_zero, List.set_cons_succ]
  refine ⟨by kernel_rfl, ?_⟩
  simp only [List.drop_succ_cons, List.drop_zero]
  go_wp2_with (refine sg_store rfl (.tmp 2) (.tmp 23) rfl rfl [.int .i64 p.seq, .int .i64 (endP p')] rfl HS.2.2.1 rfl rfl rfl ?_)
  refine sg_end1 (by rfl) (by rfl) (sg_put HS.2.2.1 [.int .i64 p.seq, .int .i64 (endP p')]) rfl rfl ?_
  rw [HP.out, HP'.out]
  exact ⟨rfl, HS.2.2.2.grown (sg_grown _ B #[.int .i64 p.seq, .int .i64 (endP p')]) (Nat.le_of_lt HS.2.2.1.lt) (fun k hk => by cases hk; exact Nat.le_refl _)⟩

set_option maxRecDepth 100000 in
set_option maxHeartbeats 8000000 in
theorem stflight_any (A : Option Addr) (n c : Nat) (l : List Prt) (w : World) (hs : Se w A n c l) :
    Calls Try.prog 19 #[.slice A n c] w fun e w' => e = .returned (.int .i64 (flightR l)) ∧ Below w.heap.size w w' := by
  have hl := hs.rd.len
  have m1 := hs.le
  have m2 := hs.max
  have m3 : n ≤ 9223372036854775807 := by unfold maxLen at m2; omega
  clear m1 m2
  obtain ⟨x, hx⟩ : ∃ x, flightR l = x := ⟨_, rfl⟩
  rw [hx]
  have HX := Lib.hid hx
  have HA := Lib.hid hs; have HL := Lib.hid hl
  have hm := stmay_any A n c l w hs
  clear hx hl hs
  go_enter Try.func19, Try.ntmps19
  cases hk : smayB l with
  | false =>
    have hx := HX.out
    rw [show flightR l = 0 by unfold flightR; rw [if_neg (by rw [hk]; simp)]] at hx
    subst hx
    rw [hk] at hm
    clear HX hk
    go_wp2_with (go_at_call 17; refine hm.mono ?_; rintro e w2 ⟨rfl, hb2⟩)
    go_ret
    exact ⟨rfl, hb2⟩
  | true =>
  rw [hk] at hm
  obtain ⟨hle, hch⟩ := (smay_iff l).1 hk
  have hx := HX.out
  rw [show flightR l = flySum l by unfold flightR; rw [if_pos hk]] at hx
  have HX2 := Lib.hid hx
  have HCH := Lib.hid hch
  have hn5 : n ≤ 500 := by have := HL.out; omega
  clear HX hk hx hch hle
  go_wp2_with (go_at_call 17; refine hm.mono ?_; rintro e w2 ⟨rfl, hb2⟩)
  go_loopw [3, 11] (fun s i wr => ∃ k : Nat, k ≤ n ∧ s = .int .i64 (flySum (l.take k)) ∧ i = .int .i64 (k : Int) ∧ Below w.heap.size w wr) (fun _ i _ => n - (intOf i).toNat)
  case atStart => exact ⟨0, Nat.zero_le _, rfl, rfl, hb2⟩
  case round =>
    obtain ⟨k, hkn, rfl, rfl, hb⟩ := hrel
    by_cases hlt : k < n
    · obtain ⟨b, o, rfl, hbl, hc⟩ := HA.out.rd.at_ (by omega)
      have X := (prt_at hc hlt).keep hb hbl
      have hbd := flySum_bd HCH.out k (by rw [HL.out]; omega)
      have hfl := flyL_bd (HCH.out k (by rw [HL.out]; omega)).1
      have hsn : flySum (l.take (k + 1)) = flySum (l.take k) + flyL (ge l k) := by rw [take_ge (by rw [HL.out]; omega), flySum_snoc]
      obtain ⟨p, hp⟩ : ∃ p, ge l k = p := ⟨_, rfl⟩
      rw [hp] at X hfl hsn
      have HSN := Lib.hid hsn
      obtain ⟨x0, x1, x2, x3, x4, x5, x6, x7, x8⟩ := X
      obtain ⟨P, hP⟩ : ∃ P, wr.heap.size = P := ⟨_, rfl⟩
      have eP : Bx (wr.alloc (.cells #[.int .i64 p.seq, .int .i64 p.len, .int .i64 p.dsn, .int .i64 p.at_, .int .i64 p.tries, .bool p.came, .bool p.lost, .int .i64 p.total, .int .i64 p.last] 24)) P 24 [.int .i64 p.seq, .int .i64 p.len, .int .i64 p.dsn, .int .i64 p.at_, .int .i64 p.tries, .bool p.came, .bool p.lost, .int .i64 p.total, .int .i64 p.last] := hP ▸ Bx.new wr 24 [.int .i64 p.seq, .int .i64 p.len, .int .i64 p.dsn, .int .i64 p.at_, .int .i64 p.tries, .bool p.came, .bool p.lost, .int .i64 p.total, .int .i64 p.last]
      have hwP : w.heap.size ≤ P := hP ▸ hb.size
      have bP : Below w.heap.size w (wr.alloc (.cells #[.int .i64 p.seq, .int .i64 p.len, .int .i64 p.dsn, .int .i64 p.at_, .int .i64 p.tries, .bool p.came, .bool p.lost, .int .i64 p.total, .int .i64 p.last] 24)) := hb.alloc (hP ▸ hwP) _
      clear hsn hp hc
      obtain ⟨s, hs⟩ : ∃ s, flySum (l.take k) = s := ⟨_, rfl⟩
      rw [hs] at hbd ⊢
      have HS := Lib.hid hs
      clear hs
      have hk0 : (k : Int) < (n : Int) := by omega
      go_upto_region 7 with fail
      clear x0 x1 x2 x3 x4 x5 x6 x7 x8
      try rw [hP]
      clear hP
      generalize wr.alloc (.cells #[.int .i64 p.seq, .int .i64 p.len, .int .i64 p.dsn, .int .i64 p.at_, .int .i64 p.tries, .bool p.came, .bool p.lost, .int .i64 p.total, .int .i64 p.last] 24) = wA at eP bP ⊢
      have c1 := eP.cell 1 rfl; have c5 := eP.cell 5 rfl; have c6 := eP.cell 6 rfl
      cases h5 : p.came with
      | true =>
        rw [h5] at c5
        have hz : flyL p = 0 := by unfold flyL; rw [h5]; rfl
        have HZ := Lib.hid hz; clear hz h5 hfl
        go_wp2_with fail
        go_roundw
        case rel => exact ⟨k + 1, by omega, by rw [HSN.out, HZ.out, HS.out, Int.add_zero], by go_num, bP⟩
        case measure => simp [intOf]; omega
      | false =>
      rw [h5] at c5
      cases h6 : p.lost with
      | true =>
        rw [h6] at c6
        have hz : flyL p = 0 := by unfold flyL; rw [h5, h6]; rfl
        have HZ := Lib.hid hz; clear hz h5 h6 hfl
        go_wp2_with fail
        go_roundw
        case rel => exact ⟨k + 1, by omega, by rw [HSN.out, HZ.out, HS.out, Int.add_zero], by go_num, bP⟩
        case measure => simp [intOf]; omega
      | false =>
        rw [h6] at c6
        have hz : flyL p = p.len := by unfold flyL; rw [h5, h6]; rfl
        rw [hz] at hfl
        have HZ := Lib.hid hz; clear hz h5 h6
        have hs1 : IntKind.i64.wrap (s + p.len) = s + p.len := IntWalk.i64_in _ (by omega)
        go_wp2_with fail
        go_roundw
        case rel => exact ⟨k + 1, by omega, by rw [HSN.out, HZ.out, HS.out], by go_num, bP⟩
        case measure => simp [intOf]; omega
    · obtain rfl : k = n := by omega
      have hx : flySum (l.take k) = x := by rw [← HX2.out, ← HL.out, List.take_length]
      rw [hx]
      have hd : decide (k < k) = false := decide_eq_false (by omega)
      clear hx
      go_wp2_with fail
      go_ret
      exact ⟨rfl, hb⟩
end Go.Proofs.Ytnbamacdcggaeaa
