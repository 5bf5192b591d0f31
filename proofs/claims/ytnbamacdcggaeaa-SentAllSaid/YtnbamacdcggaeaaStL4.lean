/- Package sent as it landed: slices.Clone, Send as contracts of the calls. -/
import Derived.Test.YtnbamacdcggaeaaStL2
import Derived.Test.YtnbamacdcggaeaaStRef5
namespace Go.Proofs.Ytnbamacdcggaeaa
open Go.RowKit
set_option linter.unusedVariables false
set_option linter.unusedSimpArgs false

set_option maxRecDepth 100000 in
set_option maxHeartbeats 8000000 in
theorem stclone_any (A : Option Addr) (n c : Nat) (l : List Prt) (w : World) (hr : Se w A n c l) (hn : n ≤ 1000000) :
    Calls Try.prog 24 #[.slice A n c] w fun e w' => ∃ R d, e = .returned (.slice R n d) ∧ Goe w' w.heap.size 24 (.slice R n d) n l ∧ Below w.heap.size w w' := by
  have qn := fun (w : World) (a : Option Addr) (n c n' c' : Nat) => Lib.run_eql_slice_nil (P := Try.prog) w _ _ a n c n' c' Try.underlying22
  cases A with
  | none =>
    have hc := hr.nil rfl
    have hle := hr.le
    obtain rfl : n = 0 := by omega
    have hz := hr.rd.len
    obtain rfl : l = [] := List.eq_nil_of_length_eq_zero hz
    clear hc hle hz
    go_enter Try.func24, Try.ntmps24
    go_wp2
    go_ret
    exact ⟨none, 0, rfl, Goe.none _ _ _, Below.refl _ _⟩
  | some a =>
    have hmade : (w.alloc (.cells #[] 24)).ownsRow w.heap.size 24 (El.k Prt) (.slice (some ⟨w.heap.size, 0, none⟩) 0 0) 0 (evals ([] : List Prt)) := World.ownsRow_made w #[] 0 (Nat.le_refl _) (Nat.zero_le _) rfl
    go_enter Try.func24, Try.ntmps24
    go_wp2_with (at_builtin; refine wpList_appe _ rfl (.tmp 5) (.tmp 6) 22 rfl w.heap.size 24 Try.underlying22 (.agg #[.int .i64 0, .int .i64 0, .int .i64 0, .int .i64 0, .int .i64 0, .bool false, .bool false, .int .i64 0, .int .i64 0]) 64 info_prt (by decide) _ 0 ([] : List Prt) rfl ⟨hmade, AllOk.nil⟩ rfl hr.nil (hr.rd.keep ((Below.refl _ _).alloc (Nat.le_refl _) _)) (by unfold maxLen; omega) (by omega) (by simp) ?_; intro v1 w1 hown1 hgrow1 hat1)
    have b1 : Below w.heap.size w w1 := ((Below.refl _ _).alloc (Nat.le_refl _) _).grown hgrow1 (by simp) (fun k hk => (hmade.lt k hk).1)
    simp only [Nat.zero_add, List.nil_append] at hown1
    obtain ⟨R, d, ev, hsl⟩ := hown1.se
    subst ev
    go_wp2
    go_ret
    exact ⟨R, d, rfl, hown1, b1⟩

theorem goe_mono {w : World} {base base' e : Nat} {v : Value} {n : Nat} {l : List Prt} (h : Goe w base e v n l) (hb : base' ≤ base) : Goe w base' e v n l := by
  refine ⟨⟨h.row.1, ?_⟩, h.ok⟩
  rcases h.row.2 with h1 | ⟨g, cap, cur, e1, e2, e3⟩
  · exact .inl h1
  · exact .inr ⟨g, cap, cur, e1, Nat.le_trans hb e2, e3⟩
theorem prts_app {l : List Prt} {x : Prt} : chainB (l ++ [x]) = true ↔ chainB l = true ∧ folB l x = true := by
  have hlen : (l ++ [x]).length = l.length + 1 := by simp
  have ht : (l ++ [x]).take l.length = l := by simp
  have hl : folB l x = true ↔ LinkOk (l ++ [x]) l.length := by
    have := fol_link (l := l ++ [x]) (k := l.length) (by rw [hlen]; omega)
    rwa [ht, ge_snoc] at this
  rw [chainB_iff, chainB_iff, hl, hlen]
  have hlk : ∀ i, i < l.length → (LinkOk (l ++ [x]) i ↔ LinkOk l i) := fun i hi => by
    unfold LinkOk
    rw [ge_app hi]
    refine and_congr_right fun _ => ⟨fun h h0 => ?_, fun h h0 => ?_⟩
    · rw [h h0, ge_app (by omega)]
    · rw [h h0, ge_app (by omega)]
  exact ⟨fun h => ⟨fun i hi => (hlk i hi).1 (h i (by omega)), h _ (by omega)⟩, fun ⟨h, k⟩ i hi => by
    by_cases e : i = l.length
    · subst e; exact k
    · exact (hlk i (by omega)).2 (h i (by omega))⟩
theorem send_bad {l : List Prt} {x : Prt} (h : ¬ (smayB l = true ∧ folB l x = true)) : sendR l x = ([], 1) := by
  unfold sendR
  rw [if_neg (fun k => h ⟨?_, ?_⟩)]
  · rw [smay_iff]; exact ⟨k.2, (chainB_iff l).1 (prts_app.1 k.1).1⟩
  · exact (prts_app.1 k.1).2
theorem send_full {l : List Prt} {x : Prt} (h : smayB l = true ∧ folB l x = true) (k : l.length = 500) : sendR l x = ([], 4) := by
  unfold sendR
  have := (smay_iff l).1 h.1
  rw [if_pos ⟨prts_app.2 ⟨(chainB_iff l).2 this.2, h.2⟩, this.1⟩, if_pos k]
theorem send_ok {l : List Prt} {x : Prt} (h : smayB l = true ∧ folB l x = true) (k : l.length ≠ 500) : sendR l x = (l ++ [x], 0) := by
  unfold sendR
  have := (smay_iff l).1 h.1
  rw [if_pos ⟨prts_app.2 ⟨(chainB_iff l).2 this.2, h.2⟩, this.1⟩, if_neg k]

set_option maxRecDepth 100000 in
set_option maxHeartbeats 8000000 in
theorem stsend_any (A : Option Addr) (n c : Nat) (l : List Prt) (x : Prt) (w : World) (hs : Se w A n c l) (hx : PrtW x) (hn : n ≤ 1000) :
    Calls Try.prog 10 #[.slice A n c, .agg #[.int .i64 x.seq, .int .i64 x.len, .int .i64 x.dsn, .int .i64 x.at_, .int .i64 x.tries, .bool x.came, .bool x.lost, .int .i64 x.total, .int .i64 x.last]] w fun e w' => TellS w w' e (sendR l x) := by
  unfold TellS
  obtain ⟨B, hB⟩ : ∃ B, w.heap.size = B := ⟨_, rfl⟩
  rw [hB]
  have hl := hs.rd.len
  have e0 : Bx _ _ _ [.int .i64 x.seq, .int .i64 x.len, .int .i64 x.dsn, .int .i64 x.at_, .int .i64 x.tries, .bool x.came, .bool x.lost, .int .i64 x.total, .int .i64 x.last] := Bx.new w 24 [.int .i64 x.seq, .int .i64 x.len, .int .i64 x.dsn, .int .i64 x.at_, .int .i64 x.tries, .bool x.came, .bool x.lost, .int .i64 x.total, .int .i64 x.last]
  rw [hB] at e0
  have b0 : Below B w (w.alloc (.cells #[.int .i64 x.seq, .int .i64 x.len, .int .i64 x.dsn, .int .i64 x.at_, .int .i64 x.tries, .bool x.came, .bool x.lost, .int .i64 x.total, .int .i64 x.last] 24)) := by rw [← hB]; exact (Below.refl _ _).alloc (Nat.le_refl _) _
  have hs0 := hs.alloc (.cells #[.int .i64 x.seq, .int .i64 x.len, .int .i64 x.dsn, .int .i64 x.at_, .int .i64 x.tries, .bool x.came, .bool x.lost, .int .i64 x.total, .int .i64 x.last] 24)
  obtain ⟨y, hy⟩ : ∃ y, sendR l x = y := ⟨_, rfl⟩
  rw [hy]
  have HY := Lib.hid hy
  have HL := Lib.hid hl; have HXW := Lib.hid hx
  clear hy hs hl hx
  go_enter Try.func10, Try.ntmps10
  go_upto_region 1 with fail
  change Code.wp _ _ _ _ (w.alloc (.cells #[.int .i64 x.seq, .int .i64 x.len, .int .i64 x.dsn, .int .i64 x.at_, .int .i64 x.tries, .bool x.came, .bool x.lost, .int .i64 x.total, .int .i64 x.last] 24))
  generalize w.alloc (.cells #[.int .i64 x.seq, .int .i64 x.len, .int .i64 x.dsn, .int .i64 x.at_, .int .i64 x.tries, .bool x.came, .bool x.lost, .int .i64 x.total, .int .i64 x.last] 24) = w1 at e0 b0 hs0 ⊢
  have hm := stmay_any A n c l w1 hs0
  cases hk : smayB l with
  | false =>
    have hy := HY.out
    rw [send_bad (fun h => by rw [hk] at h; exact absurd h.1 (by simp))] at hy
    subst hy
    rw [hk] at hm
    clear HY hk
    go_wp2_with (go_at_call 17; refine hm.mono ?_; rintro e wa ⟨rfl, hba⟩)
    go_ret2
    exact ⟨none, 0, 0, rfl, Sne.none _ _, b0.trans (hba.mono (Nat.le_of_lt e0.lt))⟩
  | true =>
  rw [hk] at hm
  have heo : 0 < n → EndOk (ge l (n - 1)) := fun h0 => endOk (((smay_iff l).1 hk).2 (n - 1) (by rw [HL.out]; omega)).1
  have hfol := fun W hW => stfollows_any A n c l x W hW heo
  have hn5 : n ≤ 500 := by have := ((smay_iff l).1 hk).1; rw [HL.out] at this; exact this
  cases hf : folB l x with
  | false =>
    have hy := HY.out
    rw [send_bad (fun h => by rw [hf] at h; exact absurd h.2 (by simp))] at hy
    subst hy
    rw [hf] at hfol
    have HFOL := Lib.hid hfol
    clear HY hk hf hfol heo
    go_wp2_with (first | (go_at_call 17; refine hm.mono ?_; rintro e wa ⟨rfl, hba⟩; have e2 := e0.kept hba; have hs2 := hs0.keep hba; have ba := b0.trans (hba.mono (Nat.le_of_lt e0.lt)); have c0 := e2.cell 0 rfl; have c1 := e2.cell 1 rfl; have c2 := e2.cell 2 rfl; have c3 := e2.cell 3 rfl; have c4 := e2.cell 4 rfl; have c5 := e2.cell 5 rfl; have c6 := e2.cell 6 rfl; have c7 := e2.cell 7 rfl; have c8 := e2.cell 8 rfl) | (go_at_call 23; refine (HFOL.out _ hs2).mono ?_; rintro e wb ⟨rfl, hbb⟩))
    go_ret2
    exact ⟨none, 0, 0, rfl, Sne.none _ _, ba.trans (hbb.mono (Nat.le_of_lt e2.lt))⟩
  | true =>
  have hok : smayB l = true ∧ folB l x = true := ⟨hk, hf⟩
  have HOK := Lib.hid hok
  rw [hf] at hfol
  have HFOL := Lib.hid hfol
  clear hk hf hfol heo hok
  by_cases h6 : n = 500
  · have hy := HY.out
    rw [send_full HOK.out (by rw [HL.out]; exact h6)] at hy
    subst hy
    subst h6
    clear HY
    go_wp2_with (first | (go_at_call 17; refine hm.mono ?_; rintro e wa ⟨rfl, hba⟩; have e2 := e0.kept hba; have hs2 := hs0.keep hba; have ba := b0.trans (hba.mono (Nat.le_of_lt e0.lt)); have c0 := e2.cell 0 rfl; have c1 := e2.cell 1 rfl; have c2 := e2.cell 2 rfl; have c3 := e2.cell 3 rfl; have c4 := e2.cell 4 rfl; have c5 := e2.cell 5 rfl; have c6 := e2.cell 6 rfl; have c7 := e2.cell 7 rfl; have c8 := e2.cell 8 rfl) | (go_at_call 23; refine (HFOL.out _ hs2).mono ?_; rintro e wb ⟨rfl, hbb⟩))
    go_ret2
    exact ⟨none, 0, 0, rfl, Sne.none _ _, ba.trans (hbb.mono (Nat.le_of_lt e2.lt))⟩
  have hy := HY.out
  rw [send_ok HOK.out (by rw [HL.out]; exact h6)] at hy
  subst hy
  have d6 : ((n : Int) == 500) = false := by simp; omega
  have d7 : (n == 500) = false := by simp; omega
  clear HY h6
  go_upto_region 5 with (first | (go_at_call 17; refine hm.mono ?_; rintro e wa ⟨rfl, hba⟩; have e2 := e0.kept hba; have hs2 := hs0.keep hba; have ba := b0.trans (hba.mono (Nat.le_of_lt e0.lt)); have c0 := e2.cell 0 rfl; have c1 := e2.cell 1 rfl; have c2 := e2.cell 2 rfl; have c3 := e2.cell 3 rfl; have c4 := e2.cell 4 rfl; have c5 := e2.cell 5 rfl; have c6 := e2.cell 6 rfl; have c7 := e2.cell 7 rfl; have c8 := e2.cell 8 rfl) | (go_at_call 23; refine (HFOL.out _ hs2).mono ?_; rintro e wb ⟨rfl, hbb⟩))
  clear c0 c1 c2 c3 c4 c5 c6 c7 c8
  have e3 := e2.kept hbb; have hs3 := hs2.keep hbb; have b3 := ba.trans (hbb.mono (Nat.le_of_lt e2.lt))
  clear e0 e2 hs0 hs2 b0 ba hba hbb hm
  obtain ⟨w2, hw2⟩ : ∃ w2, wb.drew = w2 := ⟨_, rfl⟩
  have e2 : Bx w2 B 24 (El.cells x) := by rw [← hw2]; exact e3.drew
  have b2 : Below B w w2 := by rw [← hw2]; exact b3.drew
  have hs2 : Se w2 A n c l := by rw [← hw2]; exact hs3.drew
  have hB2 : B < w2.heap.size := e2.lt
  clear e3 b3 hs3
  refine wp_region_tail 4 7 (fun (W : World) => Bx W B 24 (El.cells x) ∧ Below w2.heap.size w2 W) (by kernel_rfl) (by rfl) (by decide) ?_
  rw [hw2]
  have HS : ((fun (W : World) => Bx W B 24 (El.cells x) ∧ Below w2.heap.size w2 W)) w2 := ⟨e2, Below.refl _ _⟩
  clear hw2
  refine wpAnyT_take (i := 0) (v := ?vv1) rfl (by kernel_rfl) (fun _ _ _ h => h) (Or.inl ⟨by rfl, fun w hSw => ?yy1⟩) HS ?rr1
  case yy1 =>
    (try dsimp only at hSw); go_simp
    try with_reducible rfl
  try simp only [Act.put, List.setIfInBounds_toArray, List.set_cons_zero, List.set_cons_succ]
  refine wpAnyT_take (i := 2) (v := .agg #[.int .i64 x.seq, .int .i64 x.len, .int .i64 x.dsn, .int .i64 x.at_, .int .i64 x.tries, .bool x.came, .bool x.lost, .int .i64 x.total, .int .i64 x.last]) rfl (by kernel_rfl) (fun _ _ _ h => h) (st_yields (by rfl) (.tmp 3) rfl rfl (El.cells x) rfl 24 (fun W hW => hW.1)) HS ?_
  try simp only [Act.put, List.setIfInBounds_toArray, List.set_cons_zero, List.set_cons_succ]
  refine wpAnyT_two (k1 := 1) (k2 := 3) rfl rfl (by kernel_rfl) (by decide) (by decide) (fun K hK => ?_) (fun K hK => ?_)
  · go_simp
    refine (stclone_any A n c l w2 hs2 (by omega)).mono ?_
    rintro e w3 ⟨R, d, rfl, hg1, hb3⟩
    have HG1 := Lib.hid hg1; clear hg1
    have HS : ((fun (W : World) => Bx W B 24 (El.cells x) ∧ Below w2.heap.size w2 W)) w3 := ⟨e2.kept hb3, hb3⟩
    refine hK _ _ HS ?_
    clear hK K
    try simp only [Act.put, List.setIfInBounds_toArray, List.set_cons_zero, List.set_cons_succ]
    refine wpAnyT_one (k := 3) rfl (by kernel_rfl) (by decide) (fun K hK => ?_)
    go_simp
    have hb4 : Below w2.heap.size w2 (w3.alloc (.cells (El.cells x).toArray 24)) := hb3.alloc hb3.size _
    have HS : ((fun (W : World) => Bx W B 24 (El.cells x) ∧ Below w2.heap.size w2 W)) (w3.alloc (.cells (El.cells x).toArray 24)) := ⟨e2.kept hb4, hb4⟩
    have hlit := se_one w3 (x := x) HXW.out 24
    have HG2 := Lib.hid (HG1.out.alloc (.cells (El.cells x).toArray 24))
    refine hK _ _ HS ?_
    clear hK K HG1 HS
    try simp only [Act.put, List.setIfInBounds_toArray, List.set_cons_zero, List.set_cons_succ]
    generalize w3.alloc (.cells (El.cells x).toArray 24) = w4 at hb4 hlit HG2 ⊢
    generalize w3.heap.size = P at hlit ⊢
    have b4 : Below B w w4 := b2.trans (hb4.mono (Nat.le_of_lt hB2))
    refine ⟨by kernel_rfl, ?_⟩
    simp only [List.drop_succ_cons, List.drop_zero]
    have hB4 : B ≤ w4.heap.size := Nat.le_trans (Nat.le_of_lt hB2) hb4.size
    have HG3 := Lib.hid (goe_mono HG2.out (Nat.le_of_lt hB2))
    clear HG2
    go_wp2_with (at_builtin; refine wpList_appe w4 rfl (.tmp 19) (.tmp 21) 22 rfl B 24 Try.underlying22 (.agg #[.int .i64 0, .int .i64 0, .int .i64 0, .int .i64 0, .int .i64 0, .bool false, .bool false, .int .i64 0, .int .i64 0]) 64 info_prt (by decide) _ n l rfl HG3.out rfl (fun h => by cases h) hlit.rd (by unfold maxLen; omega) (by omega) hB4 ?_; intro v3 w5 hg3 hgr3 _; have b5 : Below B w w5 := b4.grown hgr3 hB4 (fun k hk => (HG3.out.row.lt k hk).1))
    obtain ⟨G, d', rfl, hsn⟩ := hg3.sne
    go_ret2
    exact ⟨G, _, d', rfl, hsn, b5⟩
  · go_simp
    have hb3 : Below w2.heap.size w2 (w2.alloc (.cells (El.cells x).toArray 24)) := (Below.refl _ _).alloc (Nat.le_refl _) _
    have HS : ((fun (W : World) => Bx W B 24 (El.cells x) ∧ Below w2.heap.size w2 W)) (w2.alloc (.cells (El.cells x).toArray 24)) := ⟨e2.kept hb3, hb3⟩
    have hlit3 := se_one w2 (x := x) HXW.out 24
    have hs3 := hs2.keep hb3
    refine hK _ _ HS ?_
    clear hK K HS
    try simp only [Act.put, List.setIfInBounds_toArray, List.set_cons_zero, List.set_cons_succ]
    generalize w2.alloc (.cells (El.cells x).toArray 24) = w3 at hb3 hlit3 hs3 ⊢
    generalize hP2 : w2.heap.size = P at hlit3 ⊢
    refine wpAnyT_one (k := 1) rfl (by kernel_rfl) (by decide) (fun K hK => ?_)
    go_simp
    refine (stclone_any A n c l w3 hs3 (by omega)).mono ?_
    rintro e w4 ⟨R, d, rfl, hg1, hb34⟩
    have hlit := hlit3.keep hb34
    have hb4 : Below w2.heap.size w2 w4 := hb3.trans (hb34.mono hb3.size)
    have HS : ((fun (W : World) => Bx W B 24 (El.cells x) ∧ Below P w2 W)) w4 := ⟨e2.kept hb4, hP2 ▸ hb4⟩
    refine hK _ _ HS ?_
    clear hK K HS
    try simp only [Act.put, List.setIfInBounds_toArray, List.set_cons_zero, List.set_cons_succ]
    have HG2 := Lib.hid (goe_mono hg1 (Nat.le_trans (Nat.le_refl _) hb3.size))
    clear hg1
    have b4 : Below B w w4 := b2.trans (hb4.mono (Nat.le_of_lt hB2))
    refine ⟨by kernel_rfl, ?_⟩
    simp only [List.drop_succ_cons, List.drop_zero]
    have hB4 : B ≤ w4.heap.size := Nat.le_trans (Nat.le_of_lt hB2) hb4.size
    have HG3 := Lib.hid (goe_mono HG2.out (Nat.le_of_lt hB2))
    clear HG2
    go_wp2_with (at_builtin; refine wpList_appe w4 rfl (.tmp 19) (.tmp 21) 22 rfl B 24 Try.underlying22 (.agg #[.int .i64 0, .int .i64 0, .int .i64 0, .int .i64 0, .int .i64 0, .bool false, .bool false, .int .i64 0, .int .i64 0]) 64 info_prt (by decide) _ n l rfl HG3.out rfl (fun h => by cases h) hlit.rd (by unfold maxLen; omega) (by omega) hB4 ?_; intro v3 w5 hg3 hgr3 _; have b5 : Below B w w5 := b4.grown hgr3 hB4 (fun k hk => (HG3.out.row.lt k hk).1))
    obtain ⟨G, d', rfl, hsn⟩ := hg3.sne
    go_ret2
    exact ⟨G, _, d', rfl, hsn, b5⟩
end Go.Proofs.Ytnbamacdcggaeaa
