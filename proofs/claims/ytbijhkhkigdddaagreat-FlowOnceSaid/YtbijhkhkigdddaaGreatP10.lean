/- StL4 LeRef3 FlU FlV LeL2. -/
import Derived.Test.YtbijhkhkigdddaaGreatP09
import Derived.LoopIn
import Derived.LoopNIn
import Derived.RangeFuncBound
import Derived.RangeFuncBox
import Derived.RangeFuncCalls
import Derived.RangeFuncLeaves
import Derived.RangeFuncNested
import Derived.Shelf.Abstract
import Derived.Shelf.RegionOpen
import Derived.TacticsInMore
set_option linter.all false
set_option maxRecDepth 100000
set_option maxHeartbeats 32000000
namespace Go.Proofs.YtbijhkhkigdddaaGreat
open Go.RowKit
theorem stclone_any (A : Option Addr) (n c : Nat) (l : List Prt) (w : World) (hr : Se w A n c l) (hn : n ≤ 1000000) :
  Calls Tryz.prog 112 #[.slice A n c] w fun e w' => ∃ R d, e = .returned (.slice R n d) ∧ Goe w' w.heap.size 57 (.slice R n d) n l ∧ Below w.heap.size w w' := by
 have qn := fun (w : World) (a : Option Addr) (n c n' c' : Nat) => Lib.run_eql_slice_nil (P := Tryz.prog) w _ _ a n c n' c' Tryz.underlying22
 cases A with
 | none =>
  have hc := hr.nil rfl
  have hle := hr.le
  obtain rfl : n = 0 := by omega
  have hz := hr.rd.len
  obtain rfl : l = [] := List.eq_nil_of_length_eq_zero hz
  clear hc hle hz
  go_enter Tryz.func112, Tryz.ntmps112
  go_wp2
  go_ret
  exact ⟨none, 0, rfl, Goe.none _ _ _, Below.refl _ _⟩
 | some a =>
  have hmade : (w.alloc (.cells #[] 57)).ownsRow w.heap.size 57 (El.k Prt) (.slice (some ⟨w.heap.size, 0, none⟩) 0 0) 0 (evals ([] : List Prt)) := World.ownsRow_made w #[] 0 Zr (Nat.zero_le _) rfl
  go_enter Tryz.func112, Tryz.ntmps112
  go_wp2_with (at_builtin; refine wpList_appe _ rfl (.tmp 5) (.tmp 6) 22 rfl w.heap.size 57 Tryz.underlying22 (.agg #[.int .i64 0, .int .i64 0, .int .i64 0, .int .i64 0, .int .i64 0, .bool false, .bool false, .int .i64 0, .int .i64 0]) 64 info_prt (by decide) _ 0 ([] : List Prt) rfl ⟨hmade, AllOk.nil⟩ rfl hr.nil (hr.rd.keep ((Zb).alloc Zr _)) (by unfold maxLen; omega) (by omega) (by simp) ?_; intro v1 w1 hown1 hgrow1 hat1)
  have b1 : Below w.heap.size w w1 := ((Zb).alloc Zr _).grown hgrow1 (by simp) (fun k hk => (hmade.lt k hk).1)
  simp only [Nat.zero_add, List.nil_append] at hown1
  obtain ⟨R, d, ev, hsl⟩ := hown1.se
  subst ev
  go_wp2
  go_ret
  exact ⟨R, d, rfl, hown1, b1⟩
theorem goe_mono {w : World} {base base' e : Nat} {v : Value} {n : Nat} {l : List Prt} (h : Goe w base e v n l) (hb : base' ≤ base) : Goe w base' e v n l := by
 refine ⟨⟨h.row.1, ?_⟩, h.ok⟩
 rcases h.row.2 with h1 | ⟨g, cap, cur, e1, e2, e3⟩
 ·exact .inl h1
 ·exact .inr ⟨g, cap, cur, e1, Zn hb e2, e3⟩
theorem prts_app {l : List Prt} {x : Prt} : chainB (l ++ [x]) = true ↔ chainB l = true ∧ folB l x = true := by
 have hlen : (l ++ [x]).length = l.length + 1 := by simp
 have ht : (l ++ [x]).take l.length = l := by simp
 have hl : folB l x = true ↔ LinkOk (l ++ [x]) l.length := by
  have := fol_link (l := l ++ [x]) (k := l.length) (by rw [hlen]; omega)
  rwa [ht, ge_snoc] at this
 rw [chainB_iff, chainB_iff, hl, hlen]
 have hlk : ∀ i, i < l.length → (LinkOk (l ++ [x]) i ↔ LinkOk l i) := fun i hi => by
  unfold LinkOk
  rw [ge_app hi]
  refine and_congr_right fun _ => ⟨fun h h0 => ?_, fun h h0 => ?_⟩
  ·rw [h h0, ge_app (by omega)]
  ·rw [h h0, ge_app (by omega)]
 exact ⟨fun h => ⟨fun i hi => (hlk i hi).1 (h i (by omega)), h _ (by omega)⟩, fun ⟨h, k⟩ i hi => by
  by_cases e : i = l.length
  ·subst e; exact k
  ·exact (hlk i (by omega)).2 (h i (by omega))⟩
theorem send_bad {l : List Prt} {x : Prt} (h : ¬ (smayB l = true ∧ folB l x = true)) : sendR l x = ([], 1) := by
 unfold sendR
 rw [if_neg (fun k => h ⟨?_, ?_⟩)]
 ·rw [smay_iff]; exact ⟨k.2, (chainB_iff l).1 (prts_app.1 k.1).1⟩
 ·exact (prts_app.1 k.1).2
theorem send_full {l : List Prt} {x : Prt} (h : smayB l = true ∧ folB l x = true) (k : l.length = 500) : sendR l x = ([], 4) := by
 unfold sendR
 have := (smay_iff l).1 h.1
 rw [if_pos ⟨prts_app.2 ⟨(chainB_iff l).2 this.2, h.2⟩, this.1⟩, if_pos k]
theorem send_ok {l : List Prt} {x : Prt} (h : smayB l = true ∧ folB l x = true) (k : l.length ≠ 500) : sendR l x = (l ++ [x], 0) := by
 unfold sendR
 have := (smay_iff l).1 h.1
 rw [if_pos ⟨prts_app.2 ⟨(chainB_iff l).2 this.2, h.2⟩, this.1⟩, if_neg k]
theorem stsend_any (A : Option Addr) (n c : Nat) (l : List Prt) (x : Prt) (w : World) (hs : Se w A n c l) (hx : PrtW x) (hn : n ≤ 1000) :
  Calls Tryz.prog 63 #[.slice A n c, .agg #[x.seq, x.len, x.dsn, x.at_, x.tries, x.came, x.lost, x.total, x.last]] w fun e w' => TellS w w' e (sendR l x) := by
 unfold TellS
 obtain ⟨B, hB⟩ : ∃ B, w.heap.size = B := ⟨_, rfl⟩
 rw [hB]
 have hl := hs.rd.len
 have e0 : Bx _ _ _ [x.seq, x.len, x.dsn, x.at_, x.tries, x.came, x.lost, x.total, x.last] := Bx.new w 57 [x.seq, x.len, x.dsn, x.at_, x.tries, x.came, x.lost, x.total, x.last]
 rw [hB] at e0
 have b0 : Below B w (w.alloc (.cells #[x.seq, x.len, x.dsn, x.at_, x.tries, x.came, x.lost, x.total, x.last] 57)) := by rw [← hB]; exact (Zb).alloc Zr _
 have hs0 := hs.alloc (.cells #[x.seq, x.len, x.dsn, x.at_, x.tries, x.came, x.lost, x.total, x.last] 57)
 obtain ⟨y, hy⟩ : ∃ y, sendR l x = y := ⟨_, rfl⟩
 rw [hy]
 have HY := Zh hy
 have HL := Zh hl; have HXW := Zh hx
 clear hy hs hl hx
 go_enter Tryz.func63, Tryz.ntmps63
 go_upto_region 1 with fail
 change Code.wp _ _ _ _ (w.alloc (.cells #[x.seq, x.len, x.dsn, x.at_, x.tries, x.came, x.lost, x.total, x.last] 57))
 generalize w.alloc (.cells #[x.seq, x.len, x.dsn, x.at_, x.tries, x.came, x.lost, x.total, x.last] 57) = w1 at e0 b0 hs0 ⊢
 have hm := stmay_any A n c l w1 hs0
 cases hk : smayB l with
 | false =>
  have hy := HY.out
  rw [send_bad (fun h => by rw [hk] at h; exact absurd h.1 (by simp))] at hy
  subst hy
  rw [hk] at hm
  clear HY hk
  go_wp2_with (go_at_call 97; refine hm.mono ?_; rintro e wa ⟨rfl, hba⟩)
  go_ret2
  exact ⟨none, 0, 0, rfl, Sne.none _ _, b0.trans (hba.mono (Zl e0.lt))⟩
 | true =>
 rw [hk] at hm
 have heo : 0 < n → EndOk (ge l (n - 1)) := fun h0 => endOk (((smay_iff l).1 hk).2 (n - 1) (by rw [HL.out]; omega)).1
 have hfol := fun W hW => stfollows_any A n c l x W hW heo
 have hn5 : n ≤ 500 := by have := ((smay_iff l).1 hk).1; rw [HL.out] at this; exact this
 cases hf : folB l x with
 | false =>
  have hy := HY.out
  rw [send_bad (fun h => by rw [hf] at h; exact absurd h.2 (by simp))] at hy
  subst hy
  rw [hf] at hfol
  have HFOL := Zh hfol
  clear HY hk hf hfol heo
  go_wp2_with (first | (go_at_call 97; refine hm.mono ?_; rintro e wa ⟨rfl, hba⟩; have e2 := e0.kept hba; have hs2 := hs0.keep hba; have ba := b0.trans (hba.mono (Zl e0.lt)); have c0 := e2.cell 0 rfl; have c1 := e2.cell 1 rfl; have c2 := e2.cell 2 rfl; have c3 := e2.cell 3 rfl; have c4 := e2.cell 4 rfl; have c5 := e2.cell 5 rfl; have c6 := e2.cell 6 rfl; have c7 := e2.cell 7 rfl; have c8 := e2.cell 8 rfl) | (go_at_call 115; refine (HFOL.out _ hs2).mono ?_; rintro e wb ⟨rfl, hbb⟩))
  go_ret2
  exact ⟨none, 0, 0, rfl, Sne.none _ _, ba.trans (hbb.mono (Zl e2.lt))⟩
 | true =>
 have hok : smayB l = true ∧ folB l x = true := ⟨hk, hf⟩
 have HOK := Zh hok
 rw [hf] at hfol
 have HFOL := Zh hfol
 clear hk hf hfol heo hok
 by_cases h6 : n = 500
 ·have hy := HY.out
  rw [send_full HOK.out (by rw [HL.out]; exact h6)] at hy
  subst hy
  subst h6
  clear HY
  go_wp2_with (first | (go_at_call 97; refine hm.mono ?_; rintro e wa ⟨rfl, hba⟩; have e2 := e0.kept hba; have hs2 := hs0.keep hba; have ba := b0.trans (hba.mono (Zl e0.lt)); have c0 := e2.cell 0 rfl; have c1 := e2.cell 1 rfl; have c2 := e2.cell 2 rfl; have c3 := e2.cell 3 rfl; have c4 := e2.cell 4 rfl; have c5 := e2.cell 5 rfl; have c6 := e2.cell 6 rfl; have c7 := e2.cell 7 rfl; have c8 := e2.cell 8 rfl) | (go_at_call 115; refine (HFOL.out _ hs2).mono ?_; rintro e wb ⟨rfl, hbb⟩))
  go_ret2
  exact ⟨none, 0, 0, rfl, Sne.none _ _, ba.trans (hbb.mono (Zl e2.lt))⟩
 have hy := HY.out
 rw [send_ok HOK.out (by rw [HL.out]; exact h6)] at hy
 subst hy
 have d6 : ((n : Int) == 500) = false := by simp; omega
 have d7 : (n == 500) = false := by simp; omega
 clear HY h6
 go_upto_region 5 with (first | (go_at_call 97; refine hm.mono ?_; rintro e wa ⟨rfl, hba⟩; have e2 := e0.kept hba; have hs2 := hs0.keep hba; have ba := b0.trans (hba.mono (Zl e0.lt)); have c0 := e2.cell 0 rfl; have c1 := e2.cell 1 rfl; have c2 := e2.cell 2 rfl; have c3 := e2.cell 3 rfl; have c4 := e2.cell 4 rfl; have c5 := e2.cell 5 rfl; have c6 := e2.cell 6 rfl; have c7 := e2.cell 7 rfl; have c8 := e2.cell 8 rfl) | (go_at_call 115; refine (HFOL.out _ hs2).mono ?_; rintro e wb ⟨rfl, hbb⟩))
 clear c0 c1 c2 c3 c4 c5 c6 c7 c8
 have e3 := e2.kept hbb; have hs3 := hs2.keep hbb; have b3 := ba.trans (hbb.mono (Zl e2.lt))
 clear e0 e2 hs0 hs2 b0 ba hba hbb hm
 obtain ⟨w2, hw2⟩ : ∃ w2, wb.drew = w2 := ⟨_, rfl⟩
 have e2 : Bx w2 B 57 (El.cells x) := by rw [← hw2]; exact e3.drew
 have b2 : Below B w w2 := by rw [← hw2]; exact b3.drew
 have hs2 : Se w2 A n c l := by rw [← hw2]; exact hs3.drew
 have hB2 : B < w2.heap.size := e2.lt
 clear e3 b3 hs3
 refine wp_region_tail 4 7 (fun (W : World) => Bx W B 57 (El.cells x) ∧ Below w2.heap.size w2 W) (by kernel_rfl) (by rfl) (by decide) ?_
 rw [hw2]
 have HS : ((fun (W : World) => Bx W B 57 (El.cells x) ∧ Below w2.heap.size w2 W)) w2 := ⟨e2, Below.refl _ _⟩
 clear hw2
 refine wpAnyT_take (i := 0) (v := ?vv1) rfl (by kernel_rfl) (fun _ _ _ h => h) (Or.inl ⟨by rfl, fun w hSw => ?yy1⟩) HS ?rr1
 case yy1 =>
  (try dsimp only at hSw); go_simp
  try with_reducible rfl
 try simp only [Act.put, List.setIfInBounds_toArray, List.set_cons_zero, List.set_cons_succ]
 refine wpAnyT_take (i := 2) (v := .agg #[x.seq, x.len, x.dsn, x.at_, x.tries, x.came, x.lost, x.total, x.last]) rfl (by kernel_rfl) (fun _ _ _ h => h) (st_yields (by rfl) (.tmp 3) rfl rfl (El.cells x) rfl 57 (fun W hW => hW.1)) HS ?_
 try simp only [Act.put, List.setIfInBounds_toArray, List.set_cons_zero, List.set_cons_succ]
 refine wpAnyT_two (k1 := 1) (k2 := 3) rfl rfl (by kernel_rfl) (by decide) (by decide) (fun K hK => ?_) (fun K hK => ?_)
 ·go_simp
  refine (stclone_any A n c l w2 hs2 (by omega)).mono ?_
  rintro e w3 ⟨R, d, rfl, hg1, hb3⟩
  have HG1 := Zh hg1; clear hg1
  have HS : ((fun (W : World) => Bx W B 57 (El.cells x) ∧ Below w2.heap.size w2 W)) w3 := ⟨e2.kept hb3, hb3⟩
  refine hK _ _ HS ?_
  clear hK K
  try simp only [Act.put, List.setIfInBounds_toArray, List.set_cons_zero, List.set_cons_succ]
  refine wpAnyT_one (k := 3) rfl (by kernel_rfl) (by decide) (fun K hK => ?_)
  go_simp
  have hb4 : Below w2.heap.size w2 (w3.alloc (.cells (El.cells x).toArray 57)) := hb3.alloc hb3.size _
  have HS : ((fun (W : World) => Bx W B 57 (El.cells x) ∧ Below w2.heap.size w2 W)) (w3.alloc (.cells (El.cells x).toArray 57)) := ⟨e2.kept hb4, hb4⟩
  have hlit := se_one w3 (x := x) HXW.out 57
  have HG2 := Zh (HG1.out.alloc (.cells (El.cells x).toArray 57))
  refine hK _ _ HS ?_
  clear hK K HG1 HS
  try simp only [Act.put, List.setIfInBounds_toArray, List.set_cons_zero, List.set_cons_succ]
  generalize w3.alloc (.cells (El.cells x).toArray 57) = w4 at hb4 hlit HG2 ⊢
  generalize w3.heap.size = P at hlit ⊢
  have b4 : Below B w w4 := b2.trans (hb4.mono (Zl hB2))
  refine ⟨by kernel_rfl, ?_⟩
  simp only [List.drop_succ_cons, List.drop_zero]
  have hB4 : B ≤ w4.heap.size := Zn (Zl hB2) hb4.size
  have HG3 := Zh (goe_mono HG2.out (Zl hB2))
  clear HG2
  go_wp2_with (at_builtin; refine wpList_appe w4 rfl (.tmp 19) (.tmp 21) 22 rfl B 57 Tryz.underlying22 (.agg #[.int .i64 0, .int .i64 0, .int .i64 0, .int .i64 0, .int .i64 0, .bool false, .bool false, .int .i64 0, .int .i64 0]) 64 info_prt (by decide) _ n l rfl HG3.out rfl (fun h => by cases h) hlit.rd (by unfold maxLen; omega) (by omega) hB4 ?_; intro v3 w5 hg3 hgr3 _; have b5 : Below B w w5 := b4.grown hgr3 hB4 (fun k hk => (HG3.out.row.lt k hk).1))
  obtain ⟨G, d', rfl, hsn⟩ := hg3.sne
  go_ret2
  exact ⟨G, _, d', rfl, hsn, b5⟩
 ·go_simp
  have hb3 : Below w2.heap.size w2 (w2.alloc (.cells (El.cells x).toArray 57)) := (Zb).alloc Zr _
  have HS : ((fun (W : World) => Bx W B 57 (El.cells x) ∧ Below w2.heap.size w2 W)) (w2.alloc (.cells (El.cells x).toArray 57)) := ⟨e2.kept hb3, hb3⟩
  have hlit3 := se_one w2 (x := x) HXW.out 57
  have hs3 := hs2.keep hb3
  refine hK _ _ HS ?_
  clear hK K HS
  try simp only [Act.put, List.setIfInBounds_toArray, List.set_cons_zero, List.set_cons_succ]
  generalize w2.alloc (.cells (El.cells x).toArray 57) = w3 at hb3 hlit3 hs3 ⊢
  generalize hP2 : w2.heap.size = P at hlit3 ⊢
  refine wpAnyT_one (k := 1) rfl (by kernel_rfl) (by decide) (fun K hK => ?_)
  go_simp
  refine (stclone_any A n c l w3 hs3 (by omega)).mono ?_
  rintro e w4 ⟨R, d, rfl, hg1, hb34⟩
  have hlit := hlit3.keep hb34
  have hb4 : Below w2.heap.size w2 w4 := hb3.trans (hb34.mono hb3.size)
  have HS : ((fun (W : World) => Bx W B 57 (El.cells x) ∧ Below P w2 W)) w4 := ⟨e2.kept hb4, hP2 ▸ hb4⟩
  refine hK _ _ HS ?_
  clear hK K HS
  try simp only [Act.put, List.setIfInBounds_toArray, List.set_cons_zero, List.set_cons_succ]
  have HG2 := Zh (goe_mono hg1 (Zn Zr hb3.size))
  clear hg1
  have b4 : Below B w w4 := b2.trans (hb4.mono (Zl hB2))
  refine ⟨by kernel_rfl, ?_⟩
  simp only [List.drop_succ_cons, List.drop_zero]
  have hB4 : B ≤ w4.heap.size := Zn (Zl hB2) hb4.size
  have HG3 := Zh (goe_mono HG2.out (Zl hB2))
  clear HG2
  go_wp2_with (at_builtin; refine wpList_appe w4 rfl (.tmp 19) (.tmp 21) 22 rfl B 57 Tryz.underlying22 (.agg #[.int .i64 0, .int .i64 0, .int .i64 0, .int .i64 0, .int .i64 0, .bool false, .bool false, .int .i64 0, .int .i64 0]) 64 info_prt (by decide) _ n l rfl HG3.out rfl (fun h => by cases h) hlit.rd (by unfold maxLen; omega) (by omega) hB4 ?_; intro v3 w5 hg3 hgr3 _; have b5 : Below B w w5 := b4.grown hgr3 hB4 (fun k hk => (HG3.out.row.lt k hk).1))
  obtain ⟨G, d', rfl, hsn⟩ := hg3.sne
  go_ret2
  exact ⟨G, _, d', rfl, hsn, b5⟩
theorem info_pt : (Tryz.prog.info? 134).map (fun i => (i.zero, i.size, i.bytes)) = some (some (.agg #[.int .i64 0, .int .i64 0]), 2, 16) := by kernel_rfl
def TellM (w w' : World) (e : Ending) (x : Lv × Bool × Int) : Prop := ∃ R m d, e = .returned (.tuple #[.agg #[x.1.span, .slice R m d, x.1.high], x.2.1, x.2.2]) ∧ Sn w' w.heap.size R m d x.1.l ∧ Below w.heap.size w w'
theorem le_end {W : World} {B : Nat} {t : TypeId} {cs : List Value} {fn : Func} {tmps : Array Value} {R : Ending → World → Prop} {v u : Value} {ds : List Deferred} {p q r : Tmp} (hr : fn.results = #[.cell p 27, .tmp q, .tmp r]) (h2 : tmps.getD p undef = .pointer (some ⟨B, 0, none⟩)) (h3 : tmps.getD q undef = v) (h4 : tmps.getD r undef = u)
  (e : Bx W B t cs) (hl : cs.length = 3) (hd : ds = []) (h : R (.returned (.tuple #[.agg cs.toArray, v, u])) W) : bodyPost Tryz.prog fn R .ret { tmps := tmps, defers := ds } W := by
 have l2 := le_var e hl
 have h2a : tmps[p]?.getD undef = .pointer (some ⟨B, 0, none⟩) := by simpa using h2
 have h2b : tmps[q]?.getD undef = v := by simpa using h3
 have h2c : tmps[r]?.getD undef = u := by simpa using h4
 refine bodyPost_ret (v := .tuple #[.agg cs.toArray, v, u]) ?_ hd h
 simp [results, hr, h2a, h2b, h2c, asAddr, l2]
theorem of_bd {v : Lv} (h : Lok v) (a : Int) : 0 ≤ (ofR v a).1 ∧ (ofR v a).1 ≤ 1152921504606846976 := by
 unfold ofR
 split
 ·cases hf : v.l.find? (cnt v.span a) with
  | none => exact ⟨Int.le_refl _, by show (0 : Int) ≤ _; decide⟩
  | some p =>
   have := (((pts_iff v.l).1 h.pts).1 p (List.mem_of_find?_eq_some hf)).2
   exact this
 ·exact ⟨Int.le_refl _, by show (0 : Int) ≤ _; decide⟩
theorem left_snoc {l : List Sp} {f : Sp → Bool} {k : Nat} (h : k < l.length) : (l.take (k + 1)).filter f = (l.take k).filter f ++ (if f (sp l k) = true then [sp l k] else []) := by
 rw [take_sp h, List.filter_append]
 cases hf : f (sp l k) <;> simp [List.filter_cons, hf]
theorem flow_anew (s t : Fs) (f g : Fv) : setAll (fcs s f) 0 (fcs t g) = fcs t g := by kernel_rfl
theorem part_anew (x y : Prt) : setAll (El.cells x) 0 (El.cells y) = El.cells y := by kernel_rfl
theorem fcs_one (s : Fs) (f : Fv) : (fcs s f).all (·.oneCell') = true := by kernel_rfl
theorem Bx.flow {W : World} {B : Nat} {t : TypeId} {s : Fs} {f : Fv} (h : Bx W B t (fcs s f)) (s' : Fs) (f' : Fv) : Bx (W.setCells B 0 (fcs s' f')) B t (fcs s' f') := by
 have := Bx.cells (fcs s' f') (o := 0) h
 rwa [flow_anew] at this
theorem Bx.part {W : World} {B : Nat} {t : TypeId} {x : Prt} (h : Bx W B t (El.cells x)) (y : Prt) : Bx (W.setCells B 0 (El.cells y)) B t (El.cells y) := by
 have := Bx.cells (El.cells y) (o := 0) h
 rwa [part_anew] at this
theorem POk.w {x : Prt} (h : POk x) : PrtW x := by
 have h1 := (t60_iff _).1 h.seq; have h2 := (t60_iff _).1 h.dsn; have h3 := (t60_iff _).1 h.at_; have h4 := (t60_iff _).1 h.total; have h5 := (t60_iff _).1 h.last
 have h6 := h.l1; have h7 := h.l2; have h8 := h.t1; have h9 := h.t2
 exact ⟨by unfold i64; omega, by unfold i64; omega, by unfold i64; omega, by unfold i64; omega, by unfold i64; omega, by unfold i64; omega, by unfold i64; omega⟩
section
variable {n₀ S : Nat} {l : List Nat} {W : World} {p : Nat → Prop} {s : Fs} {f g : Fv} {c : Cf} {now e : Int}
theorem FlM.same (h : FlM W p s f) (h1 : g.l = f.l) (h2 : g.b.l = f.b.l) (h3 : g.d.l = f.d.l) (h4 : g.dl = f.dl) (hw : FvW g) : FlM W p s g :=
 ⟨h1 ▸ h.l, h2 ▸ h.b, h3 ▸ h.d, h4 ▸ h.g, hw, h.p1, h.p2, h.p3, h.p4⟩
theorem FlM.newL (h : FlM W p s f) {A : Option Addr} {n k : Nat} (hl : Se W A n k g.l) (hp : In1 p A n) (h2 : g.b.l = f.b.l) (h3 : g.d.l = f.d.l) (h4 : g.dl = f.dl) (hw : FvW g) : FlM W p ⟨A, n, k, s.a2, s.n2, s.c2, s.a3, s.n3, s.c3, s.a4, s.n4, s.c4⟩ g :=
 ⟨hl, h2 ▸ h.b, h3 ▸ h.d, h4 ▸ h.g, hw, hp, h.p2, h.p3, h.p4⟩
theorem FlM.newB (h : FlM W p s f) {A : Option Addr} {n k : Nat} (h1 : g.l = f.l) (hl : Ss W A n k g.b.l) (hp : In1 p A n) (h3 : g.d.l = f.d.l) (h4 : g.dl = f.dl) (hw : FvW g) : FlM W p ⟨s.a1, s.n1, s.c1, A, n, k, s.a3, s.n3, s.c3, s.a4, s.n4, s.c4⟩ g :=
 ⟨h1 ▸ h.l, hl, h3 ▸ h.d, h4 ▸ h.g, hw, h.p1, hp, h.p3, h.p4⟩
theorem FlM.newD (h : FlM W p s f) {A : Option Addr} {n k : Nat} (h1 : g.l = f.l) (h2 : g.b.l = f.b.l) (hl : Si W A n k g.d.l) (hp : In1 p A n) (h4 : g.dl = f.dl) (hw : FvW g) : FlM W p ⟨s.a1, s.n1, s.c1, s.a2, s.n2, s.c2, A, n, k, s.a4, s.n4, s.c4⟩ g :=
 ⟨h1 ▸ h.l, h2 ▸ h.b, hl, h4 ▸ h.g, hw, h.p1, h.p2, hp, h.p4⟩
theorem FlM.newG (h : FlM W p s f) {A : Option Addr} {n k : Nat} (h1 : g.l = f.l) (h2 : g.b.l = f.b.l) (h3 : g.d.l = f.d.l) (hl : Si W A n k g.dl) (hp : In1 p A n) (hw : FvW g) : FlM W p ⟨s.a1, s.n1, s.c1, s.a2, s.n2, s.c2, s.a3, s.n3, s.c3, A, n, k⟩ g :=
 ⟨h1 ▸ h.l, h2 ▸ h.b, h3 ▸ h.d, hl, hw, h.p1, h.p2, h.p3, hp⟩
theorem St.fresh (h : St n₀ l W S s f c now e) {A : Option Addr} {n : Nat} (ha : ∀ b o q, A = some ⟨b, o, q⟩ → W.heap.size ≤ b) : In1 (Nw n₀ (S :: l)) A n := fun _ b o q e => by
 have hb := ha b o q e
 refine ⟨Zn h.size hb, fun hx => ?_⟩
 rcases List.mem_cons.1 hx with hx | hx
 ·have := h.bx.lt; omega
 ·have := h.old b hx; omega
theorem St.other (h : St n₀ l W S s f c now e) {W' : World} {X : Nat} (hg : W.grownBy W' (some X)) (hX : X ∈ l) : St n₀ l W' S s f c now e :=
 ⟨h.bx.grown hg (fun e => h.off (by rw [Zo e]; exact hX)), h.fm.grown hg (fun b hb e => hb.2 (by rw [← Zo e]; exact List.mem_cons_of_mem _ hX)), h.s0, h.off, fun b k => Nat.lt_of_lt_of_le (h.old b k) hg.size⟩
theorem St.far (h : St n₀ l W S s f c now e) {W' : World} {X : Nat} (hg : W.grownBy W' (some X)) (hX : X < n₀) : St n₀ l W' S s f c now e :=
 ⟨h.bx.grown hg (fun e => by have := Zo e; have := h.s0; omega), h.fm.grown hg (fun b hb e => by have := Zo e; have := hb.1; omega), h.s0, h.off, fun b k => Nat.lt_of_lt_of_le (h.old b k) hg.size⟩
end
def ApL (s : Fs) : Prop := ∀ b o q, s.a1 = some ⟨b, o, q⟩ → 0 < s.n1 → In1 (fun x => x ≠ b) s.a2 s.n2 ∧ In1 (fun x => x ≠ b) s.a3 s.n3 ∧ In1 (fun x => x ≠ b) s.a4 s.n4
theorem se_put {W : World} {bb oo n c k j : Nat} {l : List Prt} {u : Value} {y : Prt} (h : Se W (some ⟨bb, oo, none⟩) n c l) (hk : k < n) (hj : j < 9) (hy : El.cells y = (El.cells (ge l k)).set j u) (hw : PrtW y) :
  Se (W.setCell ⟨bb, oo + k * 9 + j, none⟩ u) (some ⟨bb, oo, none⟩) n c (l.set k y) := by
 have hkl : k < l.length := by rw [h.rd.len]; exact hk
 refine ⟨h.le, h.max, h.nil, by rw [List.length_set]; exact h.rd.len, h.rd.ok.set k hw, fun h0 => ?_⟩
 obtain ⟨b, o, e, hlt, hc⟩ := h.rd.at_ h0
 cases e
 refine ⟨bb, oo, rfl, by simpa using hlt, fun i hi i' v hv => ?_⟩
 have hi' : i' < 9 := by have := (List.getElem?_eq_some_iff.1 hv).1; rwa [El.len] at this
 show (W.setCell ⟨bb, oo + k * 9 + j, none⟩ u).cell? ⟨bb, oo + i * 9 + i', none⟩ = some v
 rw [ge_set hkl] at hv
 by_cases e1 : k = i
 ·subst e1
  rw [if_pos rfl, hy] at hv
  by_cases e2 : j = i'
  ·subst e2
   have h1 : ∃ x, (El.cells (ge l k))[j]? = some x := ⟨_, List.getElem?_eq_getElem (by rw [El.len]; exact hj)⟩
   obtain ⟨x, hx⟩ := h1
   have hcell := hc k hi j x hx
   rw [World.cell?_setCell_same' _ _ _ (by rw [show (⟨bb, oo + k * 9 + j, none⟩ : Addr) = ⟨bb, oo + k * El.k Prt + j, none⟩ from rfl, hcell]; rfl)]
   rw [List.getElem?_set_self (by rw [El.len]; exact hj)] at hv
   exact hv
  ·rw [List.getElem?_set_ne e2] at hv
   rw [World.cell?_setCell_other _ _ _ _ (fun e => by injection e with _ e3; omega)]
   exact hc k hi i' v hv
 ·rw [if_neg e1] at hv
  rw [World.cell?_setCell_other _ _ _ _ (fun e => by injection e with _ e3; omega)]
  exact hc i hi i' v hv
theorem St.put1 {n₀ S : Nat} {l : List Nat} {W : World} {s : Fs} {f : Fv} {c : Cf} {now e : Int} (h : St n₀ l W S s f c now e) (hap : ApL s) {bb oo k j : Nat} {u : Value} {y : Prt} (ha : s.a1 = some ⟨bb, oo, none⟩) (hk : k < s.n1) (hj : j < 9) (hy : El.cells y = (El.cells (ge f.l k)).set j u) (hw : PrtW y) :
  St n₀ l (W.setCell ⟨bb, oo + k * 9 + j, none⟩ u) S s { f with l := f.l.set k y } c now e ∧ Fr n₀ l W (W.setCell ⟨bb, oo + k * 9 + j, none⟩ u) ∧ bb ∉ S :: l := by
 have hg : W.grownBy (W.setCell ⟨bb, oo + k * 9 + j, none⟩ u) (some bb) := fl_gset W ⟨bb, oo + k * 9 + j, none⟩ u
 have hp := h.fm.p1 (by omega) bb oo none ha
 obtain ⟨q2, q3, q4⟩ := hap bb oo none ha (by omega)
 have hl := h.fm.l
 rw [ha] at hl
 have hl2 := se_put hl hk hj hy hw
 rw [← ha] at hl2
 have hw0 := h.fm.wide
 refine ⟨⟨h.bx.grown hg (fun e => hp.2 (by rw [← Zo e]; exact List.mem_cons_self ..)), ⟨hl2, ss_grown h.fm.b q2 hg (fun b hb e => hb (Zo e).symm), si_grown h.fm.d q3 hg (fun b hb e => hb (Zo e).symm), si_grown h.fm.g q4 hg (fun b hb e => hb (Zo e).symm), ?_, h.fm.p1, h.fm.p2, h.fm.p3, h.fm.p4⟩, h.s0, h.off, fun b k => Nat.lt_of_lt_of_le (h.old b k) hg.size⟩, ?_, hp.2⟩
 ·exact ⟨hw0.next, hw0.r1, hw0.r2, hw0.r3, hw0.r4, hw0.b1, hw0.b2, hw0.m1, hw0.m2, hw0.m3, hw0.m4, hw0.m5, hw0.d1, hw0.d2, hw0.k1, hw0.k2, hw0.k3, hw0.k4, hw0.k5, hw0.cw, hw0.th, hw0.t1, hw0.t2, hw0.rd⟩
 ·exact Fr.grown hg h.size hp.1 (fun hx => hp.2 (List.mem_cons_of_mem _ hx)) h.old
def Thaw (W : World) (s : Fs) : Prop := In1 (fun b => ∀ i, W.frozen? ⟨b, i, none⟩ = false) s.a1 s.n1
theorem froz_block {W W' : World} {b : Nat} (h : W'.heap[b]? = W.heap[b]?) (i : Nat) : W'.frozen? ⟨b, i, none⟩ = W.frozen? ⟨b, i, none⟩ := by
 unfold World.frozen?
 simp only [h]
theorem Thaw.keep {n₀ S : Nat} {l : List Nat} {W W' : World} {s : Fs} {f : Fv} {c : Cf} {now e : Int} (h : Thaw W s) (hs : St n₀ l W S s f c now e) (hb : Below W.heap.size W W') : Thaw W' s := fun h0 b o q e i => by
 obtain ⟨b', o', e', hlt, _⟩ := hs.fm.l.rd.at_ h0
 rw [e] at e'; cases e'
 rw [froz_block (hb.block b hlt)]
 exact h h0 b o none e i
theorem Thaw.setCell {W : World} {s : Fs} (h : Thaw W s) (a : Addr) (u : Value) : Thaw (W.setCell a u) s := fun h0 b o q e i => by
 rw [World.frozen?_setCell]
 exact h h0 b o q e i
end Go.Proofs.YtbijhkhkigdddaaGreat
namespace Go.Proofs.YtbijhkhkigdddaaGreat
open Go.RowKit Go.Shelf
attribute [local go_sem] Oper.semAt_some
structure Kept (n₀ L A : Nat) (W W' : World) : Prop where
 below : Below n₀ W W'
 l : W'.heap[L]? = W.heap[L]?
 a : W'.heap[A]? = W.heap[A]?
 size : W.heap.size ≤ W'.heap.size
section
variable {n₀ L A : Nat} {X Y Z : World}
theorem Kept.refl (n₀ L A : Nat) (X : World) : Kept n₀ L A X X := ⟨Below.refl _ _, rfl, rfl, Nat.le_refl _⟩
theorem Kept.trans (h : Kept n₀ L A X Y) (k : Kept n₀ L A Y Z) : Kept n₀ L A X Z := ⟨h.below.trans k.below, k.l.trans h.l, k.a.trans h.a, Zn h.size k.size⟩
theorem Kept.alloc (hn : n₀ ≤ X.heap.size) (hL : L < X.heap.size) (hA : A < X.heap.size) (o : Obj) : Kept n₀ L A X (X.alloc o) :=
 ⟨(Zb).alloc hn _, Below.heap_alloc _ _ _ hL, Below.heap_alloc _ _ _ hA, by simp⟩
theorem Kept.bxl {t : TypeId} {cs : List Value} (h : Kept n₀ L A X Y) (k : Bx X L t cs) : Bx Y L t cs := h.l.trans k
theorem Kept.bxa {t : TypeId} {cs : List Value} (h : Kept n₀ L A X Y) (k : Bx X A t cs) : Bx Y A t cs := h.a.trans k
theorem keptK_b {w : World} (hn : n₀ ≤ w.heap.size) (hL : L < w.heap.size) (hA : A < w.heap.size) (W : World) (l : Nat) (o o' : Obj) (hl : w.heap.size ≤ l) (h : W.heap[l]? = some o) (h1 : o.isCells = false) (h2 : o.isWalk = false) : Kept n₀ L A W (W.putObj l o') :=
 ⟨belowK_b hn W l o o' hl h h1 h2, World.putObj_heap_other (by omega), World.putObj_heap_other (by omega), (grownBy_putObj' W l o').size⟩
end
theorem count1_in (F : Fence) (n : Nat) (h7 : F.fn 224) (hro : F.round = none) (hn : 1 ≤ n) (r L T b o len cap : Nat) (l : List Sp) (span high at_ : Int) (hl : l.length = len) (n₀ : Nat) (hb : b < n₀) (J Jx : List Sp → World → Prop) (hreach : len ≤ 1000000000)
  (ha0 : 0 ≤ at_) (ha1 : at_ ≤ 1152921504606846976) (hpts : ∀ i, i < len → 0 ≤ (sp l i).1 ∧ (sp l i).1 ≤ 1152921504606846976)
  (W : World) (hn0 : n₀ ≤ W.heap.size) (hJ : AbidesFrom W.heap.size J)
  (hY : ∀ pre x W, J pre W → pre.length < len → YieldAt F (n - 1) Tryz.prog r #[.agg #[x.1, x.2]] W fun e W' =>
   (e = .returned (.bool true) ∧ J (pre ++ [x]) W' ∧ Kept n₀ L T W W') ∨ (e = .returned (.bool false) ∧ Jx (pre ++ [x]) W'))
  (hL : Bx W L 27 [span, .slice (some ⟨b, o, none⟩) len cap, high]) (hT : Bx W T 3 [at_])
  (hc : ∀ i, i < len → W.cell? ⟨b, o + i * 2, none⟩ = some (.int .i64 (sp l i).1) ∧ W.cell? ⟨b, o + i * 2 + 1, none⟩ = some (.int .i64 (sp l i).2)) (h0 : J [] W) :
  CallsIn F n Tryz.prog 224 #[.func (.yield r) #[] #[], .pointer (some ⟨L, 0, none⟩), .pointer (some ⟨T, 0, none⟩)] W fun e W' => (∃ v, e = .returned v) ∧
   ((∃ ys, ys = l.filter (cnt span at_) ∧ J ys W') ∨ (∃ pre, (∃ rest, l.filter (cnt span at_) = pre ++ rest) ∧ Jx pre W')) := by
 refine callsIn_of_wp Tryz.func224 rfl h7 ?_ hro
 simp only [Tryz.ntmps224, List.size_toArray, List.length_cons, List.length_nil, Nat.reduceAdd, Nat.reduceSub, Array.replicate_succ, Array.replicate_zero, List.push_toArray, List.append_toArray, List.nil_append, List.cons_append]
 have x1 := hL.cell 1 rfl
 gi_wp2
 gi_loopw [9] (fun i wr => ∃ k : Nat, k ≤ len ∧ i = .int .i64 k ∧ J ((l.take k).filter (cnt span at_)) wr ∧ Kept n₀ L T W wr)
  (fun i _ => len - (intOf i).toNat)
 case atStart => exact ⟨0, Nat.zero_le _, rfl, by simpa using h0, Kept.refl _ _ _ _⟩
 case round =>
  obtain ⟨k, hk, rfl, hJs, hnx⟩ := hrel
  by_cases hlt : k < len
  ·have c1 : wr.cell? ⟨b, o + k * 2, none⟩ = some (.int .i64 (sp l k).1) := (hnx.below.cell (p := ⟨b, o + k * 2, none⟩) hb).trans (hc k hlt).1
   have c2 : wr.cell? ⟨b, o + k * 2 + 1, none⟩ = some (.int .i64 (sp l k).2) := (hnx.below.cell (p := ⟨b, o + k * 2 + 1, none⟩) hb).trans (hc k hlt).2
   have hJa : J ((l.take k).filter (cnt span at_)) (wr.alloc (.cells #[.int .i64 (sp l k).1, .int .i64 (sp l k).2] 134)) := hJ _ wr _ none hJs (World.grownBy_alloc _ _ _) (fun r e => by cases e)
   have hLr := hnx.bxl hL
   have hTr := hnx.bxa hT
   have z0 := (hLr.alloc (.cells #[.int .i64 (sp l k).1, .int .i64 (sp l k).2] 134)).cell 0 rfl
   have z1 := (hTr.alloc (.cells #[.int .i64 (sp l k).1, .int .i64 (sp l k).2] 134)).cell 0 rfl
   have hp := hpts k hlt
   have hsn := left_snoc (l := l) (f := cnt span at_) (k := k) (by omega)
   have HSN := Zh hsn; clear hsn
   by_cases g : at_ - (sp l k).1 ≤ span
   ·have d : decide (at_ - (sp l k).1 ≤ span) = true := Zt g
    obtain ⟨fn, tmps, assign, body, hy, hR⟩ := hY _ (sp l k) _ hJa (by have := List.length_filter_le (cnt span at_) (l.take k); rw [List.length_take] at this; omega)
    have HF := Zh d
    gi_wp2
    refine hR.mono ?_
    rintro e W3 (⟨rfl, hJ3, hk3⟩ | ⟨rfl, hJx3⟩)
    ·gi_wp2
     go_roundw
     case rel => exact ⟨k + 1, by omega, by simp, by rw [HSN.out, if_pos (by unfold cnt; exact HF.out)]; exact hJ3, hnx.trans ((Kept.alloc (by have := hnx.size; omega) hLr.lt hTr.lt (.cells #[.int .i64 (sp l k).1, .int .i64 (sp l k).2] 134)).trans hk3)⟩
     case measure => simp [intOf]; omega
    ·gi_wp2
     refine bodyPost_ret (results_none rfl _ _ _) rfl ?_
     refine ⟨⟨_, rfl⟩, .inr ⟨_, ⟨(l.drop (k + 1)).filter (cnt span at_), ?_⟩, hJx3⟩⟩
     have e1 : (l.take (k + 1)).filter (cnt span at_) = _ := HSN.out
     rw [if_pos (by unfold cnt; exact HF.out)] at e1
     rw [← e1, ← List.filter_append, List.take_append_drop]
   ·have d : decide (at_ - (sp l k).1 ≤ span) = false := Zf g
    have HF := Zh d
    gi_wp2
    refine ⟨(fun f e => by cases e), ?_⟩
    gi_wp2
    go_roundw
    case rel => exact ⟨k + 1, by omega, by simp, by rw [HSN.out, if_neg (by unfold cnt; rw [HF.out]; simp), List.append_nil]; exact hJa, hnx.trans (Kept.alloc (by have := hnx.size; omega) hLr.lt hTr.lt (.cells #[.int .i64 (sp l k).1, .int .i64 (sp l k).2] 134))⟩
    case measure => simp [intOf]; omega
  ·obtain rfl : k = len := by omega
   gi_wp2
   go_end0
   exact ⟨⟨_, rfl⟩, .inl ⟨_, rfl, by rw [← hl, List.take_length] at hJs; exact hJs⟩⟩
theorem count10_in (F : Fence) (n : Nat) (h7 : F.fn 224) (hro : F.round = none) (r L T cap : Nat) (A : Option Addr) (span high : Int) (J : List Sp → World → Prop) (W : World) (hL : Bx W L 27 [span, .slice A 0 cap, high]) (h0 : J [] W) :
  CallsIn F n Tryz.prog 224 #[.func (.yield r) #[] #[], .pointer (some ⟨L, 0, none⟩), .pointer (some ⟨T, 0, none⟩)] W fun e W' => (∃ v, e = .returned v) ∧ J [] W' := by
 refine callsIn_of_wp Tryz.func224 rfl h7 ?_ hro
 simp only [Tryz.ntmps224, List.size_toArray, List.length_cons, List.length_nil, Nat.reduceAdd, Nat.reduceSub, Array.replicate_succ, Array.replicate_zero, List.push_toArray, List.append_toArray, List.nil_append, List.cons_append]
 have x1 := hL.cell 1 rfl
 gi_wp2
 gi_loopw [9] (fun i wr => i = .int .i64 0 ∧ J [] wr) (fun _ _ => 0)
 case atStart => exact ⟨rfl, h0⟩
 case round =>
  obtain ⟨rfl, hJs⟩ := hrel
  gi_wp2
  go_end0
  exact ⟨⟨_, rfl⟩, hJs⟩
theorem count_in (F : Fence) (n : Nat) (h5 : F.fn 207) (hro : F.round = none) (span high at_ : Int) (a : Option Addr) (len cap : Nat) (w : World) :
  CallsIn F n Tryz.prog 207 #[.agg #[span, .slice a len cap, high], at_] w fun e w' => e = .returned (.func (.func 224) #[] #[.pointer (some ⟨w.heap.size, 0, none⟩), .pointer (some ⟨w.heap.size + 1, 0, none⟩)]) ∧ w' = (w.alloc (.cells #[span, .slice a len cap, high] 27)).alloc (.cells #[at_] 3) := by
 refine callsIn_of_wp Tryz.func207 rfl h5 ?_ hro
 simp only [Tryz.ntmps207, List.size_toArray, List.length_cons, List.length_nil, Nat.reduceAdd, Nat.reduceSub, Array.replicate_succ, Array.replicate_zero, List.push_toArray, List.append_toArray, List.nil_append, List.cons_append]
 gi_wp2
 go_ret
 exact ⟨rfl, rfl⟩
theorem count_stops (F : Fence) (n : Nat) (h7 : F.fn 224) (hro : F.round = none) (hn : 1 ≤ n) (L T n₀ : Nat) (A : Option Addr) (len cap : Nat) (l : List Sp) (span high at_ : Int) (hreach : len ≤ 1000000000) (w : World)
  (ha0 : 0 ≤ at_) (ha1 : at_ ≤ 1152921504606846976) (hpts : ∀ i, i < len → 0 ≤ (sp l i).1 ∧ (sp l i).1 ≤ 1152921504606846976) (hn₀ : n₀ ≤ w.heap.size)
  (hL : Bx w L 27 [span, .slice A len cap, high]) (hT : Bx w T 3 [at_]) (hI : Rs w A len l) (hlt : ∀ b o, A = some ⟨b, o, none⟩ → 0 < len → b < n₀) :
  SeqStopsK F n Tryz.prog 224 #[.pointer (some ⟨L, 0, none⟩), .pointer (some ⟨T, 0, none⟩)] (fun x : Sp => #[Value.agg #[x.1, x.2]]) (Kept n₀ L T) (fun ys => ys = l.filter (cnt span at_))
   (fun pre => ∃ rest, l.filter (cnt span at_) = pre ++ rest) len w := fun r J Jx W hW hJ _ hY h0 => by
 have hL' := hL.kept hW
 have hT' := hT.kept hW
 have hI' := hI.keep_of (hW.mono hn₀) hlt
 rcases Nat.eq_zero_or_pos len with hz | hz
 ·subst hz
  have hl0 : l = [] := List.eq_nil_of_length_eq_zero hI.len
  exact (count10_in F n h7 hro r L T cap A span high J W hL' h0).mono fun e W' ⟨he, hj⟩ => ⟨he, .inl ⟨_, by rw [hl0]; rfl, hj⟩⟩
 ·obtain ⟨b, o, rfl, _, hcs⟩ := hI'.at_ hz
  exact count1_in F n h7 hro hn r L T b o len cap l span high at_ hI.len n₀ (hlt b o rfl hz) J Jx hreach ha0 ha1 hpts W (Zn hn₀ hW.size) hJ hY hL' hT' hcs h0
end Go.Proofs.YtbijhkhkigdddaaGreat
