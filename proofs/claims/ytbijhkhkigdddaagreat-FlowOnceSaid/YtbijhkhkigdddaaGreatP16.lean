/- StL8 StL6 StL9. -/
import Derived.Test.YtbijhkhkigdddaaGreatP10
import Derived.Test.YtbijhkhkigdddaaGreatP15
set_option linter.all false
set_option maxRecDepth 100000
set_option maxHeartbeats 32000000
namespace Go.Proofs.YtbijhkhkigdddaaGreat
open Go.RowKit
theorem info_pp : (Tryz.prog.info? 174).map (·.size) = some 2 := by kernel_rfl
theorem pp_struct : ∃ fs, Tryz.prog.underlying 174 = some (.struct fs) := ⟨_, Tryz.underlying174⟩
section
variable {W : World} {B : Nat} {t : TypeId} {cs : List Value}
def pp_put := @g_put
def pp_grown := @g_grown
theorem pp_store {ops : Array Oper} {rest : List Oper} {o : Oper} {a : Act} {Q : Exit → Act → World → Prop} (hgd : o.guard = none) (x y : Operand) (ho : o.op = .store 174 x y) (hx : a.eval x = .pointer (some ⟨B, 0, none⟩))
  (vs : List Value) (hy : a.eval y = .agg vs.toArray) (h : Bx W B t cs) (hl : cs.length = 2) (hv : vs.length = 2) (h1 : vs.all (·.oneCell') = true) (k : wpList Tryz.prog ops Q rest (a.put o.dst undef) (W.setRow B vs.toArray)) : wpList Tryz.prog ops Q (o :: rest) a W :=
 wpList_store_row hgd _ x y ho B vs.toArray hx hy t cs.toArray h (by rw [info_pp]; simp [hv]) (by simp [hl, hv]) (by simpa using h1) k
def pp_var := @g_var 174 2 pp_struct info_pp
variable {fn : Func} {tmps : Array Value} {R : Ending → World → Prop} {v u : Value} {ds : List Deferred} {p q r : Tmp}
def pp_end1 := @g_end1 174 2 pp_struct info_pp
end
theorem notin_own {P : Nat} {v : Value} (h : NotIn P v) : v.ownBlock = none ∨ v.ownBlock ≠ some P := by
 cases hb : v.ownBlock with
 | none => exact .inl rfl
 | some k => exact .inr (fun e => by cases e; exact h _ hb rfl)
theorem filter_snoc (p : Prt → Bool) (l : List Prt) (x : Prt) : (l ++ [x]).filter p = l.filter p ++ (if p x = true then [x] else []) := by
 rw [List.filter_append]; cases h : p x <;> simp [List.filter_cons, h]
theorem stparted_any (f : Nat) (hent : ∀ args w, (callFunc f args).run Tryz.prog w = .ok (.enter f args) w) (caps : Array Value) (p : Prt → Bool) (A : Option Addr) (n c : Nat) (l : List Prt) (w : World) (hs : Se w A n c l) (hn : n ≤ 1000)
  (hcall : Hid (∀ W, Below w.heap.size w W → ∀ i, i < n → Calls Tryz.prog f (#[.agg #[.int .i64 (ge l i).seq, .int .i64 (ge l i).len, .int .i64 (ge l i).dsn, .int .i64 (ge l i).at_, .int .i64 (ge l i).tries, .bool (ge l i).came, .bool (ge l i).lost, .int .i64 (ge l i).total, .int .i64 (ge l i).last]] ++ caps) W fun e W' => e = .returned (.bool (p (ge l i))) ∧ Below W.heap.size W W')) :
  Calls Tryz.prog 169 #[.slice A n c, .func (.func f) #[] caps] w fun e w' => ∃ R m d R' m' d', e = .returned (.agg #[.slice R m d, .slice R' m' d']) ∧ Goe w' w.heap.size 57 (.slice R m d) m (l.filter p) ∧ Goe w' w.heap.size 57 (.slice R' m' d') m' (l.filter fun x => !p x) ∧ Below w.heap.size w w' := by
 have hl := hs.rd.len
 have m1 := hs.le
 have m2 := hs.max
 have m3 : n ≤ 9223372036854775807 := by unfold maxLen at m2; omega
 clear m1 m2
 obtain ⟨D, hD⟩ : ∃ D, w.heap.size = D := ⟨_, rfl⟩
 have y0 : Bx (w.alloc (.cells #[.slice none 0 0, .slice none 0 0] 174)) D 174 [.slice none 0 0, .slice none 0 0] := hD ▸ Bx.new w 174 [.slice none 0 0, .slice none 0 0]
 have hD1 : (w.alloc (.cells #[.slice none 0 0, .slice none 0 0] 174)).heap.size = D + 1 := by simp [hD]
 have z0 : Bx ((w.alloc (.cells #[.slice none 0 0, .slice none 0 0] 174)).alloc (.cells #[.slice none 0 0, .slice none 0 0] 174)) (D + 1) 174 [.slice none 0 0, .slice none 0 0] := hD1 ▸ Bx.new (w.alloc (.cells #[.slice none 0 0, .slice none 0 0] 174)) 174 [.slice none 0 0, .slice none 0 0]
 have y1 := y0.alloc (.cells #[.slice none 0 0, .slice none 0 0] 174)
 have b0 : Below w.heap.size w ((w.alloc (.cells #[.slice none 0 0, .slice none 0 0] 174)).alloc (.cells #[.slice none 0 0, .slice none 0 0] 174)) := ((Zb).alloc Zr _).alloc (by rw [hD1]; omega) _
 have hZ0 : ((w.alloc (.cells #[.slice none 0 0, .slice none 0 0] 174)).alloc (.cells #[.slice none 0 0, .slice none 0 0] 174)).heap.size = D + 2 := by simp [hD]
 have HA := Zh hs; have HL := Zh hl; have HD := Zh hD
 clear hs hl y0
 go_enter Tryz.func169, Tryz.ntmps169
 go_upto_region 2 with fail
 try rw [hD1]
 try rw [hD]
 try rw [hD] at b0
 try rw [hD] at hcall
 generalize (w.alloc (.cells #[.slice none 0 0, .slice none 0 0] 174)).alloc (.cells #[.slice none 0 0, .slice none 0 0] 174) = w1 at z0 y1 b0 hZ0 ⊢
 clear hD hD1
 go_wp2_with fail
 go_loopw [10] (fun i wr => ∃ (k : Nat) (vy vn : Value) (ny nn : Nat), k ≤ n ∧ i = .int .i64 (k : Int) ∧ ny ≤ k ∧ nn ≤ k ∧ Bx wr (D + 1) 174 [vy, vn] ∧ Bx wr D 174 [.slice none 0 0, .slice none 0 0] ∧ Hid (Goe wr (D + 2) 57 vy ny ((l.take k).filter p)) ∧ Hid (Goe wr (D + 2) 57 vn nn ((l.take k).filter fun x => !p x)) ∧ Hid (Apart vy vn) ∧ Below D w wr ∧ D + 2 ≤ wr.heap.size) (fun i _ => n - (intOf i).toNat)
 case atStart => exact ⟨0, _, _, 0, 0, Nat.zero_le _, rfl, Nat.le_refl _, Nat.le_refl _, z0, y1, Zh (Goe.none _ _ _), Zh (Goe.none _ _ _), Zh (.inl rfl), b0, by omega⟩
 case round =>
  obtain ⟨k, vy, vn, ny, nn, hk, rfl, hny, hnn, zC, zD, HY, HN, HAP, hb, hZ⟩ := hrel
  by_cases hlt : k < n
  ·have dlt : decide (k < n) = true := Zt hlt
   have hsr : Se wr A n c l := HA.out.keep (by rw [HD.out]; exact hb)
   obtain ⟨b, o, rfl, hbl, hc⟩ := hsr.rd.at_ (by omega)
   have X := prt_at hc hlt
   have hkl : k < l.length := by rw [HL.out]; exact hlt
   have hpw := hsr.rd.ok.ge (i := k) hkl
   have htk := take_ge hkl
   have hfy := filter_snoc p (l.take k) (ge l k)
   have hfn := filter_snoc (fun x => !p x) (l.take k) (ge l k)
   rw [← htk] at hfy hfn
   have hf := fun W hW => hcall.out W hW k hlt
   obtain ⟨y, hy⟩ : ∃ y, ge l k = y := ⟨_, rfl⟩
   rw [hy] at X hf hpw hfy hfn
   obtain ⟨x0, x1, x2, x3, x4, x5, x6, x7, x8⟩ := X
   obtain ⟨P, hP⟩ : ∃ P, wr.heap.size = P := ⟨_, rfl⟩
   have eP : Bx (wr.alloc (.cells #[y.seq, y.len, y.dsn, y.at_, y.tries, y.came, y.lost, y.total, y.last] 57)) P 57 (El.cells y) := hP ▸ Bx.new wr 57 [y.seq, y.len, y.dsn, y.at_, y.tries, y.came, y.lost, y.total, y.last]
   have hZP : D + 2 ≤ P := hP ▸ hZ
   have bP : Below D w (wr.alloc (.cells #[y.seq, y.len, y.dsn, y.at_, y.tries, y.came, y.lost, y.total, y.last] 57)) := hb.alloc (by omega) _
   have zC1 := zC.alloc (.cells #[y.seq, y.len, y.dsn, y.at_, y.tries, y.came, y.lost, y.total, y.last] 57); have zD1 := zD.alloc (.cells #[y.seq, y.len, y.dsn, y.at_, y.tries, y.came, y.lost, y.total, y.last] 57)
   have HY1 := Zh (HY.out.alloc (.cells #[y.seq, y.len, y.dsn, y.at_, y.tries, y.came, y.lost, y.total, y.last] 57)); have HN1 := Zh (HN.out.alloc (.cells #[y.seq, y.len, y.dsn, y.at_, y.tries, y.came, y.lost, y.total, y.last] 57))
   have HFY := Zh hfy; have HFN := Zh hfn; have HPW := Zh hpw; have HF := Zh hf
   clear hc hy hsr hkl hpw htk hfy hfn hf zC zD HY HN hb
   go_upto_region 5 with fail
   clear x0 x1 x2 x3 x4 x5 x6 x7 x8
   try rw [hP]
   clear hP hbl
   generalize wr.alloc (.cells #[y.seq, y.len, y.dsn, y.at_, y.tries, y.came, y.lost, y.total, y.last] 57) = wA at eP bP zC1 zD1 HY1 HN1 ⊢
   obtain ⟨wB, hwB⟩ : ∃ wB, wA.drew = wB := ⟨_, rfl⟩
   have eB : Bx wB P 57 (El.cells y) := by rw [← hwB]; exact eP.drew
   have bB : Below D w wB := by rw [← hwB]; exact bP.drew
   have zCB := zC1.drew; have zDB := zD1.drew
   rw [hwB] at zCB zDB
   have HYB := Zh (HY1.out.drew); have HNB := Zh (HN1.out.drew)
   rw [hwB] at HYB HNB
   have hPB : P < wB.heap.size := eB.lt
   clear eP bP zC1 zD1 HY1 HN1
   refine wp_region_tail 4 5 (fun (W : World) => Bx W P 57 (El.cells y)) (by kernel_rfl) (by rfl) (by decide) ?_
   rw [hwB]
   have HS : (fun (W : World) => Bx W P 57 (El.cells y)) wB := eB
   clear hwB
   refine tS 0 rfl (st_yields (by rfl) (.tmp 7) rfl rfl (El.cells y) rfl 57 (fun W hW => hW)) HS ?_
   refine tU 1 HS ?_
   refine tS 2 rfl (st_yields (by rfl) (.tmp 7) rfl rfl (El.cells y) rfl 57 (fun W hW => hW)) HS ?_
   refine tO 3 (fun K hK => ?_)
   go_simp
   refine ((HF.out wB bB).mono ?_)
   rintro e wv ⟨rfl, hbv⟩
   have HS : (fun (W : World) => Bx W P 57 (El.cells y)) wv := eB.kept hbv
   refine kP hK HS ?_
   clear hK K HS
   refine ⟨by kernel_rfl, ?_⟩
   simp only [List.drop_succ_cons, List.drop_zero]
   have zCv := zCB.kept hbv; have zDv := zDB.kept hbv
   have hgy := HYB.out.below hbv; have hgn := HNB.out.below hbv
   have bv : Below D w wv := bB.trans (hbv.mono (by omega))
   have hPv : P < wv.heap.size := Nat.lt_of_lt_of_le hPB hbv.size
   clear zCB zDB HYB HNB bB eB hbv
   cases hz : p y with
   | true =>
    have hput := stput_yes (D + 1) (D + 2) (by omega) y HPW.out vy vn ny nn _ _ wv zCv hgy hgn HAP.out (by omega) (by omega) (by omega)
    have h1 : (l.take (k + 1)).filter p = (l.take k).filter p ++ [y] := by rw [HFY.out, hz]; rfl
    have h2 : ((l.take (k + 1)).filter fun x => !p x) = (l.take k).filter fun x => !p x := by rw [HFN.out, hz]; simp
    have H1 := Zh h1; have H2 := Zh h2
    clear hz h1 h2 hgy hgn
    go_wp2_with (go_at_call 200; refine hput.mono ?_; rintro e w5 ⟨rfl, v', zC5, hg5, hg6, hap5, hb5⟩)
    go_roundw
    case rel => exact ⟨k + 1, v', vn, ny + 1, nn, by omega, by go_num, by omega, by omega, zC5, (hb5.block D (by omega)).trans zDv, Zh (by rw [H1.out]; exact hg5), Zh (by rw [H2.out]; exact hg6), Zh hap5, bv.trans (hb5.mono (by omega)), by have := hb5.size; omega⟩
    case measure => simp [intOf]; omega
   | false =>
    have hput := stput_no (D + 1) (D + 2) (by omega) y HPW.out vy vn ny nn _ _ wv zCv hgy hgn HAP.out (by omega) (by omega) (by omega)
    have h1 : (l.take (k + 1)).filter p = (l.take k).filter p := by rw [HFY.out, hz]; simp
    have h2 : ((l.take (k + 1)).filter fun x => !p x) = ((l.take k).filter fun x => !p x) ++ [y] := by rw [HFN.out, hz]; rfl
    have H1 := Zh h1; have H2 := Zh h2
    clear hz h1 h2 hgy hgn
    go_wp2_with (go_at_call 200; refine hput.mono ?_; rintro e w5 ⟨rfl, v', zC5, hg5, hg6, hap5, hb5⟩)
    go_roundw
    case rel => exact ⟨k + 1, vy, v', ny, nn + 1, by omega, by go_num, by omega, by omega, zC5, (hb5.block D (by omega)).trans zDv, Zh (by rw [H1.out]; exact hg6), Zh (by rw [H2.out]; exact hg5), Zh hap5, bv.trans (hb5.mono (by omega)), by have := hb5.size; omega⟩
    case measure => simp [intOf]; omega
  ·obtain rfl : k = n := by omega
   have dlt : decide (k < k) = false := Zf (by omega)
   have hfl : l.take k = l := by rw [← HL.out, List.take_length]
   have hgy := HY.out; have hgn := HN.out
   rw [hfl] at hgy hgn
   obtain ⟨R, d, ev, _⟩ := hgy.se
   subst ev
   obtain ⟨R', d', ev', _⟩ := hgn.se
   subst ev'
   have HGY := Zh (goe_mono hgy (show D ≤ D + 2 by omega)); have HGN := Zh (goe_mono hgn (show D ≤ D + 2 by omega))
   have hsy := HGY.out.size (B := D); have hsn := HGN.out.size (B := D)
   have hoy : NotIn D (.slice R ny d) := hgy.size (by omega)
   have hon : NotIn D (.slice R' nn d') := hgn.size (by omega)
   have HOY := Zh hoy; have HON := Zh hon
   have c0 := zC.cell 0 rfl; have c1 := zC.cell 1 rfl
   clear hgy hgn hfl hsy hsn hoy hon HY HN HAP
   go_wp2_with (refine pp_store rfl (.tmp 4) (.tmp 20) rfl rfl [.slice R ny d, .slice R' nn d'] rfl zD rfl rfl rfl ?_)
   refine pp_end1 (by rfl) (by rfl) (pp_put zD [.slice R ny d, .slice R' nn d']) rfl rfl ?_
   rw [HD.out]
   refine ⟨R, ny, d, R', nn, d', rfl, ?_, ?_, ?_⟩
   ·exact ⟨HGY.out.row.kept (pp_grown _ D _) (notin_own HOY.out), HGY.out.ok⟩
   ·exact ⟨HGN.out.row.kept (pp_grown _ D _) (notin_own HON.out), HGN.out.ok⟩
   ·exact hb.grown (pp_grown _ D _) (by omega) (fun k hk => by cases hk; exact Nat.le_refl _)
theorem idxS_any (f : Nat) (hent : ∀ args w, (callFunc f args).run Tryz.prog w = .ok (.enter f args) w) (q : Addr) (p : Sp → Bool) (A : Option Addr) (n c : Nat) (l : List Sp) (w : World) (hs : Ss w A n c l)
  (hcall : Hid (∀ W, Below w.heap.size w W → ∀ i, i < n → Calls Tryz.prog f #[.agg #[.int .i64 (sp l i).1, .int .i64 (sp l i).2], .pointer (some q)] W fun e W' => e = .returned (.bool (p (sp l i))) ∧ Below W.heap.size W W')) :
  Calls Tryz.prog 221 #[.slice A n c, .func (.func f) #[] #[.pointer (some q)]] w fun e w' => (∃ r : Int, e = .returned (.int .i64 r) ∧ decide (0 ≤ r) = l.any p) ∧ Below w.heap.size w w' := by
 have hl := hs.rd.len
 have m1 := hs.le
 have m2 := hs.max
 have m3 : n ≤ 9223372036854775807 := by unfold maxLen at m2; omega
 clear m1 m2
 obtain ⟨x, hx⟩ : ∃ x, l.any p = x := ⟨_, rfl⟩
 rw [hx]
 have HX := Zh hx
 have HA := Zh hs; have HL := Zh hl
 clear hx hs hl
 go_enter Tryz.func221, Tryz.ntmps221
 go_wp2_with fail
 go_loopw [8] (fun i wr => ∃ k : Nat, k ≤ n ∧ i = .int .i64 (k : Int) ∧ Hid (∀ i, i < k → p (sp l i) = false) ∧ Below w.heap.size w wr) (fun i _ => n - (intOf i).toNat)
 case atStart => exact ⟨0, Nat.zero_le _, rfl, Zh (fun i hi => absurd hi (by omega)), Below.refl _ _⟩
 case round =>
  obtain ⟨k, hk, rfl, HNO, hb⟩ := hrel
  by_cases hlt : k < n
  ·have dlt : decide (k < n) = true := Zt hlt
   have hsr : Ss wr A n c l := HA.out.keep hb
   obtain ⟨b, o, rfl, hbl, hc⟩ := hsr.rd.at_ (by omega)
   obtain ⟨x0, x1⟩ := hc k hlt
   have hkl : k < l.length := by rw [HL.out]; exact hlt
   have hf := hcall.out wr hb k hlt
   have hgo : p (sp l k) = false → ∀ i, i < k + 1 → p (sp l i) = false := fun h i hi => by
    by_cases e : i = k
    ·subst e; exact h
    ·exact HNO.out i (by omega)
   have hstop : p (sp l k) = true → x = true := fun h => by
    rw [← HX.out, List.any_eq_true]
    exact ⟨sp l k, by rw [sp_eq hkl]; exact List.getElem_mem hkl, h⟩
   obtain ⟨⟨y1, y2⟩, hy⟩ : ∃ y, sp l k = y := ⟨_, rfl⟩
   rw [hy] at x0 x1 hf hgo hstop
   simp only at x0 x1 hf
   have HGO := Zh hgo; have HSTOP := Zh hstop
   clear hc hy hsr hkl hgo hstop
   cases hz : p (y1, y2) with
   | false =>
    rw [hz] at hf
    have HGO2 := Zh (HGO.out hz)
    clear hz
    go_wp2_with (go_at_fn f; refine hf.mono ?_; rintro e wv ⟨rfl, hbv⟩)
    go_roundw
    case rel => exact ⟨k + 1, by omega, by go_num, HGO2, hb.trans (hbv.mono hb.size)⟩
    case measure => simp [intOf]; omega
   | true =>
    rw [hz] at hf
    have hF := HSTOP.out hz
    subst hF
    clear hz
    go_wp2_with (go_at_fn f; refine hf.mono ?_; rintro e wv ⟨rfl, hbv⟩)
    go_ret
    exact ⟨⟨_, rfl, by simp⟩, hb.trans (hbv.mono hb.size)⟩
  ·obtain rfl : k = n := by omega
   have hF : x = false := by
    rw [← HX.out, List.any_eq_false]
    intro y hy
    obtain ⟨i, hi, rfl⟩ := List.getElem_of_mem hy
    rw [← sp_eq hi, HNO.out i (by rw [← HL.out]; exact hi)]
    simp
   subst hF
   have dlt : decide (k < k) = false := Zf (by omega)
   go_wp2_with fail
   go_ret
   exact ⟨⟨_, rfl, by decide⟩, hb⟩
theorem conS_any (f : Nat) (hent : ∀ args w, (callFunc f args).run Tryz.prog w = .ok (.enter f args) w) (q : Addr) (p : Sp → Bool) (A : Option Addr) (n c : Nat) (l : List Sp) (w : World) (hs : Ss w A n c l)
  (hcall : Hid (∀ W, Below w.heap.size w W → ∀ i, i < n → Calls Tryz.prog f #[.agg #[.int .i64 (sp l i).1, .int .i64 (sp l i).2], .pointer (some q)] W fun e W' => e = .returned (.bool (p (sp l i))) ∧ Below W.heap.size W W')) :
  Calls Tryz.prog 199 #[.slice A n c, .func (.func f) #[] #[.pointer (some q)]] w fun e w' => e = .returned (.bool (l.any p)) ∧ Below w.heap.size w w' := by
 have hi := idxS_any f hent q p A n c l w hs hcall
 obtain ⟨x, hx⟩ : ∃ x, l.any p = x := ⟨_, rfl⟩
 rw [hx] at hi ⊢
 clear hcall hx hent hs
 go_enter Tryz.func199, Tryz.ntmps199
 go_wp2_with (go_at_call 221; refine hi.mono ?_; rintro e w2 ⟨⟨r, rfl, hr⟩, hb2⟩)
 go_ret
 exact ⟨by simp, hb2⟩
theorem ent_inside1 : ∀ args w, (callFunc 198 args).run Tryz.prog w = .ok (.enter 198 args) w := enters_of Tryz.func198 (by kernel_rfl) rfl
theorem inside1_any (a b sf su : Int) (Q : Nat) (w : World) (hq : Bx w Q 74 [sf, su]) :
  Calls Tryz.prog 198 #[.agg #[a, b], .pointer (some ⟨Q, 0, none⟩)] w fun e w' => e = .returned (.bool (outP (sf, su) (a, b))) ∧ Below w.heap.size w w' := by
 obtain ⟨B, hB⟩ : ∃ B, w.heap.size = B := ⟨_, rfl⟩
 have e0 := Bx.new w 74 [a, b]
 have y0 := hq.alloc (.cells #[a, b] 74)
 rw [hB] at e0 ⊢
 have b0 : Below B w (w.alloc (.cells #[a, b] 74)) := by rw [← hB]; exact (Zb).alloc Zr _
 have c0 := e0.cell 0 rfl; have c1 := e0.cell 1 rfl
 have k0 := y0.cell 0 rfl; have k1 := y0.cell 1 rfl
 clear hq
 by_cases h : a < sf
 ·have d : decide (a < sf) = true := Zt h
  have ho : outP (sf, su) (a, b) = true := by unfold outP; simp only [d]; rfl
  rw [ho]
  clear ho h
  go_enter Tryz.func198, Tryz.ntmps198
  go_wp2
  go_ret
  exact ⟨rfl, b0⟩
 ·have d : decide (a < sf) = false := Zf h
  have ho : outP (sf, su) (a, b) = decide (su < b) := by unfold outP; simp only [d]; rfl
  rw [ho]
  clear ho h
  go_enter Tryz.func198, Tryz.ntmps198
  go_wp2
  go_ret
  exact ⟨by simp, b0⟩
def insB (l : List Prt) (got : Int) (sk : List Sp) : Bool := decide (0 < l.length) && (winB got (spanR l).1 (spanR l).2 && !outB (spanR l) sk)
theorem inside_any (A : Option Addr) (n c : Nat) (l : List Prt) (got : Int) (A' : Option Addr) (n' c' : Nat) (sk : List Sp) (w : World) (hs : Se w A n c l) (hk : Ss w A' n' c' sk) :
  Calls Tryz.prog 164 #[.slice A n c, got, .slice A' n' c'] w fun e w' => e = .returned (.bool (insB l got sk)) ∧ Below w.heap.size w w' := by
 have hl := hs.rd.len
 have m1 := hs.le
 have m2 := hs.max
 have m3 : n ≤ 9223372036854775807 := by unfold maxLen at m2; omega
 clear m1 m2
 obtain ⟨q, hq⟩ : ∃ q, insB l got sk = q := ⟨_, rfl⟩
 rw [hq]
 have HQ := Zh hq
 have HL := Zh hl
 have hspan := stspan_any A n c l w hs
 obtain ⟨⟨sf, su⟩, hsx⟩ : ∃ s, spanR l = s := ⟨_, rfl⟩
 rw [hsx] at hspan
 have HSX := Zh hsx
 dsimp only at hspan
 clear hq hl hsx
 go_enter Tryz.func164, Tryz.ntmps164
 go_upto_region 2 with (go_at_call 31; refine hspan.mono ?_; rintro e w2 ⟨rfl, hb2⟩)
 obtain ⟨P, hP⟩ : ∃ P, w2.heap.size = P := ⟨_, rfl⟩
 have yS : Bx (w2.alloc (.cells #[sf, su] 74)) P 74 [sf, su] := hP ▸ Bx.new w2 74 [sf, su]
 have b2 : Below w.heap.size w (w2.alloc (.cells #[sf, su] 74)) := hb2.alloc hb2.size _
 have hk2 : Ss (w2.alloc (.cells #[sf, su] 74)) A' n' c' sk := hk.keep b2
 have hwP : w.heap.size ≤ P := hP ▸ hb2.size
 try rw [hP]
 clear hP hspan hk hs hb2
 generalize w2.alloc (.cells #[sf, su] 74) = w3 at yS b2 hk2 ⊢
 have c0 := yS.cell 0 rfl; have c1 := yS.cell 1 rfl
 by_cases hn : n = 0
 ·subst hn
  have hF : q = false := by rw [← HQ.out]; unfold insB; rw [HL.out]; rfl
  subst hF
  go_wp2_with fail
  go_ret
  exact ⟨rfl, b2⟩
 have hn1 : (0 : Int) < (n : Int) := by omega
 have hn2 : decide (0 < n) = true := Zt (by omega)
 have hq2 : q = (winB got sf su && !outB (sf, su) sk) := by rw [← HQ.out]; unfold insB; rw [HL.out, HSX.out, hn2]; rfl
 have HQ2 := Zh hq2
 clear HQ hq2 hn
 cases hw : winB got sf su with
 | false =>
  have hF : q = false := by rw [HQ2.out, hw]; rfl
  subst hF
  go_wp2_with (go_at_call 118; refine (within_any _ _ _ _).mono ?_; rintro e wx ⟨rfl, rfl⟩)
  go_ret
  exact ⟨rfl, b2⟩
 | true =>
  have hF : q = !(sk.any (outP (sf, su))) := by rw [HQ2.out, hw]; rfl
  subst hF
  clear HQ2
  go_wp2_with (first | (go_at_call 118; refine (within_any _ _ _ _).mono ?_; rintro e wx ⟨rfl, rfl⟩) | (go_at_call 199; refine (conS_any 198 ent_inside1 _ (outP (sf, su)) A' n' c' sk _ hk2 (Zh (fun W hW i hi => inside1_any _ _ sf su _ W (yS.kept hW)))).mono ?_; rintro e w4 ⟨rfl, hb4⟩))
  go_ret
  exact ⟨by simp, b2.trans (hb4.mono (by have := yS.lt; omega))⟩
theorem ent_heard1 : ∀ args w, (callFunc 165 args).run Tryz.prog w = .ok (.enter 165 args) w := enters_of Tryz.func165 (by kernel_rfl) rfl
theorem ent_heard2 : ∀ args w, (callFunc 166 args).run Tryz.prog w = .ok (.enter 166 args) w := enters_of Tryz.func166 (by kernel_rfl) rfl
theorem ent_heard3 : ∀ args w, (callFunc 168 args).run Tryz.prog w = .ok (.enter 168 args) w := enters_of Tryz.func168 (by kernel_rfl) rfl
theorem passed_any (x : Prt) (heo : EndOk x) (got : Int) (G : Nat) (w : World) (hq : Bx w G 3 [got]) :
  Calls Tryz.prog 165 #[.agg #[x.seq, x.len, x.dsn, x.at_, x.tries, x.came, x.lost, x.total, x.last], .pointer (some ⟨G, 0, none⟩)] w fun e w' => e = .returned (.bool (decide (endP x ≤ got))) ∧ Below w.heap.size w w' := by
 obtain ⟨B, hB⟩ : ∃ B, w.heap.size = B := ⟨_, rfl⟩
 have e0 : Bx (w.alloc (.cells #[x.seq, x.len, x.dsn, x.at_, x.tries, x.came, x.lost, x.total, x.last] 57)) B 57 [x.seq, x.len, x.dsn, x.at_, x.tries, x.came, x.lost, x.total, x.last] := hB ▸ Bx.new w 57 [x.seq, x.len, x.dsn, x.at_, x.tries, x.came, x.lost, x.total, x.last]
 rw [hB]
 have b0 : Below B w (w.alloc (.cells #[x.seq, x.len, x.dsn, x.at_, x.tries, x.came, x.lost, x.total, x.last] 57)) := by rw [← hB]; exact (Zb).alloc Zr _
 have y0 := hq.alloc (.cells #[x.seq, x.len, x.dsn, x.at_, x.tries, x.came, x.lost, x.total, x.last] 57)
 clear hq
 go_enter Tryz.func165, Tryz.ntmps165
 go_upto_region 1 with fail
 change Code.wp _ _ _ _ (w.alloc (.cells #[x.seq, x.len, x.dsn, x.at_, x.tries, x.came, x.lost, x.total, x.last] 57))
 generalize w.alloc (.cells #[x.seq, x.len, x.dsn, x.at_, x.tries, x.came, x.lost, x.total, x.last] 57) = w1 at e0 b0 y0 ⊢
 refine tB 4 5 (fun (W : World) => NineB W B x ∧ W.cell? ⟨G, 0, none⟩ = some (.int .i64 got) ∧ Below B w W) ⟨bx_nine e0.drew, y0.drew.cell 0 rfl, b0.drew⟩ (fun HS => ?_)
 refine tU 0 HS ?_ (hy := by intro w hSw; (try dsimp only [NineB] at hSw); go_simp; try with_reducible rfl)
 refine tU 2 HS ?_ (hy := by intro w hSw; (try dsimp only [NineB] at hSw); go_simp; try with_reducible rfl)
 refine tO 1 (fun K hK => ?_)
 go_simp
 refine (stend_any x _ heo).mono ?_
 rintro e wv ⟨rfl, hb1⟩
 refine kK hK ⟨bx_nine (e0.drew.kept hb1), (y0.drew.kept hb1).cell 0 rfl, b0.drew.trans (hb1.mono (Zl e0.lt))⟩ (fun HS => ?_)
 clear hK K
 refine tU 3 HS ?_ (hy := by intro w hSw; (try dsimp only [NineB] at hSw); go_simp; try with_reducible rfl)
 refine ⟨by kernel_rfl, ?_⟩
 simp only [List.drop_succ_cons, List.drop_zero]
 go_wp2_with fail
 go_ret
 exact ⟨rfl, HS.2.2⟩
theorem covered_any (x : Prt) (heo : EndOk x) (A' : Option Addr) (n' c' : Nat) (sk : List Sp) (KS : Nat) (w : World) (hk : Ss w A' n' c' sk) (hq : Bx w KS 43 [.slice A' n' c']) :
  Calls Tryz.prog 166 #[.agg #[x.seq, x.len, x.dsn, x.at_, x.tries, x.came, x.lost, x.total, x.last], .pointer (some ⟨KS, 0, none⟩)] w fun e w' => e = .returned (.bool (hasP sk x)) ∧ Below w.heap.size w w' := by
 obtain ⟨B, hB⟩ : ∃ B, w.heap.size = B := ⟨_, rfl⟩
 have e0 : Bx (w.alloc (.cells #[x.seq, x.len, x.dsn, x.at_, x.tries, x.came, x.lost, x.total, x.last] 57)) B 57 [x.seq, x.len, x.dsn, x.at_, x.tries, x.came, x.lost, x.total, x.last] := hB ▸ Bx.new w 57 [x.seq, x.len, x.dsn, x.at_, x.tries, x.came, x.lost, x.total, x.last]
 rw [hB]
 have b0 : Below B w (w.alloc (.cells #[x.seq, x.len, x.dsn, x.at_, x.tries, x.came, x.lost, x.total, x.last] 57)) := by rw [← hB]; exact (Zb).alloc Zr _
 have y0 := hq.alloc (.cells #[x.seq, x.len, x.dsn, x.at_, x.tries, x.came, x.lost, x.total, x.last] 57)
 have k0 := hk.alloc (.cells #[x.seq, x.len, x.dsn, x.at_, x.tries, x.came, x.lost, x.total, x.last] 57)
 clear hq hk
 go_enter Tryz.func166, Tryz.ntmps166
 go_upto_region 1 with fail
 change Code.wp _ _ _ _ (w.alloc (.cells #[x.seq, x.len, x.dsn, x.at_, x.tries, x.came, x.lost, x.total, x.last] 57))
 generalize w.alloc (.cells #[x.seq, x.len, x.dsn, x.at_, x.tries, x.came, x.lost, x.total, x.last] 57) = w1 at e0 b0 y0 k0 ⊢
 refine tB 7 8 (fun (W : World) => NineB W B x ∧ W.cell? ⟨KS, 0, none⟩ = some (.slice A' n' c') ∧ Ss W A' n' c' sk ∧ Below B w W) ⟨bx_nine e0.drew, y0.drew.cell 0 rfl, (k0.keep (Zb).drew), b0.drew⟩ (fun HS => ?_)
 refine tU 0 HS ?_ (hy := by intro w hSw; (try dsimp only [NineB] at hSw); go_simp; try with_reducible rfl)
 refine tU 1 HS ?_ (hy := by intro w hSw; (try dsimp only [NineB] at hSw); go_simp; try with_reducible rfl)
 refine tU 2 HS ?_ (hy := by intro w hSw; (try dsimp only [NineB] at hSw); go_simp; try with_reducible rfl)
 refine tU 3 HS ?_ (hy := by intro w hSw; (try dsimp only [NineB] at hSw); go_simp; try with_reducible rfl)
 refine tO 4 (fun K hK => ?_)
 go_simp
 refine (stend_any x _ heo).mono ?_
 rintro e wv ⟨rfl, hb1⟩
 have e1 := e0.drew.kept hb1; have y1 := y0.drew.kept hb1; have k1 := (k0.keep (Zb).drew).keep hb1; have b1 := b0.drew.trans (hb1.mono (Zl e0.lt))
 refine kK hK ⟨bx_nine e1, y1.cell 0 rfl, k1, b1⟩ (fun HS => ?_)
 clear hK K
 refine tU 5 HS ?_ (hy := by intro w hSw; (try dsimp only [NineB] at hSw); go_simp; try with_reducible rfl)
 refine tO 6 (fun K hK => ?_)
 go_simp
 refine (has_any A' n' c' sk x.seq (endP x) _ HS.2.2.1).mono ?_
 rintro e wv2 ⟨rfl, hb2⟩
 refine kK hK ⟨bx_nine (e1.kept hb2), (y1.kept hb2).cell 0 rfl, (k1.keep hb2), (b1.trans (hb2.mono (Zl e1.lt)))⟩ (fun HS => ?_)
 clear hK K
 refine ⟨by kernel_rfl, ?_⟩
 simp only [List.drop_succ_cons, List.drop_zero]
 go_wp2_with fail
 go_ret
 exact ⟨rfl, HS.2.2.2⟩
theorem arrived_any (x : Prt) (heo : EndOk x) (got : Int) (A' : Option Addr) (n' c' : Nat) (sk : List Sp) (G KS U V : Nat) (w : World) (hk : Ss w A' n' c' sk) (hG : Bx w G 3 [got]) (hK : Bx w KS 43 [.slice A' n' c'])
  (hU : Bx w U 107 [(.func (.func 165) #[] #[.pointer (some ⟨G, 0, none⟩)])]) (hV : Bx w V 107 [(.func (.func 166) #[] #[.pointer (some ⟨KS, 0, none⟩)])]) :
  Calls Tryz.prog 168 #[.agg #[x.seq, x.len, x.dsn, x.at_, x.tries, x.came, x.lost, x.total, x.last], .pointer (some ⟨U, 0, none⟩), .pointer (some ⟨V, 0, none⟩)] w fun e w' => e = .returned (.bool (toldC got sk x)) ∧ Below w.heap.size w w' := by
 obtain ⟨B, hB⟩ : ∃ B, w.heap.size = B := ⟨_, rfl⟩
 have e0 : Bx (w.alloc (.cells #[x.seq, x.len, x.dsn, x.at_, x.tries, x.came, x.lost, x.total, x.last] 57)) B 57 [x.seq, x.len, x.dsn, x.at_, x.tries, x.came, x.lost, x.total, x.last] := hB ▸ Bx.new w 57 [x.seq, x.len, x.dsn, x.at_, x.tries, x.came, x.lost, x.total, x.last]
 rw [hB]
 have b0 : Below B w (w.alloc (.cells #[x.seq, x.len, x.dsn, x.at_, x.tries, x.came, x.lost, x.total, x.last] 57)) := by rw [← hB]; exact (Zb).alloc Zr _
 have g0 := hG.alloc (.cells #[x.seq, x.len, x.dsn, x.at_, x.tries, x.came, x.lost, x.total, x.last] 57); have k0 := hK.alloc (.cells #[x.seq, x.len, x.dsn, x.at_, x.tries, x.came, x.lost, x.total, x.last] 57); have s0 := hk.alloc (.cells #[x.seq, x.len, x.dsn, x.at_, x.tries, x.came, x.lost, x.total, x.last] 57)
 have u0 := hU.alloc (.cells #[x.seq, x.len, x.dsn, x.at_, x.tries, x.came, x.lost, x.total, x.last] 57); have v0 := hV.alloc (.cells #[x.seq, x.len, x.dsn, x.at_, x.tries, x.came, x.lost, x.total, x.last] 57)
 have ht : toldC got sk x = (!x.came && (decide (endP x ≤ got) || hasP sk x)) := by unfold toldC; rw [Bool.and_comm, Bool.or_comm]
 obtain ⟨q, hq⟩ : ∃ q, toldC got sk x = q := ⟨_, rfl⟩
 rw [hq] at ht ⊢
 have HT := Zh ht
 clear hG hK hk hU hV hq ht
 have hen1 := ent_heard1; have hen2 := ent_heard2
 go_enter Tryz.func168, Tryz.ntmps168
 go_upto_region 1 with fail
 change Code.wp _ _ _ _ (w.alloc (.cells #[x.seq, x.len, x.dsn, x.at_, x.tries, x.came, x.lost, x.total, x.last] 57))
 generalize w.alloc (.cells #[x.seq, x.len, x.dsn, x.at_, x.tries, x.came, x.lost, x.total, x.last] 57) = w1 at e0 b0 g0 k0 s0 u0 v0 ⊢
 have d0 := e0.cell 0 rfl; have d1 := e0.cell 1 rfl; have d2 := e0.cell 2 rfl; have d3 := e0.cell 3 rfl; have d4 := e0.cell 4 rfl
 have d5 := e0.cell 5 rfl; have d6 := e0.cell 6 rfl; have d7 := e0.cell 7 rfl; have d8 := e0.cell 8 rfl
 have u00 := u0.cell 0 rfl
 cases h5 : x.came with
 | true =>
  have hF : q = false := by rw [HT.out, h5]; rfl
  subst hF
  rw [h5] at d5
  clear HT
  go_wp2_with fail
  go_ret
  exact ⟨rfl, b0⟩
 | false =>
 have hp1 := fun w h => passed_any x heo got G w h
 have hp2 := fun w h k => covered_any x heo A' n' c' sk KS w h k
 rw [h5] at hp1 hp2 d5
 have HT2 : Hid (q = (decide (endP x ≤ got) || hasP sk x)) := Zh (by rw [HT.out, h5]; rfl)
 have e5 : Bx w1 B 57 [x.seq, x.len, x.dsn, x.at_, x.tries, .bool false, x.lost, x.total, x.last] := by rw [← h5]; exact e0
 clear HT h5 e0
 have e0 := e5
 cases h1 : decide (endP x ≤ got) with
 | true =>
  have hF : q = true := by rw [HT2.out, h1]; rfl
  subst hF
  clear HT2
  rw [h1] at hp1
  go_wp2_with (go_at_call 165; refine (hp1 _ g0).mono ?_; rintro e wp ⟨rfl, hbwp⟩; have e1 := e0.kept hbwp; have g1 := g0.kept hbwp; have k1 := k0.kept hbwp; have s1 := s0.keep hbwp; have u1 := u0.kept hbwp; have v1 := v0.kept hbwp; have b1 := b0.trans (hbwp.mono (Zl e0.lt)); have v10 := v1.cell 0 rfl; have c0 := e1.cell 0 rfl; have c1 := e1.cell 1 rfl; have c2 := e1.cell 2 rfl; have c3 := e1.cell 3 rfl; have c4 := e1.cell 4 rfl; have c5 := e1.cell 5 rfl; have c6 := e1.cell 6 rfl; have c7 := e1.cell 7 rfl; have c8 := e1.cell 8 rfl)
  go_ret
  exact ⟨rfl, b1⟩
 | false =>
  have hF : q = hasP sk x := by rw [HT2.out, h1]; rfl
  subst hF
  clear HT2
  rw [h1] at hp1
  go_wp2_with (first | (go_at_call 165; refine (hp1 _ g0).mono ?_; rintro e wp ⟨rfl, hbwp⟩; have e1 := e0.kept hbwp; have g1 := g0.kept hbwp; have k1 := k0.kept hbwp; have s1 := s0.keep hbwp; have u1 := u0.kept hbwp; have v1 := v0.kept hbwp; have b1 := b0.trans (hbwp.mono (Zl e0.lt)); have v10 := v1.cell 0 rfl; have c0 := e1.cell 0 rfl; have c1 := e1.cell 1 rfl; have c2 := e1.cell 2 rfl; have c3 := e1.cell 3 rfl; have c4 := e1.cell 4 rfl; have c5 := e1.cell 5 rfl; have c6 := e1.cell 6 rfl; have c7 := e1.cell 7 rfl; have c8 := e1.cell 8 rfl) | (go_at_call 166; refine (hp2 _ s1 k1).mono ?_; rintro e wc ⟨rfl, hbwc⟩; have b2 := b1.trans (hbwc.mono (Zl e1.lt))))
  go_ret
  exact ⟨rfl, b2⟩
end Go.Proofs.YtbijhkhkigdddaaGreat
