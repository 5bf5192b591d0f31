/- Package sent as it landed: parted as contracts of the calls. -/
import Derived.Test.YtnbamacdcggaeaaStL7
namespace Go.Proofs.Ytnbamacdcggaeaa
open Go.RowKit
set_option linter.unusedVariables false
set_option linter.unusedSimpArgs false


theorem info_pp : (Try.prog.info? 53).map (·.size) = some 2 := by kernel_rfl
theorem pp_struct : ∃ fs, Try.prog.underlying 53 = some (.struct fs) := ⟨_, Try.underlying53⟩
section
variable {W : World} {B : Nat} {t : TypeId} {cs : List Value}
theorem pp_put (h : Bx W B t cs) (vs : List Value) : Bx (W.setRow B vs.toArray) B t vs := setRow_heap W B _ vs.toArray t (0, 0) h
theorem pp_grown (W : World) (B : Nat) (vs : Array Value) : W.grownBy (W.setRow B vs) (some B) :=
  ⟨rfl, rfl, rfl, by simp [World.setRow], fun i _ hne => setRow_other W B i vs (fun e => hne (by rw [e]))⟩
theorem pp_gset (W : World) (q : Addr) (u : Value) : W.grownBy (W.setCell q u) (some q.block) :=
  ⟨rfl, rfl, rfl, by simp, fun i hi hne => Below.heap_setCell W q u i (fun e => hne (by rw [e]))⟩
/-- one is loaded whole, in a plain region -/
theorem pp_load {ops : Array Oper} {rest : List Oper} {o : Oper} {a : Act} {Q : Exit → Act → World → Prop} (hgd : o.guard = none) (x : Operand) (ho : o.op = .load 53 x) (hx : a.eval x = .pointer (some ⟨B, 0, none⟩))
    (h : Bx W B t cs) (hl : cs.length = 2) (k : wpList Try.prog ops Q rest (a.put o.dst (.agg cs.toArray)) W) : wpList Try.prog ops Q (o :: rest) a W := by
  obtain ⟨fs, hu⟩ := pp_struct
  exact wpList_load_row hgd _ x ho B hx t cs.toArray (0, 0) _ h hu rfl (by rw [info_pp]; simp [hl]) k
/-- one is stored whole -/
theorem pp_store {ops : Array Oper} {rest : List Oper} {o : Oper} {a : Act} {Q : Exit → Act → World → Prop} (hgd : o.guard = none) (x y : Operand) (ho : o.op = .store 53 x y) (hx : a.eval x = .pointer (some ⟨B, 0, none⟩))
    (vs : List Value) (hy : a.eval y = .agg vs.toArray) (h : Bx W B t cs) (hl : cs.length = 2) (hv : vs.length = 2) (h1 : vs.all (·.oneCell') = true) (k : wpList Try.prog ops Q rest (a.put o.dst undef) (W.setRow B vs.toArray)) : wpList Try.prog ops Q (o :: rest) a W :=
  wpList_store_row hgd _ x y ho B vs.toArray hx hy t cs.toArray h (by rw [info_pp]; simp [hv]) (by simp [hl, hv]) (by simpa using h1) k
theorem pp_var (h : Bx W B t cs) (hl : cs.length = 2) : (Go.loadVar 53 ⟨B, 0, none⟩).run Try.prog W = .ok (.agg cs.toArray) W := by
  obtain ⟨fs, hu⟩ := pp_struct
  exact run_loadVar_row W B t 53 cs.toArray (0, 0) _ h hu rfl (by rw [info_pp]; simp [hl])
/-- one is loaded whole, in a region that draws its order -/
theorem pp_yields {ops : Array Oper} {S : World → Prop} {op : Oper} {a : Act} (hw : Region.wanted op (yielded ops a.tmps) = true) (x : Operand) (ho : op.op = .load 53 x)
    (hx : a.eval x = .pointer (some ⟨B, 0, none⟩)) (cs : List Value) (hl : cs.length = 2) (t : TypeId) (hS : ∀ W, S W → Bx W B t cs) : YieldsIf Try.prog ops S op (.agg cs.toArray) a := by
  obtain ⟨fs, hu⟩ := pp_struct
  exact .inl ⟨hw, fun w hw' => by
    unfold execOp
    simp only [ho, hx, Instr.loadAt, Instr.sureAddr, Sem.run_bind, Sem.run_pure, Result.andThen_ok, run_loadVar_row w B t 53 cs.toArray (0, 0) _ (hS w hw') hu rfl (by rw [info_pp]; simp [hl])]⟩
variable {fn : Func} {tmps : Array Value} {R : Ending → World → Prop} {v u : Value} {ds : List Deferred} {p q r : Tmp}
/-- a box alone, a box and one or two slots: what a call hands back -/
theorem pp_end1 (hr : fn.results = #[.cell p 53]) (h2 : tmps.getD p undef = .pointer (some ⟨B, 0, none⟩))
    (e : Bx W B t cs) (hl : cs.length = 2) (hd : ds = []) (h : R (.returned (.agg cs.toArray)) W) : bodyPost Try.prog fn R .ret { tmps := tmps, defers := ds } W := by
  have l2 := pp_var e hl
  have h2a : tmps[p]?.getD undef = .pointer (some ⟨B, 0, none⟩) := by simpa using h2
  refine bodyPost_ret (v := .agg cs.toArray) ?_ hd h
  simp [results, hr, h2a, asAddr, l2]
theorem pp_end2 (hr : fn.results = #[.cell p 53, .tmp q]) (h2 : tmps.getD p undef = .pointer (some ⟨B, 0, none⟩)) (h3 : tmps.getD q undef = v)
    (e : Bx W B t cs) (hl : cs.length = 2) (hd : ds = []) (h : R (.returned (.tuple #[.agg cs.toArray, v])) W) : bodyPost Try.prog fn R .ret { tmps := tmps, defers := ds } W := by
  have l2 := pp_var e hl
  have h2a : tmps[p]?.getD undef = .pointer (some ⟨B, 0, none⟩) := by simpa using h2
  have h2b : tmps[q]?.getD undef = v := by simpa using h3
  refine bodyPost_ret (v := .tuple #[.agg cs.toArray, v]) ?_ hd h
  simp [results, hr, h2a, h2b, asAddr, l2]
theorem pp_end3 (hr : fn.results = #[.cell p 53, .tmp q, .tmp r]) (h2 : tmps.getD p undef = .pointer (some ⟨B, 0, none⟩)) (h3 : tmps.getD q undef = v) (h4 : tmps.getD r undef = u)
    (e : Bx W B t cs) (hl : cs.length = 2) (hd : ds = []) (h : R (.returned (.tuple #[.agg cs.toArray, v, u])) W) : bodyPost Try.prog fn R .ret { tmps := tmps, defers := ds } W := by
  have l2 := pp_var e hl
  have h2a : tmps[p]?.getD undef = .pointer (some ⟨B, 0, none⟩) := by simpa using h2
  have h2b : tmps[q]?.getD undef = v := by simpa using h3
  have h2c : tmps[r]?.getD undef = u := by simpa using h4
  refine bodyPost_ret (v := .tuple #[.agg cs.toArray, v, u]) ?_ hd h
  simp [results, hr, h2a, h2b, h2c, asAddr, l2]
end
theorem notin_own {P : Nat} {v : Value} (h : NotIn P v) : v.ownBlock = none ∨ v.ownBlock ≠ some P := by
  cases hb : v.ownBlock with
  | none => exact .inl rfl
  | some k => exact .inr (fun e => by cases e; exact h _ hb rfl)
theorem filter_snoc (p : Prt → Bool) (l : List Prt) (x : Prt) : (l ++ [x]).filter p = l.filter p ++ (if p x = true then [x] else []) := by
  rw [List.filter_append]; cases h : p x <;> simp [List.filter_cons, h]

set_option maxRecDepth 100000 in
set_option maxHeartbeats 8000000 in
theorem stparted_any (f : Nat) (hent : ∀ args w, (callFunc f args).run Try.prog w = .ok (.enter f args) w) (caps : Array Value) (p : Prt → Bool) (A : Option Addr) (n c : Nat) (l : List Prt) (w : World) (hs : Se w A n c l) (hn : n ≤ 1000)
    (hcall : Hid (∀ W, Below w.heap.size w W → ∀ i, i < n → Calls Try.prog f (#[.agg #[.int .i64 (ge l i).seq, .int .i64 (ge l i).len, .int .i64 (ge l i).dsn, .int .i64 (ge l i).at_, .int .i64 (ge l i).tries, .bool (ge l i).came, .bool (ge l i).lost, .int .i64 (ge l i).total, .int .i64 (ge l i).last]] ++ caps) W fun e W' => e = .returned (.bool (p (ge l i))) ∧ Below W.heap.size W W')) :
    Calls Try.prog 37 #[.slice A n c, .func (.func f) #[] caps] w fun e w' => ∃ R m d R' m' d', e = .returned (.agg #[.slice R m d, .slice R' m' d']) ∧ Goe w' w.heap.size 24 (.slice R m d) m (l.filter p) ∧ Goe w' w.heap.size 24 (.slice R' m' d') m' (l.filter fun x => !p x) ∧ Below w.heap.size w w' := by
  have hl := hs.rd.len
  have m1 := hs.le
  have m2 := hs.max
  have m3 : n ≤ 9223372036854775807 := by unfold maxLen at m2; omega
  clear m1 m2
  obtain ⟨D, hD⟩ : ∃ D, w.heap.size = D := ⟨_, rfl⟩
  have y0 : Bx (w.alloc (.cells #[.slice none 0 0, .slice none 0 0] 53)) D 53 [.slice none 0 0, .slice none 0 0] := hD ▸ Bx.new w 53 [.slice none 0 0, .slice none 0 0]
  have hD1 : (w.alloc (.cells #[.slice none 0 0, .slice none 0 0] 53)).heap.size = D + 1 := by simp [hD]
  have z0 : Bx ((w.alloc (.cells #[.slice none 0 0, .slice none 0 0] 53)).alloc (.cells #[.slice none 0 0, .slice none 0 0] 53)) (D + 1) 53 [.slice none 0 0, .slice none 0 0] := hD1 ▸ Bx.new (w.alloc (.cells #[.slice none 0 0, .slice none 0 0] 53)) 53 [.slice none 0 0, .slice none 0 0]
  have y1 := y0.alloc (.cells #[.slice none 0 0, .slice none 0 0] 53)
  have b0 : Below w.heap.size w ((w.alloc (.cells #[.slice none 0 0, .slice none 0 0] 53)).alloc (.cells #[.slice none 0 0, .slice none 0 0] 53)) := ((Below.refl _ _).alloc (Nat.le_refl _) _).alloc (by rw [hD1]; omega) _
  have hZ0 : ((w.alloc (.cells #[.slice none 0 0, .slice none 0 0] 53)).alloc (.cells #[.slice none 0 0, .slice none 0 0] 53)).heap.size = D + 2 := by simp [hD]
  have HA := Lib.hid hs; have HL := Lib.hid hl; have HD := Lib.hid hD
  clear hs hl y0
  go_enter Try.func37, Try.ntmps37
  go_upto_region 2 with fail
  try rw [hD1]
  try rw [hD]
  try rw [hD] at b0
  try rw [hD] at hcall
  generalize (w.alloc (.cells #[.slice none 0 0, .slice none 0 0] 53)).alloc (.cells #[.slice none 0 0, .slice none 0 0] 53) = w1 at z0 y1 b0 hZ0 ⊢
  clear hD hD1
  go_wp2_with fail
  go_loopw [10] (fun i wr => ∃ (k : Nat) (vy vn : Value) (ny nn : Nat), k ≤ n ∧ i = .int .i64 (k : Int) ∧ ny ≤ k ∧ nn ≤ k ∧ Bx wr (D + 1) 53 [vy, vn] ∧ Bx wr D 53 [.slice none 0 0, .slice none 0 0] ∧ Hid (Goe wr (D + 2) 24 vy ny ((l.take k).filter p)) ∧ Hid (Goe wr (D + 2) 24 vn nn ((l.take k).filter fun x => !p x)) ∧ Hid (Apart vy vn) ∧ Below D w wr ∧ D + 2 ≤ wr.heap.size) (fun i _ => n - (intOf i).toNat)
  case atStart => exact ⟨0, _, _, 0, 0, Nat.zero_le _, rfl, Nat.le_refl _, Nat.le_refl _, z0, y1, Lib.hid (Goe.none _ _ _), Lib.hid (Goe.none _ _ _), Lib.hid (.inl rfl), b0, by omega⟩
  case round =>
    obtain ⟨k, vy, vn, ny, nn, hk, rfl, hny, hnn, zC, zD, HY, HN, HAP, hb, hZ⟩ := hrel
    by_cases hlt : k < n
    · have dlt : decide (k < n) = true := decide_eq_true hlt
      have hsr : Se wr A n c l := HA.out.keep (by rw [HD.out]; exact hb)
      obtain ⟨b, o, rfl, hbl, hc⟩ := hsr.rd.at_ (by omega)
      have X := prt_at hc hlt
      have hkl : k < l.length := by rw [HL.out]; exact hlt
      have hpw := hsr.rd.ok.ge (i := k) hkl
      have htk := take_ge hkl
      have hfy := filter_snoc p (l.take k) (ge l k)
      have hfn := filter_snoc (fun x => !p x) (l.take k) (ge l k)
      rw [← htk] at hfy hfn
      have hf := fun W hW => hcall.out W hW k hlt
      obtain ⟨y, hy⟩ : ∃ y, ge l k = y := ⟨_, rfl⟩
      rw [hy] at X hf hpw hfy hfn
      obtain ⟨x0, x1, x2, x3, x4, x5, x6, x7, x8⟩ := X
      obtain ⟨P, hP⟩ : ∃ P, wr.heap.size = P := ⟨_, rfl⟩
      have eP : Bx (wr.alloc (.cells #[.int .i64 y.seq, .int .i64 y.len, .int .i64 y.dsn, .int .i64 y.at_, .int .i64 y.tries, .bool y.came, .bool y.lost, .int .i64 y.total, .int .i64 y.last] 24)) P 24 (El.cells y) := hP ▸ Bx.new wr 24 [.int .i64 y.seq, .int .i64 y.len, .int .i64 y.dsn, .int .i64 y.at_, .int .i64 y.tries, .bool y.came, .bool y.lost, .int .i64 y.total, .int .i64 y.last]
      have hZP : D + 2 ≤ P := hP ▸ hZ
      have bP : Below D w (wr.alloc (.cells #[.int .i64 y.seq, .int .i64 y.len, .int .i64 y.dsn, .int .i64 y.at_, .int .i64 y.tries, .bool y.came, .bool y.lost, .int .i64 y.total, .int .i64 y.last] 24)) := hb.alloc (by omega) _
      have zC1 := zC.alloc (.cells #[.int .i64 y.seq, .int .i64 y.len, .int .i64 y.dsn, .int .i64 y.at_, .int .i64 y.tries, .bool y.came, .bool y.lost, .int .i64 y.total, .int .i64 y.last] 24); have zD1 := zD.alloc (.cells #[.int .i64 y.seq, .int .i64 y.len, .int .i64 y.dsn, .int .i64 y.at_, .int .i64 y.tries, .bool y.came, .bool y.lost, .int .i64 y.total, .int .i64 y.last] 24)
      have HY1 := Lib.hid (HY.out.alloc (.cells #[.int .i64 y.seq, .int .i64 y.len, .int .i64 y.dsn, .int .i64 y.at_, .int .i64 y.tries, .bool y.came, .bool y.lost, .int .i64 y.total, .int .i64 y.last] 24)); have HN1 := Lib.hid (HN.out.alloc (.cells #[.int .i64 y.seq, .int .i64 y.len, .int .i64 y.dsn, .int .i64 y.at_, .int .i64 y.tries, .bool y.came, .bool y.lost, .int .i64 y.total, .int .i64 y.last] 24))
      have HFY := Lib.hid hfy; have HFN := Lib.hid hfn; have HPW := Lib.hid hpw; have HF := Lib.hid hf
      clear hc hy hsr hkl hpw htk hfy hfn hf zC zD HY HN hb
      go_upto_region 5 with fail
      clear x0 x1 x2 x3 x4 x5 x6 x7 x8
      try rw [hP]
      clear hP hbl
      generalize wr.alloc (.cells #[.int .i64 y.seq, .int .i64 y.len, .int .i64 y.dsn, .int .i64 y.at_, .int .i64 y.tries, .bool y.came, .bool y.lost, .int .i64 y.total, .int .i64 y.last] 24) = wA at eP bP zC1 zD1 HY1 HN1 ⊢
      obtain ⟨wB, hwB⟩ : ∃ wB, wA.drew = wB := ⟨_, rfl⟩
      have eB : Bx wB P 24 (El.cells y) := by rw [← hwB]; exact eP.drew
      have bB : Below D w wB := by rw [← hwB]; exact bP.drew
      have zCB := zC1.drew; have zDB := zD1.drew
      rw [hwB] at zCB zDB
      have HYB := Lib.hid (HY1.out.drew); have HNB := Lib.hid (HN1.out.drew)
      rw [hwB] at HYB HNB
      have hPB : P < wB.heap.size := eB.lt
      clear eP bP zC1 zD1 HY1 HN1
      refine wp_region_tail 4 5 (fun (W : World) => Bx W P 24 (El.cells y)) (by kernel_rfl) (by rfl) (by decide) ?_
      rw [hwB]
      have HS : (fun (W : World) => Bx W P 24 (El.cells y)) wB := eB
      clear hwB
      refine wpAnyT_take (i := 0) (v := .agg #[.int .i64 y.seq, .int .i64 y.len, .int .i64 y.dsn, .int .i64 y.at_, .int .i64 y.tries, .bool y.came, .bool y.lost, .int .i64 y.total, .int .i64 y.last]) rfl (by kernel_rfl) (fun _ _ _ h => h) (st_yields (by rfl) (.tmp 7) rfl rfl (El.cells y) rfl 24 (fun W hW => hW)) HS ?_
      try simp only [Act.put, List.setIfInBounds_toArray, List.set_cons_zero, List.set_cons_succ]
      refine wpAnyT_take (i := 1) (v := ?vv1) rfl (by kernel_rfl) (fun _ _ _ h => h) (Or.inl ⟨by rfl, fun w hSw => ?yy1⟩) HS ?rr1
      case yy1 =>
        (try dsimp only at hSw); go_simp
        try with_reducible rfl
      try simp only [Act.put, List.setIfInBounds_toArray, List.set_cons_zero, List.set_cons_succ]
      refine wpAnyT_take (i := 2) (v := .agg #[.int .i64 y.seq, .int .i64 y.len, .int .i64 y.dsn, .int .i64 y.at_, .int .i64 y.tries, .bool y.came, .bool y.lost, .int .i64 y.total, .int .i64 y.last]) rfl (by kernel_rfl) (fun _ _ _ h => h) (st_yields (by rfl) (.tmp 7) rfl rfl (El.cells y) rfl 24 (fun W hW => hW)) HS ?_
      try simp only [Act.put, List.setIfInBounds_toArray, List.set_cons_zero, List.set_cons_succ]
      refine wpAnyT_one (k := 3) rfl (by kernel_rfl) (by decide) (fun K hK => ?_)
      go_simp
      refine ((HF.out wB bB).mono ?_)
      rintro e wv ⟨rfl, hbv⟩
      have HS : (fun (W : World) => Bx W P 24 (El.cells y)) wv := eB.kept hbv
      refine hK _ _ HS ?_
      clear hK K HS
      try simp only [Act.put, List.setIfInBounds_toArray, List.set_cons_zero, List.set_cons_succ]
      refine ⟨by kernel_rfl, ?_⟩
      simp only [List.drop_succ_cons, List.drop_zero]
      have zCv := zCB.kept hbv; have zDv := zDB.kept hbv
      have hgy := HYB.out.below hbv; have hgn := HNB.out.below hbv
      have bv : Below D w wv := bB.trans (hbv.mono (by omega))
      have hPv : P < wv.heap.size := Nat.lt_of_lt_of_le hPB hbv.size
      clear zCB zDB HYB HNB bB eB hbv
      cases hz : p y with
      | true =>
        have hput := stput_yes (D + 1) (D + 2) (by omega) y HPW.out vy vn ny nn _ _ wv zCv hgy hgn HAP.out (by omega) (by omega) (by omega)
        have h1 : (l.take (k + 1)).filter p = (l.take k).filter p ++ [y] := by rw [HFY.out, hz]; rfl
        have h2 : ((l.take (k + 1)).filter fun x => !p x) = (l.take k).filter fun x => !p x := by rw [HFN.out, hz]; simp
        have H1 := Lib.hid h1; have H2 := Lib.hid h2
        clear hz h1 h2 hgy hgn
        go_wp2_with (go_at_call 46; refine hput.mono ?_; rintro e w5 ⟨rfl, v', zC5, hg5, hg6, hap5, hb5⟩)
        go_roundw
        case rel => exact ⟨k + 1, v', vn, ny + 1, nn, by omega, by go_num, by omega, by omega, zC5, (hb5.block D (by omega)).trans zDv, Lib.hid (by rw [H1.out]; exact hg5), Lib.hid (by rw [H2.out]; exact hg6), Lib.hid hap5, bv.trans (hb5.mono (by omega)), by have := hb5.size; omega⟩
        case measure => simp [intOf]; omega
      | false =>
        have hput := stput_no (D + 1) (D + 2) (by omega) y HPW.out vy vn ny nn _ _ wv zCv hgy hgn HAP.out (by omega) (by omega) (by omega)
        have h1 : (l.take (k + 1)).filter p = (l.take k).filter p := by rw [HFY.out, hz]; simp
        have h2 : ((l.take (k + 1)).filter fun x => !p x) = ((l.take k).filter fun x => !p x) ++ [y] := by rw [HFN.out, hz]; rfl
        have H1 := Lib.hid h1; have H2 := Lib.hid h2
        clear hz h1 h2 hgy hgn
        go_wp2_with (go_at_call 46; refine hput.mono ?_; rintro e w5 ⟨rfl, v', zC5, hg5, hg6, hap5, hb5⟩)
        go_roundw
        case rel => exact ⟨k + 1, vy, v', ny, nn + 1, by omega, by go_num, by omega, by omega, zC5, (hb5.block D (by omega)).trans zDv, Lib.hid (by rw [H1.out]; exact hg6), Lib.hid (by rw [H2.out]; exact hg5), Lib.hid hap5, bv.trans (hb5.mono (by omega)), by have := hb5.size; omega⟩
        case measure => simp [intOf]; omega
    · obtain rfl : k = n := by omega
      have dlt : decide (k < k) = false := decide_eq_false (by omega)
      have hfl : l.take k = l := by rw [← HL.out, List.take_length]
      have hgy := HY.out; have hgn := HN.out
      rw [hfl] at hgy hgn
      obtain ⟨R, d, ev, _⟩ := hgy.se
      subst ev
      obtain ⟨R', d', ev', _⟩ := hgn.se
      subst ev'
      have HGY := Lib.hid (goe_mono hgy (show D ≤ D + 2 by omega)); have HGN := Lib.hid (goe_mono hgn (show D ≤ D + 2 by omega))
      have hsy := HGY.out.size (B := D); have hsn := HGN.out.size (B := D)
      have hoy : NotIn D (.slice R ny d) := hgy.size (by omega)
      have hon : NotIn D (.slice R' nn d') := hgn.size (by omega)
      have HOY := Lib.hid hoy; have HON := Lib.hid hon
      have c0 := zC.cell 0 rfl; have c1 := zC.cell 1 rfl
      clear hgy hgn hfl hsy hsn hoy hon HY HN HAP
      go_wp2_with (refine pp_store rfl (.tmp 4) (.tmp 20) rfl rfl [.slice R ny d, .slice R' nn d'] rfl zD rfl rfl rfl ?_)
      refine pp_end1 (by rfl) (by rfl) (pp_put zD [.slice R ny d, .slice R' nn d']) rfl rfl ?_
      rw [HD.out]
      refine ⟨R, ny, d, R', nn, d', rfl, ?_, ?_, ?_⟩
      · exact ⟨HGY.out.row.kept (pp_grown _ D _) (notin_own HOY.out), HGY.out.ok⟩
      · exact ⟨HGN.out.row.kept (pp_grown _ D _) (notin_own HON.out), HGN.out.ok⟩
      · exact hb.grown (pp_grown _ D _) (by omega) (fun k hk => by cases hk; exact Nat.le_refl _)
end Go.Proofs.Ytnbamacdcggaeaa
