/- The reference of package sent: Send as a contract of the call. -/
import Derived.Test.YtnbamacdcggaeaaStRef3
import Derived.Test.YtnbamacdcggaeaaRoT
import Derived.Test.YtnbamacdcggaeaaTail2
namespace Go.Proofs.Ytnbamacdcggaeaa
open Go.RowKit
set_option linter.unusedVariables false
set_option linter.unusedSimpArgs false

theorem info_st : (Try.prog.info? 24).map (·.size) = some 9 := by kernel_rfl
theorem st_struct : ∃ fs, Try.prog.underlying 24 = some (.struct fs) := ⟨_, Try.underlying24⟩
section
variable {W : World} {B : Nat} {t : TypeId} {cs : List Value}
theorem st_put (h : Bx W B t cs) (vs : List Value) : Bx (W.setRow B vs.toArray) B t vs := setRow_heap W B _ vs.toArray t (0, 0) h
theorem st_grown (W : World) (B : Nat) (vs : Array Value) : W.grownBy (W.setRow B vs) (some B) :=
  ⟨rfl, rfl, rfl, by simp [World.setRow], fun i _ hne => setRow_other W B i vs (fun e => hne (by rw [e]))⟩
theorem st_gset (W : World) (q : Addr) (u : Value) : W.grownBy (W.setCell q u) (some q.block) :=
  ⟨rfl, rfl, rfl, by simp, fun i hi hne => Below.heap_setCell W q u i (fun e => hne (by rw [e]))⟩
/-- one is loaded whole, in a plain region -/
theorem st_load {ops : Array Oper} {rest : List Oper} {o : Oper} {a : Act} {Q : Exit → Act → World → Prop} (hgd : o.guard = none) (x : Operand) (ho : o.op = .load 24 x) (hx : a.eval x = .pointer (some ⟨B, 0, none⟩))
    (h : Bx W B t cs) (hl : cs.length = 9) (k : wpList Try.prog ops Q rest (a.put o.dst (.agg cs.toArray)) W) : wpList Try.prog ops Q (o :: rest) a W := by
  obtain ⟨fs, hu⟩ := st_struct
  exact wpList_load_row hgd _ x ho B hx t cs.toArray (0, 0) _ h hu rfl (by rw [info_st]; simp [hl]) k
/-- one is stored whole -/
theorem st_store {ops : Array Oper} {rest : List Oper} {o : Oper} {a : Act} {Q : Exit → Act → World → Prop} (hgd : o.guard = none) (x y : Operand) (ho : o.op = .store 24 x y) (hx : a.eval x = .pointer (some ⟨B, 0, none⟩))
    (vs : List Value) (hy : a.eval y = .agg vs.toArray) (h : Bx W B t cs) (hl : cs.length = 9) (hv : vs.length = 9) (h1 : vs.all (·.oneCell') = true) (k : wpList Try.prog ops Q rest (a.put o.dst undef) (W.setRow B vs.toArray)) : wpList Try.prog ops Q (o :: rest) a W :=
  wpList_store_row hgd _ x y ho B vs.toArray hx hy t cs.toArray h (by rw [info_st]; simp [hv]) (by simp [hl, hv]) (by simpa using h1) k
theorem st_var (h : Bx W B t cs) (hl : cs.length = 9) : (Go.loadVar 24 ⟨B, 0, none⟩).run Try.prog W = .ok (.agg cs.toArray) W := by
  obtain ⟨fs, hu⟩ := st_struct
  exact run_loadVar_row W B t 24 cs.toArray (0, 0) _ h hu rfl (by rw [info_st]; simp [hl])
/-- one is loaded whole, in a region that draws its order -/
theorem st_yields {ops : Array Oper} {S : World → Prop} {op : Oper} {a : Act} (hw : Region.wanted op (yielded ops a.tmps) = true) (x : Operand) (ho : op.op = .load 24 x)
    (hx : a.eval x = .pointer (some ⟨B, 0, none⟩)) (cs : List Value) (hl : cs.length = 9) (t : TypeId) (hS : ∀ W, S W → Bx W B t cs) : YieldsIf Try.prog ops S op (.agg cs.toArray) a := by
  obtain ⟨fs, hu⟩ := st_struct
  exact .inl ⟨hw, fun w hw' => by
    unfold execOp
    simp only [ho, hx, Instr.loadAt, Instr.sureAddr, Sem.run_bind, Sem.run_pure, Result.andThen_ok, run_loadVar_row w B t 24 cs.toArray (0, 0) _ (hS w hw') hu rfl (by rw [info_st]; simp [hl])]⟩
variable {fn : Func} {tmps : Array Value} {R : Ending → World → Prop} {v u : Value} {ds : List Deferred} {p q r : Tmp}
/-- a box alone, a box and one or two slots: what a call hands back -/
theorem st_end1 (hr : fn.results = #[.cell p 24]) (h2 : tmps.getD p undef = .pointer (some ⟨B, 0, none⟩))
    (e : Bx W B t cs) (hl : cs.length = 9) (hd : ds = []) (h : R (.returned (.agg cs.toArray)) W) : bodyPost Try.prog fn R .ret { tmps := tmps, defers := ds } W := by
  have l2 := st_var e hl
  have h2a : tmps[p]?.getD undef = .pointer (some ⟨B, 0, none⟩) := by simpa using h2
  refine bodyPost_ret (v := .agg cs.toArray) ?_ hd h
  simp [results, hr, h2a, asAddr, l2]
theorem st_end2 (hr : fn.results = #[.cell p 24, .tmp q]) (h2 : tmps.getD p undef = .pointer (some ⟨B, 0, none⟩)) (h3 : tmps.getD q undef = v)
    (e : Bx W B t cs) (hl : cs.length = 9) (hd : ds = []) (h : R (.returned (.tuple #[.agg cs.toArray, v])) W) : bodyPost Try.prog fn R .ret { tmps := tmps, defers := ds } W := by
  have l2 := st_var e hl
  have h2a : tmps[p]?.getD undef = .pointer (some ⟨B, 0, none⟩) := by simpa using h2
  have h2b : tmps[q]?.getD undef = v := by simpa using h3
  refine bodyPost_ret (v := .tuple #[.agg cs.toArray, v]) ?_ hd h
  simp [results, hr, h2a, h2b, asAddr, l2]
theorem st_end3 (hr : fn.results = #[.cell p 24, .tmp q, .tmp r]) (h2 : tmps.getD p undef = .pointer (some ⟨B, 0, none⟩)) (h3 : tmps.getD q undef = v) (h4 : tmps.getD r undef = u)
    (e : Bx W B t cs) (hl : cs.length = 9) (hd : ds = []) (h : R (.returned (.tuple #[.agg cs.toArray, v, u])) W) : bodyPost Try.prog fn R .ret { tmps := tmps, defers := ds } W := by
  have l2 := st_var e hl
  have h2a : tmps[p]?.getD undef = .pointer (some ⟨B, 0, none⟩) := by simpa using h2
  have h2b : tmps[q]?.getD undef = v := by simpa using h3
  have h2c : tmps[r]?.getD undef = u := by simpa using h4
  refine bodyPost_ret (v := .tuple #[.agg cs.toArray, v, u]) ?_ hd h
  simp [results, hr, h2a, h2b, h2c, asAddr, l2]
end

theorem info_prt : (Try.prog.info? 24).map (fun i => (i.zero, i.size, i.bytes)) = some (some (.agg #[.int .i64 0, .int .i64 0, .int .i64 0, .int .i64 0, .int .i64 0, .bool false, .bool false, .int .i64 0, .int .i64 0]), El.k Prt, 64) := by kernel_rfl
/-- a list of parts beyond the base, and an error -/
def TellS (w w' : World) (e : Ending) (x : List Prt × Int) : Prop := ∃ G m d, e = .returned (.tuple #[.slice G m d, .int .i64 x.2]) ∧ Sne w' w.heap.size G m d x.1 ∧ Below w.heap.size w w'

set_option maxRecDepth 100000 in
set_option maxHeartbeats 8000000 in
theorem rstsend_any (A : Option Addr) (n c : Nat) (l : List Prt) (x : Prt) (w : World) (hs : Se w A n c l) (hx : PrtW x) (hn : n ≤ 1000) :
    Calls Try.prog 11 #[.slice A n c, .agg #[.int .i64 x.seq, .int .i64 x.len, .int .i64 x.dsn, .int .i64 x.at_, .int .i64 x.tries, .bool x.came, .bool x.lost, .int .i64 x.total, .int .i64 x.last]] w fun e w' => TellS w w' e (sendR l x) := by
  unfold TellS
  obtain ⟨B, hB⟩ : ∃ B, w.heap.size = B := ⟨_, rfl⟩
  rw [hB]
  have hl := hs.rd.len
  have e0 := Bx.new w 24 (El.cells x)
  rw [hB] at e0
  have b0 : Below B w (w.alloc (.cells #[.int .i64 x.seq, .int .i64 x.len, .int .i64 x.dsn, .int .i64 x.at_, .int .i64 x.tries, .bool x.came, .bool x.lost, .int .i64 x.total, .int .i64 x.last] 24)) := by rw [← hB]; exact (Below.refl _ _).alloc (Nat.le_refl _) _
  have hs0 := hs.alloc (.cells #[.int .i64 x.seq, .int .i64 x.len, .int .i64 x.dsn, .int .i64 x.at_, .int .i64 x.tries, .bool x.came, .bool x.lost, .int .i64 x.total, .int .i64 x.last] 24)
  have hnil := hs.nil
  obtain ⟨y, hy⟩ : ∃ y, sendR l x = y := ⟨_, rfl⟩
  rw [hy]
  have HY := Lib.hid hy
  have HL := Lib.hid hl; have HXW := Lib.hid hx; have HN := Lib.hid hnil
  clear hy hs hl hx hnil
  go_enter Try.func11, Try.ntmps11
  go_upto_region 1 with fail
  change Code.wp _ _ _ _ (w.alloc (.cells #[.int .i64 x.seq, .int .i64 x.len, .int .i64 x.dsn, .int .i64 x.at_, .int .i64 x.tries, .bool x.came, .bool x.lost, .int .i64 x.total, .int .i64 x.last] 24))
  generalize w.alloc (.cells #[.int .i64 x.seq, .int .i64 x.len, .int .i64 x.dsn, .int .i64 x.at_, .int .i64 x.tries, .bool x.came, .bool x.lost, .int .i64 x.total, .int .i64 x.last] 24) = w1 at e0 b0 hs0 ⊢
  obtain ⟨w2, hw2⟩ : ∃ w2, w1.drew = w2 := ⟨_, rfl⟩
  have e2 : Bx w2 B 24 (El.cells x) := by rw [← hw2]; exact e0.drew
  have b2 : Below B w w2 := by rw [← hw2]; exact b0.drew
  have hs2 : Se w2 A n c l := by rw [← hw2]; exact hs0.drew
  have hB2 : B < w2.heap.size := e2.lt
  clear e0 b0 hs0
  refine wp_region_tail 4 6 ((fun (W : World) => Bx W B 24 (El.cells x) ∧ Below w2.heap.size w2 W)) (by kernel_rfl) (by rfl) (by decide) ?_
  rw [hw2]
  have HS : (((fun (W : World) => Bx W B 24 (El.cells x) ∧ Below w2.heap.size w2 W))) w2 := ⟨e2, Below.refl _ _⟩
  clear hw2
  refine wpAnyT_take (i := 0) (v := ?vv1) rfl (by kernel_rfl) (fun _ _ _ h => h) (Or.inl ⟨by rfl, fun w hSw => ?yy1⟩) HS ?rr1
  case yy1 =>
    (try dsimp only at hSw); go_simp
    try with_reducible rfl
  try simp only [Act.put, List.setIfInBounds_toArray, List.set_cons_zero, List.set_cons_succ]
  refine wpAnyT_take (i := 2) (v := .agg #[.int .i64 x.seq, .int .i64 x.len, .int .i64 x.dsn, .int .i64 x.at_, .int .i64 x.tries, .bool x.came, .bool x.lost, .int .i64 x.total, .int .i64 x.last]) rfl (by kernel_rfl) (fun _ _ _ h => h) (st_yields (by rfl) (.tmp 3) rfl rfl (El.cells x) rfl 24 (fun W hW => hW.1)) HS ?_
  try simp only [Act.put, List.setIfInBounds_toArray, List.set_cons_zero, List.set_cons_succ]
  refine wpAnyT_two (k1 := 1) (k2 := 3) rfl rfl (by kernel_rfl) (by decide) (by decide) (fun K hK => ?_) (fun K hK => ?_)
  · refine step_appe w2 (by rfl) (.const (.slice none 0 0)) (.tmp 8) 22 (by rfl) B 24 Try.underlying22 (.agg #[.int .i64 0, .int .i64 0, .int .i64 0, .int .i64 0, .int .i64 0, .bool false, .bool false, .int .i64 0, .int .i64 0]) 64 info_prt (by decide) _ 0 ([] : List Prt) (by rfl) (by rfl) (Goe.none _ _ _) HN.out hs2.rd (by unfold maxLen; omega) (by omega) (by omega) ?_
    intro v1 w3 hg1 hgr1
    have hb3 : Below w2.heap.size w2 w3 := (Below.refl _ _).grown hgr1 (Nat.le_refl _) (fun k hk => by cases hk)
    have HG1 := Lib.hid hg1; clear hg1
    have HS : (((fun (W : World) => Bx W B 24 (El.cells x) ∧ Below w2.heap.size w2 W))) w3 := ⟨e2.kept hb3, hb3⟩
    refine hK _ _ HS ?_
    clear hK K
    try simp only [Act.put, List.setIfInBounds_toArray, List.set_cons_zero, List.set_cons_succ]
    refine wpAnyT_one (k := 3) rfl (by kernel_rfl) (by decide) (fun K hK => ?_)
    go_simp
    have hb4 : Below w2.heap.size w2 (w3.alloc (.cells (El.cells x).toArray 24)) := hb3.alloc hb3.size _
    have HS : (((fun (W : World) => Bx W B 24 (El.cells x) ∧ Below w2.heap.size w2 W))) (w3.alloc (.cells (El.cells x).toArray 24)) := ⟨e2.kept hb4, hb4⟩
    have hlit := se_one w3 (x := x) HXW.out 24
    have HG2 := Lib.hid (HG1.out.alloc (.cells (El.cells x).toArray 24))
    have hw34 : w2.heap.size ≤ w3.heap.size := hb3.size
    refine hK _ _ HS ?_
    clear hK K HG1 HS
    try simp only [Act.put, List.setIfInBounds_toArray, List.set_cons_zero, List.set_cons_succ]
    generalize w3.alloc (.cells (El.cells x).toArray 24) = w4 at hb4 hlit HG2 ⊢
    generalize w3.heap.size = P at hlit ⊢
    have b4 : Below B w w4 := b2.trans (hb4.mono (Nat.le_of_lt hB2))
    refine ⟨by kernel_rfl, ?_⟩
    simp only [List.drop_succ_cons, List.drop_zero]
    have hB4 : B ≤ w4.heap.size := Nat.le_trans (Nat.le_of_lt hB2) hb4.size
    go_upto_region 2 with (at_builtin; refine wpList_appe w4 rfl (.tmp 9) (.tmp 11) 22 rfl B 24 Try.underlying22 (.agg #[.int .i64 0, .int .i64 0, .int .i64 0, .int .i64 0, .int .i64 0, .bool false, .bool false, .int .i64 0, .int .i64 0]) 64 info_prt (by decide) _ (0 + n) ([] ++ l) rfl HG2.out rfl (fun h => by cases h) hlit.rd (by unfold maxLen; omega) (by omega) hB4 ?_; intro v3 w5 hg3 hgr3 _; have b5 : Below B w w5 := b4.grown hgr3 hB4 (fun k hk => (HG2.out.row.lt k hk).1))
    clear HG2 hlit

    have hL2 : [] ++ l ++ [x] = l ++ [x] := by simp
    obtain ⟨G, d, rfl, hsn⟩ := hg3.sne
    have hch := rschain_any G (n + 1) d (l ++ [x]) w5 (by have := hsn.se; simpa using this)
    have HSN := Lib.hid hsn
    have HLEN := HL.out
    cases hcb : chainB (l ++ [x]) with
    | false =>
      have hy := HY.out
      rw [show sendR l x = ([], 1) by unfold sendR; rw [if_neg (fun h => by rw [hcb] at h; simp at h)]] at hy
      subst hy
      rw [hcb] at hch
      clear hcb HY
      go_wp2_with (go_at_call 25; refine hch.mono ?_; rintro e w6 ⟨rfl, hb6⟩)
      go_ret2
      exact ⟨none, 0, 0, rfl, Sne.none _ _, b5.trans (hb6.mono (Nat.le_trans hB4 hgr3.size))⟩
    | true =>
    rw [hcb] at hch
    by_cases h5 : n ≤ 500
    case neg =>
      have d5 : decide ((500 : Int) < (n : Int)) = true := decide_eq_true (by omega)
      have d6 : decide (500 < n) = true := decide_eq_true (by omega)
      have hy := HY.out
      rw [show sendR l x = ([], 1) by unfold sendR; rw [if_neg (fun h => h5 (by have := h.2; omega))]] at hy
      subst hy
      clear hcb HY
      go_wp2_with (go_at_call 25; refine hch.mono ?_; rintro e w6 ⟨rfl, hb6⟩)
      go_ret2
      exact ⟨none, 0, 0, rfl, Sne.none _ _, b5.trans (hb6.mono (Nat.le_trans hB4 hgr3.size))⟩
    have d5 : decide ((500 : Int) < (n : Int)) = false := decide_eq_false (by omega)
    have d6 : decide (500 < n) = false := decide_eq_false (by omega)
    by_cases h6 : n = 500
    · have hy := HY.out
      rw [show sendR l x = ([], 4) by unfold sendR; rw [if_pos ⟨hcb, by omega⟩, if_pos (by omega)]] at hy
      subst hy
      subst h6
      clear hcb HY
      go_wp2_with (go_at_call 25; refine hch.mono ?_; rintro e w6 ⟨rfl, hb6⟩)
      go_ret2
      exact ⟨none, 0, 0, rfl, Sne.none _ _, b5.trans (hb6.mono (Nat.le_trans hB4 hgr3.size))⟩
    · have d7 : decide ((500 : Int) < (n : Int) + 1) = false := decide_eq_false (by omega)
      have d8 : decide (500 < n + 1) = false := decide_eq_false (by omega)
      have hy := HY.out
      rw [show sendR l x = (l ++ [x], 0) by unfold sendR; rw [if_pos ⟨hcb, by omega⟩, if_neg (by omega)]] at hy
      subst hy
      clear hcb HY
      go_wp2_with (go_at_call 25; refine hch.mono ?_; rintro e w6 ⟨rfl, hb6⟩; have hsn6 := HSN.out.keep hb6)
      go_ret2
      refine ⟨G, _, d, rfl, ?_, b5.trans (hb6.mono (Nat.le_trans hB4 hgr3.size))⟩
      have := hsn6
      rw [hL2] at this
      simpa using this
  · go_simp
    have hb3 : Below w2.heap.size w2 (w2.alloc (.cells (El.cells x).toArray 24)) := (Below.refl _ _).alloc (Nat.le_refl _) _
    have HS : (((fun (W : World) => Bx W B 24 (El.cells x) ∧ Below w2.heap.size w2 W))) (w2.alloc (.cells (El.cells x).toArray 24)) := ⟨e2.kept hb3, hb3⟩
    have hlit3 := se_one w2 (x := x) HXW.out 24
    have hs3 := hs2.keep hb3
    refine hK _ _ HS ?_
    clear hK K HS
    try simp only [Act.put, List.setIfInBounds_toArray, List.set_cons_zero, List.set_cons_succ]
    generalize w2.alloc (.cells (El.cells x).toArray 24) = w3 at hb3 hlit3 hs3 ⊢
    generalize hP2 : w2.heap.size = P at hlit3 ⊢
    have hB3 : B ≤ w3.heap.size := Nat.le_trans (Nat.le_of_lt hB2) hb3.size
    refine wpAnyT_one (k := 1) rfl (by kernel_rfl) (by decide) (fun K hK => ?_)
    refine step_appe w3 (by rfl) (.const (.slice none 0 0)) (.tmp 8) 22 (by rfl) B 24 Try.underlying22 (.agg #[.int .i64 0, .int .i64 0, .int .i64 0, .int .i64 0, .int .i64 0, .bool false, .bool false, .int .i64 0, .int .i64 0]) 64 info_prt (by decide) _ 0 ([] : List Prt) (by rfl) (by rfl) (Goe.none _ _ _) HN.out hs3.rd (by unfold maxLen; omega) (by omega) hB3 ?_
    intro v1 w4 hg1 hgr1
    have hb34 : Below w3.heap.size w3 w4 := (Below.refl _ _).grown hgr1 (Nat.le_refl _) (fun k hk => by cases hk)
    have hb4 : Below w2.heap.size w2 w4 := hb3.trans (hb34.mono hb3.size)
    have hlit := hlit3.keep hb34
    have HG2 := Lib.hid hg1; clear hg1
    have HS : (fun (W : World) => Bx W B 24 (El.cells x) ∧ Below P w2 W) w4 := ⟨e2.kept hb4, hP2 ▸ hb4⟩
    refine hK _ _ HS ?_
    clear hK K HS
    try simp only [Act.put, List.setIfInBounds_toArray, List.set_cons_zero, List.set_cons_succ]
    have b4 : Below B w w4 := b2.trans (hb4.mono (Nat.le_of_lt hB2))
    refine ⟨by kernel_rfl, ?_⟩
    simp only [List.drop_succ_cons, List.drop_zero]
    have hB4 : B ≤ w4.heap.size := Nat.le_trans (Nat.le_of_lt hB2) hb4.size
    go_upto_region 2 with (at_builtin; refine wpList_appe w4 rfl (.tmp 9) (.tmp 11) 22 rfl B 24 Try.underlying22 (.agg #[.int .i64 0, .int .i64 0, .int .i64 0, .int .i64 0, .int .i64 0, .bool false, .bool false, .int .i64 0, .int .i64 0]) 64 info_prt (by decide) _ (0 + n) ([] ++ l) rfl HG2.out rfl (fun h => by cases h) hlit.rd (by unfold maxLen; omega) (by omega) hB4 ?_; intro v3 w5 hg3 hgr3 _; have b5 : Below B w w5 := b4.grown hgr3 hB4 (fun k hk => (HG2.out.row.lt k hk).1))
    clear HG2 hlit

    have hL2 : [] ++ l ++ [x] = l ++ [x] := by simp
    obtain ⟨G, d, rfl, hsn⟩ := hg3.sne
    have hch := rschain_any G (n + 1) d (l ++ [x]) w5 (by have := hsn.se; simpa using this)
    have HSN := Lib.hid hsn
    have HLEN := HL.out
    cases hcb : chainB (l ++ [x]) with
    | false =>
      have hy := HY.out
      rw [show sendR l x = ([], 1) by unfold sendR; rw [if_neg (fun h => by rw [hcb] at h; simp at h)]] at hy
      subst hy
      rw [hcb] at hch
      clear hcb HY
      go_wp2_with (go_at_call 25; refine hch.mono ?_; rintro e w6 ⟨rfl, hb6⟩)
      go_ret2
      exact ⟨none, 0, 0, rfl, Sne.none _ _, b5.trans (hb6.mono (Nat.le_trans hB4 hgr3.size))⟩
    | true =>
    rw [hcb] at hch
    by_cases h5 : n ≤ 500
    case neg =>
      have d5 : decide ((500 : Int) < (n : Int)) = true := decide_eq_true (by omega)
      have d6 : decide (500 < n) = true := decide_eq_true (by omega)
      have hy := HY.out
      rw [show sendR l x = ([], 1) by unfold sendR; rw [if_neg (fun h => h5 (by have := h.2; omega))]] at hy
      subst hy
      clear hcb HY
      go_wp2_with (go_at_call 25; refine hch.mono ?_; rintro e w6 ⟨rfl, hb6⟩)
      go_ret2
      exact ⟨none, 0, 0, rfl, Sne.none _ _, b5.trans (hb6.mono (Nat.le_trans hB4 hgr3.size))⟩
    have d5 : decide ((500 : Int) < (n : Int)) = false := decide_eq_false (by omega)
    have d6 : decide (500 < n) = false := decide_eq_false (by omega)
    by_cases h6 : n = 500
    · have hy := HY.out
      rw [show sendR l x = ([], 4) by unfold sendR; rw [if_pos ⟨hcb, by omega⟩, if_pos (by omega)]] at hy
      subst hy
      subst h6
      clear hcb HY
      go_wp2_with (go_at_call 25; refine hch.mono ?_; rintro e w6 ⟨rfl, hb6⟩)
      go_ret2
      exact ⟨none, 0, 0, rfl, Sne.none _ _, b5.trans (hb6.mono (Nat.le_trans hB4 hgr3.size))⟩
    · have d7 : decide ((500 : Int) < (n : Int) + 1) = false := decide_eq_false (by omega)
      have d8 : decide (500 < n + 1) = false := decide_eq_false (by omega)
      have hy := HY.out
      rw [show sendR l x = (l ++ [x], 0) by unfold sendR; rw [if_pos ⟨hcb, by omega⟩, if_neg (by omega)]] at hy
      subst hy
      clear hcb HY
      go_wp2_with (go_at_call 25; refine hch.mono ?_; rintro e w6 ⟨rfl, hb6⟩; have hsn6 := HSN.out.keep hb6)
      go_ret2
      refine ⟨G, _, d, rfl, ?_, b5.trans (hb6.mono (Nat.le_trans hB4 hgr3.size))⟩
      have := hsn6
      rw [hL2] at this
      simpa using this
end Go.Proofs.Ytnbamacdcggaeaa
