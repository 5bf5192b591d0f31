/- The reference of package sent: Span, Flight, Same as contracts of the calls. -/
import Derived.Test.YtnbamacdcggaeaaStRef2
namespace Go.Proofs.Ytnbamacdcggaeaa
open Go.RowKit
set_option linter.unusedVariables false
set_option linter.unusedSimpArgs false

theorem info_sg : (Try.prog.info? 37).map (·.size) = some 2 := by kernel_rfl
theorem sg_struct : ∃ fs, Try.prog.underlying 37 = some (.struct fs) := ⟨_, Try.underlying37⟩
section
variable {W : World} {B : Nat} {t : TypeId} {cs : List Value}
theorem sg_put (h : Bx W B t cs) (vs : List Value) : Bx (W.setRow B vs.toArray) B t vs := setRow_heap W B _ vs.toArray t (0, 0) h
theorem sg_grown (W : World) (B : Nat) (vs : Array Value) : W.grownBy (W.setRow B vs) (some B) :=
  ⟨rfl, rfl, rfl, by simp [World.setRow], fun i _ hne => setRow_other W B i vs (fun e => hne (by rw [e]))⟩
theorem sg_gset (W : World) (q : Addr) (u : Value) : W.grownBy (W.setCell q u) (some q.block) :=
  ⟨rfl, rfl, rfl, by simp, fun i hi hne => Below.heap_setCell W q u i (fun e => hne (by rw [e]))⟩
/-- one is loaded whole, in a plain region -/
theorem sg_load {ops : Array Oper} {rest : List Oper} {o : Oper} {a : Act} {Q : Exit → Act → World → Prop} (hgd : o.guard = none) (x : Operand) (ho : o.op = .load 37 x) (hx : a.eval x = .pointer (some ⟨B, 0, none⟩))
    (h : Bx W B t cs) (hl : cs.length = 2) (k : wpList Try.prog ops Q rest (a.put o.dst (.agg cs.toArray)) W) : wpList Try.prog ops Q (o :: rest) a W := by
  obtain ⟨fs, hu⟩ := sg_struct
  exact wpList_load_row hgd _ x ho B hx t cs.toArray (0, 0) _ h hu rfl (by rw [info_sg]; simp [hl]) k
/-- one is stored whole -/
theorem sg_store {ops : Array Oper} {rest : List Oper} {o : Oper} {a : Act} {Q : Exit → Act → World → Prop} (hgd : o.guard = none) (x y : Operand) (ho : o.op = .store 37 x y) (hx : a.eval x = .pointer (some ⟨B, 0, none⟩))
    (vs : List Value) (hy : a.eval y = .agg vs.toArray) (h : Bx W B t cs) (hl : cs.length = 2) (hv : vs.length = 2) (h1 : vs.all (·.oneCell') = true) (k : wpList Try.prog ops Q rest (a.put o.dst undef) (W.setRow B vs.toArray)) : wpList Try.prog ops Q (o :: rest) a W :=
  wpList_store_row hgd _ x y ho B vs.toArray hx hy t cs.toArray h (by rw [info_sg]; simp [hv]) (by simp [hl, hv]) (by simpa using h1) k
theorem sg_var (h : Bx W B t cs) (hl : cs.length = 2) : (Go.loadVar 37 ⟨B, 0, none⟩).run Try.prog W = .ok (.agg cs.toArray) W := by
  obtain ⟨fs, hu⟩ := sg_struct
  exact run_loadVar_row W B t 37 cs.toArray (0, 0) _ h hu rfl (by rw [info_sg]; simp [hl])
/-- one is loaded whole, in a region that draws its order -/
theorem sg_yields {ops : Array Oper} {S : World → Prop} {op : Oper} {a : Act} (hw : Region.wanted op (yielded ops a.tmps) = true) (x : Operand) (ho : op.op = .load 37 x)
    (hx : a.eval x = .pointer (some ⟨B, 0, none⟩)) (cs : List Value) (hl : cs.length = 2) (t : TypeId) (hS : ∀ W, S W → Bx W B t cs) : YieldsIf Try.prog ops S op (.agg cs.toArray) a := by
  obtain ⟨fs, hu⟩ := sg_struct
  exact .inl ⟨hw, fun w hw' => by
    unfold execOp
    simp only [ho, hx, Instr.loadAt, Instr.sureAddr, Sem.run_bind, Sem.run_pure, Result.andThen_ok, run_loadVar_row w B t 37 cs.toArray (0, 0) _ (hS w hw') hu rfl (by rw [info_sg]; simp [hl])]⟩
variable {fn : Func} {tmps : Array Value} {R : Ending → World → Prop} {v u : Value} {ds : List Deferred} {p q r : Tmp}
/-- a box alone, a box and one or two slots: what a call hands back -/
theorem sg_end1 (hr : fn.results = #[.cell p 37]) (h2 : tmps.getD p undef = .pointer (some ⟨B, 0, none⟩))
    (e : Bx W B t cs) (hl : cs.length = 2) (hd : ds = []) (h : R (.returned (.agg cs.toArray)) W) : bodyPost Try.prog fn R .ret { tmps := tmps, defers := ds } W := by
  have l2 := sg_var e hl
  have h2a : tmps[p]?.getD undef = .pointer (some ⟨B, 0, none⟩) := by simpa using h2
  refine bodyPost_ret (v := .agg cs.toArray) ?_ hd h
  simp [results, hr, h2a, asAddr, l2]
theorem sg_end2 (hr : fn.results = #[.cell p 37, .tmp q]) (h2 : tmps.getD p undef = .pointer (some ⟨B, 0, none⟩)) (h3 : tmps.getD q undef = v)
    (e : Bx W B t cs) (hl : cs.length = 2) (hd : ds = []) (h : R (.returned (.tuple #[.agg cs.toArray, v])) W) : bodyPost Try.prog fn R .ret { tmps := tmps, defers := ds } W := by
  have l2 := sg_var e hl
  have h2a : tmps[p]?.getD undef = .pointer (some ⟨B, 0, none⟩) := by simpa using h2
  have h2b : tmps[q]?.getD undef = v := by simpa using h3
  refine bodyPost_ret (v := .tuple #[.agg cs.toArray, v]) ?_ hd h
  simp [results, hr, h2a, h2b, asAddr, l2]
theorem sg_end3 (hr : fn.results = #[.cell p 37, .tmp q, .tmp r]) (h2 : tmps.getD p undef = .pointer (some ⟨B, 0, none⟩)) (h3 : tmps.getD q undef = v) (h4 : tmps.getD r undef = u)
    (e : Bx W B t cs) (hl : cs.length = 2) (hd : ds = []) (h : R (.returned (.tuple #[.agg cs.toArray, v, u])) W) : bodyPost Try.prog fn R .ret { tmps := tmps, defers := ds } W := by
  have l2 := sg_var e hl
  have h2a : tmps[p]?.getD undef = .pointer (some ⟨B, 0, none⟩) := by simpa using h2
  have h2b : tmps[q]?.getD undef = v := by simpa using h3
  have h2c : tmps[r]?.getD undef = u := by simpa using h4
  refine bodyPost_ret (v := .tuple #[.agg cs.toArray, v, u]) ?_ hd h
  simp [results, hr, h2a, h2b, h2c, asAddr, l2]
end

theorem flyL_bd {x : Prt} (h : POk x) : 0 ≤ flyL x ∧ flyL x ≤ 1460 ∧ flyL x ≤ x.len := by
  have := h.l1; have := h.l2; unfold flyL; split <;> omega
theorem flySum_nil : flySum [] = 0 := rfl
theorem flySum_bd {l : List Prt} (h : ChainTo l l.length) : ∀ k, k ≤ l.length → 0 ≤ flySum (l.take k) ∧ flySum (l.take k) ≤ 1460 * (k : Int) := by
  intro k
  induction k with
  | zero => intro _; exact ⟨by simp [flySum_nil], by simp [flySum_nil]⟩
  | succ k ih =>
    intro hk
    have h1 := ih (by omega)
    have h2 := flyL_bd (h k (by omega)).1
    rw [take_ge (by omega), flySum_snoc]
    push_cast
    omega

set_option maxRecDepth 100000 in
set_option maxHeartbeats 8000000 in
theorem rstspan_any (A : Option Addr) (n c : Nat) (l : List Prt) (w : World) (hs : Se w A n c l) :
    Calls Try.prog 22 #[.slice A n c] w fun e w' => e = .returned (.agg #[.int .i64 (spanR l).1, .int .i64 (spanR l).2]) ∧ Below w.heap.size w w' := by
  obtain ⟨B, hB⟩ : ∃ B, w.heap.size = B := ⟨_, rfl⟩
  rw [hB]
  have hl := hs.rd.len
  have m1 := hs.le
  have m2 := hs.max
  have m3 : n ≤ 9223372036854775807 := by unfold maxLen at m2; omega
  clear m1 m2
  have y0 := Bx.new w 37 [.int .i64 0, .int .i64 0]
  rw [hB] at y0
  have b0 : Below B w (w.alloc (.cells #[.int .i64 0, .int .i64 0] 37)) := by rw [← hB]; exact (Below.refl _ _).alloc (Nat.le_refl _) _
  have hs0 := hs.alloc (.cells #[.int .i64 0, .int .i64 0] 37)
  obtain ⟨x, hx⟩ : ∃ x, spanR l = x := ⟨_, rfl⟩
  rw [hx]
  have HX := Lib.hid hx
  have HL := Lib.hid hl
  clear hx hs hl
  go_enter Try.func22, Try.ntmps22
  go_upto_region 1 with fail
  generalize w.alloc (.cells #[.int .i64 0, .int .i64 0] 37) = w1 at y0 b0 hs0 ⊢
  by_cases hn : n = 0
  · subst hn
    have hx := HX.out
    rw [show spanR l = (0, 0) by unfold spanR; rw [if_neg (by rw [HL.out]; omega)]] at hx
    subst hx
    clear HX
    have c0 := y0.cell 0 rfl; have c1 := y0.cell 1 rfl; have f0 := y0.free 0; have f1 := y0.free 1
    go_wp2_with fail
    refine sg_end1 (by rfl) (by rfl) ((y0.set 0 (.int .i64 0)).set 1 (.int .i64 0)) rfl rfl ?_
    exact ⟨rfl, (b0.setCell (p := ⟨B, 0, none⟩) (Nat.le_refl _) _).setCell (p := ⟨B, 1, none⟩) (Nat.le_refl _) _⟩
  have hn0 : (n == 0) = false := by simpa using hn
  have hn1 : ((n : Int) == 0) = false := by simp; omega
  have hn2 : 0 < n := by omega
  have hm := rstmay_any A n c l w1 hs0
  cases hk : smayB l with
  | false =>
    have hx := HX.out
    rw [show spanR l = (0, 0) by unfold spanR; rw [if_neg (fun h => by rw [hk] at h; simp at h)]] at hx
    subst hx
    rw [hk] at hm
    clear HX hk hn
    go_wp2_with (go_at_call 18; refine hm.mono ?_; rintro e w2 ⟨rfl, hb2⟩; have y2 := y0.kept hb2; have b2 := b0.trans (hb2.mono (Nat.le_of_lt y0.lt)); have c0 := y2.cell 0 rfl; have c1 := y2.cell 1 rfl; have f0 := y2.free 0; have f1 := y2.free 1)
    refine sg_end1 (by rfl) (by rfl) ((y2.set 0 (.int .i64 0)).set 1 (.int .i64 0)) rfl rfl ?_
    exact ⟨rfl, (b2.setCell (p := ⟨B, 0, none⟩) (Nat.le_refl _) _).setCell (p := ⟨B, 1, none⟩) (Nat.le_refl _) _⟩
  | true =>
  rw [hk] at hm
  have hch := ((smay_iff l).1 hk).2
  obtain ⟨j, rfl⟩ : ∃ j, n = j + 1 := ⟨n - 1, by omega⟩
  have hx := HX.out
  rw [show spanR l = ((ge l 0).seq, endP (ge l j)) by unfold spanR; rw [if_pos ⟨by rw [HL.out]; omega, hk⟩, HL.out, Nat.add_sub_cancel]] at hx
  subst hx
  have hpj := (hch j (by rw [HL.out]; omega)).1
  obtain ⟨z0, z1, z2, z3⟩ := ends_bd hpj
  clear HX hk hn hch
  go_upto_region 4 with (go_at_call 18; refine hm.mono ?_; rintro e w2 ⟨rfl, hb2⟩; have y2 := y0.kept hb2; have b2 := b0.trans (hb2.mono (Nat.le_of_lt y0.lt)); have hs2 := hs0.keep hb2)
  obtain ⟨b, o, rfl, hbl, hc⟩ := hs2.rd.at_ (by omega)
  have X := prt_at hc (show 0 < j + 1 by omega)
  have Y := prt_at hc (show j < j + 1 by omega)
  simp only [Nat.zero_mul, Nat.add_zero] at X
  obtain ⟨p, hp⟩ : ∃ p, ge l 0 = p := ⟨_, rfl⟩
  obtain ⟨p', hp'⟩ : ∃ p, ge l j = p := ⟨_, rfl⟩
  rw [hp] at X; rw [hp'] at Y z0 z1 z2 z3
  have hj1 : (0 : Int) < (j : Int) + 1 := by omega
  have hj2 : (0 : Int) ≤ (j : Int) + 1 := by omega
  have hj4 : (j : Int) < (j : Int) + 1 := by omega
  have hs3 : IntKind.i64.wrap (j : Int) = (j : Int) := IntWalk.i64_in _ (by omega)
  have hs1 : IntKind.i64.wrap (p'.seq + p'.len) = p'.seq + p'.len := IntWalk.i64_in _ (by omega)
  have HP := Lib.hid hp; have HP' := Lib.hid hp'
  clear hp hp' hc hpj
  have cX0 := X.c0; have cY0 := Y.c0; have cY1 := Y.c1
  clear X Y
  refine wp_region_tail 17 19 (fun (W : World) => (W.cell? ⟨b, o, none⟩ = some (.int .i64 p.seq) ∧ W.cell? ⟨b, o + j * 9, none⟩ = some (.int .i64 p'.seq) ∧ W.cell? ⟨b, o + j * 9 + 1, none⟩ = some (.int .i64 p'.len)) ∧ Bx W B 37 [.int .i64 0, .int .i64 0] ∧ Below B w W) (by kernel_rfl) (by rfl) (by decide) ?_
  have HS : ((fun (W : World) => (W.cell? ⟨b, o, none⟩ = some (.int .i64 p.seq) ∧ W.cell? ⟨b, o + j * 9, none⟩ = some (.int .i64 p'.seq) ∧ W.cell? ⟨b, o + j * 9 + 1, none⟩ = some (.int .i64 p'.len)) ∧ Bx W B 37 [.int .i64 0, .int .i64 0] ∧ Below B w W)) w2.drew := ⟨⟨cX0, cY0, cY1⟩, y2.drew, b2.drew⟩
  refine wpAnyT_take (i := 0) (v := ?vv1) rfl (by kernel_rfl) (fun _ _ _ h => h) (Or.inl ⟨by rfl, fun w hSw => ?yy1⟩) HS ?rr1
  case yy1 =>
    (try dsimp only at hSw); go_simp
    try with_reducible rfl
  try simp only [Act.put, List.setIfInBounds_toArray, List.set_cons_zero, List.set_cons_succ]
  refine wpAnyT_take (i := 1) (v := ?vv2) rfl (by kernel_rfl) (fun _ _ _ h => h) (Or.inl ⟨by rfl, fun w hSw => ?yy2⟩) HS ?rr2
  case yy2 =>
    (try dsimp only at hSw); go_simp
    try with_reducible rfl
  try simp only [Act.put, List.setIfInBounds_toArray, List.set_cons_zero, List.set_cons_succ]
  refine wpAnyT_take (i := 2) (v := ?vv3) rfl (by kernel_rfl) (fun _ _ _ h => h) (Or.inl ⟨by rfl, fun w hSw => ?yy3⟩) HS ?rr3
  case yy3 =>
    (try dsimp only at hSw); go_simp
    try with_reducible rfl
  try simp only [Act.put, List.setIfInBounds_toArray, List.set_cons_zero, List.set_cons_succ]
  refine wpAnyT_take (i := 3) (v := ?vv4) rfl (by kernel_rfl) (fun _ _ _ h => h) (Or.inl ⟨by rfl, fun w hSw => ?yy4⟩) HS ?rr4
  case yy4 =>
    (try dsimp only at hSw); go_simp
    try with_reducible rfl
  try simp only [Act.put, List.setIfInBounds_toArray, List.set_cons_zero, List.set_cons_succ]
  refine wpAnyT_take (i := 4) (v := ?vv5) rfl (by kernel_rfl) (fun _ _ _ h => h) (Or.inl ⟨by rfl, fun w hSw => ?yy5⟩) HS ?rr5
  case yy5 =>
    (try dsimp only at hSw); go_simp
    try with_reducible rfl
  try simp only [Act.put, List.setIfInBounds_toArray, List.set_cons_zero, List.set_cons_succ]
  refine wpAnyT_take (i := 5) (v := ?vv6) rfl (by kernel_rfl) (fun _ _ _ h => h) (Or.inl ⟨by rfl, fun w hSw => ?yy6⟩) HS ?rr6
  case yy6 =>
    (try dsimp only at hSw); go_simp
    try with_reducible rfl
  try simp only [Act.put, List.setIfInBounds_toArray, List.set_cons_zero, List.set_cons_succ]
  refine wpAnyT_take (i := 6) (v := ?vv7) rfl (by kernel_rfl) (fun _ _ _ h => h) (Or.inl ⟨by rfl, fun w hSw => ?yy7⟩) HS ?rr7
  case yy7 =>
    (try dsimp only at hSw); go_simp
    try with_reducible rfl
  try simp only [Act.put, List.setIfInBounds_toArray, List.set_cons_zero, List.set_cons_succ]
  refine wpAnyT_take (i := 7) (v := ?vv8) rfl (by kernel_rfl) (fun _ _ _ h => h) (Or.inl ⟨by rfl, fun w hSw => ?yy8⟩) HS ?rr8
  case yy8 =>
    (try dsimp only at hSw); go_simp
    try with_reducible rfl
  try simp only [Act.put, List.setIfInBounds_toArray, List.set_cons_zero, List.set_cons_succ]
  refine wpAnyT_take (i := 8) (v := ?vv9) rfl (by kernel_rfl) (fun _ _ _ h => h) (Or.inl ⟨by rfl, fun w hSw => ?yy9⟩) HS ?rr9
  case yy9 =>
    (try dsimp only at hSw); go_simp
    try with_reducible rfl
  try simp only [Act.put, List.setIfInBounds_toArray, List.set_cons_zero, List.set_cons_succ]
  refine wpAnyT_take (i := 9) (v := ?vv10) rfl (by kernel_rfl) (fun _ _ _ h => h) (Or.inl ⟨by rfl, fun w hSw => ?yy10⟩) HS ?rr10
  case yy10 =>
    (try dsimp only at hSw); go_simp
    try with_reducible rfl
  try simp only [Act.put, List.setIfInBounds_toArray, List.set_cons_zero, List.set_cons_succ]
  refine wpAnyT_take (i := 10) (v := ?vv11) rfl (by kernel_rfl) (fun _ _ _ h => h) (Or.inl ⟨by rfl, fun w hSw => ?yy11⟩) HS ?rr11
  case yy11 =>
    (try dsimp only at hSw); go_simp
    try with_reducible rfl
  try simp only [Act.put, List.setIfInBounds_toArray, List.set_cons_zero, List.set_cons_succ]
  refine wpAnyT_take (i := 11) (v := ?vv12) rfl (by kernel_rfl) (fun _ _ _ h => h) (Or.inl ⟨by rfl, fun w hSw => ?yy12⟩) HS ?rr12
  case yy12 =>
    (try dsimp only at hSw); go_simp
    try with_reducible rfl
  try simp only [Act.put, List.setIfInBounds_toArray, List.set_cons_zero, List.set_cons_succ]
  refine wpAnyT_take (i := 12) (v := ?vv13) rfl (by kernel_rfl) (fun _ _ _ h => h) (Or.inl ⟨by rfl, fun w hSw => ?yy13⟩) HS ?rr13
  case yy13 =>
    (try dsimp only at hSw); go_simp
    try with_reducible rfl
  try simp only [Act.put, List.setIfInBounds_toArray, List.set_cons_zero, List.set_cons_succ]
  refine wpAnyT_take (i := 13) (v := ?vv14) rfl (by kernel_rfl) (fun _ _ _ h => h) (Or.inl ⟨by rfl, fun w hSw => ?yy14⟩) HS ?rr14
  case yy14 =>
    (try dsimp only at hSw); go_simp
    try with_reducible rfl
  try simp only [Act.put, List.setIfInBounds_toArray, List.set_cons_zero, List.set_cons_succ]
  refine wpAnyT_take (i := 14) (v := ?vv15) rfl (by kernel_rfl) (fun _ _ _ h => h) (Or.inl ⟨by rfl, fun w hSw => ?yy15⟩) HS ?rr15
  case yy15 =>
    (try dsimp only at hSw); go_simp
    try with_reducible rfl
  try simp only [Act.put, List.setIfInBounds_toArray, List.set_cons_zero, List.set_cons_succ]
  refine wpAnyT_take (i := 15) (v := ?vv16) rfl (by kernel_rfl) (fun _ _ _ h => h) (Or.inl ⟨by rfl, fun w hSw => ?yy16⟩) HS ?rr16
  case yy16 =>
    (try dsimp only at hSw); go_simp
    try with_reducible rfl
  try simp only [Act.put, List.setIfInBounds_toArray, List.set_cons_zero, List.set_cons_succ]
  refine wpAnyT_take (i := 16) (v := ?vv17) rfl (by kernel_rfl) (fun _ _ _ h => h) (Or.inl ⟨by rfl, fun w hSw => ?yy17⟩) HS ?rr17
  case yy17 =>
    (try dsimp only at hSw); go_simp
    try with_reducible rfl
  try simp only [Act.put, List.setIfInBounds_toArray, List.set_cons_zero, List.set_cons_succ]
  refine ⟨by kernel_rfl, ?_⟩
  simp only [List.drop_succ_cons, List.drop_zero]
  go_wp2_with (refine sg_store rfl (.tmp 2) (.tmp 31) rfl rfl [.int .i64 p.seq, .int .i64 (p'.seq + p'.len)] rfl HS.2.1 rfl rfl rfl ?_)
  refine sg_end1 (by rfl) (by rfl) (sg_put HS.2.1 [.int .i64 p.seq, .int .i64 (p'.seq + p'.len)]) rfl rfl ?_
  rw [HP.out, HP'.out]
  exact ⟨rfl, HS.2.2.grown (sg_grown _ B #[.int .i64 p.seq, .int .i64 (p'.seq + p'.len)]) (Nat.le_of_lt HS.2.1.lt) (fun k hk => by cases hk; exact Nat.le_refl _)⟩

set_option maxRecDepth 100000 in
set_option maxHeartbeats 8000000 in
theorem rstflight_any (A : Option Addr) (n c : Nat) (l : List Prt) (w : World) (hs : Se w A n c l) :
    Calls Try.prog 20 #[.slice A n c] w fun e w' => e = .returned (.int .i64 (flightR l)) ∧ Below w.heap.size w w' := by
  have hl := hs.rd.len
  have m1 := hs.le
  have m2 := hs.max
  have m3 : n ≤ 9223372036854775807 := by unfold maxLen at m2; omega
  clear m1 m2
  obtain ⟨x, hx⟩ : ∃ x, flightR l = x := ⟨_, rfl⟩
  rw [hx]
  have HX := Lib.hid hx
  have HA := Lib.hid hs; have HL := Lib.hid hl
  have hm := rstmay_any A n c l w hs
  clear hx hl hs
  go_enter Try.func20, Try.ntmps20
  cases hk : smayB l with
  | false =>
    have hx := HX.out
    rw [show flightR l = 0 by unfold flightR; rw [if_neg (by rw [hk]; simp)]] at hx
    subst hx
    rw [hk] at hm
    clear HX hk
    go_wp2_with (go_at_call 18; refine hm.mono ?_; rintro e w2 ⟨rfl, hb2⟩)
    go_loopw [3, 5] (fun s i wr => s = .int .i64 0 ∧ i = .int .i64 0 ∧ w2 = wr) (fun _ _ _ => 0)
    case atStart => exact ⟨rfl, rfl, rfl⟩
    case round =>
      obtain ⟨rfl, rfl, rfl⟩ := hrel
      by_cases hn0 : n = 0
      · subst hn0
        go_wp2_with fail
        go_ret
        exact ⟨rfl, hb2⟩
      · have hn1 : 0 < n := by omega
        go_wp2_with fail
        go_ret
        exact ⟨rfl, hb2⟩
  | true =>
  rw [hk] at hm
  obtain ⟨hle, hch⟩ := (smay_iff l).1 hk
  have hx := HX.out
  rw [show flightR l = flySum l by unfold flightR; rw [if_pos hk]] at hx
  have HX2 := Lib.hid hx
  have HCH := Lib.hid hch
  have hn5 : n ≤ 500 := by have := HL.out; omega
  clear HX hk hx hch hle
  go_wp2_with (go_at_call 18; refine hm.mono ?_; rintro e w2 ⟨rfl, hb2⟩)
  go_loopw [3, 5] (fun s i wr => ∃ k : Nat, k ≤ n ∧ s = .int .i64 (flySum (l.take k)) ∧ i = .int .i64 (k : Int) ∧ Below w.heap.size w wr) (fun _ i _ => n - (intOf i).toNat)
  case atStart => exact ⟨0, Nat.zero_le _, rfl, rfl, hb2⟩
  case round =>
    obtain ⟨k, hkn, rfl, rfl, hb⟩ := hrel
    by_cases hlt : k < n
    · obtain ⟨b, o, rfl, hbl, hc⟩ := HA.out.rd.at_ (by omega)
      have X := (prt_at hc hlt).keep hb hbl
      have hbd := flySum_bd HCH.out k (by rw [HL.out]; omega)
      have hfl := flyL_bd (HCH.out k (by rw [HL.out]; omega)).1
      have hsn : flySum (l.take (k + 1)) = flySum (l.take k) + flyL (ge l k) := by rw [take_ge (by rw [HL.out]; omega), flySum_snoc]
      obtain ⟨p, hp⟩ : ∃ p, ge l k = p := ⟨_, rfl⟩
      rw [hp] at X hfl hsn
      have HSN := Lib.hid hsn
      have c1 := X.c1; have c5 := X.c5; have c6 := X.c6
      clear hsn hp hc X
      obtain ⟨s, hs⟩ : ∃ s, flySum (l.take k) = s := ⟨_, rfl⟩
      rw [hs] at hbd ⊢
      have HS := Lib.hid hs
      clear hs
      have hk0 : (k : Int) < (n : Int) := by omega
      cases h5 : p.came with
      | true =>
        rw [h5] at c5
        have hz : flyL p = 0 := by unfold flyL; rw [h5]; rfl
        have HZ := Lib.hid hz; clear hz h5 hfl
        go_wp2_with fail
        go_roundw
        case rel => exact ⟨k + 1, by omega, by rw [HSN.out, HZ.out, HS.out, Int.add_zero], by go_num, hb⟩
        case measure => simp [intOf]; omega
      | false =>
      rw [h5] at c5
      cases h6 : p.lost with
      | true =>
        rw [h6] at c6
        have hz : flyL p = 0 := by unfold flyL; rw [h5, h6]; rfl
        have HZ := Lib.hid hz; clear hz h5 h6 hfl
        go_wp2_with fail
        go_roundw
        case rel => exact ⟨k + 1, by omega, by rw [HSN.out, HZ.out, HS.out, Int.add_zero], by go_num, hb⟩
        case measure => simp [intOf]; omega
      | false =>
        rw [h6] at c6
        have hz : flyL p = p.len := by unfold flyL; rw [h5, h6]; rfl
        rw [hz] at hfl
        have HZ := Lib.hid hz; clear hz h5 h6
        have hs1 : IntKind.i64.wrap (s + p.len) = s + p.len := IntWalk.i64_in _ (by omega)
        go_wp2_with fail
        go_roundw
        case rel => exact ⟨k + 1, by omega, by rw [HSN.out, HZ.out, HS.out], by go_num, hb⟩
        case measure => simp [intOf]; omega
    · obtain rfl : k = n := by omega
      have hx : flySum (l.take k) = x := by rw [← HX2.out, ← HL.out, List.take_length]
      rw [hx]
      have hd : decide (k < k) = false := decide_eq_false (by omega)
      clear hx
      go_wp2_with fail
      go_ret
      exact ⟨rfl, hb⟩
end Go.Proofs.Ytnbamacdcggaeaa
