/- Package xmp as it landed: operations as contracts of the calls. -/
import Derived.Test.YtookmfgnhflpaaaXmL1
import Derived.Test.YtookmfgnhflpaaaMore
import Derived.Laws.EntriesVeiled
namespace Go.Proofs.Ytookmfgnhflpaaa
open Go.RowKit
set_option linter.unusedVariables false
set_option linter.unusedSimpArgs false


theorem info_xa : (Try.prog.info? 49).map (·.size) = some 10 := by kernel_rfl
theorem xa_struct : ∃ n e, Try.prog.underlying 49 = some (.array n e) := ⟨_, _, Try.underlying49⟩
section
variable {W : World} {B : Nat} {t : TypeId} {cs : List Value}
theorem xa_put (h : Bx W B t cs) (vs : List Value) : Bx (W.setRow B vs.toArray) B t vs := setRow_heap W B _ vs.toArray t (0, 0) h
theorem xa_grown (W : World) (B : Nat) (vs : Array Value) : W.grownBy (W.setRow B vs) (some B) :=
  ⟨rfl, rfl, rfl, by simp [World.setRow], fun i _ hne => setRow_other W B i vs (fun e => hne (by rw [e]))⟩
theorem xa_gset (W : World) (q : Addr) (u : Value) : W.grownBy (W.setCell q u) (some q.block) :=
  ⟨rfl, rfl, rfl, by simp, fun i hi hne => Below.heap_setCell W q u i (fun e => hne (by rw [e]))⟩
/-- one is loaded whole, in a plain region -/
theorem xa_load {ops : Array Oper} {rest : List Oper} {o : Oper} {a : Act} {Q : Exit → Act → World → Prop} (hgd : o.guard = none) (x : Operand) (ho : o.op = .load 49 x) (hx : a.eval x = .pointer (some ⟨B, 0, none⟩))
    (h : Bx W B t cs) (hl : cs.length = 10) (k : wpList Try.prog ops Q rest (a.put o.dst (.agg cs.toArray)) W) : wpList Try.prog ops Q (o :: rest) a W := by
  obtain ⟨n', e', hu⟩ := xa_struct
  exact wpList_load_row hgd _ x ho B hx t cs.toArray (0, 0) _ h hu rfl (by rw [info_xa]; simp [hl]) k
/-- one is stored whole -/
theorem xa_store {ops : Array Oper} {rest : List Oper} {o : Oper} {a : Act} {Q : Exit → Act → World → Prop} (hgd : o.guard = none) (x y : Operand) (ho : o.op = .store 49 x y) (hx : a.eval x = .pointer (some ⟨B, 0, none⟩))
    (vs : List Value) (hy : a.eval y = .agg vs.toArray) (h : Bx W B t cs) (hl : cs.length = 10) (hv : vs.length = 10) (h1 : vs.all (·.oneCell') = true) (k : wpList Try.prog ops Q rest (a.put o.dst undef) (W.setRow B vs.toArray)) : wpList Try.prog ops Q (o :: rest) a W :=
  wpList_store_row hgd _ x y ho B vs.toArray hx hy t cs.toArray h (by rw [info_xa]; simp [hv]) (by simp [hl, hv]) (by simpa using h1) k
theorem xa_var (h : Bx W B t cs) (hl : cs.length = 10) : (Go.loadVar 49 ⟨B, 0, none⟩).run Try.prog W = .ok (.agg cs.toArray) W := by
  obtain ⟨n', e', hu⟩ := xa_struct
  exact run_loadVar_row W B t 49 cs.toArray (0, 0) _ h hu rfl (by rw [info_xa]; simp [hl])
/-- one is loaded whole, in a region that draws its order -/
theorem xa_yields {ops : Array Oper} {S : World → Prop} {op : Oper} {a : Act} (hw : Region.wanted op (yielded ops a.tmps) = true) (x : Operand) (ho : op.op = .load 49 x)
    (hx : a.eval x = .pointer (some ⟨B, 0, none⟩)) (cs : List Value) (hl : cs.length = 10) (t : TypeId) (hS : ∀ W, S W → Bx W B t cs) : YieldsIf Try.prog ops S op (.agg cs.toArray) a := by
  obtain ⟨n', e', hu⟩ := xa_struct
  exact .inl ⟨hw, fun w hw' => by
    unfold execOp
    simp only [ho, hx, Instr.loadAt, Instr.sureAddr, Sem.run_bind, Sem.run_pure, Result.andThen_ok, run_loadVar_row w B t 49 cs.toArray (0, 0) _ (hS w hw') hu rfl (by rw [info_xa]; simp [hl])]⟩
variable {fn : Func} {tmps : Array Value} {R : Ending → World → Prop} {v u : Value} {ds : List Deferred} {p q r : Tmp}
/-- a box alone, a box and one or two slots: what a call hands back -/
theorem xa_end1 (hr : fn.results = #[.cell p 49]) (h2 : tmps.getD p undef = .pointer (some ⟨B, 0, none⟩))
    (e : Bx W B t cs) (hl : cs.length = 10) (hd : ds = []) (h : R (.returned (.agg cs.toArray)) W) : bodyPost Try.prog fn R .ret { tmps := tmps, defers := ds } W := by
  have l2 := xa_var e hl
  have h2a : tmps[p]?.getD undef = .pointer (some ⟨B, 0, none⟩) := by simpa using h2
  refine bodyPost_ret (v := .agg cs.toArray) ?_ hd h
  simp [results, hr, h2a, asAddr, l2]
theorem xa_end2 (hr : fn.results = #[.cell p 49, .tmp q]) (h2 : tmps.getD p undef = .pointer (some ⟨B, 0, none⟩)) (h3 : tmps.getD q undef = v)
    (e : Bx W B t cs) (hl : cs.length = 10) (hd : ds = []) (h : R (.returned (.tuple #[.agg cs.toArray, v])) W) : bodyPost Try.prog fn R .ret { tmps := tmps, defers := ds } W := by
  have l2 := xa_var e hl
  have h2a : tmps[p]?.getD undef = .pointer (some ⟨B, 0, none⟩) := by simpa using h2
  have h2b : tmps[q]?.getD undef = v := by simpa using h3
  refine bodyPost_ret (v := .tuple #[.agg cs.toArray, v]) ?_ hd h
  simp [results, hr, h2a, h2b, asAddr, l2]
theorem xa_end3 (hr : fn.results = #[.cell p 49, .tmp q, .tmp r]) (h2 : tmps.getD p undef = .pointer (some ⟨B, 0, none⟩)) (h3 : tmps.getD q undef = v) (h4 : tmps.getD r undef = u)
    (e : Bx W B t cs) (hl : cs.length = 10) (hd : ds = []) (h : R (.returned (.tuple #[.agg cs.toArray, v, u])) W) : bodyPost Try.prog fn R .ret { tmps := tmps, defers := ds } W := by
  have l2 := xa_var e hl
  have h2a : tmps[p]?.getD undef = .pointer (some ⟨B, 0, none⟩) := by simpa using h2
  have h2b : tmps[q]?.getD undef = v := by simpa using h3
  have h2c : tmps[r]?.getD undef = u := by simpa using h4
  refine bodyPost_ret (v := .tuple #[.agg cs.toArray, v, u]) ?_ hd h
  simp [results, hr, h2a, h2b, h2c, asAddr, l2]
end

theorem info_xo : (Try.prog.info? 48).map (·.size) = some 2 := by kernel_rfl
theorem xo_struct : ∃ fs, Try.prog.underlying 48 = some (.struct fs) := ⟨_, Try.underlying48⟩
section
variable {W : World} {B : Nat} {t : TypeId} {cs : List Value}
theorem xo_put (h : Bx W B t cs) (vs : List Value) : Bx (W.setRow B vs.toArray) B t vs := setRow_heap W B _ vs.toArray t (0, 0) h
theorem xo_grown (W : World) (B : Nat) (vs : Array Value) : W.grownBy (W.setRow B vs) (some B) :=
  ⟨rfl, rfl, rfl, by simp [World.setRow], fun i _ hne => setRow_other W B i vs (fun e => hne (by rw [e]))⟩
theorem xo_gset (W : World) (q : Addr) (u : Value) : W.grownBy (W.setCell q u) (some q.block) :=
  ⟨rfl, rfl, rfl, by simp, fun i hi hne => Below.heap_setCell W q u i (fun e => hne (by rw [e]))⟩
/-- one is loaded whole, in a plain region -/
theorem xo_load {ops : Array Oper} {rest : List Oper} {o : Oper} {a : Act} {Q : Exit → Act → World → Prop} (hgd : o.guard = none) (x : Operand) (ho : o.op = .load 48 x) (hx : a.eval x = .pointer (some ⟨B, 0, none⟩))
    (h : Bx W B t cs) (hl : cs.length = 2) (k : wpList Try.prog ops Q rest (a.put o.dst (.agg cs.toArray)) W) : wpList Try.prog ops Q (o :: rest) a W := by
  obtain ⟨fs, hu⟩ := xo_struct
  exact wpList_load_row hgd _ x ho B hx t cs.toArray (0, 0) _ h hu rfl (by rw [info_xo]; simp [hl]) k
/-- one is stored whole -/
theorem xo_store {ops : Array Oper} {rest : List Oper} {o : Oper} {a : Act} {Q : Exit → Act → World → Prop} (hgd : o.guard = none) (x y : Operand) (ho : o.op = .store 48 x y) (hx : a.eval x = .pointer (some ⟨B, 0, none⟩))
    (vs : List Value) (hy : a.eval y = .agg vs.toArray) (h : Bx W B t cs) (hl : cs.length = 2) (hv : vs.length = 2) (h1 : vs.all (·.oneCell') = true) (k : wpList Try.prog ops Q rest (a.put o.dst undef) (W.setRow B vs.toArray)) : wpList Try.prog ops Q (o :: rest) a W :=
  wpList_store_row hgd _ x y ho B vs.toArray hx hy t cs.toArray h (by rw [info_xo]; simp [hv]) (by simp [hl, hv]) (by simpa using h1) k
theorem xo_var (h : Bx W B t cs) (hl : cs.length = 2) : (Go.loadVar 48 ⟨B, 0, none⟩).run Try.prog W = .ok (.agg cs.toArray) W := by
  obtain ⟨fs, hu⟩ := xo_struct
  exact run_loadVar_row W B t 48 cs.toArray (0, 0) _ h hu rfl (by rw [info_xo]; simp [hl])
/-- one is loaded whole, in a region that draws its order -/
theorem xo_yields {ops : Array Oper} {S : World → Prop} {op : Oper} {a : Act} (hw : Region.wanted op (yielded ops a.tmps) = true) (x : Operand) (ho : op.op = .load 48 x)
    (hx : a.eval x = .pointer (some ⟨B, 0, none⟩)) (cs : List Value) (hl : cs.length = 2) (t : TypeId) (hS : ∀ W, S W → Bx W B t cs) : YieldsIf Try.prog ops S op (.agg cs.toArray) a := by
  obtain ⟨fs, hu⟩ := xo_struct
  exact .inl ⟨hw, fun w hw' => by
    unfold execOp
    simp only [ho, hx, Instr.loadAt, Instr.sureAddr, Sem.run_bind, Sem.run_pure, Result.andThen_ok, run_loadVar_row w B t 48 cs.toArray (0, 0) _ (hS w hw') hu rfl (by rw [info_xo]; simp [hl])]⟩
variable {fn : Func} {tmps : Array Value} {R : Ending → World → Prop} {v u : Value} {ds : List Deferred} {p q r : Tmp}
/-- a box alone, a box and one or two slots: what a call hands back -/
theorem xo_end1 (hr : fn.results = #[.cell p 48]) (h2 : tmps.getD p undef = .pointer (some ⟨B, 0, none⟩))
    (e : Bx W B t cs) (hl : cs.length = 2) (hd : ds = []) (h : R (.returned (.agg cs.toArray)) W) : bodyPost Try.prog fn R .ret { tmps := tmps, defers := ds } W := by
  have l2 := xo_var e hl
  have h2a : tmps[p]?.getD undef = .pointer (some ⟨B, 0, none⟩) := by simpa using h2
  refine bodyPost_ret (v := .agg cs.toArray) ?_ hd h
  simp [results, hr, h2a, asAddr, l2]
theorem xo_end2 (hr : fn.results = #[.cell p 48, .tmp q]) (h2 : tmps.getD p undef = .pointer (some ⟨B, 0, none⟩)) (h3 : tmps.getD q undef = v)
    (e : Bx W B t cs) (hl : cs.length = 2) (hd : ds = []) (h : R (.returned (.tuple #[.agg cs.toArray, v])) W) : bodyPost Try.prog fn R .ret { tmps := tmps, defers := ds } W := by
  have l2 := xo_var e hl
  have h2a : tmps[p]?.getD undef = .pointer (some ⟨B, 0, none⟩) := by simpa using h2
  have h2b : tmps[q]?.getD undef = v := by simpa using h3
  refine bodyPost_ret (v := .tuple #[.agg cs.toArray, v]) ?_ hd h
  simp [results, hr, h2a, h2b, asAddr, l2]
theorem xo_end3 (hr : fn.results = #[.cell p 48, .tmp q, .tmp r]) (h2 : tmps.getD p undef = .pointer (some ⟨B, 0, none⟩)) (h3 : tmps.getD q undef = v) (h4 : tmps.getD r undef = u)
    (e : Bx W B t cs) (hl : cs.length = 2) (hd : ds = []) (h : R (.returned (.tuple #[.agg cs.toArray, v, u])) W) : bodyPost Try.prog fn R .ret { tmps := tmps, defers := ds } W := by
  have l2 := xo_var e hl
  have h2a : tmps[p]?.getD undef = .pointer (some ⟨B, 0, none⟩) := by simpa using h2
  have h2b : tmps[q]?.getD undef = v := by simpa using h3
  have h2c : tmps[r]?.getD undef = u := by simpa using h4
  refine bodyPost_ret (v := .tuple #[.agg cs.toArray, v, u]) ?_ hd h
  simp [results, hr, h2a, h2b, h2c, asAddr, l2]
end

theorem clx_any (n low high : Int) (w : World) : Calls Try.prog 31 #[.int .i64 n, .int .i64 low, .int .i64 high] w fun e w' => e = .returned (.int .i64 (cl2 n low high)) ∧ w = w' := clamp_any n low high w
theorem ent_xop0 : ∀ args w, (callFunc 41 args).run Try.prog w = .ok (.enter 41 args) w := enters_of Try.func41 (by kernel_rfl) rfl
theorem ent_xop1 : ∀ args w, (callFunc 42 args).run Try.prog w = .ok (.enter 42 args) w := enters_of Try.func42 (by kernel_rfl) rfl
theorem ent_xop2 : ∀ args w, (callFunc 43 args).run Try.prog w = .ok (.enter 43 args) w := enters_of Try.func43 (by kernel_rfl) rfl
theorem ent_xop3 : ∀ args w, (callFunc 44 args).run Try.prog w = .ok (.enter 44 args) w := enters_of Try.func44 (by kernel_rfl) rfl
theorem ent_xop4 : ∀ args w, (callFunc 45 args).run Try.prog w = .ok (.enter 45 args) w := enters_of Try.func45 (by kernel_rfl) rfl

set_option maxRecDepth 100000 in
set_option maxHeartbeats 8000000 in
theorem xops_any (mss : Int) (F : Nat) (w : World) (hF : w.heap.size = F) :
    Calls Try.prog 30 #[.int .i64 mss] w fun e w' => e = .returned (.agg #[.int .i64 1099511627776, (.func (.func 41) #[] #[]), .int .i64 mss, (.func (.func 42) #[] #[]), .int .i64 1024, (.func (.func 43) #[] #[]), .int .i64 0, (.func (.func 44) #[] #[.pointer (some ⟨F, 0, none⟩)]), .int .i64 0, (.func (.func 45) #[] #[.pointer (some ⟨F, 0, none⟩)])]) ∧ Bx w' F 3 [.int .i64 mss] ∧ Below F w w' := by
  have e0 := (Bx.new w 3 [.int .i64 mss]).alloc (.cells #[.int .i64 0, .nilFunc, .int .i64 0, .nilFunc, .int .i64 0, .nilFunc, .int .i64 0, .nilFunc, .int .i64 0, .nilFunc] 49)
  have y0 := Bx.new (w.alloc (.cells #[.int .i64 mss] 3)) 49 [.int .i64 0, .nilFunc, .int .i64 0, .nilFunc, .int .i64 0, .nilFunc, .int .i64 0, .nilFunc, .int .i64 0, .nilFunc]
  rw [World.size_alloc] at y0
  rw [hF] at e0 y0
  have b0 : Below F w ((w.alloc (.cells #[.int .i64 mss] 3)).alloc (.cells #[.int .i64 0, .nilFunc, .int .i64 0, .nilFunc, .int .i64 0, .nilFunc, .int .i64 0, .nilFunc, .int .i64 0, .nilFunc] 49)) := by rw [← hF]; exact ((Below.refl _ _).alloc (Nat.le_refl _) _).alloc (by simp) _
  go_enter Try.func30, Try.ntmps30
  go_upto_region 1 with fail
  try rw [hF]
  generalize (w.alloc (.cells #[.int .i64 mss] 3)).alloc (.cells #[.int .i64 0, .nilFunc, .int .i64 0, .nilFunc, .int .i64 0, .nilFunc, .int .i64 0, .nilFunc, .int .i64 0, .nilFunc] 49) = w1 at e0 y0 b0 ⊢
  have c0 := e0.cell 0 rfl
  have hFs := Nat.le_of_lt e0.lt
  go_wp2_with (refine xa_store rfl (.tmp 2) (.tmp 11) rfl rfl [.int .i64 1099511627776, (.func (.func 41) #[] #[]), .int .i64 mss, (.func (.func 42) #[] #[]), .int .i64 1024, (.func (.func 43) #[] #[]), .int .i64 0, (.func (.func 44) #[] #[.pointer (some ⟨F, 0, none⟩)]), .int .i64 0, (.func (.func 45) #[] #[.pointer (some ⟨F, 0, none⟩)])] rfl y0 rfl rfl rfl ?_)
  refine xa_end1 (by rfl) (by rfl) (xa_put y0 [.int .i64 1099511627776, (.func (.func 41) #[] #[]), .int .i64 mss, (.func (.func 42) #[] #[]), .int .i64 1024, (.func (.func 43) #[] #[]), .int .i64 0, (.func (.func 44) #[] #[.pointer (some ⟨F, 0, none⟩)]), .int .i64 0, (.func (.func 45) #[] #[.pointer (some ⟨F, 0, none⟩)])]) rfl rfl ?_
  exact ⟨rfl, e0.grown (xa_grown _ (F + 1) #[.int .i64 1099511627776, (.func (.func 41) #[] #[]), .int .i64 mss, (.func (.func 42) #[] #[]), .int .i64 1024, (.func (.func 43) #[] #[]), .int .i64 0, (.func (.func 44) #[] #[.pointer (some ⟨F, 0, none⟩)]), .int .i64 0, (.func (.func 45) #[] #[.pointer (some ⟨F, 0, none⟩)])]) (fun e => by cases e), b0.grown (xa_grown _ (F + 1) #[.int .i64 1099511627776, (.func (.func 41) #[] #[]), .int .i64 mss, (.func (.func 42) #[] #[]), .int .i64 1024, (.func (.func 43) #[] #[]), .int .i64 0, (.func (.func 44) #[] #[.pointer (some ⟨F, 0, none⟩)]), .int .i64 0, (.func (.func 45) #[] #[.pointer (some ⟨F, 0, none⟩)])]) hFs (fun k hk => by cases hk; omega)⟩
end Go.Proofs.Ytookmfgnhflpaaa
