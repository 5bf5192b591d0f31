/- The reference of package marks: in, May, Told as contracts of the calls. -/
import Derived.Test.YtkgbbmjobjcepaaProg
import Derived.Test.YtkgbbmjobjcepaaMs
import Derived.Test.YtkgbbmjobjcepaaBx
import Derived.WalkKit
import Derived.WalkSpells
import Derived.WalkSmall
import Derived.Lib.Hide
import Derived.Below
import Derived.Outline
import Derived.Laws.Tables
import Derived.Laws.Rows
import Derived.OrdersHeld
import Derived.Deep.QuietTactic
import Derived.BigQuiet
import Derived.IntWalk
import Derived.Deep.DeepCutAuto
namespace Go.Proofs.Ytkgbbmjobjcepaa
open Go.RowKit
set_option linter.unusedVariables false
set_option linter.unusedSimpArgs false

theorem info_ms : (Try.prog.info? 23).map (·.size) = some 5 := by kernel_rfl
theorem ms_struct : ∃ fs, Try.prog.underlying 23 = some (.struct fs) := ⟨_, Try.underlying23⟩
section
variable {W : World} {B : Nat} {t : TypeId} {cs : List Value}
theorem ms_put (h : Bx W B t cs) (vs : List Value) : Bx (W.setRow B vs.toArray) B t vs := setRow_heap W B _ vs.toArray t (0, 0) h
theorem ms_grown (W : World) (B : Nat) (vs : Array Value) : W.grownBy (W.setRow B vs) (some B) :=
  ⟨rfl, rfl, rfl, by simp [World.setRow], fun i _ hne => setRow_other W B i vs (fun e => hne (by rw [e]))⟩
theorem ms_gset (W : World) (q : Addr) (u : Value) : W.grownBy (W.setCell q u) (some q.block) :=
  ⟨rfl, rfl, rfl, by simp, fun i hi hne => Below.heap_setCell W q u i (fun e => hne (by rw [e]))⟩
/-- one is loaded whole, in a plain region -/
theorem ms_load {ops : Array Oper} {rest : List Oper} {o : Oper} {a : Act} {Q : Exit → Act → World → Prop} (hgd : o.guard = none) (x : Operand) (ho : o.op = .load 23 x) (hx : a.eval x = .pointer (some ⟨B, 0, none⟩))
    (h : Bx W B t cs) (hl : cs.length = 5) (k : wpList Try.prog ops Q rest (a.put o.dst (.agg cs.toArray)) W) : wpList Try.prog ops Q (o :: rest) a W := by
  obtain ⟨fs, hu⟩ := ms_struct
  exact wpList_load_row hgd _ x ho B hx t cs.toArray (0, 0) _ h hu rfl (by rw [info_ms]; simp [hl]) k
/-- one is stored whole -/
theorem ms_store {ops : Array Oper} {rest : List Oper} {o : Oper} {a : Act} {Q : Exit → Act → World → Prop} (hgd : o.guard = none) (x y : Operand) (ho : o.op = .store 23 x y) (hx : a.eval x = .pointer (some ⟨B, 0, none⟩))
    (vs : List Value) (hy : a.eval y = .agg vs.toArray) (h : Bx W B t cs) (hl : cs.length = 5) (hv : vs.length = 5) (h1 : vs.all (·.oneCell') = true) (k : wpList Try.prog ops Q rest (a.put o.dst undef) (W.setRow B vs.toArray)) : wpList Try.prog ops Q (o :: rest) a W :=
  wpList_store_row hgd _ x y ho B vs.toArray hx hy t cs.toArray h (by rw [info_ms]; simp [hv]) (by simp [hl, hv]) (by simpa using h1) k
theorem ms_var (h : Bx W B t cs) (hl : cs.length = 5) : (Go.loadVar 23 ⟨B, 0, none⟩).run Try.prog W = .ok (.agg cs.toArray) W := by
  obtain ⟨fs, hu⟩ := ms_struct
  exact run_loadVar_row W B t 23 cs.toArray (0, 0) _ h hu rfl (by rw [info_ms]; simp [hl])
/-- one is loaded whole, in a region that draws its order -/
theorem ms_yields {ops : Array Oper} {S : World → Prop} {op : Oper} {a : Act} (hw : Region.wanted op (yielded ops a.tmps) = true) (x : Operand) (ho : op.op = .load 23 x)
    (hx : a.eval x = .pointer (some ⟨B, 0, none⟩)) (cs : List Value) (hl : cs.length = 5) (t : TypeId) (hS : ∀ W, S W → Bx W B t cs) : YieldsIf Try.prog ops S op (.agg cs.toArray) a := by
  obtain ⟨fs, hu⟩ := ms_struct
  exact .inl ⟨hw, fun w hw' => by
    unfold execOp
    simp only [ho, hx, Instr.loadAt, Instr.sureAddr, Sem.run_bind, Sem.run_pure, Result.andThen_ok, run_loadVar_row w B t 23 cs.toArray (0, 0) _ (hS w hw') hu rfl (by rw [info_ms]; simp [hl])]⟩
variable {fn : Func} {tmps : Array Value} {R : Ending → World → Prop} {v u : Value} {ds : List Deferred} {p q r : Tmp}
/-- a box alone, a box and one or two slots: what a call hands back -/
theorem ms_end1 (hr : fn.results = #[.cell p 23]) (h2 : tmps.getD p undef = .pointer (some ⟨B, 0, none⟩))
    (e : Bx W B t cs) (hl : cs.length = 5) (hd : ds = []) (h : R (.returned (.agg cs.toArray)) W) : bodyPost Try.prog fn R .ret { tmps := tmps, defers := ds } W := by
  have l2 := ms_var e hl
  have h2a : tmps[p]?.getD undef = .pointer (some ⟨B, 0, none⟩) := by simpa using h2
  refine bodyPost_ret (v := .agg cs.toArray) ?_ hd h
  simp [results, hr, h2a, asAddr, l2]
theorem ms_end2 (hr : fn.results = #[.cell p 23, .tmp q]) (h2 : tmps.getD p undef = .pointer (some ⟨B, 0, none⟩)) (h3 : tmps.getD q undef = v)
    (e : Bx W B t cs) (hl : cs.length = 5) (hd : ds = []) (h : R (.returned (.tuple #[.agg cs.toArray, v])) W) : bodyPost Try.prog fn R .ret { tmps := tmps, defers := ds } W := by
  have l2 := ms_var e hl
  have h2a : tmps[p]?.getD undef = .pointer (some ⟨B, 0, none⟩) := by simpa using h2
  have h2b : tmps[q]?.getD undef = v := by simpa using h3
  refine bodyPost_ret (v := .tuple #[.agg cs.toArray, v]) ?_ hd h
  simp [results, hr, h2a, h2b, asAddr, l2]
theorem ms_end3 (hr : fn.results = #[.cell p 23, .tmp q, .tmp r]) (h2 : tmps.getD p undef = .pointer (some ⟨B, 0, none⟩)) (h3 : tmps.getD q undef = v) (h4 : tmps.getD r undef = u)
    (e : Bx W B t cs) (hl : cs.length = 5) (hd : ds = []) (h : R (.returned (.tuple #[.agg cs.toArray, v, u])) W) : bodyPost Try.prog fn R .ret { tmps := tmps, defers := ds } W := by
  have l2 := ms_var e hl
  have h2a : tmps[p]?.getD undef = .pointer (some ⟨B, 0, none⟩) := by simpa using h2
  have h2b : tmps[q]?.getD undef = v := by simpa using h3
  have h2c : tmps[r]?.getD undef = u := by simpa using h4
  refine bodyPost_ret (v := .tuple #[.agg cs.toArray, v, u]) ?_ hd h
  simp [results, hr, h2a, h2b, h2c, asAddr, l2]
end

theorem rmsin_any (x : Int) (w : World) :
    Calls Try.prog 20 #[.int .i64 x] w fun e w' => e = .returned (.bool (t60 x)) ∧ w = w' := by
  by_cases c0 : 0 ≤ x
  · have d0 : decide (0 ≤ x) = true := decide_eq_true c0
    by_cases c1 : x ≤ 1152921504606846976
    · have d1 : decide (x ≤ 1152921504606846976) = true := decide_eq_true c1
      rw [(t60_iff x).2 ⟨c0, c1⟩]
      go_enter Try.func20, Try.ntmps20
      go_wp2
      go_ret
      exact ⟨rfl, rfl⟩
    · have d1 : decide (x ≤ 1152921504606846976) = false := decide_eq_false c1
      rw [t60_no (fun h => c1 h.2)]
      go_enter Try.func20, Try.ntmps20
      go_wp2
      go_ret
      exact ⟨rfl, rfl⟩
  · have d0 : decide (0 ≤ x) = false := decide_eq_false c0
    rw [t60_no (fun h => c0 h.1)]
    go_enter Try.func20, Try.ntmps20
    go_wp2
    go_ret
    exact ⟨rfl, rfl⟩

set_option maxRecDepth 100000 in
set_option maxHeartbeats 4000000 in
theorem rmsmay_any (pk bt ca md pt : Int) (w : World) :
    Calls Try.prog 16 #[.agg #[.int .i64 pk, .int .i64 bt, .int .i64 ca, .int .i64 md, .int .i64 pt]] w fun e w' => e = .returned (.bool (mmay ⟨pk, bt, ca, md, pt⟩)) ∧ Below w.heap.size w w' := by
  have e0 := Bx.new w 23 [.int .i64 pk, .int .i64 bt, .int .i64 ca, .int .i64 md, .int .i64 pt]
  have b0 : Below w.heap.size w (w.alloc (.cells #[.int .i64 pk, .int .i64 bt, .int .i64 ca, .int .i64 md, .int .i64 pt] 23)) := (Below.refl _ _).alloc (Nat.le_refl _) _
  have x0 := e0.cell 0 rfl; have x1 := e0.cell 1 rfl; have x2 := e0.cell 2 rfl; have x3 := e0.cell 3 rfl; have x4 := e0.cell 4 rfl
  obtain ⟨q, hq⟩ : ∃ q, mmay ⟨pk, bt, ca, md, pt⟩ = q := ⟨_, rfl⟩
  rw [hq]
  unfold mmay at hq
  dsimp only at hq
  clear e0
  cases h0 : t60 pk with
  | false =>
    have hF : q = false := by rw [← hq, h0]; rfl
    subst hF
    clear hq
    go_enter Try.func16, Try.ntmps16
    go_wp2_with (go_at_call 20; refine (rmsin_any _ _).mono ?_; rintro e wx ⟨rfl, rfl⟩)
    go_ret
    exact ⟨rfl, b0⟩
  | true =>
  cases h1 : t60 bt with
  | false =>
    have hF : q = false := by rw [← hq, h0, h1]; rfl
    subst hF
    clear hq
    go_enter Try.func16, Try.ntmps16
    go_wp2_with (go_at_call 20; refine (rmsin_any _ _).mono ?_; rintro e wx ⟨rfl, rfl⟩)
    go_ret
    exact ⟨rfl, b0⟩
  | true =>
  cases h2 : t60 ca with
  | false =>
    have hF : q = false := by rw [← hq, h0, h1, h2]; rfl
    subst hF
    clear hq
    go_enter Try.func16, Try.ntmps16
    go_wp2_with (go_at_call 20; refine (rmsin_any _ _).mono ?_; rintro e wx ⟨rfl, rfl⟩)
    go_ret
    exact ⟨rfl, b0⟩
  | true =>
  rw [h0, h1, h2] at hq
  simp only [Bool.true_and] at hq
  by_cases c0 : 0 ≤ md
  case neg =>
    have hF : q = false := by rw [← hq]; exact decide_eq_false (fun h => c0 (h.1))
    subst hF
    have d0 : decide (0 ≤ md) = false := decide_eq_false c0
    clear hq
    go_enter Try.func16, Try.ntmps16
    go_wp2_with (go_at_call 20; refine (rmsin_any _ _).mono ?_; rintro e wx ⟨rfl, rfl⟩)
    go_ret
    exact ⟨rfl, b0⟩
  case pos =>
  have d0 : decide (0 ≤ md) = true := decide_eq_true c0
  by_cases c1 : md ≤ ca
  case neg =>
    have hF : q = false := by rw [← hq]; exact decide_eq_false (fun h => c1 (h.2.1))
    subst hF
    have d1 : decide (md ≤ ca) = false := decide_eq_false c1
    clear hq
    go_enter Try.func16, Try.ntmps16
    go_wp2_with (go_at_call 20; refine (rmsin_any _ _).mono ?_; rintro e wx ⟨rfl, rfl⟩)
    go_ret
    exact ⟨rfl, b0⟩
  case pos =>
  have d1 : decide (md ≤ ca) = true := decide_eq_true c1
  by_cases c2 : 0 ≤ pt
  case neg =>
    have hF : q = false := by rw [← hq]; exact decide_eq_false (fun h => c2 (h.2.2.1))
    subst hF
    have d2 : decide (0 ≤ pt) = false := decide_eq_false c2
    clear hq
    go_enter Try.func16, Try.ntmps16
    go_wp2_with (go_at_call 20; refine (rmsin_any _ _).mono ?_; rintro e wx ⟨rfl, rfl⟩)
    go_ret
    exact ⟨rfl, b0⟩
  case pos =>
  have d2 : decide (0 ≤ pt) = true := decide_eq_true c2
  by_cases c3 : pt ≤ 1024
  case neg =>
    have hF : q = false := by rw [← hq]; exact decide_eq_false (fun h => c3 (h.2.2.2))
    subst hF
    have d3 : decide (pt ≤ 1024) = false := decide_eq_false c3
    clear hq
    go_enter Try.func16, Try.ntmps16
    go_wp2_with (go_at_call 20; refine (rmsin_any _ _).mono ?_; rintro e wx ⟨rfl, rfl⟩)
    go_ret
    exact ⟨rfl, b0⟩
  case pos =>
  have d3 : decide (pt ≤ 1024) = true := decide_eq_true c3
  have hT : q = true := by rw [← hq]; exact decide_eq_true ⟨c0, c1, c2, c3⟩
  subst hT
  clear hq
  go_enter Try.func16, Try.ntmps16
  go_wp2_with (go_at_call 20; refine (rmsin_any _ _).mono ?_; rintro e wx ⟨rfl, rfl⟩)
  go_ret
  exact ⟨rfl, b0⟩

set_option maxRecDepth 100000 in
set_option maxHeartbeats 4000000 in
theorem rmstold_any (pk bt ca md pt : Int) (w : World) :
    Calls Try.prog 14 #[.agg #[.int .i64 pk, .int .i64 bt, .int .i64 ca, .int .i64 md, .int .i64 pt]] w fun e w' => e = .returned (.tuple #[.int .i64 (toldR ⟨pk, bt, ca, md, pt⟩).1, .int .u32 (toldR ⟨pk, bt, ca, md, pt⟩).2]) ∧ Below w.heap.size w w' := by
  obtain ⟨B, hB⟩ : ∃ B, w.heap.size = B := ⟨_, rfl⟩
  rw [hB]
  have e0 := Bx.new w 23 [.int .i64 pk, .int .i64 bt, .int .i64 ca, .int .i64 md, .int .i64 pt]
  rw [hB] at e0
  have b0 : Below B w (w.alloc (.cells #[.int .i64 pk, .int .i64 bt, .int .i64 ca, .int .i64 md, .int .i64 pt] 23)) := by rw [← hB]; exact (Below.refl _ _).alloc (Nat.le_refl _) _
  obtain ⟨x, hx⟩ : ∃ x, toldR ⟨pk, bt, ca, md, pt⟩ = x := ⟨_, rfl⟩
  rw [hx]
  have HX := Lib.hid hx; clear hx
  go_enter Try.func14, Try.ntmps14
  go_wp2_with (refine ms_load rfl (.tmp 1) rfl rfl e0 rfl ?_)
  generalize w.alloc (.cells #[.int .i64 pk, .int .i64 bt, .int .i64 ca, .int .i64 md, .int .i64 pt] 23) = w1 at e0 b0 ⊢
  refine (rmsmay_any pk bt ca md pt _).mono ?_
  rintro e w2 ⟨rfl, hb2⟩
  have e2 := e0.kept hb2; have b2 := b0.trans (hb2.mono (Nat.le_of_lt e0.lt))
  cases hk : mmay ⟨pk, bt, ca, md, pt⟩ with
  | false =>
    have hx : x = (0, 0) := by rw [← HX.out]; unfold toldR; rw [if_neg (by rw [hk]; simp)]
    subst hx
    clear HX hk
    go_wp2_with fail
    go_ret2
    exact ⟨rfl, b2⟩
  | true =>
    have hv := (mmay_iff _).1 hk
    have hx : x = (pk % 8, bt % 16777216) := by rw [← HX.out]; unfold toldR; rw [if_pos hk]
    subst hx
    have p0 : 0 ≤ pk := hv.p0; have p1 : pk ≤ 1152921504606846976 := hv.p1; have q0 : 0 ≤ bt := hv.b0; have q1 : bt ≤ 1152921504606846976 := hv.b1
    have x0 := e2.cell 0 rfl; have x1 := e2.cell 1 rfl
    clear HX hk hv
    go_upto_region 4 with fail
    have a1 : pk.tmod 8 = pk % 8 := Int.tmod_eq_emod_of_nonneg p0
    have a2 : bt.tmod 16777216 = bt % 16777216 := Int.tmod_eq_emod_of_nonneg q0
    have a3 : 0 ≤ pk % 8 := by omega
    have a4 : pk % 8 < 8 := by omega
    have a5 : 0 ≤ bt % 16777216 := by omega
    have a6 : bt % 16777216 < 16777216 := by omega
    go_quiet (fail)
    clear a1 a2
    go_wp2_with fail
    go_ret2
    exact ⟨rfl, below_drewN b2 _⟩
end Go.Proofs.Ytkgbbmjobjcepaa
