/- The reference of package timer: May, Due as contracts of the calls; a timer's box. -/
import Derived.Test.YtbkmadlekigjfaaProg
import Derived.Test.YtbkmadlekigjfaaTm
import Derived.Test.YtbkmadlekigjfaaBx
import Derived.WalkKit
import Derived.WalkSpells
import Derived.WalkSmall
import Derived.Lib.Hide
import Derived.Below
import Derived.Outline
import Derived.Deep.QuietTactic
import Derived.BigQuiet
import Derived.IntWalk
import Derived.Deep.DeepCutAuto
import Derived.OrdersHeld
import Derived.StillTail
import Derived.Test.YtbkmadlekigjfaaTail
import Derived.Laws.Rows
import Derived.Laws.Tables
namespace Go.Proofs.Ytbkmadlekigjfaa
open Go.RowKit
set_option linter.unusedVariables false
set_option linter.unusedSimpArgs false

theorem info_tm : (Try.prog.info? 28).map (·.size) = some 2 := by kernel_rfl
theorem tm_struct : ∃ fs, Try.prog.underlying 28 = some (.struct fs) := ⟨_, Try.underlying28⟩
section
variable {W : World} {B : Nat} {t : TypeId} {cs : List Value}
theorem tm_put (h : Bx W B t cs) (vs : List Value) : Bx (W.setRow B vs.toArray) B t vs := setRow_heap W B _ vs.toArray t (0, 0) h
theorem tm_grown (W : World) (B : Nat) (vs : Array Value) : W.grownBy (W.setRow B vs) (some B) :=
  ⟨rfl, rfl, rfl, by simp [World.setRow], fun i _ hne => setRow_other W B i vs (fun e => hne (by rw [e]))⟩
theorem tm_gset (W : World) (q : Addr) (u : Value) : W.grownBy (W.setCell q u) (some q.block) :=
  ⟨rfl, rfl, rfl, by simp, fun i hi hne => Below.heap_setCell W q u i (fun e => hne (by rw [e]))⟩
/-- one is loaded whole, in a plain region -/
theorem tm_load {ops : Array Oper} {rest : List Oper} {o : Oper} {a : Act} {Q : Exit → Act → World → Prop} (hgd : o.guard = none) (x : Operand) (ho : o.op = .load 28 x) (hx : a.eval x = .pointer (some ⟨B, 0, none⟩))
    (h : Bx W B t cs) (hl : cs.length = 2) (k : wpList Try.prog ops Q rest (a.put o.dst (.agg cs.toArray)) W) : wpList Try.prog ops Q (o :: rest) a W := by
  obtain ⟨fs, hu⟩ := tm_struct
  exact wpList_load_row hgd _ x ho B hx t cs.toArray (0, 0) _ h hu rfl (by rw [info_tm]; simp [hl]) k
/-- one is stored whole -/
theorem tm_store {ops : Array Oper} {rest : List Oper} {o : Oper} {a : Act} {Q : Exit → Act → World → Prop} (hgd : o.guard = none) (x y : Operand) (ho : o.op = .store 28 x y) (hx : a.eval x = .pointer (some ⟨B, 0, none⟩))
    (vs : List Value) (hy : a.eval y = .agg vs.toArray) (h : Bx W B t cs) (hl : cs.length = 2) (hv : vs.length = 2) (h1 : vs.all (·.oneCell') = true) (k : wpList Try.prog ops Q rest (a.put o.dst undef) (W.setRow B vs.toArray)) : wpList Try.prog ops Q (o :: rest) a W :=
  wpList_store_row hgd _ x y ho B vs.toArray hx hy t cs.toArray h (by rw [info_tm]; simp [hv]) (by simp [hl, hv]) (by simpa using h1) k
theorem tm_var (h : Bx W B t cs) (hl : cs.length = 2) : (Go.loadVar 28 ⟨B, 0, none⟩).run Try.prog W = .ok (.agg cs.toArray) W := by
  obtain ⟨fs, hu⟩ := tm_struct
  exact run_loadVar_row W B t 28 cs.toArray (0, 0) _ h hu rfl (by rw [info_tm]; simp [hl])
/-- one is loaded whole, in a region that draws its order -/
theorem tm_yields {ops : Array Oper} {S : World → Prop} {op : Oper} {a : Act} (hw : Region.wanted op (yielded ops a.tmps) = true) (x : Operand) (ho : op.op = .load 28 x)
    (hx : a.eval x = .pointer (some ⟨B, 0, none⟩)) (cs : List Value) (hl : cs.length = 2) (t : TypeId) (hS : ∀ W, S W → Bx W B t cs) : YieldsIf Try.prog ops S op (.agg cs.toArray) a := by
  obtain ⟨fs, hu⟩ := tm_struct
  exact .inl ⟨hw, fun w hw' => by
    unfold execOp
    simp only [ho, hx, Instr.loadAt, Instr.sureAddr, Sem.run_bind, Sem.run_pure, Result.andThen_ok, run_loadVar_row w B t 28 cs.toArray (0, 0) _ (hS w hw') hu rfl (by rw [info_tm]; simp [hl])]⟩
variable {fn : Func} {tmps : Array Value} {R : Ending → World → Prop} {v u : Value} {ds : List Deferred} {p q r : Tmp}
/-- a box alone, a box and one or two slots: what a call hands back -/
theorem tm_end1 (hr : fn.results = #[.cell p 28]) (h2 : tmps.getD p undef = .pointer (some ⟨B, 0, none⟩))
    (e : Bx W B t cs) (hl : cs.length = 2) (hd : ds = []) (h : R (.returned (.agg cs.toArray)) W) : bodyPost Try.prog fn R .ret { tmps := tmps, defers := ds } W := by
  have l2 := tm_var e hl
  have h2a : tmps[p]?.getD undef = .pointer (some ⟨B, 0, none⟩) := by simpa using h2
  refine bodyPost_ret (v := .agg cs.toArray) ?_ hd h
  simp [results, hr, h2a, asAddr, l2]
theorem tm_end2 (hr : fn.results = #[.cell p 28, .tmp q]) (h2 : tmps.getD p undef = .pointer (some ⟨B, 0, none⟩)) (h3 : tmps.getD q undef = v)
    (e : Bx W B t cs) (hl : cs.length = 2) (hd : ds = []) (h : R (.returned (.tuple #[.agg cs.toArray, v])) W) : bodyPost Try.prog fn R .ret { tmps := tmps, defers := ds } W := by
  have l2 := tm_var e hl
  have h2a : tmps[p]?.getD undef = .pointer (some ⟨B, 0, none⟩) := by simpa using h2
  have h2b : tmps[q]?.getD undef = v := by simpa using h3
  refine bodyPost_ret (v := .tuple #[.agg cs.toArray, v]) ?_ hd h
  simp [results, hr, h2a, h2b, asAddr, l2]
theorem tm_end3 (hr : fn.results = #[.cell p 28, .tmp q, .tmp r]) (h2 : tmps.getD p undef = .pointer (some ⟨B, 0, none⟩)) (h3 : tmps.getD q undef = v) (h4 : tmps.getD r undef = u)
    (e : Bx W B t cs) (hl : cs.length = 2) (hd : ds = []) (h : R (.returned (.tuple #[.agg cs.toArray, v, u])) W) : bodyPost Try.prog fn R .ret { tmps := tmps, defers := ds } W := by
  have l2 := tm_var e hl
  have h2a : tmps[p]?.getD undef = .pointer (some ⟨B, 0, none⟩) := by simpa using h2
  have h2b : tmps[q]?.getD undef = v := by simpa using h3
  have h2c : tmps[r]?.getD undef = u := by simpa using h4
  refine bodyPost_ret (v := .tuple #[.agg cs.toArray, v, u]) ?_ hd h
  simp [results, hr, h2a, h2b, h2c, asAddr, l2]
end

set_option maxRecDepth 100000 in
set_option maxHeartbeats 8000000 in
theorem rtmmay_any (v : Tmr) (w : World) :
    Calls Try.prog 12 #[.agg #[.int .i64 v.kd, .int .i64 v.at_]] w fun e w' => e = .returned (.bool (tmB v)) ∧ Below w.heap.size w w' := by
  obtain ⟨B, hB⟩ : ∃ B, w.heap.size = B := ⟨_, rfl⟩
  rw [hB]
  have e0 := Bx.new w 28 [.int .i64 v.kd, .int .i64 v.at_]
  rw [hB] at e0
  have b0 : Below B w (w.alloc (.cells #[.int .i64 v.kd, .int .i64 v.at_] 28)) := by rw [← hB]; exact (Below.refl _ _).alloc (Nat.le_refl _) _
  have x0 := e0.cell 0 rfl; have x1 := e0.cell 1 rfl
  obtain ⟨q, hq⟩ : ∃ q, tmB v = q := ⟨_, rfl⟩
  rw [hq]
  have HQ := Lib.hid hq
  clear hq e0
  have hno : ¬ TmOk v → q = false := fun h => by rw [← HQ.out]; exact tmB_no h
  by_cases c0 : v.kd < 0
  case pos =>
    have d0 : decide (v.kd < 0) = true := decide_eq_true c0
    obtain rfl : q = false := hno (fun h => by have := h.k0; omega)
    clear hno
    go_enter Try.func12, Try.ntmps12
    go_wp2_with fail
    go_ret
    exact ⟨rfl, b0⟩
  case neg =>
  have d0 : decide (v.kd < 0) = false := decide_eq_false c0
  by_cases c1 : 2 < v.kd
  case pos =>
    have d1 : decide (2 < v.kd) = true := decide_eq_true c1
    obtain rfl : q = false := hno (fun h => by have := h.k1; omega)
    clear hno
    go_enter Try.func12, Try.ntmps12
    go_wp2_with fail
    go_ret
    exact ⟨rfl, b0⟩
  case neg =>
  have d1 : decide (2 < v.kd) = false := decide_eq_false c1
  by_cases c2 : v.at_ < 0
  case pos =>
    have d2 : decide (v.at_ < 0) = true := decide_eq_true c2
    obtain rfl : q = false := hno (fun h => by have := h.a0; omega)
    clear hno
    go_enter Try.func12, Try.ntmps12
    go_wp2_with fail
    go_ret
    exact ⟨rfl, b0⟩
  case neg =>
  have d2 : decide (v.at_ < 0) = false := decide_eq_false c2
  by_cases c3 : 2305843009213693952 < v.at_
  case pos =>
    have d3 : decide (2305843009213693952 < v.at_) = true := decide_eq_true c3
    obtain rfl : q = false := hno (fun h => by have := h.a1; omega)
    clear hno
    go_enter Try.func12, Try.ntmps12
    go_wp2_with fail
    go_ret
    exact ⟨rfl, b0⟩
  case neg =>
  have d3 : decide (2305843009213693952 < v.at_) = false := decide_eq_false c3
  by_cases c4 : 0 < v.kd
  case pos =>
    have d4 : decide (0 < v.kd) = true := decide_eq_true c4
    obtain rfl : q = true := by rw [← HQ.out]; exact (tmB_iff _).2 ⟨by omega, by omega, by omega, by omega, .inl c4⟩
    clear hno
    go_enter Try.func12, Try.ntmps12
    go_wp2_with fail
    go_ret
    exact ⟨rfl, b0⟩
  case neg =>
  have d4 : decide (0 < v.kd) = false := decide_eq_false c4
  by_cases c5 : v.at_ = 0
  case pos =>
    have d5 : (v.at_ == 0) = true := by simpa using c5
    obtain rfl : q = true := by rw [← HQ.out]; exact (tmB_iff _).2 ⟨by omega, by omega, by omega, by omega, .inr c5⟩
    clear hno c5
    go_enter Try.func12, Try.ntmps12
    go_wp2_with fail
    go_ret
    exact ⟨rfl, b0⟩
  case neg =>
  have d5 : (v.at_ == 0) = false := by simpa using c5
  obtain rfl : q = false := hno (fun h => by rcases h.z with z | z; exact c4 z; exact c5 z)
  clear hno c5
  go_enter Try.func12, Try.ntmps12
  go_wp2_with fail
  go_ret
  exact ⟨rfl, b0⟩

set_option maxRecDepth 100000 in
set_option maxHeartbeats 8000000 in
theorem rtmdue_any (v : Tmr) (now : Int) (w : World) :
    Calls Try.prog 14 #[.agg #[.int .i64 v.kd, .int .i64 v.at_], .int .i64 now] w fun e w' => e = .returned (.int .i64 (tdueR v now)) ∧ Below w.heap.size w w' := by
  obtain ⟨B, hB⟩ : ∃ B, w.heap.size = B := ⟨_, rfl⟩
  rw [hB]
  have e0 := Bx.new w 28 [.int .i64 v.kd, .int .i64 v.at_]
  rw [hB] at e0
  have b0 : Below B w (w.alloc (.cells #[.int .i64 v.kd, .int .i64 v.at_] 28)) := by rw [← hB]; exact (Below.refl _ _).alloc (Nat.le_refl _) _
  go_enter Try.func14, Try.ntmps14
  go_wp2_with (refine tm_load rfl (.tmp 2) rfl rfl e0 rfl ?_)
  generalize w.alloc (.cells #[.int .i64 v.kd, .int .i64 v.at_] 28) = w1 at e0 b0 ⊢
  refine (rtmmay_any v _).mono ?_
  rintro e w2 ⟨rfl, hb2⟩
  have e2 := e0.kept hb2; have b2 := b0.trans (hb2.mono (Nat.le_of_lt e0.lt))
  have x0 := e2.cell 0 rfl; have x1 := e2.cell 1 rfl
  clear e0 b0 hb2
  cases hk : tmB v with
  | false =>
    have hz : tdueR v now = 0 := if_neg (fun h => by rw [hk] at h; cases h.1)
    have HZ := Lib.hid hz
    clear hz hk
    go_wp2_with fail
    go_ret
    exact ⟨by rw [HZ.out]; rfl, b2⟩
  | true =>
  by_cases c : v.at_ ≤ now
  · have d : decide (v.at_ ≤ now) = true := decide_eq_true c
    have hz : tdueR v now = v.kd := if_pos ⟨hk, c⟩
    have HZ := Lib.hid hz
    clear hz hk
    go_wp2_with fail
    go_ret
    exact ⟨by rw [HZ.out]; rfl, b2⟩
  · have d : decide (v.at_ ≤ now) = false := decide_eq_false c
    have hz : tdueR v now = 0 := if_neg (fun h => c h.2)
    have HZ := Lib.hid hz
    clear hz hk
    go_wp2_with fail
    go_ret
    exact ⟨by rw [HZ.out]; rfl, b2⟩
end Go.Proofs.Ytbkmadlekigjfaa
