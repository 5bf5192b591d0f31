/- The reference of package rack: in, brief, Ahead, May as contracts of the calls; a state's box. -/
import Derived.Test.YtlanplobdgchaaaProg
import Derived.Test.YtlanplobdgchaaaRk
import Derived.WalkKit
import Derived.WalkSpells
import Derived.WalkSmall
import Derived.Lib.Hide
import Derived.Below
import Derived.Outline
import Derived.Deep.QuietTactic
import Derived.BigQuiet
import Derived.IntWalk
import Derived.Deep.DeepCutAuto
import Derived.OrdersHeld
import Derived.StillTail
import Derived.Test.YtlanplobdgchaaaTail
import Derived.Laws.Rows
import Derived.Laws.Tables
namespace Go.Proofs.Ytlanplobdgchaaa
open Go.RowKit
set_option linter.unusedVariables false
set_option linter.unusedSimpArgs false

theorem info_rk : (Try.prog.info? 23).map (·.size) = some 6 := by kernel_rfl
theorem rk_struct : ∃ fs, Try.prog.underlying 23 = some (.struct fs) := ⟨_, Try.underlying23⟩
section
variable {W : World} {B : Nat} {t : TypeId} {cs : List Value}
theorem rk_put (h : Bx W B t cs) (vs : List Value) : Bx (W.setRow B vs.toArray) B t vs := setRow_heap W B _ vs.toArray t (0, 0) h
theorem rk_grown (W : World) (B : Nat) (vs : Array Value) : W.grownBy (W.setRow B vs) (some B) :=
  ⟨rfl, rfl, rfl, by simp [World.setRow], fun i _ hne => setRow_other W B i vs (fun e => hne (by rw [e]))⟩
theorem rk_gset (W : World) (q : Addr) (u : Value) : W.grownBy (W.setCell q u) (some q.block) :=
  ⟨rfl, rfl, rfl, by simp, fun i hi hne => Below.heap_setCell W q u i (fun e => hne (by rw [e]))⟩
/-- one is loaded whole, in a plain region -/
theorem rk_load {ops : Array Oper} {rest : List Oper} {o : Oper} {a : Act} {Q : Exit → Act → World → Prop} (hgd : o.guard = none) (x : Operand) (ho : o.op = .load 23 x) (hx : a.eval x = .pointer (some ⟨B, 0, none⟩))
    (h : Bx W B t cs) (hl : cs.length = 6) (k : wpList Try.prog ops Q rest (a.put o.dst (.agg cs.toArray)) W) : wpList Try.prog ops Q (o :: rest) a W := by
  obtain ⟨fs, hu⟩ := rk_struct
  exact wpList_load_row hgd _ x ho B hx t cs.toArray (0, 0) _ h hu rfl (by rw [info_rk]; simp [hl]) k
/-- one is stored whole -/
theorem rk_store {ops : Array Oper} {rest : List Oper} {o : Oper} {a : Act} {Q : Exit → Act → World → Prop} (hgd : o.guard = none) (x y : Operand) (ho : o.op = .store 23 x y) (hx : a.eval x = .pointer (some ⟨B, 0, none⟩))
    (vs : List Value) (hy : a.eval y = .agg vs.toArray) (h : Bx W B t cs) (hl : cs.length = 6) (hv : vs.length = 6) (h1 : vs.all (·.oneCell') = true) (k : wpList Try.prog ops Q rest (a.put o.dst undef) (W.setRow B vs.toArray)) : wpList Try.prog ops Q (o :: rest) a W :=
  wpList_store_row hgd _ x y ho B vs.toArray hx hy t cs.toArray h (by rw [info_rk]; simp [hv]) (by simp [hl, hv]) (by simpa using h1) k
theorem rk_var (h : Bx W B t cs) (hl : cs.length = 6) : (Go.loadVar 23 ⟨B, 0, none⟩).run Try.prog W = .ok (.agg cs.toArray) W := by
  obtain ⟨fs, hu⟩ := rk_struct
  exact run_loadVar_row W B t 23 cs.toArray (0, 0) _ h hu rfl (by rw [info_rk]; simp [hl])
/-- one is loaded whole, in a region that draws its order -/
theorem rk_yields {ops : Array Oper} {S : World → Prop} {op : Oper} {a : Act} (hw : Region.wanted op (yielded ops a.tmps) = true) (x : Operand) (ho : op.op = .load 23 x)
    (hx : a.eval x = .pointer (some ⟨B, 0, none⟩)) (cs : List Value) (hl : cs.length = 6) (t : TypeId) (hS : ∀ W, S W → Bx W B t cs) : YieldsIf Try.prog ops S op (.agg cs.toArray) a := by
  obtain ⟨fs, hu⟩ := rk_struct
  exact .inl ⟨hw, fun w hw' => by
    unfold execOp
    simp only [ho, hx, Instr.loadAt, Instr.sureAddr, Sem.run_bind, Sem.run_pure, Result.andThen_ok, run_loadVar_row w B t 23 cs.toArray (0, 0) _ (hS w hw') hu rfl (by rw [info_rk]; simp [hl])]⟩
variable {fn : Func} {tmps : Array Value} {R : Ending → World → Prop} {v u : Value} {ds : List Deferred} {p q r : Tmp}
/-- a box alone, a box and one or two slots: what a call hands back -/
theorem rk_end1 (hr : fn.results = #[.cell p 23]) (h2 : tmps.getD p undef = .pointer (some ⟨B, 0, none⟩))
    (e : Bx W B t cs) (hl : cs.length = 6) (hd : ds = []) (h : R (.returned (.agg cs.toArray)) W) : bodyPost Try.prog fn R .ret { tmps := tmps, defers := ds } W := by
  have l2 := rk_var e hl
  have h2a : tmps[p]?.getD undef = .pointer (some ⟨B, 0, none⟩) := by simpa using h2
  refine bodyPost_ret (v := .agg cs.toArray) ?_ hd h
  simp [results, hr, h2a, asAddr, l2]
theorem rk_end2 (hr : fn.results = #[.cell p 23, .tmp q]) (h2 : tmps.getD p undef = .pointer (some ⟨B, 0, none⟩)) (h3 : tmps.getD q undef = v)
    (e : Bx W B t cs) (hl : cs.length = 6) (hd : ds = []) (h : R (.returned (.tuple #[.agg cs.toArray, v])) W) : bodyPost Try.prog fn R .ret { tmps := tmps, defers := ds } W := by
  have l2 := rk_var e hl
  have h2a : tmps[p]?.getD undef = .pointer (some ⟨B, 0, none⟩) := by simpa using h2
  have h2b : tmps[q]?.getD undef = v := by simpa using h3
  refine bodyPost_ret (v := .tuple #[.agg cs.toArray, v]) ?_ hd h
  simp [results, hr, h2a, h2b, asAddr, l2]
theorem rk_end3 (hr : fn.results = #[.cell p 23, .tmp q, .tmp r]) (h2 : tmps.getD p undef = .pointer (some ⟨B, 0, none⟩)) (h3 : tmps.getD q undef = v) (h4 : tmps.getD r undef = u)
    (e : Bx W B t cs) (hl : cs.length = 6) (hd : ds = []) (h : R (.returned (.tuple #[.agg cs.toArray, v, u])) W) : bodyPost Try.prog fn R .ret { tmps := tmps, defers := ds } W := by
  have l2 := rk_var e hl
  have h2a : tmps[p]?.getD undef = .pointer (some ⟨B, 0, none⟩) := by simpa using h2
  have h2b : tmps[q]?.getD undef = v := by simpa using h3
  have h2c : tmps[r]?.getD undef = u := by simpa using h4
  refine bodyPost_ret (v := .tuple #[.agg cs.toArray, v, u]) ?_ hd h
  simp [results, hr, h2a, h2b, h2c, asAddr, l2]
end

theorem rkin_any (x : Int) (w : World) :
    Calls Try.prog 26 #[.int .i64 x] w fun e w' => e = .returned (.bool (t60 x)) ∧ w = w' := by
  have e : t60 x = (decide (0 ≤ x) && decide (x ≤ 1152921504606846976)) := by unfold t60; rw [Bool.decide_and]
  by_cases h1 : 0 ≤ x
  · by_cases h2 : x ≤ 1152921504606846976
    · rw [decide_eq_true h1, decide_eq_true h2] at e
      rw [e]
      go_enter Try.func26, Try.ntmps26
      go_wp2
      go_ret
      exact ⟨rfl, rfl⟩
    · rw [decide_eq_true h1, decide_eq_false h2] at e
      rw [e]
      go_enter Try.func26, Try.ntmps26
      go_wp2
      go_ret
      exact ⟨rfl, rfl⟩
  · rw [decide_eq_false h1] at e
    rw [e]
    have h1' : x < 0 := by omega
    go_enter Try.func26, Try.ntmps26
    go_wp2
    go_ret
    exact ⟨rfl, rfl⟩

theorem rkbrief_any (x : Int) (w : World) :
    Calls Try.prog 27 #[.int .i64 x] w fun e w' => e = .returned (.bool (brief x)) ∧ w = w' := by
  have e : brief x = (decide (0 ≤ x) && decide (x ≤ 1099511627776)) := by unfold brief; rw [Bool.decide_and]
  by_cases h1 : 0 ≤ x
  · by_cases h2 : x ≤ 1099511627776
    · rw [decide_eq_true h1, decide_eq_true h2] at e
      rw [e]
      go_enter Try.func27, Try.ntmps27
      go_wp2
      go_ret
      exact ⟨rfl, rfl⟩
    · rw [decide_eq_true h1, decide_eq_false h2] at e
      rw [e]
      go_enter Try.func27, Try.ntmps27
      go_wp2
      go_ret
      exact ⟨rfl, rfl⟩
  · rw [decide_eq_false h1] at e
    rw [e]
    have h1' : x < 0 := by omega
    go_enter Try.func27, Try.ntmps27
    go_wp2
    go_ret
    exact ⟨rfl, rfl⟩

theorem rkahead_any (a e b u : Int) (w : World) :
    Calls Try.prog 28 #[.int .i64 a, .int .i64 e, .int .i64 b, .int .i64 u] w fun x w' => x = .returned (.bool (aheadB a e b u)) ∧ w = w' := by
  by_cases h1 : a < b
  · have d1 : decide (a < b) = true := decide_eq_true h1
    have hx : aheadB a e b u = true := (ahead_iff _ _ _ _).2 (.inl h1)
    rw [hx]; clear hx
    go_enter Try.func28, Try.ntmps28
    go_wp2_with fail
    go_ret
    exact ⟨rfl, rfl⟩
  have d1 : decide (a < b) = false := decide_eq_false h1
  by_cases h2 : a = b
  case neg =>
    have d2 : (a == b) = false := by simpa using h2
    have hx : aheadB a e b u = false := by
      cases hh : aheadB a e b u with
      | false => rfl
      | true => rcases (ahead_iff _ _ _ _).1 hh with h | h
                · exact absurd h h1
                · exact absurd h.1 h2
    rw [hx]; clear hx h2
    go_enter Try.func28, Try.ntmps28
    go_wp2_with fail
    go_ret
    exact ⟨rfl, rfl⟩
  case pos =>
  subst h2
  have d2 : (a == a) = true := by simp
  by_cases h3 : e < u
  · have d3 : decide (e < u) = true := decide_eq_true h3
    have hx : aheadB a e a u = true := (ahead_iff _ _ _ _).2 (.inr ⟨rfl, h3⟩)
    rw [hx]; clear hx
    go_enter Try.func28, Try.ntmps28
    go_wp2_with fail
    go_ret
    exact ⟨rfl, rfl⟩
  · have d3 : decide (e < u) = false := decide_eq_false h3
    have hx : aheadB a e a u = false := by
      cases hh : aheadB a e a u with
      | false => rfl
      | true => rcases (ahead_iff _ _ _ _).1 hh with h | h
                · exact absurd h h1
                · exact absurd h.2 h3
    rw [hx]; clear hx
    go_enter Try.func28, Try.ntmps28
    go_wp2_with fail
    go_ret
    exact ⟨rfl, rfl⟩

set_option maxRecDepth 100000 in
set_option maxHeartbeats 8000000 in
theorem rkmay_any (v : Rkv) (w : World) :
    Calls Try.prog 19 #[.agg #[.int .i64 v.at_, .int .i64 v.end_, .int .i64 v.took, .int .i64 v.far, .bool v.mixed, .int .i64 v.quarters]] w fun e w' => e = .returned (.bool (rkmay v)) ∧ Below w.heap.size w w' := by
  obtain ⟨a0, a1, a2, a3, a4, a5⟩ := v
  obtain ⟨B, hB⟩ : ∃ B, w.heap.size = B := ⟨_, rfl⟩
  rw [hB]
  dsimp only
  have e0 := Bx.new w 23 [.int .i64 a0, .int .i64 a1, .int .i64 a2, .int .i64 a3, .bool a4, .int .i64 a5]
  rw [hB] at e0
  have b0 : Below B w (w.alloc (.cells #[.int .i64 a0, .int .i64 a1, .int .i64 a2, .int .i64 a3, .bool a4, .int .i64 a5] 23)) := by rw [← hB]; exact (Below.refl _ _).alloc (Nat.le_refl _) _
  have x0 := e0.cell 0 rfl; have x1 := e0.cell 1 rfl; have x2 := e0.cell 2 rfl; have x3 := e0.cell 3 rfl; have x5 := e0.cell 5 rfl
  change World.cell? (w.alloc (.cells #[.int .i64 a0, .int .i64 a1, .int .i64 a2, .int .i64 a3, .bool a4, .int .i64 a5] 23)) _ = _ at x0 x1 x2 x3 x5
  obtain ⟨q, hq⟩ : ∃ q, rkmay ⟨a0, a1, a2, a3, a4, a5⟩ = q := ⟨_, rfl⟩
  rw [hq]
  unfold rkmay at hq
  dsimp only at hq
  clear e0
  cases t0 : t60 a0 with
  | false =>
    simp only [t0, Bool.true_and, Bool.false_and, Bool.and_false] at hq
    subst hq
    go_enter Try.func19, Try.ntmps19
    go_wp2_with (go_at_call 26; refine (rkin_any _ _).mono ?_; rintro e wx ⟨rfl, rfl⟩)
    go_ret
    exact ⟨rfl, b0⟩
  | true =>
  cases t1 : t60 a2 with
  | false =>
    simp only [t0, t1, Bool.true_and, Bool.false_and, Bool.and_false] at hq
    subst hq
    go_enter Try.func19, Try.ntmps19
    go_wp2_with (go_at_call 26; refine (rkin_any _ _).mono ?_; rintro e wx ⟨rfl, rfl⟩)
    go_ret
    exact ⟨rfl, b0⟩
  | true =>
  by_cases c0 : 0 ≤ a1
  case neg =>
    have d0 : decide (0 ≤ a1) = false := decide_eq_false c0
    simp only [t0, t1, d0, Bool.true_and, Bool.false_and, Bool.and_false] at hq
    subst hq
    go_enter Try.func19, Try.ntmps19
    go_wp2_with (go_at_call 26; refine (rkin_any _ _).mono ?_; rintro e wx ⟨rfl, rfl⟩)
    go_ret
    exact ⟨rfl, b0⟩
  have d0 : decide (0 ≤ a1) = true := decide_eq_true c0
  by_cases c1 : 0 ≤ a3
  case neg =>
    have d1 : decide (0 ≤ a3) = false := decide_eq_false c1
    simp only [t0, t1, d0, d1, Bool.true_and, Bool.false_and, Bool.and_false] at hq
    subst hq
    go_enter Try.func19, Try.ntmps19
    go_wp2_with (go_at_call 26; refine (rkin_any _ _).mono ?_; rintro e wx ⟨rfl, rfl⟩)
    go_ret
    exact ⟨rfl, b0⟩
  have d1 : decide (0 ≤ a3) = true := decide_eq_true c1
  by_cases c2 : a1 ≤ 2305843009213693952
  case neg =>
    have d2 : decide (a1 ≤ 2305843009213693952) = false := decide_eq_false c2
    simp only [t0, t1, d0, d1, d2, Bool.true_and, Bool.false_and, Bool.and_false] at hq
    subst hq
    go_enter Try.func19, Try.ntmps19
    go_wp2_with (go_at_call 26; refine (rkin_any _ _).mono ?_; rintro e wx ⟨rfl, rfl⟩)
    go_ret
    exact ⟨rfl, b0⟩
  have d2 : decide (a1 ≤ 2305843009213693952) = true := decide_eq_true c2
  by_cases c3 : a3 ≤ 2305843009213693952
  case neg =>
    have d3 : decide (a3 ≤ 2305843009213693952) = false := decide_eq_false c3
    simp only [t0, t1, d0, d1, d2, d3, Bool.true_and, Bool.false_and, Bool.and_false] at hq
    subst hq
    go_enter Try.func19, Try.ntmps19
    go_wp2_with (go_at_call 26; refine (rkin_any _ _).mono ?_; rintro e wx ⟨rfl, rfl⟩)
    go_ret
    exact ⟨rfl, b0⟩
  have d3 : decide (a3 ≤ 2305843009213693952) = true := decide_eq_true c3
  by_cases c4 : 0 ≤ a5
  case neg =>
    have d4 : decide (0 ≤ a5) = false := decide_eq_false c4
    simp only [t0, t1, d0, d1, d2, d3, d4, Bool.true_and, Bool.false_and, Bool.and_false] at hq
    subst hq
    go_enter Try.func19, Try.ntmps19
    go_wp2_with (go_at_call 26; refine (rkin_any _ _).mono ?_; rintro e wx ⟨rfl, rfl⟩)
    go_ret
    exact ⟨rfl, b0⟩
  have d4 : decide (0 ≤ a5) = true := decide_eq_true c4
  by_cases c5 : a5 ≤ 20
  case neg =>
    have d5 : decide (a5 ≤ 20) = false := decide_eq_false c5
    simp only [t0, t1, d0, d1, d2, d3, d4, d5, Bool.true_and, Bool.false_and, Bool.and_false] at hq
    subst hq
    go_enter Try.func19, Try.ntmps19
    go_wp2_with (go_at_call 26; refine (rkin_any _ _).mono ?_; rintro e wx ⟨rfl, rfl⟩)
    go_ret
    exact ⟨rfl, b0⟩
  have d5 : decide (a5 ≤ 20) = true := decide_eq_true c5
  simp only [t0, t1, d0, d1, d2, d3, d4, d5, Bool.true_and, Bool.and_self] at hq
  subst hq
  go_enter Try.func19, Try.ntmps19
  go_wp2_with (go_at_call 26; refine (rkin_any _ _).mono ?_; rintro e wx ⟨rfl, rfl⟩)
  go_ret
  exact ⟨rfl, b0⟩
end Go.Proofs.Ytlanplobdgchaaa
