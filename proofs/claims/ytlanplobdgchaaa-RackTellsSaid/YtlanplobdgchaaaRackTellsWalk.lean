/- RackTells: the walk. -/
import Derived.Test.YtlanplobdgchaaaProg
import Derived.Test.YtlanplobdgchaaaRkAwake
import Derived.Test.YtlanplobdgchaaaRkMath
import Derived.Test.YtlanplobdgchaaaStRef4
import Derived.Test.YtlanplobdgchaaaTail2
import Derived.Deep.AppendLies
import Derived.WalkKit
import Derived.WalkSpells
import Derived.WalkSmall
import Derived.Lib.Hide
import Derived.Below
import Derived.Outline
import Derived.Deep.QuietTactic
import Derived.BigQuiet
import Derived.IntWalk
import Derived.Deep.DeepCutAuto
import Derived.OrdersHeld
import Derived.StillTail
import Derived.Test.YtlanplobdgchaaaTail
import Derived.Laws.Rows
import Derived.Laws.Tables
namespace Go.Proofs.Ytlanplobdgchaaa.rackTells
open Go.RowKit
set_option linter.unusedVariables false
set_option linter.unusedSimpArgs false

theorem info_sx : (Try.prog.info? 26).map (·.size) = some 9 := by kernel_rfl
theorem sx_struct : ∃ fs, Try.prog.underlying 26 = some (.struct fs) := ⟨_, Try.underlying26⟩
section
variable {W : World} {B : Nat} {t : TypeId} {cs : List Value}
theorem sx_put (h : Bx W B t cs) (vs : List Value) : Bx (W.setRow B vs.toArray) B t vs := setRow_heap W B _ vs.toArray t (0, 0) h
theorem sx_grown (W : World) (B : Nat) (vs : Array Value) : W.grownBy (W.setRow B vs) (some B) :=
  ⟨rfl, rfl, rfl, by simp [World.setRow], fun i _ hne => setRow_other W B i vs (fun e => hne (by rw [e]))⟩
theorem sx_gset (W : World) (q : Addr) (u : Value) : W.grownBy (W.setCell q u) (some q.block) :=
  ⟨rfl, rfl, rfl, by simp, fun i hi hne => Below.heap_setCell W q u i (fun e => hne (by rw [e]))⟩
/-- one is loaded whole, in a plain region -/
theorem sx_load {ops : Array Oper} {rest : List Oper} {o : Oper} {a : Act} {Q : Exit → Act → World → Prop} (hgd : o.guard = none) (x : Operand) (ho : o.op = .load 26 x) (hx : a.eval x = .pointer (some ⟨B, 0, none⟩))
    (h : Bx W B t cs) (hl : cs.length = 9) (k : wpList Try.prog ops Q rest (a.put o.dst (.agg cs.toArray)) W) : wpList Try.prog ops Q (o :: rest) a W := by
  obtain ⟨fs, hu⟩ := sx_struct
  exact wpList_load_row hgd _ x ho B hx t cs.toArray (0, 0) _ h hu rfl (by rw [info_sx]; simp [hl]) k
/-- one is stored whole -/
theorem sx_store {ops : Array Oper} {rest : List Oper} {o : Oper} {a : Act} {Q : Exit → Act → World → Prop} (hgd : o.guard = none) (x y : Operand) (ho : o.op = .store 26 x y) (hx : a.eval x = .pointer (some ⟨B, 0, none⟩))
    (vs : List Value) (hy : a.eval y = .agg vs.toArray) (h : Bx W B t cs) (hl : cs.length = 9) (hv : vs.length = 9) (h1 : vs.all (·.oneCell') = true) (k : wpList Try.prog ops Q rest (a.put o.dst undef) (W.setRow B vs.toArray)) : wpList Try.prog ops Q (o :: rest) a W :=
  wpList_store_row hgd _ x y ho B vs.toArray hx hy t cs.toArray h (by rw [info_sx]; simp [hv]) (by simp [hl, hv]) (by simpa using h1) k
theorem sx_var (h : Bx W B t cs) (hl : cs.length = 9) : (Go.loadVar 26 ⟨B, 0, none⟩).run Try.prog W = .ok (.agg cs.toArray) W := by
  obtain ⟨fs, hu⟩ := sx_struct
  exact run_loadVar_row W B t 26 cs.toArray (0, 0) _ h hu rfl (by rw [info_sx]; simp [hl])
/-- one is loaded whole, in a region that draws its order -/
theorem sx_yields {ops : Array Oper} {S : World → Prop} {op : Oper} {a : Act} (hw : Region.wanted op (yielded ops a.tmps) = true) (x : Operand) (ho : op.op = .load 26 x)
    (hx : a.eval x = .pointer (some ⟨B, 0, none⟩)) (cs : List Value) (hl : cs.length = 9) (t : TypeId) (hS : ∀ W, S W → Bx W B t cs) : YieldsIf Try.prog ops S op (.agg cs.toArray) a := by
  obtain ⟨fs, hu⟩ := sx_struct
  exact .inl ⟨hw, fun w hw' => by
    unfold execOp
    simp only [ho, hx, Instr.loadAt, Instr.sureAddr, Sem.run_bind, Sem.run_pure, Result.andThen_ok, run_loadVar_row w B t 26 cs.toArray (0, 0) _ (hS w hw') hu rfl (by rw [info_sx]; simp [hl])]⟩
variable {fn : Func} {tmps : Array Value} {R : Ending → World → Prop} {v u : Value} {ds : List Deferred} {p q r : Tmp}
/-- a box alone, a box and one or two slots: what a call hands back -/
theorem sx_end1 (hr : fn.results = #[.cell p 26]) (h2 : tmps.getD p undef = .pointer (some ⟨B, 0, none⟩))
    (e : Bx W B t cs) (hl : cs.length = 9) (hd : ds = []) (h : R (.returned (.agg cs.toArray)) W) : bodyPost Try.prog fn R .ret { tmps := tmps, defers := ds } W := by
  have l2 := sx_var e hl
  have h2a : tmps[p]?.getD undef = .pointer (some ⟨B, 0, none⟩) := by simpa using h2
  refine bodyPost_ret (v := .agg cs.toArray) ?_ hd h
  simp [results, hr, h2a, asAddr, l2]
theorem sx_end2 (hr : fn.results = #[.cell p 26, .tmp q]) (h2 : tmps.getD p undef = .pointer (some ⟨B, 0, none⟩)) (h3 : tmps.getD q undef = v)
    (e : Bx W B t cs) (hl : cs.length = 9) (hd : ds = []) (h : R (.returned (.tuple #[.agg cs.toArray, v])) W) : bodyPost Try.prog fn R .ret { tmps := tmps, defers := ds } W := by
  have l2 := sx_var e hl
  have h2a : tmps[p]?.getD undef = .pointer (some ⟨B, 0, none⟩) := by simpa using h2
  have h2b : tmps[q]?.getD undef = v := by simpa using h3
  refine bodyPost_ret (v := .tuple #[.agg cs.toArray, v]) ?_ hd h
  simp [results, hr, h2a, h2b, asAddr, l2]
theorem sx_end3 (hr : fn.results = #[.cell p 26, .tmp q, .tmp r]) (h2 : tmps.getD p undef = .pointer (some ⟨B, 0, none⟩)) (h3 : tmps.getD q undef = v) (h4 : tmps.getD r undef = u)
    (e : Bx W B t cs) (hl : cs.length = 9) (hd : ds = []) (h : R (.returned (.tuple #[.agg cs.toArray, v, u])) W) : bodyPost Try.prog fn R .ret { tmps := tmps, defers := ds } W := by
  have l2 := sx_var e hl
  have h2a : tmps[p]?.getD undef = .pointer (some ⟨B, 0, none⟩) := by simpa using h2
  have h2b : tmps[q]?.getD undef = v := by simpa using h3
  have h2c : tmps[r]?.getD undef = u := by simpa using h4
  refine bodyPost_ret (v := .tuple #[.agg cs.toArray, v, u]) ?_ hd h
  simp [results, hr, h2a, h2b, h2c, asAddr, l2]
end

set_option maxRecDepth 100000 in
set_option maxHeartbeats 16000000 in
theorem walk (v : Rkv) (A : Option Addr) (n c : Nat) (l : List Prt) (x : Prt) (now least slack : Int) (w : World) (hs : Se w A n c l) (hx : PrtW x) :
    Calls Try.prog 3 #[.agg #[.int .i64 v.at_, .int .i64 v.end_, .int .i64 v.took, .int .i64 v.far, .bool v.mixed, .int .i64 v.quarters], .slice A n c, .agg #[.int .i64 x.seq, .int .i64 x.len, .int .i64 x.dsn, .int .i64 x.at_, .int .i64 x.tries, .bool x.came, .bool x.lost, .int .i64 x.total, .int .i64 x.last], .int .i64 now, .int .i64 least, .int .i64 slack] w fun e w' => e = .returned (.bool true) ∧ Below w.heap.size w w' := by
  obtain ⟨B, hB⟩ : ∃ B, w.heap.size = B := ⟨_, rfl⟩
  rw [hB]
  have m1 := hs.le
  have m2 := hs.max
  have m3 : n ≤ 9223372036854775807 := by unfold maxLen at m2; omega
  clear m1 m2
  have hnil := hs.nil
  have e0 := (Bx.new w 23 [.int .i64 v.at_, .int .i64 v.end_, .int .i64 v.took, .int .i64 v.far, .bool v.mixed, .int .i64 v.quarters]).alloc (.cells #[.int .i64 x.seq, .int .i64 x.len, .int .i64 x.dsn, .int .i64 x.at_, .int .i64 x.tries, .bool x.came, .bool x.lost, .int .i64 x.total, .int .i64 x.last] 26)
  have p0 := Bx.new (w.alloc (.cells #[.int .i64 v.at_, .int .i64 v.end_, .int .i64 v.took, .int .i64 v.far, .bool v.mixed, .int .i64 v.quarters] 23)) 26 [.int .i64 x.seq, .int .i64 x.len, .int .i64 x.dsn, .int .i64 x.at_, .int .i64 x.tries, .bool x.came, .bool x.lost, .int .i64 x.total, .int .i64 x.last]
  rw [World.size_alloc] at p0
  rw [hB] at e0 p0
  have b0 : Below B w ((w.alloc (.cells #[.int .i64 v.at_, .int .i64 v.end_, .int .i64 v.took, .int .i64 v.far, .bool v.mixed, .int .i64 v.quarters] 23)).alloc (.cells #[.int .i64 x.seq, .int .i64 x.len, .int .i64 x.dsn, .int .i64 x.at_, .int .i64 x.tries, .bool x.came, .bool x.lost, .int .i64 x.total, .int .i64 x.last] 26)) := by rw [← hB]; exact ((Below.refl _ _).alloc (Nat.le_refl _) _).alloc (by simp) _
  have s0 := (hs.alloc (.cells #[.int .i64 v.at_, .int .i64 v.end_, .int .i64 v.took, .int .i64 v.far, .bool v.mixed, .int .i64 v.quarters] 23)).alloc (.cells #[.int .i64 x.seq, .int .i64 x.len, .int .i64 x.dsn, .int .i64 x.at_, .int .i64 x.tries, .bool x.came, .bool x.lost, .int .i64 x.total, .int .i64 x.last] 26)
  have HN := Lib.hid hnil; have HXW := Lib.hid hx
  clear hs hnil hx
  go_enter Try.func3, Try.ntmps3
  go_wp2_with fail
  generalize (w.alloc (.cells #[.int .i64 v.at_, .int .i64 v.end_, .int .i64 v.took, .int .i64 v.far, .bool v.mixed, .int .i64 v.quarters] 23)).alloc (.cells #[.int .i64 x.seq, .int .i64 x.len, .int .i64 x.dsn, .int .i64 x.at_, .int .i64 x.tries, .bool x.came, .bool x.lost, .int .i64 x.total, .int .i64 x.last] 26) = w1 at e0 p0 b0 s0 ⊢
  refine (rakawake_any _).mono ?_
  rintro e w2 ⟨rfl, hb2⟩
  have e2 := e0.kept hb2; have p2 := p0.kept hb2; have b2 := b0.trans (hb2.mono (Nat.le_of_lt e0.lt)); have s2 := s0.keep hb2
  have hB2 : B ≤ w2.heap.size := Nat.le_of_lt e2.lt
  clear e0 p0 b0 s0 hb2 hB
  by_cases c0 : 520 < n
  case pos =>
    have d0 : decide ((520 : Int) < (n : Int)) = true := decide_eq_true (by omega)
    have d0' : decide (520 < n) = true := decide_eq_true c0
    go_wp2_with fail
    go_ret
    exact ⟨rfl, b2⟩
  have d0 : decide ((520 : Int) < (n : Int)) = false := decide_eq_false (by omega)
  have d0' : decide (520 < n) = false := decide_eq_false c0
  have hn1 : n ≤ 1000 := by omega
  go_upto_region 5 with (at_builtin; refine wpList_appe w2 rfl (.const (.slice none 0 0)) (.tmp 42) 24 rfl B 26 Try.underlying24 (.agg #[.int .i64 0, .int .i64 0, .int .i64 0, .int .i64 0, .int .i64 0, .bool false, .bool false, .int .i64 0, .int .i64 0]) 64 info_part (by decide) _ 0 ([] : List Prt) rfl (Goe.none _ _ _) rfl HN.out s2.rd (by unfold maxLen; omega) (by omega) hB2 ?_; intro v3 w3 hg3 hgr3 _)
  have hb3 : Below w2.heap.size w2 w3 := (Below.refl _ _).grown hgr3 (Nat.le_refl _) (fun k hk => by cases hk)
  have g3 : Goe w3 B 26 v3 n l := by have := hg3; simpa using this
  obtain ⟨A', c', rfl, a3⟩ := g3.se
  have e3 := e2.kept hb3; have p3 := p2.kept hb3; have b3 := b2.trans (hb3.mono hB2); have s3 := s2.keep hb3
  clear e2 p2 b2 s2 hB2 hb3 hg3 hgr3 g3
  obtain ⟨C, hC⟩ : ∃ C, rkcameR v x now least = C := ⟨_, rfl⟩
  obtain ⟨C, ce⟩ := C
  obtain ⟨D, hD⟩ : ∃ D, twiceR v = D := ⟨_, rfl⟩
  obtain ⟨D, de⟩ := D
  obtain ⟨M, hM⟩ : ∃ M, lostR v l now slack = M := ⟨_, rfl⟩
  obtain ⟨M, ln, nx, le⟩ := M
  have HC := Lib.hid hC; have HD := Lib.hid hD; have HM := Lib.hid hM
  clear hC hD hM
  go_wp2_with (first | (refine rk_load rfl (.tmp 6) rfl rfl e3 rfl ?_) | (refine sx_load rfl (.tmp 8) rfl rfl p3 rfl ?_))
  refine (rakcame_any v x now least _ HXW.out).mono ?_
  rintro e u3 ⟨he, hb4⟩
  rw [HC.out] at he
  dsimp only at he
  subst he
  have e4 := (e3.kept hb4).alloc (.cells #[.int .i64 C.at_, .int .i64 C.end_, .int .i64 C.took, .int .i64 C.far, .bool C.mixed, .int .i64 C.quarters] 23); have p4 := (p3.kept hb4).alloc (.cells #[.int .i64 C.at_, .int .i64 C.end_, .int .i64 C.took, .int .i64 C.far, .bool C.mixed, .int .i64 C.quarters] 23); have s4 := (s3.keep hb4).alloc (.cells #[.int .i64 C.at_, .int .i64 C.end_, .int .i64 C.took, .int .i64 C.far, .bool C.mixed, .int .i64 C.quarters] 23); have a4 := (a3.keep hb4).alloc (.cells #[.int .i64 C.at_, .int .i64 C.end_, .int .i64 C.took, .int .i64 C.far, .bool C.mixed, .int .i64 C.quarters] 23)
  have b4 := (b3.trans (hb4.mono (Nat.le_of_lt e3.lt))).alloc (Nat.le_of_lt (e3.kept hb4).lt) (.cells #[.int .i64 C.at_, .int .i64 C.end_, .int .i64 C.took, .int .i64 C.far, .bool C.mixed, .int .i64 C.quarters] 23)
  have f4 := Bx.new u3 23 [.int .i64 C.at_, .int .i64 C.end_, .int .i64 C.took, .int .i64 C.far, .bool C.mixed, .int .i64 C.quarters]
  clear e3 p3 s3 a3 b3
  clear hb4
  go_upto_region 6 with fail
  obtain ⟨Qf, hQ⟩ : ∃ Q, u3.heap.size = Q := ⟨_, rfl⟩
  rw [hQ] at f4 ⊢
  generalize u3.alloc (.cells #[.int .i64 C.at_, .int .i64 C.end_, .int .i64 C.took, .int .i64 C.far, .bool C.mixed, .int .i64 C.quarters] 23) = w4 at e4 p4 s4 a4 b4 f4 ⊢
  clear hQ
  go_wp2_with (first | (refine rk_load rfl (.tmp 6) rfl rfl e4 rfl ?_) | (refine sx_load rfl (.tmp 8) rfl rfl p4 rfl ?_))
  refine (rkcame_any v x now least _).mono ?_
  rintro e u4 ⟨he, hb5⟩
  rw [HC.out] at he
  dsimp only at he
  subst he
  have e5 := (e4.kept hb5).alloc (.cells #[.int .i64 C.at_, .int .i64 C.end_, .int .i64 C.took, .int .i64 C.far, .bool C.mixed, .int .i64 C.quarters] 23); have p5 := (p4.kept hb5).alloc (.cells #[.int .i64 C.at_, .int .i64 C.end_, .int .i64 C.took, .int .i64 C.far, .bool C.mixed, .int .i64 C.quarters] 23); have s5 := (s4.keep hb5).alloc (.cells #[.int .i64 C.at_, .int .i64 C.end_, .int .i64 C.took, .int .i64 C.far, .bool C.mixed, .int .i64 C.quarters] 23); have a5 := (a4.keep hb5).alloc (.cells #[.int .i64 C.at_, .int .i64 C.end_, .int .i64 C.took, .int .i64 C.far, .bool C.mixed, .int .i64 C.quarters] 23)
  have f5 := (f4.kept hb5).alloc (.cells #[.int .i64 C.at_, .int .i64 C.end_, .int .i64 C.took, .int .i64 C.far, .bool C.mixed, .int .i64 C.quarters] 23)
  have b5 := (b4.trans (hb5.mono (Nat.le_of_lt e4.lt))).alloc (Nat.le_of_lt (e4.kept hb5).lt) (.cells #[.int .i64 C.at_, .int .i64 C.end_, .int .i64 C.took, .int .i64 C.far, .bool C.mixed, .int .i64 C.quarters] 23)
  have g5 := Bx.new u4 23 [.int .i64 C.at_, .int .i64 C.end_, .int .i64 C.took, .int .i64 C.far, .bool C.mixed, .int .i64 C.quarters]
  clear e4 p4 s4 a4 b4 f4
  clear hb5
  go_upto_region 7 with fail
  obtain ⟨Qg, hQ⟩ : ∃ Q, u4.heap.size = Q := ⟨_, rfl⟩
  rw [hQ] at g5 ⊢
  generalize u4.alloc (.cells #[.int .i64 C.at_, .int .i64 C.end_, .int .i64 C.took, .int .i64 C.far, .bool C.mixed, .int .i64 C.quarters] 23) = w5 at e5 p5 s5 a5 b5 f5 g5 ⊢
  clear hQ
  go_wp2_with (first | (refine rk_load rfl (.tmp 6) rfl rfl e5 rfl ?_) | (refine sx_load rfl (.tmp 8) rfl rfl p5 rfl ?_))
  refine (raktwice_any v _).mono ?_
  rintro e u5 ⟨he, hb6⟩
  rw [HD.out] at he
  dsimp only at he
  subst he
  have e6 := (e5.kept hb6).alloc (.cells #[.int .i64 D.at_, .int .i64 D.end_, .int .i64 D.took, .int .i64 D.far, .bool D.mixed, .int .i64 D.quarters] 23); have p6 := (p5.kept hb6).alloc (.cells #[.int .i64 D.at_, .int .i64 D.end_, .int .i64 D.took, .int .i64 D.far, .bool D.mixed, .int .i64 D.quarters] 23); have s6 := (s5.keep hb6).alloc (.cells #[.int .i64 D.at_, .int .i64 D.end_, .int .i64 D.took, .int .i64 D.far, .bool D.mixed, .int .i64 D.quarters] 23); have a6 := (a5.keep hb6).alloc (.cells #[.int .i64 D.at_, .int .i64 D.end_, .int .i64 D.took, .int .i64 D.far, .bool D.mixed, .int .i64 D.quarters] 23)
  have f6 := (f5.kept hb6).alloc (.cells #[.int .i64 D.at_, .int .i64 D.end_, .int .i64 D.took, .int .i64 D.far, .bool D.mixed, .int .i64 D.quarters] 23)
  have g6 := (g5.kept hb6).alloc (.cells #[.int .i64 D.at_, .int .i64 D.end_, .int .i64 D.took, .int .i64 D.far, .bool D.mixed, .int .i64 D.quarters] 23)
  have b6 := (b5.trans (hb6.mono (Nat.le_of_lt e5.lt))).alloc (Nat.le_of_lt (e5.kept hb6).lt) (.cells #[.int .i64 D.at_, .int .i64 D.end_, .int .i64 D.took, .int .i64 D.far, .bool D.mixed, .int .i64 D.quarters] 23)
  have h6 := Bx.new u5 23 [.int .i64 D.at_, .int .i64 D.end_, .int .i64 D.took, .int .i64 D.far, .bool D.mixed, .int .i64 D.quarters]
  clear e5 p5 s5 a5 b5 f5 g5
  clear hb6
  go_upto_region 8 with fail
  obtain ⟨Qh, hQ⟩ : ∃ Q, u5.heap.size = Q := ⟨_, rfl⟩
  rw [hQ] at h6 ⊢
  generalize u5.alloc (.cells #[.int .i64 D.at_, .int .i64 D.end_, .int .i64 D.took, .int .i64 D.far, .bool D.mixed, .int .i64 D.quarters] 23) = w6 at e6 p6 s6 a6 b6 f6 g6 h6 ⊢
  clear hQ
  go_wp2_with (first | (refine rk_load rfl (.tmp 6) rfl rfl e6 rfl ?_) | (refine sx_load rfl (.tmp 8) rfl rfl p6 rfl ?_))
  refine (rktwice_any v _).mono ?_
  rintro e u6 ⟨he, hb7⟩
  rw [HD.out] at he
  dsimp only at he
  subst he
  have e7 := (e6.kept hb7).alloc (.cells #[.int .i64 D.at_, .int .i64 D.end_, .int .i64 D.took, .int .i64 D.far, .bool D.mixed, .int .i64 D.quarters] 23); have p7 := (p6.kept hb7).alloc (.cells #[.int .i64 D.at_, .int .i64 D.end_, .int .i64 D.took, .int .i64 D.far, .bool D.mixed, .int .i64 D.quarters] 23); have s7 := (s6.keep hb7).alloc (.cells #[.int .i64 D.at_, .int .i64 D.end_, .int .i64 D.took, .int .i64 D.far, .bool D.mixed, .int .i64 D.quarters] 23); have a7 := (a6.keep hb7).alloc (.cells #[.int .i64 D.at_, .int .i64 D.end_, .int .i64 D.took, .int .i64 D.far, .bool D.mixed, .int .i64 D.quarters] 23)
  have f7 := (f6.kept hb7).alloc (.cells #[.int .i64 D.at_, .int .i64 D.end_, .int .i64 D.took, .int .i64 D.far, .bool D.mixed, .int .i64 D.quarters] 23)
  have g7 := (g6.kept hb7).alloc (.cells #[.int .i64 D.at_, .int .i64 D.end_, .int .i64 D.took, .int .i64 D.far, .bool D.mixed, .int .i64 D.quarters] 23)
  have h7 := (h6.kept hb7).alloc (.cells #[.int .i64 D.at_, .int .i64 D.end_, .int .i64 D.took, .int .i64 D.far, .bool D.mixed, .int .i64 D.quarters] 23)
  have b7 := (b6.trans (hb7.mono (Nat.le_of_lt e6.lt))).alloc (Nat.le_of_lt (e6.kept hb7).lt) (.cells #[.int .i64 D.at_, .int .i64 D.end_, .int .i64 D.took, .int .i64 D.far, .bool D.mixed, .int .i64 D.quarters] 23)
  have i7 := Bx.new u6 23 [.int .i64 D.at_, .int .i64 D.end_, .int .i64 D.took, .int .i64 D.far, .bool D.mixed, .int .i64 D.quarters]
  clear e6 p6 s6 a6 b6 f6 g6 h6
  clear hb7
  go_upto_region 9 with fail
  obtain ⟨Qi, hQ⟩ : ∃ Q, u6.heap.size = Q := ⟨_, rfl⟩
  rw [hQ] at i7 ⊢
  generalize u6.alloc (.cells #[.int .i64 D.at_, .int .i64 D.end_, .int .i64 D.took, .int .i64 D.far, .bool D.mixed, .int .i64 D.quarters] 23) = w7 at e7 p7 s7 a7 b7 f7 g7 h7 i7 ⊢
  clear hQ
  go_wp2_with (first | (refine rk_load rfl (.tmp 6) rfl rfl e7 rfl ?_) | (refine sx_load rfl (.tmp 8) rfl rfl p7 rfl ?_))
  refine (raklost_any v A n c l now slack _ s7 hn1).mono ?_
  rintro e w8 ⟨G1, m1, d1, he, hj, hb8⟩
  rw [HM.out] at he hj
  dsimp only at he hj
  subst he
  have e8 := (e7.kept hb8); have p8 := (p7.kept hb8); have s8 := (s7.keep hb8); have a8 := (a7.keep hb8)
  have f8 := (f7.kept hb8)
  have g8 := (g7.kept hb8)
  have h8 := (h7.kept hb8)
  have i8 := (i7.kept hb8)
  have b8 := b7.trans (hb8.mono (Nat.le_of_lt e7.lt))
  have j8 := hj.se
  clear e7 p7 s7 a7 b7 f7 g7 h7 i7
  clear hb8 hj
  go_wp2_with (first | (refine rk_load rfl (.tmp 6) rfl rfl e8 rfl ?_) | (refine sx_load rfl (.tmp 8) rfl rfl p8 rfl ?_))
  refine (rklost_any v A n c l now slack _ s8).mono ?_
  rintro e w9 ⟨G2, m2, d2, he, hk, hb9⟩
  rw [HM.out] at he hk
  dsimp only at he hk
  subst he
  have e9 := (e8.kept hb9); have p9 := (p8.kept hb9); have s9 := (s8.keep hb9); have a9 := (a8.keep hb9)
  have f9 := (f8.kept hb9)
  have g9 := (g8.kept hb9)
  have h9 := (h8.kept hb9)
  have i9 := (i8.kept hb9)
  have j9 := (j8.keep hb9)
  have b9 := b8.trans (hb9.mono (Nat.le_of_lt e8.lt))
  have k9 := hk.se
  clear e8 p8 s8 a8 b8 f8 g8 h8 i8 j8
  clear hb9 hk
  go_wp2_with fail
  refine (rstsame_any G1 m1 d1 M G2 m2 d2 M _ j9 k9).mono ?_
  rintro e w10 ⟨rfl, hb10⟩
  rw [decide_eq_true rfl]
  have e10 := (e9.kept hb10); have p10 := (p9.kept hb10); have s10 := (s9.keep hb10); have a10 := (a9.keep hb10)
  have f10 := (f9.kept hb10)
  have g10 := (g9.kept hb10)
  have h10 := (h9.kept hb10)
  have i10 := (i9.kept hb10)
  have j10 := (j9.keep hb10)
  have k10 := (k9.keep hb10)
  have b10 := b9.trans (hb10.mono (Nat.le_of_lt e9.lt))
  clear e9 p9 s9 a9 b9 f9 g9 h9 i9 j9 k9
  clear hb10
  have hh0 := h10.cell 0 rfl
  have hh1 := h10.cell 1 rfl
  have hh2 := h10.cell 2 rfl
  have hh3 := h10.cell 3 rfl
  have hh4 := h10.cell 4 rfl
  have hh5 := h10.cell 5 rfl
  have hi0 := i10.cell 0 rfl
  have hi1 := i10.cell 1 rfl
  have hi2 := i10.cell 2 rfl
  have hi3 := i10.cell 3 rfl
  have hi4 := i10.cell 4 rfl
  have hi5 := i10.cell 5 rfl
  go_wp2_with (first | (refine rk_load rfl (.tmp 15) rfl rfl f10 rfl ?_) | (refine rk_load rfl (.tmp 17) rfl rfl g10 rfl ?_))
  clear hh0 hh1 hh2 hh3 hh4 hh5 hi0 hi1 hi2 hi3 hi4 hi5
  refine (rstsame_any A n c l A' n c' l _ s10 a10).mono ?_
  rintro e w11 ⟨rfl, hb11⟩
  rw [decide_eq_true rfl]
  have e11 := (e10.kept hb11); have p11 := (p10.kept hb11); have s11 := (s10.keep hb11); have a11 := (a10.keep hb11)
  have f11 := (f10.kept hb11)
  have g11 := (g10.kept hb11)
  have h11 := (h10.kept hb11)
  have i11 := (i10.kept hb11)
  have j11 := (j10.keep hb11)
  have k11 := (k10.keep hb11)
  have b11 := b10.trans (hb11.mono (Nat.le_of_lt e10.lt))
  clear e10 p10 s10 a10 b10 f10 g10 h10 i10 j10 k10
  clear hb11
  go_upto_region 13 with fail
  have dd : Below w11.heap.size w11 w11.drew := (Below.refl _ _).drew
  refine wp_region_tail 19 20 (fun (W : World) => Bx W B 23 [.int .i64 v.at_, .int .i64 v.end_, .int .i64 v.took, .int .i64 v.far, .bool v.mixed, .int .i64 v.quarters] ∧ Below w11.heap.size w11 W) (by kernel_rfl) (by rfl) (by decide) ?_
  have HS : ((fun (W : World) => Bx W B 23 [.int .i64 v.at_, .int .i64 v.end_, .int .i64 v.took, .int .i64 v.far, .bool v.mixed, .int .i64 v.quarters] ∧ Below w11.heap.size w11 W)) _ := ⟨e11.kept dd, dd⟩
  refine wpAnyT_take (i := 0) (v := ?vv1) rfl (by kernel_rfl) (fun _ _ _ h => h) (Or.inl ⟨by rfl, fun w hSw => ?yy1⟩) HS ?rr1
  case yy1 =>
    (try dsimp only at hSw); go_simp
    try with_reducible rfl
  try simp only [Act.put, List.setIfInBounds_toArray, List.set_cons_zero, List.set_cons_succ]
  refine wpAnyT_take (i := 1) (v := ?vv2) rfl (by kernel_rfl) (fun _ _ _ h => h) (Or.inl ⟨by rfl, fun w hSw => ?yy2⟩) HS ?rr2
  case yy2 =>
    (try dsimp only at hSw); go_simp
    try with_reducible rfl
  try simp only [Act.put, List.setIfInBounds_toArray, List.set_cons_zero, List.set_cons_succ]
  refine wpAnyT_take (i := 2) (v := .agg #[.int .i64 v.at_, .int .i64 v.end_, .int .i64 v.took, .int .i64 v.far, .bool v.mixed, .int .i64 v.quarters]) rfl (by kernel_rfl) (fun _ _ _ h => h) (rk_yields (by rfl) (.tmp 6) rfl rfl [.int .i64 v.at_, .int .i64 v.end_, .int .i64 v.took, .int .i64 v.far, .bool v.mixed, .int .i64 v.quarters] rfl 23 (fun W hW => hW.1)) HS ?_
  try simp only [Act.put, List.setIfInBounds_toArray, List.set_cons_zero, List.set_cons_succ]
  refine wpAnyT_take (i := 3) (v := ?vv3) rfl (by kernel_rfl) (fun _ _ _ h => h) (Or.inl ⟨by rfl, fun w hSw => ?yy3⟩) HS ?rr3
  case yy3 =>
    (try dsimp only at hSw); go_simp
    try with_reducible rfl
  try simp only [Act.put, List.setIfInBounds_toArray, List.set_cons_zero, List.set_cons_succ]
  refine wpAnyT_take (i := 4) (v := ?vv4) rfl (by kernel_rfl) (fun _ _ _ h => h) (Or.inl ⟨by rfl, fun w hSw => ?yy4⟩) HS ?rr4
  case yy4 =>
    (try dsimp only at hSw); go_simp
    try with_reducible rfl
  try simp only [Act.put, List.setIfInBounds_toArray, List.set_cons_zero, List.set_cons_succ]
  refine wpAnyT_take (i := 6) (v := .agg #[.int .i64 v.at_, .int .i64 v.end_, .int .i64 v.took, .int .i64 v.far, .bool v.mixed, .int .i64 v.quarters]) rfl (by kernel_rfl) (fun _ _ _ h => h) (rk_yields (by rfl) (.tmp 6) rfl rfl [.int .i64 v.at_, .int .i64 v.end_, .int .i64 v.took, .int .i64 v.far, .bool v.mixed, .int .i64 v.quarters] rfl 23 (fun W hW => hW.1)) HS ?_
  try simp only [Act.put, List.setIfInBounds_toArray, List.set_cons_zero, List.set_cons_succ]
  refine wpAnyT_take (i := 7) (v := ?vv5) rfl (by kernel_rfl) (fun _ _ _ h => h) (Or.inl ⟨by rfl, fun w hSw => ?yy5⟩) HS ?rr5
  case yy5 =>
    (try dsimp only at hSw); go_simp
    try with_reducible rfl
  try simp only [Act.put, List.setIfInBounds_toArray, List.set_cons_zero, List.set_cons_succ]
  refine wpAnyT_take (i := 8) (v := ?vv6) rfl (by kernel_rfl) (fun _ _ _ h => h) (Or.inl ⟨by rfl, fun w hSw => ?yy6⟩) HS ?rr6
  case yy6 =>
    (try dsimp only at hSw); go_simp
    try with_reducible rfl
  try simp only [Act.put, List.setIfInBounds_toArray, List.set_cons_zero, List.set_cons_succ]
  refine wpAnyT_one (k := 5) rfl (by kernel_rfl) (by decide) (fun K hK => ?_)
  go_simp
  refine (rakslack_any v least slack _).mono ?_
  rintro e y1 ⟨rfl, hy1⟩
  have HS : ((fun (W : World) => Bx W B 23 [.int .i64 v.at_, .int .i64 v.end_, .int .i64 v.took, .int .i64 v.far, .bool v.mixed, .int .i64 v.quarters] ∧ Below w11.heap.size w11 W)) _ := ⟨HS.1.kept hy1, HS.2.trans (hy1.mono HS.2.size)⟩
  refine hK _ _ HS ?_
  clear hK K
  try simp only [Act.put, List.setIfInBounds_toArray, List.set_cons_zero, List.set_cons_succ]
  refine wpAnyT_one (k := 9) rfl (by kernel_rfl) (by decide) (fun K hK => ?_)
  go_simp
  refine (rkslack_any v least slack _).mono ?_
  rintro e y2 ⟨rfl, hy2⟩
  have HS : ((fun (W : World) => Bx W B 23 [.int .i64 v.at_, .int .i64 v.end_, .int .i64 v.took, .int .i64 v.far, .bool v.mixed, .int .i64 v.quarters] ∧ Below w11.heap.size w11 W)) _ := ⟨HS.1.kept hy2, HS.2.trans (hy2.mono HS.2.size)⟩
  refine hK _ _ HS ?_
  clear hK K
  try simp only [Act.put, List.setIfInBounds_toArray, List.set_cons_zero, List.set_cons_succ]
  refine wpAnyT_take (i := 10) (v := ?vv7) rfl (by kernel_rfl) (fun _ _ _ h => h) (Or.inl ⟨by rfl, fun w hSw => ?yy7⟩) HS ?rr7
  case yy7 =>
    (try dsimp only at hSw); go_simp
    try with_reducible rfl
  try simp only [Act.put, List.setIfInBounds_toArray, List.set_cons_zero, List.set_cons_succ]
  refine wpAnyT_take (i := 11) (v := ?vv8) rfl (by kernel_rfl) (fun _ _ _ h => h) (Or.inl ⟨by rfl, fun w hSw => ?yy8⟩) HS ?rr8
  case yy8 =>
    (try dsimp only at hSw); go_simp
    try with_reducible rfl
  try simp only [Act.put, List.setIfInBounds_toArray, List.set_cons_zero, List.set_cons_succ]
  refine wpAnyT_take (i := 12) (v := ?vv9) rfl (by kernel_rfl) (fun _ _ _ h => h) (Or.inl ⟨by rfl, fun w hSw => ?yy9⟩) HS ?rr9
  case yy9 =>
    (try dsimp only at hSw); go_simp
    try with_reducible rfl
  try simp only [Act.put, List.setIfInBounds_toArray, List.set_cons_zero, List.set_cons_succ]
  refine wpAnyT_take (i := 13) (v := .agg #[.int .i64 v.at_, .int .i64 v.end_, .int .i64 v.took, .int .i64 v.far, .bool v.mixed, .int .i64 v.quarters]) rfl (by kernel_rfl) (fun _ _ _ h => h) (rk_yields (by rfl) (.tmp 6) rfl rfl [.int .i64 v.at_, .int .i64 v.end_, .int .i64 v.took, .int .i64 v.far, .bool v.mixed, .int .i64 v.quarters] rfl 23 (fun W hW => hW.1)) HS ?_
  try simp only [Act.put, List.setIfInBounds_toArray, List.set_cons_zero, List.set_cons_succ]
  refine wpAnyT_take (i := 15) (v := .agg #[.int .i64 v.at_, .int .i64 v.end_, .int .i64 v.took, .int .i64 v.far, .bool v.mixed, .int .i64 v.quarters]) rfl (by kernel_rfl) (fun _ _ _ h => h) (rk_yields (by rfl) (.tmp 6) rfl rfl [.int .i64 v.at_, .int .i64 v.end_, .int .i64 v.took, .int .i64 v.far, .bool v.mixed, .int .i64 v.quarters] rfl 23 (fun W hW => hW.1)) HS ?_
  try simp only [Act.put, List.setIfInBounds_toArray, List.set_cons_zero, List.set_cons_succ]
  refine wpAnyT_one (k := 14) rfl (by kernel_rfl) (by decide) (fun K hK => ?_)
  go_simp
  refine (rakmay_any v _).mono ?_
  rintro e y3 ⟨rfl, hy3⟩
  have HS : ((fun (W : World) => Bx W B 23 [.int .i64 v.at_, .int .i64 v.end_, .int .i64 v.took, .int .i64 v.far, .bool v.mixed, .int .i64 v.quarters] ∧ Below w11.heap.size w11 W)) _ := ⟨HS.1.kept hy3, HS.2.trans (hy3.mono HS.2.size)⟩
  refine hK _ _ HS ?_
  clear hK K
  try simp only [Act.put, List.setIfInBounds_toArray, List.set_cons_zero, List.set_cons_succ]
  refine wpAnyT_one (k := 16) rfl (by kernel_rfl) (by decide) (fun K hK => ?_)
  go_simp
  refine (rkmay_any v _).mono ?_
  rintro e y4 ⟨rfl, hy4⟩
  have HS : ((fun (W : World) => Bx W B 23 [.int .i64 v.at_, .int .i64 v.end_, .int .i64 v.took, .int .i64 v.far, .bool v.mixed, .int .i64 v.quarters] ∧ Below w11.heap.size w11 W)) _ := ⟨HS.1.kept hy4, HS.2.trans (hy4.mono HS.2.size)⟩
  refine hK _ _ HS ?_
  clear hK K
  try simp only [Act.put, List.setIfInBounds_toArray, List.set_cons_zero, List.set_cons_succ]
  refine wpAnyT_take (i := 17) (v := ?vv10) rfl (by kernel_rfl) (fun _ _ _ h => h) (Or.inl ⟨by rfl, fun w hSw => ?yy10⟩) HS ?rr10
  case yy10 =>
    (try dsimp only at hSw); go_simp
    try with_reducible rfl
  try simp only [Act.put, List.setIfInBounds_toArray, List.set_cons_zero, List.set_cons_succ]
  refine wpAnyT_take (i := 18) (v := ?vv11) rfl (by kernel_rfl) (fun _ _ _ h => h) (Or.inl ⟨by rfl, fun w hSw => ?yy11⟩) HS ?rr11
  case yy11 =>
    (try dsimp only at hSw); go_simp
    try with_reducible rfl
  try simp only [Act.put, List.setIfInBounds_toArray, List.set_cons_zero, List.set_cons_succ]
  refine ⟨by kernel_rfl, ?_⟩
  simp only [List.drop_succ_cons, List.drop_zero]
  have bz := b11.trans (HS.2.mono (Nat.le_of_lt e11.lt))
  clear HS
  go_wp2_with fail
  go_ret
  exact ⟨rfl, bz⟩
end Go.Proofs.Ytlanplobdgchaaa.rackTells
