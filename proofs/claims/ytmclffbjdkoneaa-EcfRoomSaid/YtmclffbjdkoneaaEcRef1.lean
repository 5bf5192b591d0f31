/- The reference of package ecf: brief, May, Room, below as contracts of the calls. -/
import Derived.Test.YtmclffbjdkoneaaProg
import Derived.Test.YtmclffbjdkoneaaEc
import Derived.Test.YtmclffbjdkoneaaBx
import Derived.WalkKit
import Derived.WalkSpells
import Derived.WalkSmall
import Derived.Lib.Hide
import Derived.Below
import Derived.Outline
import Derived.Laws.Tables
import Derived.Laws.Rows
import Derived.OrdersHeld
import Derived.Deep.QuietTactic
import Derived.BigQuiet
import Derived.IntWalk
import Derived.Deep.DeepCutAuto
import Derived.Deep.AppendLies
namespace Go.Proofs.Ytmclffbjdkoneaa
open Go.RowKit
set_option linter.unusedVariables false
set_option linter.unusedSimpArgs false

theorem info_ch : (Try.prog.info? 28).map (·.size) = some 5 := by kernel_rfl
theorem ch_struct : ∃ fs, Try.prog.underlying 28 = some (.struct fs) := ⟨_, Try.underlying28⟩
section
variable {W : World} {B : Nat} {t : TypeId} {cs : List Value}
theorem ch_put (h : Bx W B t cs) (vs : List Value) : Bx (W.setRow B vs.toArray) B t vs := setRow_heap W B _ vs.toArray t (0, 0) h
theorem ch_grown (W : World) (B : Nat) (vs : Array Value) : W.grownBy (W.setRow B vs) (some B) :=
  ⟨rfl, rfl, rfl, by simp [World.setRow], fun i _ hne => setRow_other W B i vs (fun e => hne (by rw [e]))⟩
theorem ch_gset (W : World) (q : Addr) (u : Value) : W.grownBy (W.setCell q u) (some q.block) :=
  ⟨rfl, rfl, rfl, by simp, fun i hi hne => Below.heap_setCell W q u i (fun e => hne (by rw [e]))⟩
/-- one is loaded whole, in a plain region -/
theorem ch_load {ops : Array Oper} {rest : List Oper} {o : Oper} {a : Act} {Q : Exit → Act → World → Prop} (hgd : o.guard = none) (x : Operand) (ho : o.op = .load 28 x) (hx : a.eval x = .pointer (some ⟨B, 0, none⟩))
    (h : Bx W B t cs) (hl : cs.length = 5) (k : wpList Try.prog ops Q rest (a.put o.dst (.agg cs.toArray)) W) : wpList Try.prog ops Q (o :: rest) a W := by
  obtain ⟨fs, hu⟩ := ch_struct
  exact wpList_load_row hgd _ x ho B hx t cs.toArray (0, 0) _ h hu rfl (by rw [info_ch]; simp [hl]) k
/-- one is stored whole -/
theorem ch_store {ops : Array Oper} {rest : List Oper} {o : Oper} {a : Act} {Q : Exit → Act → World → Prop} (hgd : o.guard = none) (x y : Operand) (ho : o.op = .store 28 x y) (hx : a.eval x = .pointer (some ⟨B, 0, none⟩))
    (vs : List Value) (hy : a.eval y = .agg vs.toArray) (h : Bx W B t cs) (hl : cs.length = 5) (hv : vs.length = 5) (h1 : vs.all (·.oneCell') = true) (k : wpList Try.prog ops Q rest (a.put o.dst undef) (W.setRow B vs.toArray)) : wpList Try.prog ops Q (o :: rest) a W :=
  wpList_store_row hgd _ x y ho B vs.toArray hx hy t cs.toArray h (by rw [info_ch]; simp [hv]) (by simp [hl, hv]) (by simpa using h1) k
theorem ch_var (h : Bx W B t cs) (hl : cs.length = 5) : (Go.loadVar 28 ⟨B, 0, none⟩).run Try.prog W = .ok (.agg cs.toArray) W := by
  obtain ⟨fs, hu⟩ := ch_struct
  exact run_loadVar_row W B t 28 cs.toArray (0, 0) _ h hu rfl (by rw [info_ch]; simp [hl])
/-- one is loaded whole, in a region that draws its order -/
theorem ch_yields {ops : Array Oper} {S : World → Prop} {op : Oper} {a : Act} (hw : Region.wanted op (yielded ops a.tmps) = true) (x : Operand) (ho : op.op = .load 28 x)
    (hx : a.eval x = .pointer (some ⟨B, 0, none⟩)) (cs : List Value) (hl : cs.length = 5) (t : TypeId) (hS : ∀ W, S W → Bx W B t cs) : YieldsIf Try.prog ops S op (.agg cs.toArray) a := by
  obtain ⟨fs, hu⟩ := ch_struct
  exact .inl ⟨hw, fun w hw' => by
    unfold execOp
    simp only [ho, hx, Instr.loadAt, Instr.sureAddr, Sem.run_bind, Sem.run_pure, Result.andThen_ok, run_loadVar_row w B t 28 cs.toArray (0, 0) _ (hS w hw') hu rfl (by rw [info_ch]; simp [hl])]⟩
variable {fn : Func} {tmps : Array Value} {R : Ending → World → Prop} {v u : Value} {ds : List Deferred} {p q r : Tmp}
/-- a box alone, a box and one or two slots: what a call hands back -/
theorem ch_end1 (hr : fn.results = #[.cell p 28]) (h2 : tmps.getD p undef = .pointer (some ⟨B, 0, none⟩))
    (e : Bx W B t cs) (hl : cs.length = 5) (hd : ds = []) (h : R (.returned (.agg cs.toArray)) W) : bodyPost Try.prog fn R .ret { tmps := tmps, defers := ds } W := by
  have l2 := ch_var e hl
  have h2a : tmps[p]?.getD undef = .pointer (some ⟨B, 0, none⟩) := by simpa using h2
  refine bodyPost_ret (v := .agg cs.toArray) ?_ hd h
  simp [results, hr, h2a, asAddr, l2]
theorem ch_end2 (hr : fn.results = #[.cell p 28, .tmp q]) (h2 : tmps.getD p undef = .pointer (some ⟨B, 0, none⟩)) (h3 : tmps.getD q undef = v)
    (e : Bx W B t cs) (hl : cs.length = 5) (hd : ds = []) (h : R (.returned (.tuple #[.agg cs.toArray, v])) W) : bodyPost Try.prog fn R .ret { tmps := tmps, defers := ds } W := by
  have l2 := ch_var e hl
  have h2a : tmps[p]?.getD undef = .pointer (some ⟨B, 0, none⟩) := by simpa using h2
  have h2b : tmps[q]?.getD undef = v := by simpa using h3
  refine bodyPost_ret (v := .tuple #[.agg cs.toArray, v]) ?_ hd h
  simp [results, hr, h2a, h2b, asAddr, l2]
theorem ch_end3 (hr : fn.results = #[.cell p 28, .tmp q, .tmp r]) (h2 : tmps.getD p undef = .pointer (some ⟨B, 0, none⟩)) (h3 : tmps.getD q undef = v) (h4 : tmps.getD r undef = u)
    (e : Bx W B t cs) (hl : cs.length = 5) (hd : ds = []) (h : R (.returned (.tuple #[.agg cs.toArray, v, u])) W) : bodyPost Try.prog fn R .ret { tmps := tmps, defers := ds } W := by
  have l2 := ch_var e hl
  have h2a : tmps[p]?.getD undef = .pointer (some ⟨B, 0, none⟩) := by simpa using h2
  have h2b : tmps[q]?.getD undef = v := by simpa using h3
  have h2c : tmps[r]?.getD undef = u := by simpa using h4
  refine bodyPost_ret (v := .tuple #[.agg cs.toArray, v, u]) ?_ hd h
  simp [results, hr, h2a, h2b, h2c, asAddr, l2]
end

set_option maxRecDepth 100000 in
set_option maxHeartbeats 8000000 in
theorem rebrief_any (n : Int) (w : World) : Calls Try.prog 19 #[.int .i64 n] w fun e w' => e = .returned (.bool (brB n)) ∧ w = w' := by
  obtain ⟨q, hq⟩ : ∃ q, brB n = q := ⟨_, rfl⟩
  rw [hq]
  have HQ := Lib.hid hq; clear hq
  by_cases c0 : 0 ≤ n
  case neg =>
    have d0 : decide (0 ≤ n) = false := decide_eq_false c0
    have hF : q = false := by rw [← HQ.out]; exact Bool.eq_false_iff.2 (fun h => by have := (brB_iff n).1 h; omega)
    subst hF
    go_enter Try.func19, Try.ntmps19
    go_wp2
    go_ret
    exact ⟨rfl, rfl⟩
  case pos =>
  have d0 : decide (0 ≤ n) = true := decide_eq_true c0
  by_cases c1 : n ≤ 1099511627776
  case neg =>
    have d1 : decide (n ≤ 1099511627776) = false := decide_eq_false c1
    have hF : q = false := by rw [← HQ.out]; exact Bool.eq_false_iff.2 (fun h => by have := (brB_iff n).1 h; omega)
    subst hF
    go_enter Try.func19, Try.ntmps19
    go_wp2
    go_ret
    exact ⟨rfl, rfl⟩
  case pos =>
  have d1 : decide (n ≤ 1099511627776) = true := decide_eq_true c1
  have hT : q = true := by rw [← HQ.out]; exact (brB_iff n).2 ⟨c0, c1⟩
  subst hT
  go_enter Try.func19, Try.ntmps19
  go_wp2
  go_ret
  exact ⟨rfl, rfl⟩

set_option maxRecDepth 100000 in
set_option maxHeartbeats 8000000 in
theorem remay_any (x : Chv) (w : World) : Calls Try.prog 12 #[.agg #[.bool x.up, .int .i64 x.cwnd, .int .i64 x.flight, .int .i64 x.srtt, .int .i64 x.vr]] w fun e w' => e = .returned (.bool (chB x)) ∧ Below w.heap.size w w' := by
  have e0 := Bx.new w 28 [.bool x.up, .int .i64 x.cwnd, .int .i64 x.flight, .int .i64 x.srtt, .int .i64 x.vr]
  have b0 : Below w.heap.size w (w.alloc (.cells #[.bool x.up, .int .i64 x.cwnd, .int .i64 x.flight, .int .i64 x.srtt, .int .i64 x.vr] 28)) := (Below.refl _ _).alloc (Nat.le_refl _) _
  obtain ⟨up, cw, fl, sr, vr⟩ := x
  dsimp only at e0 b0 ⊢
  have x0 := e0.cell 0 rfl; have x1 := e0.cell 1 rfl; have x2 := e0.cell 2 rfl; have x3 := e0.cell 3 rfl; have x4 := e0.cell 4 rfl
  clear e0
  obtain ⟨q, hq⟩ : ∃ q, chB ⟨up, cw, fl, sr, vr⟩ = q := ⟨_, rfl⟩
  rw [hq]
  have HQ := Lib.hid hq; clear hq
  cases up with
  | false =>
    have hF : q = false := by rw [← HQ.out]; rfl
    subst hF
    go_enter Try.func12, Try.ntmps12
    go_wp2_with (go_at_call 19; refine (rebrief_any _ _).mono ?_; rintro e wx ⟨rfl, rfl⟩)
    go_ret
    exact ⟨rfl, b0⟩
  | true =>
  by_cases c0 : 1 ≤ cw
  case neg =>
    have d0 : decide (1 ≤ cw) = false := decide_eq_false c0
    have hF : q = false := by rw [← HQ.out]; exact Bool.eq_false_iff.2 (fun h => by have h1 := ((chB_iff _).1 h); exact c0 h1.c0)
    subst hF
    go_enter Try.func12, Try.ntmps12
    go_wp2_with (go_at_call 19; refine (rebrief_any _ _).mono ?_; rintro e wx ⟨rfl, rfl⟩)
    go_ret
    exact ⟨rfl, b0⟩
  case pos =>
  have d0 : decide (1 ≤ cw) = true := decide_eq_true c0
  by_cases c1 : cw ≤ 1073741824
  case neg =>
    have d1 : decide (cw ≤ 1073741824) = false := decide_eq_false c1
    have hF : q = false := by rw [← HQ.out]; exact Bool.eq_false_iff.2 (fun h => by have h1 := ((chB_iff _).1 h); exact c1 h1.c1)
    subst hF
    go_enter Try.func12, Try.ntmps12
    go_wp2_with (go_at_call 19; refine (rebrief_any _ _).mono ?_; rintro e wx ⟨rfl, rfl⟩)
    go_ret
    exact ⟨rfl, b0⟩
  case pos =>
  have d1 : decide (cw ≤ 1073741824) = true := decide_eq_true c1
  cases kfl : brB fl with
  | false =>
    have hF : q = false := by rw [← HQ.out]; exact Bool.eq_false_iff.2 (fun h => by have h1 := ((chB_iff _).1 h); rw [(brB_iff fl).2 ⟨h1.f0, h1.f1⟩] at kfl; cases kfl)
    subst hF
    go_enter Try.func12, Try.ntmps12
    go_wp2_with (go_at_call 19; refine (rebrief_any _ _).mono ?_; rintro e wx ⟨rfl, rfl⟩)
    go_ret
    exact ⟨rfl, b0⟩
  | true =>
  cases ksr : brB sr with
  | false =>
    have hF : q = false := by rw [← HQ.out]; exact Bool.eq_false_iff.2 (fun h => by have h1 := ((chB_iff _).1 h); rw [(brB_iff sr).2 ⟨h1.s0, h1.s1⟩] at ksr; cases ksr)
    subst hF
    go_enter Try.func12, Try.ntmps12
    go_wp2_with (go_at_call 19; refine (rebrief_any _ _).mono ?_; rintro e wx ⟨rfl, rfl⟩)
    go_ret
    exact ⟨rfl, b0⟩
  | true =>
  cases kvr : brB vr with
  | false =>
    have hF : q = false := by rw [← HQ.out]; exact Bool.eq_false_iff.2 (fun h => by have h1 := ((chB_iff _).1 h); rw [(brB_iff vr).2 ⟨h1.v0, h1.v1⟩] at kvr; cases kvr)
    subst hF
    go_enter Try.func12, Try.ntmps12
    go_wp2_with (go_at_call 19; refine (rebrief_any _ _).mono ?_; rintro e wx ⟨rfl, rfl⟩)
    go_ret
    exact ⟨rfl, b0⟩
  | true =>
  have g0 := (brB_iff fl).1 kfl; have g1 := (brB_iff sr).1 ksr; have g2 := (brB_iff vr).1 kvr
  have hT : q = true := by rw [← HQ.out]; exact (chB_iff _).2 ⟨rfl, c0, c1, g0.1, g0.2, g1.1, g1.2, g2.1, g2.2⟩
  subst hT
  clear g0 g1 g2
  go_enter Try.func12, Try.ntmps12
  go_wp2_with (go_at_call 19; refine (rebrief_any _ _).mono ?_; rintro e wx ⟨rfl, rfl⟩)
  go_ret
  exact ⟨rfl, b0⟩

set_option maxRecDepth 100000 in
set_option maxHeartbeats 8000000 in
theorem reroom_any (x : Chv) (mss : Int) (w : World) : Calls Try.prog 14 #[.agg #[.bool x.up, .int .i64 x.cwnd, .int .i64 x.flight, .int .i64 x.srtt, .int .i64 x.vr], .int .i64 mss] w fun e w' => e = .returned (.bool (roomB x mss)) ∧ Below w.heap.size w w' := by
  obtain ⟨B, hB⟩ : ∃ B, w.heap.size = B := ⟨_, rfl⟩
  rw [hB]
  have e0 := Bx.new w 28 [.bool x.up, .int .i64 x.cwnd, .int .i64 x.flight, .int .i64 x.srtt, .int .i64 x.vr]
  rw [hB] at e0
  have b0 : Below B w (w.alloc (.cells #[.bool x.up, .int .i64 x.cwnd, .int .i64 x.flight, .int .i64 x.srtt, .int .i64 x.vr] 28)) := by rw [← hB]; exact (Below.refl _ _).alloc (Nat.le_refl _) _
  obtain ⟨q, hq⟩ : ∃ q, roomB x mss = q := ⟨_, rfl⟩
  rw [hq]
  have HQ := Lib.hid hq; clear hq
  go_enter Try.func14, Try.ntmps14
  go_wp2_with (refine ch_load rfl (.tmp 2) rfl rfl e0 rfl ?_)
  generalize w.alloc (.cells #[.bool x.up, .int .i64 x.cwnd, .int .i64 x.flight, .int .i64 x.srtt, .int .i64 x.vr] 28) = w1 at e0 b0 ⊢
  clear hB
  refine (remay_any x _).mono ?_
  rintro e w2 ⟨rfl, hb2⟩
  have e2 := e0.kept hb2; have b2 := b0.trans (hb2.mono (Nat.le_of_lt e0.lt))
  clear e0 b0 hb2
  have x1 := e2.cell 1 rfl; have x2 := e2.cell 2 rfl
  cases hk : chB x with
  | false =>
    have hF : q = false := by rw [← HQ.out]; unfold roomB; rw [hk]; rfl
    subst hF
    clear hk
    go_wp2_with fail
    go_ret
    exact ⟨rfl, b2⟩
  | true =>
  have ho := (chB_iff x).1 hk
  have f0 := ho.f0; have f1 := ho.f1
  have HO := Lib.hid ho
  clear hk ho
  by_cases c0 : 1 ≤ mss
  case neg =>
    have d0 : decide (1 ≤ mss) = false := decide_eq_false c0
    have hF : q = false := by rw [← HQ.out]; exact Bool.eq_false_iff.2 (fun h => by have h1 := (roomB_iff x mss).1 h; omega)
    subst hF
    go_wp2_with fail
    go_ret
    exact ⟨rfl, b2⟩
  case pos =>
  have d0 : decide (1 ≤ mss) = true := decide_eq_true c0
  by_cases c1 : mss ≤ 1460
  case neg =>
    have d1 : decide (mss ≤ 1460) = false := decide_eq_false c1
    have hF : q = false := by rw [← HQ.out]; exact Bool.eq_false_iff.2 (fun h => by have h1 := (roomB_iff x mss).1 h; omega)
    subst hF
    go_wp2_with fail
    go_ret
    exact ⟨rfl, b2⟩
  case pos =>
  have d1 : decide (mss ≤ 1460) = true := decide_eq_true c1
  have i1 : IntKind.i64.wrap (x.flight + mss) = x.flight + mss := IntWalk.i64_in _ (by omega)
  by_cases c2 : x.flight + mss ≤ x.cwnd
  case neg =>
    have d2 : decide (x.flight + mss ≤ x.cwnd) = false := decide_eq_false c2
    have hF : q = false := by rw [← HQ.out]; exact Bool.eq_false_iff.2 (fun h => c2 ((roomB_iff x mss).1 h).2.2.2)
    subst hF
    go_wp2_with fail
    go_ret
    exact ⟨rfl, b2⟩
  case pos =>
  have d2 : decide (x.flight + mss ≤ x.cwnd) = true := decide_eq_true c2
  have hT : q = true := by rw [← HQ.out]; exact (roomB_iff x mss).2 ⟨HO.out, c0, c1, c2⟩
  subst hT
  go_wp2_with fail
  go_ret
  exact ⟨rfl, b2⟩

set_option maxRecDepth 100000 in
set_option maxHeartbeats 8000000 in
theorem parts_bd {a b : Int} (ha : 0 ≤ a ∧ a ≤ 8796093022208) (hb : 0 ≤ b ∧ b ≤ 8796093022208) :
    (0 ≤ a / 4194304 ∧ a / 4194304 ≤ 2097152) ∧ (0 ≤ a % 4194304 ∧ a % 4194304 ≤ 4194303) ∧ (0 ≤ b / 4194304 ∧ b / 4194304 ≤ 2097152) ∧ (0 ≤ b % 4194304 ∧ b % 4194304 ≤ 4194303) := by omega

set_option maxRecDepth 100000 in
set_option maxHeartbeats 8000000 in
theorem rehigh_any (a b : Int) (w : World) (ha : 0 ≤ a ∧ a ≤ 8796093022208) (hb : 0 ≤ b ∧ b ≤ 8796093022208) : Calls Try.prog 23 #[.int .i64 a, .int .i64 b] w fun e w' => e = .returned (.int .i64 (hiP a b)) ∧ w = w' := by
  obtain ⟨q, hq⟩ : ∃ q, hiP a b = q := ⟨_, rfl⟩
  rw [hq]
  have HQ : Hid (hiP a b = q) := Lib.hid hq
  unfold hiP at hq
  obtain ⟨hp, hqq, hr, hs⟩ := parts_bd ha hb
  have t1 : a.tdiv 4194304 = a / 4194304 := Int.tdiv_eq_ediv_of_nonneg ha.1
  have t2 : a.tmod 4194304 = a % 4194304 := Int.tmod_eq_emod_of_nonneg ha.1
  have t3 : b.tdiv 4194304 = b / 4194304 := Int.tdiv_eq_ediv_of_nonneg hb.1
  have t4 : b.tmod 4194304 = b % 4194304 := Int.tmod_eq_emod_of_nonneg hb.1
  obtain ⟨p, ep⟩ : ∃ v, a / 4194304 = v := ⟨_, rfl⟩
  obtain ⟨qa, eq_⟩ : ∃ v, a % 4194304 = v := ⟨_, rfl⟩
  obtain ⟨r, er⟩ : ∃ v, b / 4194304 = v := ⟨_, rfl⟩
  obtain ⟨s, es⟩ : ∃ v, b % 4194304 = v := ⟨_, rfl⟩
  rw [ep] at hq hp t1
  rw [eq_] at hq hqq t2
  rw [er] at hq hr t3
  rw [es] at hq hs t4
  have m1 := part_bd hp hs; have m2 := part_bd hqq hr; have m3 := part_bd hqq hs; have m4 := part_bd hp hr
  obtain ⟨x1, e1⟩ : ∃ v, p * s = v := ⟨_, rfl⟩
  obtain ⟨x2, e2⟩ : ∃ v, qa * r = v := ⟨_, rfl⟩
  obtain ⟨x3, e3⟩ : ∃ v, qa * s = v := ⟨_, rfl⟩
  obtain ⟨x4, e4⟩ : ∃ v, p * r = v := ⟨_, rfl⟩
  rw [e1] at hq m1
  rw [e2] at hq m2
  rw [e3] at hq m3
  rw [e4] at m4
  try rw [e4] at hq
  have j1 : IntKind.i64.wrap (p * s) = x1 := by rw [e1]; exact IntWalk.i64_in _ (by omega)
  have j2 : IntKind.i64.wrap (qa * r) = x2 := by rw [e2]; exact IntWalk.i64_in _ (by omega)
  have j3 : IntKind.i64.wrap (qa * s) = x3 := by rw [e3]; exact IntWalk.i64_in _ (by omega)
  have j4 : IntKind.i64.wrap (p * r) = x4 := by rw [e4]; exact IntWalk.i64_in _ (by omega)
  obtain ⟨md, emd⟩ : ∃ v, x1 + x2 = v := ⟨_, rfl⟩
  rw [emd] at hq
  have md0 : 0 ≤ md := by omega
  have md1 : md ≤ 17592181850112 := by omega
  have j5 : IntKind.i64.wrap (x1 + x2) = md := by rw [emd]; exact IntWalk.i64_in _ (by omega)
  have t5 : md.tmod 4194304 = md % 4194304 := Int.tmod_eq_emod_of_nonneg md0
  have t6 : md.tdiv 4194304 = md / 4194304 := Int.tdiv_eq_ediv_of_nonneg md0
  obtain ⟨mm, emm⟩ : ∃ v, md % 4194304 = v := ⟨_, rfl⟩
  obtain ⟨dd, edd⟩ : ∃ v, md / 4194304 = v := ⟨_, rfl⟩
  rw [emm] at hq t5
  rw [edd] at t6
  try rw [edd] at hq
  have mm0 : 0 ≤ mm ∧ mm ≤ 4194303 := by omega
  have dd0 : 0 ≤ dd ∧ dd ≤ 4194304 := by omega
  have j6 : IntKind.i64.wrap (mm * 4194304) = mm * 4194304 := IntWalk.i64_in _ (by omega)
  obtain ⟨rs, ers⟩ : ∃ v, x3 + mm * 4194304 = v := ⟨_, rfl⟩
  rw [ers] at hq
  have rs0 : 0 ≤ rs ∧ rs ≤ 35184372088832 := by omega
  have j7 : IntKind.i64.wrap (x3 + mm * 4194304) = rs := by rw [ers]; exact IntWalk.i64_in _ (by omega)
  have t7 : rs.tmod 17592186044416 = rs % 17592186044416 := Int.tmod_eq_emod_of_nonneg rs0.1
  have t8 : rs.tdiv 17592186044416 = rs / 17592186044416 := Int.tdiv_eq_ediv_of_nonneg rs0.1
  obtain ⟨rd, erd⟩ : ∃ v, rs / 17592186044416 = v := ⟨_, rfl⟩
  rw [erd] at hq t8
  have rd0 : 0 ≤ rd ∧ rd ≤ 2 := by omega
  have j8 : IntKind.i64.wrap (x4 + dd) = x4 + dd := IntWalk.i64_in _ (by omega)
  have j9 : IntKind.i64.wrap (x4 + dd + rd) = q := by rw [hq]; exact IntWalk.i64_in _ (by omega)
  have w1 : IntKind.i64.wrap p = p := IntWalk.i64_in _ (by omega)
  have w3 : IntKind.i64.wrap r = r := IntWalk.i64_in _ (by omega)
  have w5 : IntKind.i64.wrap dd = dd := IntWalk.i64_in _ (by omega)
  have w6 : IntKind.i64.wrap rd = rd := IntWalk.i64_in _ (by omega)
  clear erd rd0 hq
  clear ha hb hp hqq hr hs m1 m2 m3 m4 e1 e2 e3 e4 ep eq_ er es emd emm edd md0 md1 mm0 dd0 ers rs0
  go_enter Try.func23, Try.ntmps23
  go_wp2
  go_ret
  exact ⟨rfl, rfl⟩

set_option maxRecDepth 100000 in
set_option maxHeartbeats 8000000 in
theorem relow_any (a b : Int) (w : World) (ha : 0 ≤ a ∧ a ≤ 8796093022208) (hb : 0 ≤ b ∧ b ≤ 8796093022208) : Calls Try.prog 24 #[.int .i64 a, .int .i64 b] w fun e w' => e = .returned (.int .i64 (loP a b)) ∧ w = w' := by
  obtain ⟨q, hq⟩ : ∃ q, loP a b = q := ⟨_, rfl⟩
  rw [hq]
  have HQ : Hid (loP a b = q) := Lib.hid hq
  unfold loP at hq
  obtain ⟨hp, hqq, hr, hs⟩ := parts_bd ha hb
  have t1 : a.tdiv 4194304 = a / 4194304 := Int.tdiv_eq_ediv_of_nonneg ha.1
  have t2 : a.tmod 4194304 = a % 4194304 := Int.tmod_eq_emod_of_nonneg ha.1
  have t3 : b.tdiv 4194304 = b / 4194304 := Int.tdiv_eq_ediv_of_nonneg hb.1
  have t4 : b.tmod 4194304 = b % 4194304 := Int.tmod_eq_emod_of_nonneg hb.1
  obtain ⟨p, ep⟩ : ∃ v, a / 4194304 = v := ⟨_, rfl⟩
  obtain ⟨qa, eq_⟩ : ∃ v, a % 4194304 = v := ⟨_, rfl⟩
  obtain ⟨r, er⟩ : ∃ v, b / 4194304 = v := ⟨_, rfl⟩
  obtain ⟨s, es⟩ : ∃ v, b % 4194304 = v := ⟨_, rfl⟩
  rw [ep] at hq hp t1
  rw [eq_] at hq hqq t2
  rw [er] at hq hr t3
  rw [es] at hq hs t4
  have m1 := part_bd hp hs; have m2 := part_bd hqq hr; have m3 := part_bd hqq hs; have m4 := part_bd hp hr
  obtain ⟨x1, e1⟩ : ∃ v, p * s = v := ⟨_, rfl⟩
  obtain ⟨x2, e2⟩ : ∃ v, qa * r = v := ⟨_, rfl⟩
  obtain ⟨x3, e3⟩ : ∃ v, qa * s = v := ⟨_, rfl⟩
  obtain ⟨x4, e4⟩ : ∃ v, p * r = v := ⟨_, rfl⟩
  rw [e1] at hq m1
  rw [e2] at hq m2
  rw [e3] at hq m3
  rw [e4] at m4
  try rw [e4] at hq
  have j1 : IntKind.i64.wrap (p * s) = x1 := by rw [e1]; exact IntWalk.i64_in _ (by omega)
  have j2 : IntKind.i64.wrap (qa * r) = x2 := by rw [e2]; exact IntWalk.i64_in _ (by omega)
  have j3 : IntKind.i64.wrap (qa * s) = x3 := by rw [e3]; exact IntWalk.i64_in _ (by omega)
  have j4 : IntKind.i64.wrap (p * r) = x4 := by rw [e4]; exact IntWalk.i64_in _ (by omega)
  obtain ⟨md, emd⟩ : ∃ v, x1 + x2 = v := ⟨_, rfl⟩
  rw [emd] at hq
  have md0 : 0 ≤ md := by omega
  have md1 : md ≤ 17592181850112 := by omega
  have j5 : IntKind.i64.wrap (x1 + x2) = md := by rw [emd]; exact IntWalk.i64_in _ (by omega)
  have t5 : md.tmod 4194304 = md % 4194304 := Int.tmod_eq_emod_of_nonneg md0
  have t6 : md.tdiv 4194304 = md / 4194304 := Int.tdiv_eq_ediv_of_nonneg md0
  obtain ⟨mm, emm⟩ : ∃ v, md % 4194304 = v := ⟨_, rfl⟩
  obtain ⟨dd, edd⟩ : ∃ v, md / 4194304 = v := ⟨_, rfl⟩
  rw [emm] at hq t5
  rw [edd] at t6
  try rw [edd] at hq
  have mm0 : 0 ≤ mm ∧ mm ≤ 4194303 := by omega
  have dd0 : 0 ≤ dd ∧ dd ≤ 4194304 := by omega
  have j6 : IntKind.i64.wrap (mm * 4194304) = mm * 4194304 := IntWalk.i64_in _ (by omega)
  obtain ⟨rs, ers⟩ : ∃ v, x3 + mm * 4194304 = v := ⟨_, rfl⟩
  rw [ers] at hq
  have rs0 : 0 ≤ rs ∧ rs ≤ 35184372088832 := by omega
  have j7 : IntKind.i64.wrap (x3 + mm * 4194304) = rs := by rw [ers]; exact IntWalk.i64_in _ (by omega)
  have t7 : rs.tmod 17592186044416 = rs % 17592186044416 := Int.tmod_eq_emod_of_nonneg rs0.1
  have t8 : rs.tdiv 17592186044416 = rs / 17592186044416 := Int.tdiv_eq_ediv_of_nonneg rs0.1
  rw [hq] at t7
  have w1 : IntKind.i64.wrap p = p := IntWalk.i64_in _ (by omega)
  have w3 : IntKind.i64.wrap r = r := IntWalk.i64_in _ (by omega)
  clear hq t8
  clear ha hb hp hqq hr hs m1 m2 m3 m4 e1 e2 e3 e4 ep eq_ er es emd emm edd md0 md1 mm0 dd0 ers rs0
  go_enter Try.func24, Try.ntmps24
  go_wp2
  go_ret
  exact ⟨rfl, rfl⟩

set_option maxRecDepth 100000 in
set_option maxHeartbeats 8000000 in
theorem rebelow_any (a b c d : Int) (w : World) (ha : 0 ≤ a ∧ a ≤ 8796093022208) (hb : 0 ≤ b ∧ b ≤ 8796093022208) (hc : 0 ≤ c ∧ c ≤ 8796093022208) (hd : 0 ≤ d ∧ d ≤ 8796093022208) : Calls Try.prog 20 #[.int .i64 a, .int .i64 b, .int .i64 c, .int .i64 d] w fun e w' => e = .returned (.bool (decide (a * b < c * d))) ∧ w = w' := by
  have hi1 := fun w => rehigh_any a b w ha hb; have hi2 := fun w => rehigh_any c d w hc hd
  have lo1 := fun w => relow_any a b w ha hb; have lo2 := fun w => relow_any c d w hc hd
  have hv := below_iff a b c d
  obtain ⟨v, hvv⟩ : ∃ v, decide (a * b < c * d) = v := ⟨_, rfl⟩
  rw [hvv] at hv ⊢
  obtain ⟨x, hx⟩ : ∃ v, hiP a b = v := ⟨_, rfl⟩
  obtain ⟨y, hy⟩ : ∃ v, hiP c d = v := ⟨_, rfl⟩
  obtain ⟨z, hz⟩ : ∃ v, loP a b = v := ⟨_, rfl⟩
  obtain ⟨u, hu⟩ : ∃ v, loP c d = v := ⟨_, rfl⟩
  rw [hx] at hi1 hv
  rw [hy] at hi2 hv
  rw [hz] at lo1 hv
  rw [hu] at lo2 hv
  clear ha hb hc hd hx hy hz hu hvv
  by_cases e : x = y
  case neg =>
    rw [if_pos e] at hv
    have de : (x != y) = true := by simpa using e
    clear e
    go_enter Try.func20, Try.ntmps20
    go_wp2_with fail
    refine (hi1 _).mono ?_
    rintro e wx ⟨rfl, rfl⟩
    go_wp2_with fail
    refine (hi2 _).mono ?_
    rintro e wx ⟨rfl, rfl⟩
    go_wp2_with fail
    go_ret
    exact ⟨rfl, rfl⟩
  case pos =>
    rw [if_neg (by simpa using e)] at hv
    have de : (x != y) = false := by simpa using e
    clear e
    go_enter Try.func20, Try.ntmps20
    go_wp2_with fail
    refine (hi1 _).mono ?_
    rintro e wx ⟨rfl, rfl⟩
    go_wp2_with fail
    refine (hi2 _).mono ?_
    rintro e wx ⟨rfl, rfl⟩
    go_wp2_with fail
    refine (lo1 _).mono ?_
    rintro e wx ⟨rfl, rfl⟩
    go_wp2_with fail
    refine (lo2 _).mono ?_
    rintro e wx ⟨rfl, rfl⟩
    go_wp2_with fail
    go_ret
    exact ⟨rfl, rfl⟩
end Go.Proofs.Ytmclffbjdkoneaa
