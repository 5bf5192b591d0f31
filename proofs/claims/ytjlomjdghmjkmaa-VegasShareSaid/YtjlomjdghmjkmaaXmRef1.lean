/- The reference of package xmp: Limits, May, Weight, clamped as contracts of the calls. -/
import Derived.Test.YtjlomjdghmjkmaaProg
import Derived.Test.YtjlomjdghmjkmaaXm
import Derived.Test.YtjlomjdghmjkmaaBx
import Derived.Test.YtjlomjdghmjkmaaRmd
import Derived.WalkKit
import Derived.WalkSpells
import Derived.WalkSmall
import Derived.Lib.Hide
import Derived.Below
import Derived.Outline
import Derived.Laws.Tables
import Derived.Laws.Rows
import Derived.OrdersHeld
import Derived.Deep.QuietTactic
import Derived.BigQuiet
import Derived.IntWalk
import Derived.Deep.DeepCutAuto
namespace Go.Proofs.Ytjlomjdghmjkmaa
open Go.RowKit
set_option linter.unusedVariables false
set_option linter.unusedSimpArgs false

set_option maxRecDepth 100000 in
set_option maxHeartbeats 4000000 in
theorem rxlim_any (mss most : Int) (w : World) : Calls Try.prog 29 #[.int .i64 mss, .int .i64 most] w fun e w' => e = .returned (.bool (limB mss most)) ∧ w = w' := by
  obtain ⟨q, hq⟩ : ∃ q, limB mss most = q := ⟨_, rfl⟩
  rw [hq]
  have HQ := Lib.hid hq; clear hq
  by_cases c0 : 1 ≤ mss
  case neg =>
    have d0 : decide (1 ≤ mss) = false := decide_eq_false c0
    have hF : q = false := by rw [← HQ.out]; exact Bool.eq_false_iff.2 (fun h => by have := (limB_iff mss most).1 h; omega)
    subst hF
    go_enter Try.func29, Try.ntmps29
    go_wp2
    go_ret
    exact ⟨rfl, rfl⟩
  case pos =>
  have d0 : decide (1 ≤ mss) = true := decide_eq_true c0
  by_cases c1 : mss ≤ 1460
  case neg =>
    have d1 : decide (mss ≤ 1460) = false := decide_eq_false c1
    have hF : q = false := by rw [← HQ.out]; exact Bool.eq_false_iff.2 (fun h => by have := (limB_iff mss most).1 h; omega)
    subst hF
    go_enter Try.func29, Try.ntmps29
    go_wp2
    go_ret
    exact ⟨rfl, rfl⟩
  case pos =>
  have d1 : decide (mss ≤ 1460) = true := decide_eq_true c1
  by_cases c2 : mss ≤ most
  case neg =>
    have d2 : decide (mss ≤ most) = false := decide_eq_false c2
    have hF : q = false := by rw [← HQ.out]; exact Bool.eq_false_iff.2 (fun h => by have := (limB_iff mss most).1 h; omega)
    subst hF
    go_enter Try.func29, Try.ntmps29
    go_wp2
    go_ret
    exact ⟨rfl, rfl⟩
  case pos =>
  have d2 : decide (mss ≤ most) = true := decide_eq_true c2
  by_cases c3 : most ≤ 1073741824
  case neg =>
    have d3 : decide (most ≤ 1073741824) = false := decide_eq_false c3
    have hF : q = false := by rw [← HQ.out]; exact Bool.eq_false_iff.2 (fun h => by have := (limB_iff mss most).1 h; omega)
    subst hF
    go_enter Try.func29, Try.ntmps29
    go_wp2
    go_ret
    exact ⟨rfl, rfl⟩
  case pos =>
  have d3 : decide (most ≤ 1073741824) = true := decide_eq_true c3
  have hT : q = true := by rw [← HQ.out]; exact (limB_iff mss most).2 (by omega)
  subst hT
  go_enter Try.func29, Try.ntmps29
  go_wp2
  go_ret
  exact ⟨rfl, rfl⟩

set_option maxRecDepth 100000 in
set_option maxHeartbeats 4000000 in
theorem rxmay_any (c t mss most : Int) (w : World) : Calls Try.prog 21 #[.agg #[.int .i64 c, .int .i64 t], .int .i64 mss, .int .i64 most] w fun e w' => e = .returned (.bool (xmB c t mss most)) ∧ Below w.heap.size w w' := by
  have e0 := Bx.new w 24 [.int .i64 c, .int .i64 t]
  have b0 : Below w.heap.size w (w.alloc (.cells #[.int .i64 c, .int .i64 t] 24)) := (Below.refl _ _).alloc (Nat.le_refl _) _
  have x0 := e0.cell 0 rfl; have x1 := e0.cell 1 rfl
  clear e0
  obtain ⟨q, hq⟩ : ∃ q, xmB c t mss most = q := ⟨_, rfl⟩
  rw [hq]
  have HQ := Lib.hid hq; clear hq
  cases hL : limB mss most with
  | false =>
    have hF : q = false := by rw [← HQ.out]; exact Bool.eq_false_iff.2 (fun h => by have h1 := (xmB_iff c t mss most).1 h; have h2 := (limB_iff mss most).2 (by omega); rw [hL] at h2; cases h2)
    subst hF
    go_enter Try.func21, Try.ntmps21
    go_wp2_with (go_at_call 29; refine (rxlim_any _ _ _).mono ?_; rintro e wx ⟨rfl, rfl⟩)
    go_ret
    exact ⟨rfl, b0⟩
  | true =>
  have hl := (limB_iff mss most).1 hL
  have HL := Lib.hid hl; clear hl
  by_cases c0 : mss ≤ c
  case neg =>
    have d0 : decide (mss ≤ c) = false := decide_eq_false c0
    have hF : q = false := by rw [← HQ.out]; exact Bool.eq_false_iff.2 (fun h => by have := (xmB_iff c t mss most).1 h; omega)
    subst hF
    go_enter Try.func21, Try.ntmps21
    go_wp2_with (go_at_call 29; refine (rxlim_any _ _ _).mono ?_; rintro e wx ⟨rfl, rfl⟩)
    go_ret
    exact ⟨rfl, b0⟩
  case pos =>
  have d0 : decide (mss ≤ c) = true := decide_eq_true c0
  by_cases c1 : c ≤ most
  case neg =>
    have d1 : decide (c ≤ most) = false := decide_eq_false c1
    have hF : q = false := by rw [← HQ.out]; exact Bool.eq_false_iff.2 (fun h => by have := (xmB_iff c t mss most).1 h; omega)
    subst hF
    go_enter Try.func21, Try.ntmps21
    go_wp2_with (go_at_call 29; refine (rxlim_any _ _ _).mono ?_; rintro e wx ⟨rfl, rfl⟩)
    go_ret
    exact ⟨rfl, b0⟩
  case pos =>
  have d1 : decide (c ≤ most) = true := decide_eq_true c1
  by_cases c2 : mss ≤ t
  case neg =>
    have d2 : decide (mss ≤ t) = false := decide_eq_false c2
    have hF : q = false := by rw [← HQ.out]; exact Bool.eq_false_iff.2 (fun h => by have := (xmB_iff c t mss most).1 h; omega)
    subst hF
    go_enter Try.func21, Try.ntmps21
    go_wp2_with (go_at_call 29; refine (rxlim_any _ _ _).mono ?_; rintro e wx ⟨rfl, rfl⟩)
    go_ret
    exact ⟨rfl, b0⟩
  case pos =>
  have d2 : decide (mss ≤ t) = true := decide_eq_true c2
  by_cases c3 : t ≤ most
  case neg =>
    have d3 : decide (t ≤ most) = false := decide_eq_false c3
    have hF : q = false := by rw [← HQ.out]; exact Bool.eq_false_iff.2 (fun h => by have := (xmB_iff c t mss most).1 h; omega)
    subst hF
    go_enter Try.func21, Try.ntmps21
    go_wp2_with (go_at_call 29; refine (rxlim_any _ _ _).mono ?_; rintro e wx ⟨rfl, rfl⟩)
    go_ret
    exact ⟨rfl, b0⟩
  case pos =>
  have d3 : decide (t ≤ most) = true := decide_eq_true c3
  have hT : q = true := by rw [← HQ.out]; exact (xmB_iff c t mss most).2 (by have := HL.out; omega)
  subst hT
  go_enter Try.func21, Try.ntmps21
  go_wp2_with (go_at_call 29; refine (rxlim_any _ _ _).mono ?_; rintro e wx ⟨rfl, rfl⟩)
  go_ret
  exact ⟨rfl, b0⟩

set_option maxRecDepth 100000 in
set_option maxHeartbeats 4000000 in
theorem md_wt {c r : Int} (h : 1 ≤ c ∧ c ≤ 1073741824 ∧ 1 ≤ r ∧ r ≤ 1099511627776) : mdOk 1048576 c r = true := by
  have h0 : 0 ≤ 1048576 * c / r := Int.ediv_nonneg (by omega) (by omega)
  have h1 : 1048576 * c / r ≤ 1048576 * c := Int.ediv_le_self _ (by omega)
  unfold mdOk
  rw [(inB_iff 1048576).2 (by omega), (inB_iff c).2 (by omega), (inB_iff r).2 (by omega), decide_eq_true (by omega : 1 ≤ r), (inB_iff _).2 (by omega)]
  rfl

set_option maxRecDepth 100000 in
set_option maxHeartbeats 4000000 in
theorem rxweight_any (c r : Int) (w : World) : Calls Try.prog 25 #[.agg #[.int .i64 c, .int .i64 r]] w fun e w' => e = .returned (.int .i64 (wt (c, r))) ∧ Below w.heap.size w w' := by
  have e0 := Bx.new w 38 [.int .i64 c, .int .i64 r]
  have b0 : Below w.heap.size w (w.alloc (.cells #[.int .i64 c, .int .i64 r] 38)) := (Below.refl _ _).alloc (Nat.le_refl _) _
  have x0 := e0.cell 0 rfl; have x1 := e0.cell 1 rfl
  clear e0
  obtain ⟨q, hq⟩ : ∃ q, wt (c, r) = q := ⟨_, rfl⟩
  rw [hq]
  have HQ := Lib.hid hq; clear hq
  by_cases c0 : c < 1
  case pos =>
    have d0 : decide (c < 1) = true := decide_eq_true c0
    have hF : q = 0 := by rw [← HQ.out]; exact wt_no (by dsimp only; omega)
    subst hF
    go_enter Try.func25, Try.ntmps25
    go_wp2
    go_ret
    exact ⟨rfl, b0⟩
  case neg =>
  have d0 : decide (c < 1) = false := decide_eq_false c0
  by_cases c1 : 1073741824 < c
  case pos =>
    have d1 : decide (1073741824 < c) = true := decide_eq_true c1
    have hF : q = 0 := by rw [← HQ.out]; exact wt_no (by dsimp only; omega)
    subst hF
    go_enter Try.func25, Try.ntmps25
    go_wp2
    go_ret
    exact ⟨rfl, b0⟩
  case neg =>
  have d1 : decide (1073741824 < c) = false := decide_eq_false c1
  by_cases c2 : r < 1
  case pos =>
    have d2 : decide (r < 1) = true := decide_eq_true c2
    have hF : q = 0 := by rw [← HQ.out]; exact wt_no (by dsimp only; omega)
    subst hF
    go_enter Try.func25, Try.ntmps25
    go_wp2
    go_ret
    exact ⟨rfl, b0⟩
  case neg =>
  have d2 : decide (r < 1) = false := decide_eq_false c2
  by_cases c3 : 1099511627776 < r
  case pos =>
    have d3 : decide (1099511627776 < r) = true := decide_eq_true c3
    have hF : q = 0 := by rw [← HQ.out]; exact wt_no (by dsimp only; omega)
    subst hF
    go_enter Try.func25, Try.ntmps25
    go_wp2
    go_ret
    exact ⟨rfl, b0⟩
  case neg =>
  have d3 : decide (1099511627776 < r) = false := decide_eq_false c3
  have hr : 1 ≤ c ∧ c ≤ 1073741824 ∧ 1 ≤ r ∧ r ≤ 1099511627776 := by omega
  have hF := HQ.out
  rw [wt_yes hr] at hF
  dsimp only at hF
  have mm := fun w => rmd_any 1048576 c r w
  rw [md_wt hr] at mm
  obtain ⟨tq, htq⟩ : ∃ tq, tell (1048576 * c / r) true = tq := ⟨_, rfl⟩
  have ht : tq = q := by rw [← htq, ← hF]; rfl
  rw [htq, ht] at mm
  clear hF htq ht hr c0 c1 c2 c3 HQ
  go_enter Try.func25, Try.ntmps25
  go_wp2_with (go_at_call 26; refine (mm _).mono ?_; rintro e wx ⟨rfl, rfl⟩)
  go_ret
  exact ⟨rfl, b0⟩

theorem info_xw : (Try.prog.info? 24).map (·.size) = some 2 := by kernel_rfl
theorem xw_struct : ∃ fs, Try.prog.underlying 24 = some (.struct fs) := ⟨_, Try.underlying24⟩
section
variable {W : World} {B : Nat} {t : TypeId} {cs : List Value}
theorem xw_put (h : Bx W B t cs) (vs : List Value) : Bx (W.setRow B vs.toArray) B t vs := setRow_heap W B _ vs.toArray t (0, 0) h
theorem xw_grown (W : World) (B : Nat) (vs : Array Value) : W.grownBy (W.setRow B vs) (some B) :=
  ⟨rfl, rfl, rfl, by simp [World.setRow], fun i _ hne => setRow_other W B i vs (fun e => hne (by rw [e]))⟩
theorem xw_gset (W : World) (q : Addr) (u : Value) : W.grownBy (W.setCell q u) (some q.block) :=
  ⟨rfl, rfl, rfl, by simp, fun i hi hne => Below.heap_setCell W q u i (fun e => hne (by rw [e]))⟩
/-- one is loaded whole, in a plain region -/
theorem xw_load {ops : Array Oper} {rest : List Oper} {o : Oper} {a : Act} {Q : Exit → Act → World → Prop} (hgd : o.guard = none) (x : Operand) (ho : o.op = .load 24 x) (hx : a.eval x = .pointer (some ⟨B, 0, none⟩))
    (h : Bx W B t cs) (hl : cs.length = 2) (k : wpList Try.prog ops Q rest (a.put o.dst (.agg cs.toArray)) W) : wpList Try.prog ops Q (o :: rest) a W := by
  obtain ⟨fs, hu⟩ := xw_struct
  exact wpList_load_row hgd _ x ho B hx t cs.toArray (0, 0) _ h hu rfl (by rw [info_xw]; simp [hl]) k
/-- one is stored whole -/
theorem xw_store {ops : Array Oper} {rest : List Oper} {o : Oper} {a : Act} {Q : Exit → Act → World → Prop} (hgd : o.guard = none) (x y : Operand) (ho : o.op = .store 24 x y) (hx : a.eval x = .pointer (some ⟨B, 0, none⟩))
    (vs : List Value) (hy : a.eval y = .agg vs.toArray) (h : Bx W B t cs) (hl : cs.length = 2) (hv : vs.length = 2) (h1 : vs.all (·.oneCell') = true) (k : wpList Try.prog ops Q rest (a.put o.dst undef) (W.setRow B vs.toArray)) : wpList Try.prog ops Q (o :: rest) a W :=
  wpList_store_row hgd _ x y ho B vs.toArray hx hy t cs.toArray h (by rw [info_xw]; simp [hv]) (by simp [hl, hv]) (by simpa using h1) k
theorem xw_var (h : Bx W B t cs) (hl : cs.length = 2) : (Go.loadVar 24 ⟨B, 0, none⟩).run Try.prog W = .ok (.agg cs.toArray) W := by
  obtain ⟨fs, hu⟩ := xw_struct
  exact run_loadVar_row W B t 24 cs.toArray (0, 0) _ h hu rfl (by rw [info_xw]; simp [hl])
/-- one is loaded whole, in a region that draws its order -/
theorem xw_yields {ops : Array Oper} {S : World → Prop} {op : Oper} {a : Act} (hw : Region.wanted op (yielded ops a.tmps) = true) (x : Operand) (ho : op.op = .load 24 x)
    (hx : a.eval x = .pointer (some ⟨B, 0, none⟩)) (cs : List Value) (hl : cs.length = 2) (t : TypeId) (hS : ∀ W, S W → Bx W B t cs) : YieldsIf Try.prog ops S op (.agg cs.toArray) a := by
  obtain ⟨fs, hu⟩ := xw_struct
  exact .inl ⟨hw, fun w hw' => by
    unfold execOp
    simp only [ho, hx, Instr.loadAt, Instr.sureAddr, Sem.run_bind, Sem.run_pure, Result.andThen_ok, run_loadVar_row w B t 24 cs.toArray (0, 0) _ (hS w hw') hu rfl (by rw [info_xw]; simp [hl])]⟩
variable {fn : Func} {tmps : Array Value} {R : Ending → World → Prop} {v u : Value} {ds : List Deferred} {p q r : Tmp}
/-- a box alone, a box and one or two slots: what a call hands back -/
theorem xw_end1 (hr : fn.results = #[.cell p 24]) (h2 : tmps.getD p undef = .pointer (some ⟨B, 0, none⟩))
    (e : Bx W B t cs) (hl : cs.length = 2) (hd : ds = []) (h : R (.returned (.agg cs.toArray)) W) : bodyPost Try.prog fn R .ret { tmps := tmps, defers := ds } W := by
  have l2 := xw_var e hl
  have h2a : tmps[p]?.getD undef = .pointer (some ⟨B, 0, none⟩) := by simpa using h2
  refine bodyPost_ret (v := .agg cs.toArray) ?_ hd h
  simp [results, hr, h2a, asAddr, l2]
theorem xw_end2 (hr : fn.results = #[.cell p 24, .tmp q]) (h2 : tmps.getD p undef = .pointer (some ⟨B, 0, none⟩)) (h3 : tmps.getD q undef = v)
    (e : Bx W B t cs) (hl : cs.length = 2) (hd : ds = []) (h : R (.returned (.tuple #[.agg cs.toArray, v])) W) : bodyPost Try.prog fn R .ret { tmps := tmps, defers := ds } W := by
  have l2 := xw_var e hl
  have h2a : tmps[p]?.getD undef = .pointer (some ⟨B, 0, none⟩) := by simpa using h2
  have h2b : tmps[q]?.getD undef = v := by simpa using h3
  refine bodyPost_ret (v := .tuple #[.agg cs.toArray, v]) ?_ hd h
  simp [results, hr, h2a, h2b, asAddr, l2]
theorem xw_end3 (hr : fn.results = #[.cell p 24, .tmp q, .tmp r]) (h2 : tmps.getD p undef = .pointer (some ⟨B, 0, none⟩)) (h3 : tmps.getD q undef = v) (h4 : tmps.getD r undef = u)
    (e : Bx W B t cs) (hl : cs.length = 2) (hd : ds = []) (h : R (.returned (.tuple #[.agg cs.toArray, v, u])) W) : bodyPost Try.prog fn R .ret { tmps := tmps, defers := ds } W := by
  have l2 := xw_var e hl
  have h2a : tmps[p]?.getD undef = .pointer (some ⟨B, 0, none⟩) := by simpa using h2
  have h2b : tmps[q]?.getD undef = v := by simpa using h3
  have h2c : tmps[r]?.getD undef = u := by simpa using h4
  refine bodyPost_ret (v := .tuple #[.agg cs.toArray, v, u]) ?_ hd h
  simp [results, hr, h2a, h2b, h2c, asAddr, l2]
end

/-- a number from low to high -/
def cl2 (n low high : Int) : Int := if n < low ∨ high < low then low else if high < n then high else n
theorem cl2_any (n low high : Int) (w : World) : Calls Try.prog 22 #[.int .i64 n, .int .i64 low, .int .i64 high] w fun e w' => e = .returned (.int .i64 (cl2 n low high)) ∧ w = w' := rclamp_any n low high w
theorem cl2_in {n low high : Int} (h : low ≤ n ∧ n ≤ high) : cl2 n low high = n := by unfold cl2; rw [if_neg (by omega), if_neg (by omega)]
theorem cl2_eq {n low high : Int} (h : low ≤ high) : cl2 n low high = min (max n low) high := by unfold cl2; split <;> (try split) <;> omega

end Go.Proofs.Ytjlomjdghmjkmaa
