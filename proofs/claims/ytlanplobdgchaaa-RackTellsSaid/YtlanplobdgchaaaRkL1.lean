/- Package rack as it landed: within, of, cmp.Compare, slices.Compare of two numbers each, later, before as contracts of the calls; an array of two in a box. -/
import Derived.Test.YtlanplobdgchaaaRkRef2
import Derived.Test.YtlanplobdgchaaaStL2
import Derived.Test.YtlanplobdgchaaaTail2
import Derived.Laws.StructEq
namespace Go.Proofs.Ytlanplobdgchaaa
open Go.RowKit
set_option linter.unusedVariables false
set_option linter.unusedSimpArgs false

theorem info_sd : (Try.prog.info? 45).map (·.size) = some 2 := by kernel_rfl
theorem sd_struct : ∃ n e, Try.prog.underlying 45 = some (.array n e) := ⟨_, _, Try.underlying45⟩
section
variable {W : World} {B : Nat} {t : TypeId} {cs : List Value}
theorem sd_put (h : Bx W B t cs) (vs : List Value) : Bx (W.setRow B vs.toArray) B t vs := setRow_heap W B _ vs.toArray t (0, 0) h
theorem sd_grown (W : World) (B : Nat) (vs : Array Value) : W.grownBy (W.setRow B vs) (some B) :=
  ⟨rfl, rfl, rfl, by simp [World.setRow], fun i _ hne => setRow_other W B i vs (fun e => hne (by rw [e]))⟩
theorem sd_gset (W : World) (q : Addr) (u : Value) : W.grownBy (W.setCell q u) (some q.block) :=
  ⟨rfl, rfl, rfl, by simp, fun i hi hne => Below.heap_setCell W q u i (fun e => hne (by rw [e]))⟩
/-- one is loaded whole, in a plain region -/
theorem sd_load {ops : Array Oper} {rest : List Oper} {o : Oper} {a : Act} {Q : Exit → Act → World → Prop} (hgd : o.guard = none) (x : Operand) (ho : o.op = .load 45 x) (hx : a.eval x = .pointer (some ⟨B, 0, none⟩))
    (h : Bx W B t cs) (hl : cs.length = 2) (k : wpList Try.prog ops Q rest (a.put o.dst (.agg cs.toArray)) W) : wpList Try.prog ops Q (o :: rest) a W := by
  obtain ⟨n', e', hu⟩ := sd_struct
  exact wpList_load_row hgd _ x ho B hx t cs.toArray (0, 0) _ h hu rfl (by rw [info_sd]; simp [hl]) k
/-- one is stored whole -/
theorem sd_store {ops : Array Oper} {rest : List Oper} {o : Oper} {a : Act} {Q : Exit → Act → World → Prop} (hgd : o.guard = none) (x y : Operand) (ho : o.op = .store 45 x y) (hx : a.eval x = .pointer (some ⟨B, 0, none⟩))
    (vs : List Value) (hy : a.eval y = .agg vs.toArray) (h : Bx W B t cs) (hl : cs.length = 2) (hv : vs.length = 2) (h1 : vs.all (·.oneCell') = true) (k : wpList Try.prog ops Q rest (a.put o.dst undef) (W.setRow B vs.toArray)) : wpList Try.prog ops Q (o :: rest) a W :=
  wpList_store_row hgd _ x y ho B vs.toArray hx hy t cs.toArray h (by rw [info_sd]; simp [hv]) (by simp [hl, hv]) (by simpa using h1) k
theorem sd_var (h : Bx W B t cs) (hl : cs.length = 2) : (Go.loadVar 45 ⟨B, 0, none⟩).run Try.prog W = .ok (.agg cs.toArray) W := by
  obtain ⟨n', e', hu⟩ := sd_struct
  exact run_loadVar_row W B t 45 cs.toArray (0, 0) _ h hu rfl (by rw [info_sd]; simp [hl])
/-- one is loaded whole, in a region that draws its order -/
theorem sd_yields {ops : Array Oper} {S : World → Prop} {op : Oper} {a : Act} (hw : Region.wanted op (yielded ops a.tmps) = true) (x : Operand) (ho : op.op = .load 45 x)
    (hx : a.eval x = .pointer (some ⟨B, 0, none⟩)) (cs : List Value) (hl : cs.length = 2) (t : TypeId) (hS : ∀ W, S W → Bx W B t cs) : YieldsIf Try.prog ops S op (.agg cs.toArray) a := by
  obtain ⟨n', e', hu⟩ := sd_struct
  exact .inl ⟨hw, fun w hw' => by
    unfold execOp
    simp only [ho, hx, Instr.loadAt, Instr.sureAddr, Sem.run_bind, Sem.run_pure, Result.andThen_ok, run_loadVar_row w B t 45 cs.toArray (0, 0) _ (hS w hw') hu rfl (by rw [info_sd]; simp [hl])]⟩
variable {fn : Func} {tmps : Array Value} {R : Ending → World → Prop} {v u : Value} {ds : List Deferred} {p q r : Tmp}
/-- a box alone, a box and one or two slots: what a call hands back -/
theorem sd_end1 (hr : fn.results = #[.cell p 45]) (h2 : tmps.getD p undef = .pointer (some ⟨B, 0, none⟩))
    (e : Bx W B t cs) (hl : cs.length = 2) (hd : ds = []) (h : R (.returned (.agg cs.toArray)) W) : bodyPost Try.prog fn R .ret { tmps := tmps, defers := ds } W := by
  have l2 := sd_var e hl
  have h2a : tmps[p]?.getD undef = .pointer (some ⟨B, 0, none⟩) := by simpa using h2
  refine bodyPost_ret (v := .agg cs.toArray) ?_ hd h
  simp [results, hr, h2a, asAddr, l2]
theorem sd_end2 (hr : fn.results = #[.cell p 45, .tmp q]) (h2 : tmps.getD p undef = .pointer (some ⟨B, 0, none⟩)) (h3 : tmps.getD q undef = v)
    (e : Bx W B t cs) (hl : cs.length = 2) (hd : ds = []) (h : R (.returned (.tuple #[.agg cs.toArray, v])) W) : bodyPost Try.prog fn R .ret { tmps := tmps, defers := ds } W := by
  have l2 := sd_var e hl
  have h2a : tmps[p]?.getD undef = .pointer (some ⟨B, 0, none⟩) := by simpa using h2
  have h2b : tmps[q]?.getD undef = v := by simpa using h3
  refine bodyPost_ret (v := .tuple #[.agg cs.toArray, v]) ?_ hd h
  simp [results, hr, h2a, h2b, asAddr, l2]
theorem sd_end3 (hr : fn.results = #[.cell p 45, .tmp q, .tmp r]) (h2 : tmps.getD p undef = .pointer (some ⟨B, 0, none⟩)) (h3 : tmps.getD q undef = v) (h4 : tmps.getD r undef = u)
    (e : Bx W B t cs) (hl : cs.length = 2) (hd : ds = []) (h : R (.returned (.tuple #[.agg cs.toArray, v, u])) W) : bodyPost Try.prog fn R .ret { tmps := tmps, defers := ds } W := by
  have l2 := sd_var e hl
  have h2a : tmps[p]?.getD undef = .pointer (some ⟨B, 0, none⟩) := by simpa using h2
  have h2b : tmps[q]?.getD undef = v := by simpa using h3
  have h2c : tmps[r]?.getD undef = u := by simpa using h4
  refine bodyPost_ret (v := .tuple #[.agg cs.toArray, v, u]) ?_ hd h
  simp [results, hr, h2a, h2b, h2c, asAddr, l2]
end

theorem rkwin_any (n lo hi : Int) (w : World) :
    Calls Try.prog 22 #[.int .i64 n, .int .i64 lo, .int .i64 hi] w fun e w' => e = .returned (.bool (winB n lo hi)) ∧ w = w' := by
  by_cases h1 : lo ≤ n
  · have e1 : winB n lo hi = decide (n ≤ hi) := by unfold winB; rw [decide_eq_true h1]; rfl
    rw [e1]
    clear e1
    have d1 : decide (lo ≤ n) = true := decide_eq_true h1
    go_enter Try.func22, Try.ntmps22
    go_wp2
    go_ret
    exact ⟨rfl, rfl⟩
  · have e1 : winB n lo hi = false := by unfold winB; rw [decide_eq_false h1]; rfl
    rw [e1]
    clear e1
    have d1 : decide (lo ≤ n) = false := decide_eq_false h1
    go_enter Try.func22, Try.ntmps22
    go_wp2
    go_ret
    exact ⟨rfl, rfl⟩

theorem rkof_any (x : Prt) (w : World) (h : EndOk x) :
    Calls Try.prog 23 #[.agg #[.int .i64 x.seq, .int .i64 x.len, .int .i64 x.dsn, .int .i64 x.at_, .int .i64 x.tries, .bool x.came, .bool x.lost, .int .i64 x.total, .int .i64 x.last]] w fun e w' => e = .returned (.agg #[.int .i64 x.at_, .int .i64 (endP x)]) ∧ Below w.heap.size w w' := by
  obtain ⟨B, hB⟩ : ∃ B, w.heap.size = B := ⟨_, rfl⟩
  have e0 := (Bx.new w 26 [.int .i64 x.seq, .int .i64 x.len, .int .i64 x.dsn, .int .i64 x.at_, .int .i64 x.tries, .bool x.came, .bool x.lost, .int .i64 x.total, .int .i64 x.last]).alloc (.cells #[.int .i64 0, .int .i64 0] 45)
  have y0 := Bx.new (w.alloc (.cells #[.int .i64 x.seq, .int .i64 x.len, .int .i64 x.dsn, .int .i64 x.at_, .int .i64 x.tries, .bool x.came, .bool x.lost, .int .i64 x.total, .int .i64 x.last] 26)) 45 [.int .i64 0, .int .i64 0]
  rw [World.size_alloc] at y0
  rw [hB] at e0 y0 ⊢
  have b0 : Below B w ((w.alloc (.cells #[.int .i64 x.seq, .int .i64 x.len, .int .i64 x.dsn, .int .i64 x.at_, .int .i64 x.tries, .bool x.came, .bool x.lost, .int .i64 x.total, .int .i64 x.last] 26)).alloc (.cells #[.int .i64 0, .int .i64 0] 45)) := by rw [← hB]; exact ((Below.refl _ _).alloc (Nat.le_refl _) _).alloc (by simp) _
  have hs1 : IntKind.i64.wrap (x.seq + x.len) = x.seq + x.len := IntWalk.i64_in _ h
  go_enter Try.func23, Try.ntmps23
  go_upto_region 1 with fail
  generalize (w.alloc (.cells #[.int .i64 x.seq, .int .i64 x.len, .int .i64 x.dsn, .int .i64 x.at_, .int .i64 x.tries, .bool x.came, .bool x.lost, .int .i64 x.total, .int .i64 x.last] 26)).alloc (.cells #[.int .i64 0, .int .i64 0] 45) = w1 at e0 y0 b0 ⊢
  have c0 := e0.cell 0 rfl; have c1 := e0.cell 1 rfl; have c3 := e0.cell 3 rfl
  go_wp2_with (refine sd_store rfl (.tmp 2) (.tmp 10) rfl rfl [.int .i64 x.at_, .int .i64 (x.seq + x.len)] rfl y0 rfl rfl rfl ?_)
  refine sd_end1 (by rfl) (by rfl) (sd_put y0 [.int .i64 x.at_, .int .i64 (x.seq + x.len)]) rfl rfl ?_
  exact ⟨rfl, b0.grown (sd_grown _ (B + 1) #[.int .i64 x.at_, .int .i64 (x.seq + x.len)]) (Nat.le_of_lt e0.lt) (fun k hk => by cases hk; omega)⟩

theorem nan_any (x : Int) (w : World) :
    Calls Try.prog 44 #[.int .i64 x] w fun e w' => e = .returned (.bool false) ∧ w = w' := by
  go_enter Try.func44, Try.ntmps44
  have d1 : (x == x) = true := by simp
  go_wp2
  go_ret
  exact ⟨rfl, rfl⟩

/-- -1, 0 or 1 -/
def cmpI (x y : Int) : Int := if x < y then -1 else if y < x then 1 else 0
set_option maxRecDepth 100000 in
set_option maxHeartbeats 8000000 in
theorem cmp_any (x y : Int) (w : World) :
    Calls Try.prog 43 #[.int .i64 x, .int .i64 y] w fun e w' => e = .returned (.int .i64 (cmpI x y)) ∧ w = w' := by
  by_cases h1 : x < y
  · have e1 : cmpI x y = -1 := if_pos h1
    rw [e1]
    clear e1
    go_enter Try.func43, Try.ntmps43
    go_wp2_with (go_at_call 44; refine (nan_any _ _).mono ?_; rintro e wx ⟨rfl, rfl⟩)
    go_ret
    exact ⟨rfl, rfl⟩
  · by_cases h2 : y < x
    · have e1 : cmpI x y = 1 := by unfold cmpI; rw [if_neg h1, if_pos h2]
      rw [e1]
      clear e1
      go_enter Try.func43, Try.ntmps43
      go_wp2_with (go_at_call 44; refine (nan_any _ _).mono ?_; rintro e wx ⟨rfl, rfl⟩)
      go_ret
      exact ⟨rfl, rfl⟩
    · have e1 : cmpI x y = 0 := by unfold cmpI; rw [if_neg h1, if_neg h2]
      rw [e1]
      clear e1
      go_enter Try.func43, Try.ntmps43
      go_wp2_with (go_at_call 44; refine (nan_any _ _).mono ?_; rintro e wx ⟨rfl, rfl⟩)
      go_ret
      exact ⟨rfl, rfl⟩

/-- two and two -/
def cmp2 (a b c d : Int) : Int := if cmpI a c = 0 then cmpI b d else cmpI a c
theorem cmpI_zero {x y : Int} : cmpI x y = 0 ↔ x = y := by
  unfold cmpI
  split
  · omega
  · split <;> omega
theorem cmp2_neg {a b c d : Int} : cmp2 a b c d < 0 ↔ aheadB a b c d = true := by
  rw [ahead_iff]; unfold cmp2 cmpI
  (repeat' split) <;> omega
set_option maxRecDepth 100000 in
set_option maxHeartbeats 8000000 in
theorem cmps_any (P Q : Nat) (a b c d : Int) (w : World) (t t' : TypeId) (hp : Bx w P t [.int .i64 a, .int .i64 b]) (hq : Bx w Q t' [.int .i64 c, .int .i64 d]) :
    Calls Try.prog 41 #[.slice (some ⟨P, 0, none⟩) 2 2, .slice (some ⟨Q, 0, none⟩) 2 2] w fun e w' => e = .returned (.int .i64 (cmp2 a b c d)) ∧ w = w' := by
  obtain ⟨z, hz⟩ : ∃ z, cmp2 a b c d = z := ⟨_, rfl⟩
  rw [hz]
  have HZ := Lib.hid hz; clear hz
  have p0 := hp.cell 0 rfl; have p1 := hp.cell 1 rfl; have q0 := hq.cell 0 rfl; have q1 := hq.cell 1 rfl
  clear hp hq
  go_enter Try.func41, Try.ntmps41
  go_wp2_with fail
  go_loopw [11] (fun i wr => ∃ k : Nat, k ≤ 2 ∧ i = .int .i64 (k : Int) ∧ Hid ((0 < k → a = c) ∧ (1 < k → b = d)) ∧ w = wr) (fun i _ => 2 - (intOf i).toNat)
  case atStart => exact ⟨0, by omega, rfl, Lib.hid ⟨fun h => absurd h (by omega), fun h => absurd h (by omega)⟩, rfl⟩
  case round =>
    obtain ⟨k, hk, rfl, heq, rfl⟩ := hrel
    rcases (show k = 0 ∨ k = 1 ∨ k = 2 by omega) with rfl | rfl | rfl
    · push_cast
      obtain ⟨m, hm⟩ : ∃ m, cmpI a c = m := ⟨_, rfl⟩
      have hc := fun w => cmp_any a c w
      rw [hm] at hc
      by_cases h0 : m = 0
      · subst h0
        have hac := Lib.hid (cmpI_zero.1 hm)
        clear hm
        go_wp2_with (go_at_call 43; refine (hc _).mono ?_; rintro e wx ⟨rfl, rfl⟩)
        go_roundw
        case rel => exact ⟨1, by omega, by first | rfl | go_num, Lib.hid ⟨fun _ => hac.out, fun h => absurd h (by omega)⟩, by first | rfl | trivial⟩
        case measure => simp [intOf]
      · have hz := HZ.out
        rw [show cmp2 a b c d = m by unfold cmp2; rw [hm, if_neg h0]] at hz
        subst hz
        have d0 : (m == 0) = false := by simpa using h0
        clear hm HZ
        go_wp2_with (go_at_call 43; refine (hc _).mono ?_; rintro e wx ⟨rfl, rfl⟩)
        go_ret
        exact ⟨rfl, rfl⟩
    · push_cast
      obtain ⟨m, hm⟩ : ∃ m, cmpI b d = m := ⟨_, rfl⟩
      have hc := fun w => cmp_any b d w
      rw [hm] at hc
      have hz := HZ.out
      rw [show cmp2 a b c d = m by unfold cmp2; rw [cmpI_zero.2 (heq.out.1 (by omega)), if_pos rfl, hm]] at hz
      by_cases h0 : m = 0
      · subst h0
        have hbd := Lib.hid (cmpI_zero.1 hm)
        clear hm hz
        go_wp2_with (go_at_call 43; refine (hc _).mono ?_; rintro e wx ⟨rfl, rfl⟩)
        go_roundw
        case rel => exact ⟨2, by omega, by first | rfl | go_num, Lib.hid ⟨fun _ => heq.out.1 (by omega), fun _ => hbd.out⟩, by first | rfl | trivial⟩
        case measure => simp [intOf]
      · subst hz
        have d0 : (m == 0) = false := by simpa using h0
        clear hm HZ
        go_wp2_with (go_at_call 43; refine (hc _).mono ?_; rintro e wx ⟨rfl, rfl⟩)
        go_ret
        exact ⟨rfl, rfl⟩
    · push_cast
      have hz := HZ.out
      rw [show cmp2 a b c d = 0 by unfold cmp2; rw [cmpI_zero.2 (heq.out.1 (by omega)), if_pos rfl, cmpI_zero.2 (heq.out.2 (by omega))]] at hz
      subst hz
      clear HZ
      go_wp2
      go_ret
      exact ⟨rfl, rfl⟩

end Go.Proofs.Ytlanplobdgchaaa
