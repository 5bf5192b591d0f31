/- RkL1 RkL2 RkL3 TmRef1 StRef5. -/
import Derived.Test.YtbijhkhkigdddaaGreatP08
import Derived.Laws.StructEq
set_option linter.all false
set_option maxRecDepth 100000
set_option maxHeartbeats 32000000
namespace Go.Proofs.YtbijhkhkigdddaaGreat
open Go.RowKit
theorem info_sd : (Tryz.prog.info? 179).map (·.size) = some 2 := by kernel_rfl
theorem sd_struct : ∃ n e, Tryz.prog.underlying 179 = some (.array n e) := ⟨_, _, Tryz.underlying179⟩
section
variable {W : World} {B : Nat} {t : TypeId} {cs : List Value}
theorem sd_put (h : Bx W B t cs) (vs : List Value) : Bx (W.setRow B vs.toArray) B t vs := setRow_heap W B _ vs.toArray t (0, 0) h
theorem sd_grown (W : World) (B : Nat) (vs : Array Value) : W.grownBy (W.setRow B vs) (some B) :=
 ⟨rfl, rfl, rfl, by simp [World.setRow], fun i _ hne => setRow_other W B i vs (fun e => hne (by rw [e]))⟩
theorem sd_load {ops : Array Oper} {rest : List Oper} {o : Oper} {a : Act} {Q : Exit → Act → World → Prop} (hgd : o.guard = none) (x : Operand) (ho : o.op = .load 179 x) (hx : a.eval x = .pointer (some ⟨B, 0, none⟩))
  (h : Bx W B t cs) (hl : cs.length = 2) (k : wpList Tryz.prog ops Q rest (a.put o.dst (.agg cs.toArray)) W) : wpList Tryz.prog ops Q (o :: rest) a W := by
 obtain ⟨n', e', hu⟩ := sd_struct
 exact wpList_load_row hgd _ x ho B hx t cs.toArray (0, 0) _ h hu rfl (by rw [info_sd]; simp [hl]) k
theorem sd_store {ops : Array Oper} {rest : List Oper} {o : Oper} {a : Act} {Q : Exit → Act → World → Prop} (hgd : o.guard = none) (x y : Operand) (ho : o.op = .store 179 x y) (hx : a.eval x = .pointer (some ⟨B, 0, none⟩))
  (vs : List Value) (hy : a.eval y = .agg vs.toArray) (h : Bx W B t cs) (hl : cs.length = 2) (hv : vs.length = 2) (h1 : vs.all (·.oneCell') = true) (k : wpList Tryz.prog ops Q rest (a.put o.dst undef) (W.setRow B vs.toArray)) : wpList Tryz.prog ops Q (o :: rest) a W :=
 wpList_store_row hgd _ x y ho B vs.toArray hx hy t cs.toArray h (by rw [info_sd]; simp [hv]) (by simp [hl, hv]) (by simpa using h1) k
theorem sd_var (h : Bx W B t cs) (hl : cs.length = 2) : (Go.loadVar 179 ⟨B, 0, none⟩).run Tryz.prog W = .ok (.agg cs.toArray) W := by
 obtain ⟨n', e', hu⟩ := sd_struct
 exact run_loadVar_row W B t 179 cs.toArray (0, 0) _ h hu rfl (by rw [info_sd]; simp [hl])
variable {fn : Func} {tmps : Array Value} {R : Ending → World → Prop} {v u : Value} {ds : List Deferred} {p q r : Tmp}
theorem sd_end1 (hr : fn.results = #[.cell p 179]) (h2 : tmps.getD p undef = .pointer (some ⟨B, 0, none⟩))
  (e : Bx W B t cs) (hl : cs.length = 2) (hd : ds = []) (h : R (.returned (.agg cs.toArray)) W) : bodyPost Tryz.prog fn R .ret { tmps := tmps, defers := ds } W := by
 have l2 := sd_var e hl
 have h2a : tmps[p]?.getD undef = .pointer (some ⟨B, 0, none⟩) := by simpa using h2
 refine bodyPost_ret (v := .agg cs.toArray) ?_ hd h
 simp [results, hr, h2a, asAddr, l2]
end
theorem rkwin_any (n lo hi : Int) (w : World) :
  Calls Tryz.prog 105 #[n, lo, hi] w fun e w' => e = .returned (.bool (winB n lo hi)) ∧ w = w' := by
 by_cases h1 : lo ≤ n
 ·have e1 : winB n lo hi = decide (n ≤ hi) := by unfold winB; rw [Zt h1]; rfl
  rw [e1]
  clear e1
  have d1 : decide (lo ≤ n) = true := Zt h1
  go_enter Tryz.func105, Tryz.ntmps105
  go_wp2
  go_ret
  exact ⟨rfl, rfl⟩
 ·have e1 : winB n lo hi = false := by unfold winB; rw [Zf h1]; rfl
  rw [e1]
  clear e1
  have d1 : decide (lo ≤ n) = false := Zf h1
  go_enter Tryz.func105, Tryz.ntmps105
  go_wp2
  go_ret
  exact ⟨rfl, rfl⟩
theorem rkof_any (x : Prt) (w : World) (h : EndOk x) :
  Calls Tryz.prog 175 #[.agg #[x.seq, x.len, x.dsn, x.at_, x.tries, x.came, x.lost, x.total, x.last]] w fun e w' => e = .returned (.agg #[x.at_, .int .i64 (endP x)]) ∧ Below w.heap.size w w' := by
 obtain ⟨B, hB⟩ : ∃ B, w.heap.size = B := ⟨_, rfl⟩
 have e0 := (Bx.new w 57 [x.seq, x.len, x.dsn, x.at_, x.tries, x.came, x.lost, x.total, x.last]).alloc (.cells #[.int .i64 0, .int .i64 0] 179)
 have y0 := Bx.new (w.alloc (.cells #[x.seq, x.len, x.dsn, x.at_, x.tries, x.came, x.lost, x.total, x.last] 57)) 179 [.int .i64 0, .int .i64 0]
 rw [World.size_alloc] at y0
 rw [hB] at e0 y0 ⊢
 have b0 : Below B w ((w.alloc (.cells #[x.seq, x.len, x.dsn, x.at_, x.tries, x.came, x.lost, x.total, x.last] 57)).alloc (.cells #[.int .i64 0, .int .i64 0] 179)) := by rw [← hB]; exact ((Zb).alloc Zr _).alloc (by simp) _
 have hs1 : IntKind.i64.wrap (x.seq + x.len) = x.seq + x.len := IntWalk.i64_in _ h
 go_enter Tryz.func175, Tryz.ntmps175
 go_upto_region 1 with fail
 generalize (w.alloc (.cells #[x.seq, x.len, x.dsn, x.at_, x.tries, x.came, x.lost, x.total, x.last] 57)).alloc (.cells #[.int .i64 0, .int .i64 0] 179) = w1 at e0 y0 b0 ⊢
 have c0 := e0.cell 0 rfl; have c1 := e0.cell 1 rfl; have c3 := e0.cell 3 rfl
 go_wp2_with (refine sd_store rfl (.tmp 2) (.tmp 10) rfl rfl [x.at_, .int .i64 (x.seq + x.len)] rfl y0 rfl rfl rfl ?_)
 refine sd_end1 (by rfl) (by rfl) (sd_put y0 [x.at_, .int .i64 (x.seq + x.len)]) rfl rfl ?_
 exact ⟨rfl, b0.grown (sd_grown _ (B + 1) #[x.at_, .int .i64 (x.seq + x.len)]) (Zl e0.lt) (fun k hk => by cases hk; omega)⟩
theorem nan_any (x : Int) (w : World) :
  Calls Tryz.prog 235 #[x] w fun e w' => e = .returned (.bool false) ∧ w = w' := by
 go_enter Tryz.func235, Tryz.ntmps235
 have d1 : (x == x) = true := by simp
 go_wp2
 go_ret
 exact ⟨rfl, rfl⟩
def cmpI (x y : Int) : Int := if x < y then -1 else if y < x then 1 else 0
theorem cmp_any (x y : Int) (w : World) :
  Calls Tryz.prog 233 #[x, y] w fun e w' => e = .returned (.int .i64 (cmpI x y)) ∧ w = w' := by
 by_cases h1 : x < y
 ·have e1 : cmpI x y = -1 := if_pos h1
  rw [e1]
  clear e1
  go_enter Tryz.func233, Tryz.ntmps233
  go_wp2_with (go_at_call 235; refine (nan_any _ _).mono ?_; rintro e wx ⟨rfl, rfl⟩)
  go_ret
  exact ⟨rfl, rfl⟩
 ·by_cases h2 : y < x
  ·have e1 : cmpI x y = 1 := by unfold cmpI; rw [if_neg h1, if_pos h2]
   rw [e1]
   clear e1
   go_enter Tryz.func233, Tryz.ntmps233
   go_wp2_with (go_at_call 235; refine (nan_any _ _).mono ?_; rintro e wx ⟨rfl, rfl⟩)
   go_ret
   exact ⟨rfl, rfl⟩
  ·have e1 : cmpI x y = 0 := by unfold cmpI; rw [if_neg h1, if_neg h2]
   rw [e1]
   clear e1
   go_enter Tryz.func233, Tryz.ntmps233
   go_wp2_with (go_at_call 235; refine (nan_any _ _).mono ?_; rintro e wx ⟨rfl, rfl⟩)
   go_ret
   exact ⟨rfl, rfl⟩
def cmp2 (a b c d : Int) : Int := if cmpI a c = 0 then cmpI b d else cmpI a c
theorem cmpI_zero {x y : Int} : cmpI x y = 0 ↔ x = y := by
 unfold cmpI
 split
 ·omega
 ·split <;> omega
theorem cmp2_neg {a b c d : Int} : cmp2 a b c d < 0 ↔ aheadB a b c d = true := by
 rw [ahead_iff]; unfold cmp2 cmpI
 (repeat' split) <;> omega
theorem cmps_any (P Q : Nat) (a b c d : Int) (w : World) (t t' : TypeId) (hp : Bx w P t [a, b]) (hq : Bx w Q t' [c, d]) :
  Calls Tryz.prog 223 #[.slice (some ⟨P, 0, none⟩) 2 2, .slice (some ⟨Q, 0, none⟩) 2 2] w fun e w' => e = .returned (.int .i64 (cmp2 a b c d)) ∧ w = w' := by
 obtain ⟨z, hz⟩ : ∃ z, cmp2 a b c d = z := ⟨_, rfl⟩
 rw [hz]
 have HZ := Zh hz; clear hz
 have p0 := hp.cell 0 rfl; have p1 := hp.cell 1 rfl; have q0 := hq.cell 0 rfl; have q1 := hq.cell 1 rfl
 clear hp hq
 go_enter Tryz.func223, Tryz.ntmps223
 go_wp2_with fail
 go_loopw [11] (fun i wr => ∃ k : Nat, k ≤ 2 ∧ i = .int .i64 (k : Int) ∧ Hid ((0 < k → a = c) ∧ (1 < k → b = d)) ∧ w = wr) (fun i _ => 2 - (intOf i).toNat)
 case atStart => exact ⟨0, by omega, rfl, Zh ⟨fun h => absurd h (by omega), fun h => absurd h (by omega)⟩, rfl⟩
 case round =>
  obtain ⟨k, hk, rfl, heq, rfl⟩ := hrel
  rcases (show k = 0 ∨ k = 1 ∨ k = 2 by omega) with rfl | rfl | rfl
  ·push_cast
   obtain ⟨m, hm⟩ : ∃ m, cmpI a c = m := ⟨_, rfl⟩
   have hc := fun w => cmp_any a c w
   rw [hm] at hc
   by_cases h0 : m = 0
   ·subst h0
    have hac := Zh (cmpI_zero.1 hm)
    clear hm
    go_wp2_with (go_at_call 233; refine (hc _).mono ?_; rintro e wx ⟨rfl, rfl⟩)
    go_roundw
    case rel => exact ⟨1, by omega, by first | rfl | go_num, Zh ⟨fun _ => hac.out, fun h => absurd h (by omega)⟩, by first | rfl | trivial⟩
    case measure => simp [intOf]
   ·have hz := HZ.out
    rw [show cmp2 a b c d = m by unfold cmp2; rw [hm, if_neg h0]] at hz
    subst hz
    have d0 : (m == 0) = false := by simpa using h0
    clear hm HZ
    go_wp2_with (go_at_call 233; refine (hc _).mono ?_; rintro e wx ⟨rfl, rfl⟩)
    go_ret
    exact ⟨rfl, rfl⟩
  ·push_cast
   obtain ⟨m, hm⟩ : ∃ m, cmpI b d = m := ⟨_, rfl⟩
   have hc := fun w => cmp_any b d w
   rw [hm] at hc
   have hz := HZ.out
   rw [show cmp2 a b c d = m by unfold cmp2; rw [cmpI_zero.2 (heq.out.1 (by omega)), if_pos rfl, hm]] at hz
   by_cases h0 : m = 0
   ·subst h0
    have hbd := Zh (cmpI_zero.1 hm)
    clear hm hz
    go_wp2_with (go_at_call 233; refine (hc _).mono ?_; rintro e wx ⟨rfl, rfl⟩)
    go_roundw
    case rel => exact ⟨2, by omega, by first | rfl | go_num, Zh ⟨fun _ => heq.out.1 (by omega), fun _ => hbd.out⟩, by first | rfl | trivial⟩
    case measure => simp [intOf]
   ·subst hz
    have d0 : (m == 0) = false := by simpa using h0
    clear hm HZ
    go_wp2_with (go_at_call 233; refine (hc _).mono ?_; rintro e wx ⟨rfl, rfl⟩)
    go_ret
    exact ⟨rfl, rfl⟩
  ·push_cast
   have hz := HZ.out
   rw [show cmp2 a b c d = 0 by unfold cmp2; rw [cmpI_zero.2 (heq.out.1 (by omega)), if_pos rfl, cmpI_zero.2 (heq.out.2 (by omega))]] at hz
   subst hz
   clear HZ
   go_wp2
   go_ret
   exact ⟨rfl, rfl⟩
theorem sl2 (W : World) (B : Nat) : (Instr.sliceAt 179 (.pointer (some ⟨B, 0, none⟩)) none none none).run Tryz.prog W = .ok (.slice (some ⟨B, 0, none⟩) 2 2) W := by
 simp [Instr.sliceAt, Instr.sureAddr, Instr.sliceBounds, run_underlying Tryz.underlying179, Go.sizeOf, typeInfo]
 kernel_rfl
theorem eq2 (a b c d : Int) (W : World) : (Op.equalIn (9998 + 1 + 1) 179 (.agg #[a, b]) (.agg #[c, d])).run Tryz.prog W = .ok (a == c && b == d) W := by
 have hi : ∀ (x y : Int) (W : World), (Op.equalIn (9998 + 1) 3 (.int .i64 x) (.int .i64 y)).run Tryz.prog W = .ok (x == y) W := fun x y W => run_equalIn_int W 9998 _ _ .i64 x y Tryz.underlying3
 rw [Op.equalIn]
 simp only [Sem.run_bind, run_underlying Tryz.underlying179, Result.andThen_ok]
 have hsz : (Go.sizeOf 3).run Tryz.prog W = .ok 1 W := by kernel_rfl
 have p0 : ∀ (x y : Int) (W : World), (part 3 #[x, y] 0).run Tryz.prog W = .ok (.int .i64 x) W := fun _ _ _ => by kernel_rfl
 have p1 : ∀ (x y : Int) (W : World), (part 3 #[x, y] 1).run Tryz.prog W = .ok (.int .i64 y) W := fun _ _ _ => by kernel_rfl
 rw [hsz]
 simp only [Result.andThen_ok, Std.Legacy.Range.forIn_eq_forIn_range', Std.Legacy.Range.size, List.range'_succ, List.range'_zero, List.forIn_cons, List.forIn_nil, Sem.run_bind, Nat.zero_mul, Nat.zero_add, Nat.one_mul, Nat.mul_one, Nat.sub_zero, Nat.add_sub_cancel, Nat.div_one, p0, p1, hi, Sem.run_ite, Sem.run_pure]
 cases h1 : a == c <;> cases h2 : b == d <;> simp [p1, hi, h1, h2]
theorem ne2 (a b c d : Int) (W : World) : (binOp .neq 179 (.agg #[a, b]) (.agg #[c, d])).run Tryz.prog W = .ok (.bool (!(a == c && b == d))) W := by
 rw [run_neq_struct]
 rw [show (10000 : Nat) = 9998 + 1 + 1 by rfl, eq2]; rfl
theorem qg2 (op : BinOp) (x y : Operand) (a b c d : Int) (W : World) : (eqGuard op 179 x y (.agg #[a, b]) (.agg #[c, d])).run Tryz.prog W = .ok () W := run_eqGuard_agg W op 179 x y _ _ (by kernel_rfl)
def latR (a b c d : Int) : Int × Int := if aheadB a b c d = true then (c, d) else (a, b)
theorem lat_yes {a b c d : Int} (h : aheadB a b c d = true) : latR a b c d = (c, d) := if_pos h
theorem lat_no {a b c d : Int} (h : aheadB a b c d = false) : latR a b c d = (a, b) := if_neg (by rw [h]; simp)
theorem later_any (a b c d : Int) (w : World) :
  Calls Tryz.prog 206 #[.agg #[a, b], .agg #[c, d]] w fun e w' => e = .returned (.agg #[.int .i64 (latR a b c d).1, .int .i64 (latR a b c d).2]) ∧ Below w.heap.size w w' := by
 obtain ⟨B, hB⟩ : ∃ B, w.heap.size = B := ⟨_, rfl⟩
 have e0 := ((Bx.new w 179 [a, b]).alloc (.cells #[c, d] 179)).alloc (.cells #[.int .i64 0, .int .i64 0] 179)
 have f0 := (Bx.new (w.alloc (.cells #[a, b] 179)) 179 [c, d]).alloc (.cells #[.int .i64 0, .int .i64 0] 179)
 have y0 := Bx.new ((w.alloc (.cells #[a, b] 179)).alloc (.cells #[c, d] 179)) 179 [.int .i64 0, .int .i64 0]
 rw [World.size_alloc] at f0
 rw [World.size_alloc, World.size_alloc] at y0
 rw [hB] at e0 f0 y0 ⊢
 have b0 : Below B w (((w.alloc (.cells #[a, b] 179)).alloc (.cells #[c, d] 179)).alloc (.cells #[.int .i64 0, .int .i64 0] 179)) := by rw [← hB]; exact (((Zb).alloc Zr _).alloc (by simp) _).alloc (by simp; omega) _
 obtain ⟨z, hz⟩ : ∃ z, latR a b c d = z := ⟨_, rfl⟩
 rw [hz]
 have HZ := Zh hz; clear hz
 obtain ⟨m, hm⟩ : ∃ m, cmp2 a b c d = m := ⟨_, rfl⟩
 have hl := sl2
 go_enter Tryz.func206, Tryz.ntmps206
 go_upto_region 1 with fail
 generalize (((w.alloc (.cells #[a, b] 179)).alloc (.cells #[c, d] 179)).alloc (.cells #[.int .i64 0, .int .i64 0] 179)) = w1 at e0 f0 y0 b0 ⊢
 refine wp_region_tail 3 4 (fun (W : World) => Bx W B 179 [a, b] ∧ Bx W (B + 1) 179 [c, d] ∧ Bx W (B + 2) 179 [.int .i64 0, .int .i64 0] ∧ Below B w W) (by kernel_rfl) (by rfl) (by decide) ?_
 have HS : ((fun (W : World) => Bx W B 179 [a, b] ∧ Bx W (B + 1) 179 [c, d] ∧ Bx W (B + 2) 179 [.int .i64 0, .int .i64 0] ∧ Below B w W)) _ := ⟨e0.drew, f0.drew, y0.drew, b0.drew⟩
 refine wpAnyT_take (i := 0) (v := ?vv1) rfl (by kernel_rfl) (fun _ _ _ h => h) (Or.inl ⟨by rfl, fun w hSw => ?yy1⟩) HS ?rr1
 case yy1 =>
  (try dsimp only at hSw); go_simp
  try with_reducible rfl
 try simp only [Act.put, List.setIfInBounds_toArray, List.set_cons_zero, List.set_cons_succ]
 refine wpAnyT_take (i := 1) (v := ?vv2) rfl (by kernel_rfl) (fun _ _ _ h => h) (Or.inl ⟨by rfl, fun w hSw => ?yy2⟩) HS ?rr2
 case yy2 =>
  (try dsimp only at hSw); go_simp
  try with_reducible rfl
 try simp only [Act.put, List.setIfInBounds_toArray, List.set_cons_zero, List.set_cons_succ]
 refine wpAnyT_one (k := 2) rfl (by kernel_rfl) (by decide) (fun K hK => ?_)
 go_simp
 refine (cmps_any B (B + 1) a b c d _ _ _ HS.1 HS.2.1).mono ?_
 rintro e wv ⟨rfl, rfl⟩
 have HS : ((fun (W : World) => Bx W B 179 [a, b] ∧ Bx W (B + 1) 179 [c, d] ∧ Bx W (B + 2) 179 [.int .i64 0, .int .i64 0] ∧ Below B w W)) _ := ⟨HS.1, HS.2.1, HS.2.2.1, HS.2.2.2⟩
 refine hK _ _ HS ?_
 clear hK K
 try simp only [Act.put, List.setIfInBounds_toArray, List.set_cons_zero, List.set_cons_succ]
 refine ⟨by kernel_rfl, ?_⟩
 simp only [List.drop_succ_cons, List.drop_zero]
 rw [hm]
 by_cases hlt : m < 0
 ·have hz := HZ.out
  rw [lat_yes (cmp2_neg.1 (hm ▸ hlt))] at hz
  subst hz
  clear HZ hm
  go_wp2_with (first | (refine sd_load rfl (.tmp 3) rfl rfl HS.2.1 rfl ?_) | (refine sd_store rfl (.tmp 4) (.tmp 9) rfl rfl [c, d] rfl HS.2.2.1 rfl rfl rfl ?_))
  refine sd_end1 (by rfl) (by rfl) (sd_put HS.2.2.1 [c, d]) rfl rfl ?_
  exact ⟨rfl, HS.2.2.2.grown (sd_grown _ (B + 2) #[c, d]) (Zl HS.1.lt) (fun k hk => by cases hk; omega)⟩
 ·have hz := HZ.out
  rw [lat_no (Bool.eq_false_iff.2 (fun h => hlt (hm ▸ cmp2_neg.2 h)))] at hz
  subst hz
  clear HZ hm
  go_wp2_with (first | (refine sd_load rfl (.tmp 2) rfl rfl HS.1 rfl ?_) | (refine sd_store rfl (.tmp 4) (.tmp 10) rfl rfl [a, b] rfl HS.2.2.1 rfl rfl rfl ?_))
  refine sd_end1 (by rfl) (by rfl) (sd_put HS.2.2.1 [a, b]) rfl rfl ?_
  exact ⟨rfl, HS.2.2.2.grown (sd_grown _ (B + 2) #[a, b]) (Zl HS.1.lt) (fun k hk => by cases hk; omega)⟩
theorem before_any (a b c d : Int) (w : World) :
  Calls Tryz.prog 176 #[.agg #[a, b], .agg #[c, d]] w fun e w' => e = .returned (.bool (aheadB a b c d)) ∧ Below w.heap.size w w' := by
 obtain ⟨B, hB⟩ : ∃ B, w.heap.size = B := ⟨_, rfl⟩
 have e0 := (Bx.new w 179 [a, b]).alloc (.cells #[c, d] 179)
 have f0 := Bx.new (w.alloc (.cells #[a, b] 179)) 179 [c, d]
 rw [World.size_alloc] at f0
 rw [hB] at e0 f0 ⊢
 have b0 : Below B w ((w.alloc (.cells #[a, b] 179)).alloc (.cells #[c, d] 179)) := by rw [← hB]; exact ((Zb).alloc Zr _).alloc (by simp) _
 obtain ⟨z, hz⟩ : ∃ z, latR a b c d = z := ⟨_, rfl⟩
 obtain ⟨z1, z2⟩ := z
 have hq : aheadB a b c d = !(z1 == a && z2 == b) := by
  cases h : aheadB a b c d with
  | true =>
   rw [lat_yes h] at hz
   cases hz
   rw [ahead_iff] at h
   cases h1 : c == a <;> cases h2 : d == b <;> simp_all <;> omega
  | false =>
   rw [lat_no h] at hz
   cases hz
   simp
 rw [hq]
 clear hq
 have hn := ne2
 have hg := qg2
 go_enter Tryz.func176, Tryz.ntmps176
 go_upto_region 1 with fail
 generalize ((w.alloc (.cells #[a, b] 179)).alloc (.cells #[c, d] 179)) = w1 at e0 f0 b0 ⊢
 refine wp_region_tail 4 6 (fun (W : World) => Bx W B 179 [a, b] ∧ Bx W (B + 1) 179 [c, d] ∧ W.cell? ⟨B, 0, none⟩ = some (.int .i64 a) ∧ W.cell? ⟨B, 1, none⟩ = some (.int .i64 b) ∧ W.cell? ⟨B + 1, 0, none⟩ = some (.int .i64 c) ∧ W.cell? ⟨B + 1, 1, none⟩ = some (.int .i64 d) ∧ Below B w W) (by kernel_rfl) (by rfl) (by decide) ?_
 have HS : ((fun (W : World) => Bx W B 179 [a, b] ∧ Bx W (B + 1) 179 [c, d] ∧ W.cell? ⟨B, 0, none⟩ = some (.int .i64 a) ∧ W.cell? ⟨B, 1, none⟩ = some (.int .i64 b) ∧ W.cell? ⟨B + 1, 0, none⟩ = some (.int .i64 c) ∧ W.cell? ⟨B + 1, 1, none⟩ = some (.int .i64 d) ∧ Below B w W)) _ := ⟨e0.drew, f0.drew, e0.drew.cell 0 rfl, e0.drew.cell 1 rfl, f0.drew.cell 0 rfl, f0.drew.cell 1 rfl, b0.drew⟩
 refine wpAnyT_take (i := 0) (v := ?vv3) rfl (by kernel_rfl) (fun _ _ _ h => h) (Or.inl ⟨by rfl, fun w hSw => ?yy3⟩) HS ?rr3
 case yy3 =>
  (try dsimp only at hSw); go_simp
  try with_reducible rfl
 try simp only [Act.put, List.setIfInBounds_toArray, List.set_cons_zero, List.set_cons_succ]
 refine wpAnyT_take (i := 1) (v := ?vv4) rfl (by kernel_rfl) (fun _ _ _ h => h) (Or.inl ⟨by rfl, fun w hSw => ?yy4⟩) HS ?rr4
 case yy4 =>
  (try dsimp only at hSw); go_simp
  try with_reducible rfl
 try simp only [Act.put, List.setIfInBounds_toArray, List.set_cons_zero, List.set_cons_succ]
 refine wpAnyT_take (i := 3) (v := ?vv5) rfl (by kernel_rfl) (fun _ _ _ h => h) (Or.inl ⟨by rfl, fun w hSw => ?yy5⟩) HS ?rr5
 case yy5 =>
  (try dsimp only at hSw); go_simp
  try with_reducible rfl
 try simp only [Act.put, List.setIfInBounds_toArray, List.set_cons_zero, List.set_cons_succ]
 refine wpAnyT_one (k := 2) rfl (by kernel_rfl) (by decide) (fun K hK => ?_)
 go_simp
 refine (later_any a b c d _).mono ?_
 rintro e wv ⟨rfl, hb1⟩
 rw [hz]
 have HS : ((fun (W : World) => Bx W B 179 [a, b] ∧ Bx W (B + 1) 179 [c, d] ∧ W.cell? ⟨B, 0, none⟩ = some (.int .i64 a) ∧ W.cell? ⟨B, 1, none⟩ = some (.int .i64 b) ∧ W.cell? ⟨B + 1, 0, none⟩ = some (.int .i64 c) ∧ W.cell? ⟨B + 1, 1, none⟩ = some (.int .i64 d) ∧ Below B w W)) _ := ⟨HS.1.kept hb1, HS.2.1.kept hb1, (HS.1.kept hb1).cell 0 rfl, (HS.1.kept hb1).cell 1 rfl, (HS.2.1.kept hb1).cell 0 rfl, (HS.2.1.kept hb1).cell 1 rfl, HS.2.2.2.2.2.2.trans (hb1.mono (Zl HS.1.lt))⟩
 refine hK _ _ HS ?_
 clear hK K
 try simp only [Act.put, List.setIfInBounds_toArray, List.set_cons_zero, List.set_cons_succ]
 refine ⟨by kernel_rfl, ?_⟩
 simp only [List.drop_succ_cons, List.drop_zero]
 go_wp2
 go_ret
 exact ⟨rfl, HS.2.2.2.2.2.2⟩
theorem win40 (x : Int) : winB x 0 1099511627776 = brief x := by rw [Bool.eq_iff_iff, win_iff, brief_iff]
theorem rkmay_win (v : Rkv) : rkmay v = (winB v.at_ 0 1152921504606846976 && (winB v.took 0 1152921504606846976 && (winB v.end_ 0 2305843009213693952 && (winB v.far 0 2305843009213693952 && winB v.quarters 0 20)))) := by
 rw [Bool.eq_iff_iff, rkmay_iff]
 simp only [Bool.and_eq_true, win_iff]
 exact ⟨fun h => ⟨⟨h.a0, h.a1⟩, ⟨h.k0, h.k1⟩, ⟨h.e0, h.e1⟩, ⟨h.f0, h.f1⟩, h.q0, h.q1⟩, fun ⟨⟨a, b⟩, ⟨c, d⟩, ⟨e, f⟩, ⟨g, h⟩, i, j⟩ => ⟨a, b, c, d, e, g, f, h, i, j⟩⟩
theorem rakmay_any (v : Rkv) (w : World) :
  Calls Tryz.prog 45 #[.agg #[v.at_, v.end_, v.took, v.far, v.mixed, v.quarters]] w fun e w' => e = .returned (.bool (rkmay v)) ∧ Below w.heap.size w w' := by
 obtain ⟨B, hB⟩ : ∃ B, w.heap.size = B := ⟨_, rfl⟩
 have e0 := Bx.new w 34 [v.at_, v.end_, v.took, v.far, v.mixed, v.quarters]
 rw [hB] at e0 ⊢
 have b0 : Below B w (w.alloc (.cells #[v.at_, v.end_, v.took, v.far, v.mixed, v.quarters] 34)) := by rw [← hB]; exact (Zb).alloc Zr _
 obtain ⟨q, hq⟩ : ∃ q, rkmay v = q := ⟨_, rfl⟩
 rw [hq]
 rw [rkmay_win] at hq
 go_enter Tryz.func45, Tryz.ntmps45
 go_upto_region 1 with fail
 change Code.wp _ _ _ _ (w.alloc (.cells #[v.at_, v.end_, v.took, v.far, v.mixed, v.quarters] 34))
 generalize w.alloc (.cells #[v.at_, v.end_, v.took, v.far, v.mixed, v.quarters] 34) = w1 at e0 b0 ⊢
 have c0 := e0.cell 0 rfl; have c1 := e0.cell 1 rfl; have c2 := e0.cell 2 rfl; have c3 := e0.cell 3 rfl; have c5 := e0.cell 5 rfl
 cases h0 : winB v.at_ 0 1152921504606846976 with
 | false =>
  have hF : q = false := by rw [← hq]; simp [h0]
  subst hF
  clear hq
  go_wp2_with (go_at_call 105; refine (rkwin_any _ _ _ _).mono ?_; rintro e wx ⟨rfl, rfl⟩)
  go_ret
  exact ⟨rfl, b0⟩
 | true =>
 cases h1 : winB v.took 0 1152921504606846976 with
 | false =>
  have hF : q = false := by rw [← hq]; simp [h0, h1]
  subst hF
  clear hq
  go_wp2_with (go_at_call 105; refine (rkwin_any _ _ _ _).mono ?_; rintro e wx ⟨rfl, rfl⟩)
  go_ret
  exact ⟨rfl, b0⟩
 | true =>
 cases h2 : winB v.end_ 0 2305843009213693952 with
 | false =>
  have hF : q = false := by rw [← hq]; simp [h0, h1, h2]
  subst hF
  clear hq
  go_wp2_with (go_at_call 105; refine (rkwin_any _ _ _ _).mono ?_; rintro e wx ⟨rfl, rfl⟩)
  go_ret
  exact ⟨rfl, b0⟩
 | true =>
 cases h3 : winB v.far 0 2305843009213693952 with
 | false =>
  have hF : q = false := by rw [← hq]; simp [h0, h1, h2, h3]
  subst hF
  clear hq
  go_wp2_with (go_at_call 105; refine (rkwin_any _ _ _ _).mono ?_; rintro e wx ⟨rfl, rfl⟩)
  go_ret
  exact ⟨rfl, b0⟩
 | true =>
 have hF : q = winB v.quarters 0 20 := by rw [← hq]; simp [h0, h1, h2, h3]
 subst hF
 clear hq
 go_wp2_with (go_at_call 105; refine (rkwin_any _ _ _ _).mono ?_; rintro e wx ⟨rfl, rfl⟩)
 go_ret
 exact ⟨rfl, b0⟩
theorem rakslack_any (v : Rkv) (least srtt : Int) (w : World) :
  Calls Tryz.prog 131 #[.agg #[v.at_, v.end_, v.took, v.far, v.mixed, v.quarters], least, srtt] w fun e w' => e = .returned (.int .i64 (slackR v least srtt)) ∧ Below w.heap.size w w' := by
 obtain ⟨B, hB⟩ : ∃ B, w.heap.size = B := ⟨_, rfl⟩
 rw [hB]
 have e0 := Bx.new w 34 [v.at_, v.end_, v.took, v.far, v.mixed, v.quarters]
 rw [hB] at e0
 have b0 : Below B w (w.alloc (.cells #[v.at_, v.end_, v.took, v.far, v.mixed, v.quarters] 34)) := by rw [← hB]; exact (Zb).alloc Zr _
 obtain ⟨z, hz⟩ : ∃ z, slackR v least srtt = z := ⟨_, rfl⟩
 rw [hz]
 have HZ := Zh hz; clear hz
 have hmx : ∃ mx, v.mixed = mx := ⟨_, rfl⟩
 go_enter Tryz.func131, Tryz.ntmps131
 go_wp2_with (refine rk_load rfl (.tmp 3) rfl rfl e0 rfl ?_)
 generalize w.alloc (.cells #[v.at_, v.end_, v.took, v.far, v.mixed, v.quarters] 34) = w1 at e0 b0 ⊢
 refine (rakmay_any v _).mono ?_
 rintro e w2 ⟨rfl, hb2⟩
 have e2 := e0.kept hb2; have b2 := b0.trans (hb2.mono (Zl e0.lt))
 clear e0 b0 hb2
 have c4 := e2.cell 4 rfl; have c5 := e2.cell 5 rfl
 clear hmx
 cases hk : rkmay v with
 | false =>
  have hz := HZ.out
  rw [show slackR v least srtt = 0 from if_neg (fun h => by have := h.1; rw [hk] at this; cases this)] at hz
  subst hz
  clear HZ hk
  go_wp2_with (go_at_call 105; refine (rkwin_any _ _ _ _).mono ?_; rintro e wx ⟨rfl, rfl⟩)
  go_ret
  exact ⟨rfl, b2⟩
 | true =>
 cases h1 : brief least with
 | false =>
  have hz := HZ.out
  rw [show slackR v least srtt = 0 from if_neg (fun h => by have := h.2.2.1; rw [h1] at this; cases this)] at hz
  subst hz
  rw [← win40] at h1
  clear HZ hk
  go_wp2_with (go_at_call 105; refine (rkwin_any _ _ _ _).mono ?_; rintro e wx ⟨rfl, rfl⟩)
  go_ret
  exact ⟨rfl, b2⟩
 | true =>
 cases h2 : brief srtt with
 | false =>
  have hz := HZ.out
  rw [show slackR v least srtt = 0 from if_neg (fun h => by have := h.2.2.2; rw [h2] at this; cases this)] at hz
  subst hz
  rw [← win40] at h1 h2
  clear HZ hk
  go_wp2_with (go_at_call 105; refine (rkwin_any _ _ _ _).mono ?_; rintro e wx ⟨rfl, rfl⟩)
  go_ret
  exact ⟨rfl, b2⟩
 | true =>
 cases hx : v.mixed with
 | false =>
  have hz := HZ.out
  rw [show slackR v least srtt = 0 from if_neg (fun h => by have := h.2.1; rw [hx] at this; cases this)] at hz
  subst hz
  rw [← win40] at h1 h2
  rw [hx] at c4
  have HX := Zh hx
  clear HZ hk hx
  go_wp2_with (go_at_call 105; refine (rkwin_any _ _ _ _).mono ?_; rintro e wx ⟨rfl, rfl⟩)
  go_ret
  exact ⟨rfl, b2⟩
 | true =>
  have hz := HZ.out
  rw [show slackR v least srtt = if srtt < slackN v.quarters least then srtt else slackN v.quarters least from if_pos ⟨hk, hx, h1, h2⟩] at hz
  have hv := (rkmay_iff v).1 hk
  have q0 := hv.q0; have q1 := hv.q1
  have l1 := (brief_iff least).1 h1
  rw [← win40] at h1 h2
  rw [hx] at c4
  have hp0 : 0 ≤ (v.quarters + 1) * least := Int.mul_nonneg (by omega) l1.1
  have hp1 : (v.quarters + 1) * least ≤ 21 * 1099511627776 := Int.mul_le_mul (by omega) l1.2 l1.1 (by omega)
  have hsn : slackN v.quarters least = ((v.quarters + 1) * least).tdiv 4 := by unfold slackN; rw [Int.tdiv_eq_ediv_of_nonneg hp0]
  rw [hsn] at hz
  have hw1 : IntKind.i64.wrap (v.quarters + 1) = v.quarters + 1 := IntWalk.i64_in _ (by omega)
  have hw2 : IntKind.i64.wrap ((v.quarters + 1) * least) = (v.quarters + 1) * least := IntWalk.i64_in _ (by omega)
  obtain ⟨T, hT⟩ : ∃ T, ((v.quarters + 1) * least).tdiv 4 = T := ⟨_, rfl⟩
  have hT0 : 0 ≤ T ∧ T ≤ 21 * 1099511627776 := by rw [← hT, Int.tdiv_eq_ediv_of_nonneg hp0]; omega
  have hw3 : IntKind.i64.wrap (((v.quarters + 1) * least).tdiv 4) = T := by rw [hT]; exact IntWalk.i64_in _ (by omega)
  rw [hT] at hz
  have HP := Zh (And.intro hp0 hp1); have HX := Zh hx; have HV := Zh hv; have HT := Zh hT
  clear HZ hk hx hv hp0 hp1 hT hsn
  by_cases hlt : srtt < T
  ·rw [if_pos hlt] at hz
   subst hz
   have dq : decide (T ≤ srtt) = false := Zf (by omega)
   have dq2 : decide (srtt ≤ T) = true := Zt (by omega)
   go_wp2_with (go_at_call 105; refine (rkwin_any _ _ _ _).mono ?_; rintro e wx ⟨rfl, rfl⟩)
   go_ret
   exact ⟨rfl, b2⟩
  ·rw [if_neg hlt] at hz
   subst hz
   have dq : decide (T ≤ srtt) = true := Zt (by omega)
   go_wp2_with (go_at_call 105; refine (rkwin_any _ _ _ _).mono ?_; rintro e wx ⟨rfl, rfl⟩)
   go_ret
   exact ⟨rfl, b2⟩
theorem info_tm : (Tryz.prog.info? 38).map (·.size) = some 2 := by kernel_rfl
theorem tm_struct : ∃ fs, Tryz.prog.underlying 38 = some (.struct fs) := ⟨_, Tryz.underlying38⟩
section
variable {W : World} {B : Nat} {t : TypeId} {cs : List Value}
def tm_put := @g_put
def tm_grown := @g_grown
def tm_gset := @g_gset
def tm_load := @g_load 38 2 tm_struct info_tm
theorem tm_store {ops : Array Oper} {rest : List Oper} {o : Oper} {a : Act} {Q : Exit → Act → World → Prop} (hgd : o.guard = none) (x y : Operand) (ho : o.op = .store 38 x y) (hx : a.eval x = .pointer (some ⟨B, 0, none⟩))
  (vs : List Value) (hy : a.eval y = .agg vs.toArray) (h : Bx W B t cs) (hl : cs.length = 2) (hv : vs.length = 2) (h1 : vs.all (·.oneCell') = true) (k : wpList Tryz.prog ops Q rest (a.put o.dst undef) (W.setRow B vs.toArray)) : wpList Tryz.prog ops Q (o :: rest) a W :=
 wpList_store_row hgd _ x y ho B vs.toArray hx hy t cs.toArray h (by rw [info_tm]; simp [hv]) (by simp [hl, hv]) (by simpa using h1) k
def tm_var := @g_var 38 2 tm_struct info_tm
variable {fn : Func} {tmps : Array Value} {R : Ending → World → Prop} {v u : Value} {ds : List Deferred} {p q r : Tmp}
def tm_end2 := @g_end2 38 2 tm_struct info_tm
end
theorem info_st : (Tryz.prog.info? 57).map (·.size) = some 9 := by kernel_rfl
theorem st_struct : ∃ fs, Tryz.prog.underlying 57 = some (.struct fs) := ⟨_, Tryz.underlying57⟩
section
variable {W : World} {B : Nat} {t : TypeId} {cs : List Value}
def st_yields := @g_yields 57 9 st_struct info_st
variable {fn : Func} {tmps : Array Value} {R : Ending → World → Prop} {v u : Value} {ds : List Deferred} {p q r : Tmp}
end
def TellS (w w' : World) (e : Ending) (x : List Prt × Int) : Prop := ∃ G m d, e = .returned (.tuple #[.slice G m d, x.2]) ∧ Sne w' w.heap.size G m d x.1 ∧ Below w.heap.size w w'
end Go.Proofs.YtbijhkhkigdddaaGreat
