/- Package rack as it landed: later, before as contracts of the calls. -/
import Derived.Test.YtlanplobdgchaaaRkL1
namespace Go.Proofs.Ytlanplobdgchaaa
open Go.RowKit
set_option linter.unusedVariables false
set_option linter.unusedSimpArgs false

theorem sl2 (W : World) (B : Nat) : (Instr.sliceAt 45 (.pointer (some ⟨B, 0, none⟩)) none none none).run Try.prog W = .ok (.slice (some ⟨B, 0, none⟩) 2 2) W := by
  simp [Instr.sliceAt, Instr.sureAddr, Instr.sliceBounds, run_underlying Try.underlying45, Go.sizeOf, typeInfo]
  kernel_rfl
theorem eq2 (a b c d : Int) (W : World) : (Op.equalIn (9998 + 1 + 1) 45 (.agg #[.int .i64 a, .int .i64 b]) (.agg #[.int .i64 c, .int .i64 d])).run Try.prog W = .ok (a == c && b == d) W := by
  have hi : ∀ (x y : Int) (W : World), (Op.equalIn (9998 + 1) 3 (.int .i64 x) (.int .i64 y)).run Try.prog W = .ok (x == y) W := fun x y W => run_equalIn_int W 9998 _ _ .i64 x y Try.underlying3
  rw [Op.equalIn]
  simp only [Sem.run_bind, run_underlying Try.underlying45, Result.andThen_ok]
  have hsz : (Go.sizeOf 3).run Try.prog W = .ok 1 W := by kernel_rfl
  have p0 : ∀ (x y : Int) (W : World), (part 3 #[.int .i64 x, .int .i64 y] 0).run Try.prog W = .ok (.int .i64 x) W := fun _ _ _ => by kernel_rfl
  have p1 : ∀ (x y : Int) (W : World), (part 3 #[.int .i64 x, .int .i64 y] 1).run Try.prog W = .ok (.int .i64 y) W := fun _ _ _ => by kernel_rfl
  rw [hsz]
  simp only [Result.andThen_ok, Std.Legacy.Range.forIn_eq_forIn_range', Std.Legacy.Range.size, List.range'_succ, List.range'_zero, List.forIn_cons, List.forIn_nil, Sem.run_bind, Nat.zero_mul, Nat.zero_add, Nat.one_mul, Nat.mul_one, Nat.sub_zero, Nat.add_sub_cancel, Nat.div_one, p0, p1, hi, Sem.run_ite, Sem.run_pure]
  cases h1 : a == c <;> cases h2 : b == d <;> simp [p1, hi, h1, h2]
theorem ne2 (a b c d : Int) (W : World) : (binOp .neq 45 (.agg #[.int .i64 a, .int .i64 b]) (.agg #[.int .i64 c, .int .i64 d])).run Try.prog W = .ok (.bool (!(a == c && b == d))) W := by
  rw [run_neq_struct]
  rw [show (10000 : Nat) = 9998 + 1 + 1 by rfl, eq2]; rfl
theorem qg2 (op : BinOp) (x y : Operand) (a b c d : Int) (W : World) : (eqGuard op 45 x y (.agg #[.int .i64 a, .int .i64 b]) (.agg #[.int .i64 c, .int .i64 d])).run Try.prog W = .ok () W := run_eqGuard_agg W op 45 x y _ _ (by kernel_rfl)
/-- the later one -/
def latR (a b c d : Int) : Int × Int := if aheadB a b c d = true then (c, d) else (a, b)
theorem lat_yes {a b c d : Int} (h : aheadB a b c d = true) : latR a b c d = (c, d) := if_pos h
theorem lat_no {a b c d : Int} (h : aheadB a b c d = false) : latR a b c d = (a, b) := if_neg (by rw [h]; simp)
set_option maxRecDepth 100000 in
set_option maxHeartbeats 8000000 in
theorem later_any (a b c d : Int) (w : World) :
    Calls Try.prog 33 #[.agg #[.int .i64 a, .int .i64 b], .agg #[.int .i64 c, .int .i64 d]] w fun e w' => e = .returned (.agg #[.int .i64 (latR a b c d).1, .int .i64 (latR a b c d).2]) ∧ Below w.heap.size w w' := by
  obtain ⟨B, hB⟩ : ∃ B, w.heap.size = B := ⟨_, rfl⟩
  have e0 := ((Bx.new w 45 [.int .i64 a, .int .i64 b]).alloc (.cells #[.int .i64 c, .int .i64 d] 45)).alloc (.cells #[.int .i64 0, .int .i64 0] 45)
  have f0 := (Bx.new (w.alloc (.cells #[.int .i64 a, .int .i64 b] 45)) 45 [.int .i64 c, .int .i64 d]).alloc (.cells #[.int .i64 0, .int .i64 0] 45)
  have y0 := Bx.new ((w.alloc (.cells #[.int .i64 a, .int .i64 b] 45)).alloc (.cells #[.int .i64 c, .int .i64 d] 45)) 45 [.int .i64 0, .int .i64 0]
  rw [World.size_alloc] at f0
  rw [World.size_alloc, World.size_alloc] at y0
  rw [hB] at e0 f0 y0 ⊢
  have b0 : Below B w (((w.alloc (.cells #[.int .i64 a, .int .i64 b] 45)).alloc (.cells #[.int .i64 c, .int .i64 d] 45)).alloc (.cells #[.int .i64 0, .int .i64 0] 45)) := by rw [← hB]; exact (((Below.refl _ _).alloc (Nat.le_refl _) _).alloc (by simp) _).alloc (by simp; omega) _
  obtain ⟨z, hz⟩ : ∃ z, latR a b c d = z := ⟨_, rfl⟩
  rw [hz]
  have HZ := Lib.hid hz; clear hz
  obtain ⟨m, hm⟩ : ∃ m, cmp2 a b c d = m := ⟨_, rfl⟩
  have hl := sl2
  go_enter Try.func33, Try.ntmps33
  go_upto_region 1 with fail
  generalize (((w.alloc (.cells #[.int .i64 a, .int .i64 b] 45)).alloc (.cells #[.int .i64 c, .int .i64 d] 45)).alloc (.cells #[.int .i64 0, .int .i64 0] 45)) = w1 at e0 f0 y0 b0 ⊢
  refine wp_region_tail 3 4 (fun (W : World) => Bx W B 45 [.int .i64 a, .int .i64 b] ∧ Bx W (B + 1) 45 [.int .i64 c, .int .i64 d] ∧ Bx W (B + 2) 45 [.int .i64 0, .int .i64 0] ∧ Below B w W) (by kernel_rfl) (by rfl) (by decide) ?_
  have HS : ((fun (W : World) => Bx W B 45 [.int .i64 a, .int .i64 b] ∧ Bx W (B + 1) 45 [.int .i64 c, .int .i64 d] ∧ Bx W (B + 2) 45 [.int .i64 0, .int .i64 0] ∧ Below B w W)) _ := ⟨e0.drew, f0.drew, y0.drew, b0.drew⟩
  refine wpAnyT_take (i := 0) (v := ?vv1) rfl (by kernel_rfl) (fun _ _ _ h => h) (Or.inl ⟨by rfl, fun w hSw => ?yy1⟩) HS ?rr1
  case yy1 =>
    (try dsimp only at hSw); go_simp
    try with_reducible rfl
  try simp only [Act.put, List.setIfInBounds_toArray, List.set_cons_zero, List.set_cons_succ]
  refine wpAnyT_take (i := 1) (v := ?vv2) rfl (by kernel_rfl) (fun _ _ _ h => h) (Or.inl ⟨by rfl, fun w hSw => ?yy2⟩) HS ?rr2
  case yy2 =>
    (try dsimp only at hSw); go_simp
    try with_reducible rfl
  try simp only [Act.put, List.setIfInBounds_toArray, List.set_cons_zero, List.set_cons_succ]
  refine wpAnyT_one (k := 2) rfl (by kernel_rfl) (by decide) (fun K hK => ?_)
  go_simp
  refine (cmps_any B (B + 1) a b c d _ _ _ HS.1 HS.2.1).mono ?_
  rintro e wv ⟨rfl, rfl⟩
  have HS : ((fun (W : World) => Bx W B 45 [.int .i64 a, .int .i64 b] ∧ Bx W (B + 1) 45 [.int .i64 c, .int .i64 d] ∧ Bx W (B + 2) 45 [.int .i64 0, .int .i64 0] ∧ Below B w W)) _ := ⟨HS.1, HS.2.1, HS.2.2.1, HS.2.2.2⟩
  refine hK _ _ HS ?_
  clear hK K
  try simp only [Act.put, List.setIfInBounds_toArray, List.set_cons_zero, List.set_cons_succ]
  refine ⟨by kernel_rfl, ?_⟩
  simp only [List.drop_succ_cons, List.drop_zero]
  rw [hm]
  by_cases hlt : m < 0
  · have hz := HZ.out
    rw [lat_yes (cmp2_neg.1 (hm ▸ hlt))] at hz
    subst hz
    clear HZ hm
    go_wp2_with (first | (refine sd_load rfl (.tmp 3) rfl rfl HS.2.1 rfl ?_) | (refine sd_store rfl (.tmp 4) (.tmp 9) rfl rfl [.int .i64 c, .int .i64 d] rfl HS.2.2.1 rfl rfl rfl ?_))
    refine sd_end1 (by rfl) (by rfl) (sd_put HS.2.2.1 [.int .i64 c, .int .i64 d]) rfl rfl ?_
    exact ⟨rfl, HS.2.2.2.grown (sd_grown _ (B + 2) #[.int .i64 c, .int .i64 d]) (Nat.le_of_lt HS.1.lt) (fun k hk => by cases hk; omega)⟩
  · have hz := HZ.out
    rw [lat_no (Bool.eq_false_iff.2 (fun h => hlt (hm ▸ cmp2_neg.2 h)))] at hz
    subst hz
    clear HZ hm
    go_wp2_with (first | (refine sd_load rfl (.tmp 2) rfl rfl HS.1 rfl ?_) | (refine sd_store rfl (.tmp 4) (.tmp 10) rfl rfl [.int .i64 a, .int .i64 b] rfl HS.2.2.1 rfl rfl rfl ?_))
    refine sd_end1 (by rfl) (by rfl) (sd_put HS.2.2.1 [.int .i64 a, .int .i64 b]) rfl rfl ?_
    exact ⟨rfl, HS.2.2.2.grown (sd_grown _ (B + 2) #[.int .i64 a, .int .i64 b]) (Nat.le_of_lt HS.1.lt) (fun k hk => by cases hk; omega)⟩

set_option maxRecDepth 100000 in
set_option maxHeartbeats 8000000 in
theorem before_any (a b c d : Int) (w : World) :
    Calls Try.prog 24 #[.agg #[.int .i64 a, .int .i64 b], .agg #[.int .i64 c, .int .i64 d]] w fun e w' => e = .returned (.bool (aheadB a b c d)) ∧ Below w.heap.size w w' := by
  obtain ⟨B, hB⟩ : ∃ B, w.heap.size = B := ⟨_, rfl⟩
  have e0 := (Bx.new w 45 [.int .i64 a, .int .i64 b]).alloc (.cells #[.int .i64 c, .int .i64 d] 45)
  have f0 := Bx.new (w.alloc (.cells #[.int .i64 a, .int .i64 b] 45)) 45 [.int .i64 c, .int .i64 d]
  rw [World.size_alloc] at f0
  rw [hB] at e0 f0 ⊢
  have b0 : Below B w ((w.alloc (.cells #[.int .i64 a, .int .i64 b] 45)).alloc (.cells #[.int .i64 c, .int .i64 d] 45)) := by rw [← hB]; exact ((Below.refl _ _).alloc (Nat.le_refl _) _).alloc (by simp) _
  obtain ⟨z, hz⟩ : ∃ z, latR a b c d = z := ⟨_, rfl⟩
  obtain ⟨z1, z2⟩ := z
  have hq : aheadB a b c d = !(z1 == a && z2 == b) := by
    cases h : aheadB a b c d with
    | true =>
      rw [lat_yes h] at hz
      cases hz
      rw [ahead_iff] at h
      cases h1 : c == a <;> cases h2 : d == b <;> simp_all <;> omega
    | false =>
      rw [lat_no h] at hz
      cases hz
      simp
  rw [hq]
  clear hq
  have hn := ne2
  have hg := qg2
  go_enter Try.func24, Try.ntmps24
  go_upto_region 1 with fail
  generalize ((w.alloc (.cells #[.int .i64 a, .int .i64 b] 45)).alloc (.cells #[.int .i64 c, .int .i64 d] 45)) = w1 at e0 f0 b0 ⊢
  refine wp_region_tail 4 6 (fun (W : World) => Bx W B 45 [.int .i64 a, .int .i64 b] ∧ Bx W (B + 1) 45 [.int .i64 c, .int .i64 d] ∧ W.cell? ⟨B, 0, none⟩ = some (.int .i64 a) ∧ W.cell? ⟨B, 1, none⟩ = some (.int .i64 b) ∧ W.cell? ⟨B + 1, 0, none⟩ = some (.int .i64 c) ∧ W.cell? ⟨B + 1, 1, none⟩ = some (.int .i64 d) ∧ Below B w W) (by kernel_rfl) (by rfl) (by decide) ?_
  have HS : ((fun (W : World) => Bx W B 45 [.int .i64 a, .int .i64 b] ∧ Bx W (B + 1) 45 [.int .i64 c, .int .i64 d] ∧ W.cell? ⟨B, 0, none⟩ = some (.int .i64 a) ∧ W.cell? ⟨B, 1, none⟩ = some (.int .i64 b) ∧ W.cell? ⟨B + 1, 0, none⟩ = some (.int .i64 c) ∧ W.cell? ⟨B + 1, 1, none⟩ = some (.int .i64 d) ∧ Below B w W)) _ := ⟨e0.drew, f0.drew, e0.drew.cell 0 rfl, e0.drew.cell 1 rfl, f0.drew.cell 0 rfl, f0.drew.cell 1 rfl, b0.drew⟩
  refine wpAnyT_take (i := 0) (v := ?vv3) rfl (by kernel_rfl) (fun _ _ _ h => h) (Or.inl ⟨by rfl, fun w hSw => ?yy3⟩) HS ?rr3
  case yy3 =>
    (try dsimp only at hSw); go_simp
    try with_reducible rfl
  try simp only [Act.put, List.setIfInBounds_toArray, List.set_cons_zero, List.set_cons_succ]
  refine wpAnyT_take (i := 1) (v := ?vv4) rfl (by kernel_rfl) (fun _ _ _ h => h) (Or.inl ⟨by rfl, fun w hSw => ?yy4⟩) HS ?rr4
  case yy4 =>
    (try dsimp only at hSw); go_simp
    try with_reducible rfl
  try simp only [Act.put, List.setIfInBounds_toArray, List.set_cons_zero, List.set_cons_succ]
  refine wpAnyT_take (i := 3) (v := ?vv5) rfl (by kernel_rfl) (fun _ _ _ h => h) (Or.inl ⟨by rfl, fun w hSw => ?yy5⟩) HS ?rr5
  case yy5 =>
    (try dsimp only at hSw); go_simp
    try with_reducible rfl
  try simp only [Act.put, List.setIfInBounds_toArray, List.set_cons_zero, List.set_cons_succ]
  refine wpAnyT_one (k := 2) rfl (by kernel_rfl) (by decide) (fun K hK => ?_)
  go_simp
  refine (later_any a b c d _).mono ?_
  rintro e wv ⟨rfl, hb1⟩
  rw [hz]
  have HS : ((fun (W : World) => Bx W B 45 [.int .i64 a, .int .i64 b] ∧ Bx W (B + 1) 45 [.int .i64 c, .int .i64 d] ∧ W.cell? ⟨B, 0, none⟩ = some (.int .i64 a) ∧ W.cell? ⟨B, 1, none⟩ = some (.int .i64 b) ∧ W.cell? ⟨B + 1, 0, none⟩ = some (.int .i64 c) ∧ W.cell? ⟨B + 1, 1, none⟩ = some (.int .i64 d) ∧ Below B w W)) _ := ⟨HS.1.kept hb1, HS.2.1.kept hb1, (HS.1.kept hb1).cell 0 rfl, (HS.1.kept hb1).cell 1 rfl, (HS.2.1.kept hb1).cell 0 rfl, (HS.2.1.kept hb1).cell 1 rfl, HS.2.2.2.2.2.2.trans (hb1.mono (Nat.le_of_lt HS.1.lt))⟩
  refine hK _ _ HS ?_
  clear hK K
  try simp only [Act.put, List.setIfInBounds_toArray, List.set_cons_zero, List.set_cons_succ]
  refine ⟨by kernel_rfl, ?_⟩
  simp only [List.drop_succ_cons, List.drop_zero]
  go_wp2
  go_ret
  exact ⟨rfl, HS.2.2.2.2.2.2⟩

end Go.Proofs.Ytlanplobdgchaaa
