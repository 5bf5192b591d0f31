/- Package sent as it landed: put, parted as contracts of the calls. -/
import Derived.Test.YtnbamacdcggaeaaStL5
import Derived.Test.YtnbamacdcggaeaaStRef7
namespace Go.Proofs.Ytnbamacdcggaeaa
open Go.RowKit
set_option linter.unusedVariables false
set_option linter.unusedSimpArgs false

/-- append of a slice that is not nil, in a region that draws: the row's block too -/
theorem step_appe3 {α : Type} [El α] {P : Program} (w : World) {ad : Addr} {m c : Nat} {l : List α} {ops : Array Oper} {o : Oper} {a : Act} {K : Act → World → Prop} {Q : Exit → Act → World → Prop} {E : Prop} (hgd : o.guard = .none) (s x : Operand) (t : TypeId)
    (ho : o.op = .call { callee := .builtin .append, args := #[s, x], argTypes := #[t, t] })
    (base : Nat) (e : TypeId) (ht : P.underlying t = some (.slice e)) (z : Value) (bytes : Nat) (hinfo : (P.info? e).map (fun i => (i.zero, i.size, i.bytes)) = some (some z, El.k α, bytes)) (hzs : z.cells.size = El.k α)
    (v : Value) (n : Nat) (xs : List α) (hs : a.eval s = v) (hx : a.eval x = .slice (some ad) m c) (hown : Goe w base e v n xs) (hr : Re w (some ad) m l) (hmax : n + m ≤ maxLen) (hsum : (n + m) * bytes ≤ 140737488355328) (hbase : base ≤ w.heap.size)
    (h : ∀ v' w', Goe w' base e v' (n + m) (xs ++ l) → w.grownBy w' v.ownBlock → (v'.ownBlock = v.ownBlock ∨ v'.ownBlock = some w.heap.size) → K (a.put o.dst v') w') :
    if Region.wanted o (yielded ops a.tmps) = true then Oper.wp P o a w K Q else E := by
  have hw : Region.wanted o (yielded ops a.tmps) = true := by simp [Region.wanted, hgd]
  rw [if_pos hw]
  obtain ⟨i0, hi, hz0, hz1, hz2⟩ := info_parts hinfo
  have hnews : ∀ j u, (evals l)[j]? = some u → w.cell? (ad.add j) = some u := by
    rcases Nat.eq_zero_or_pos m with h0 | h0
    · subst h0
      have hl0 : l = [] := List.eq_nil_of_length_eq_zero hr.len
      subst hl0
      intro j u hj; simp [evals] at hj
    · obtain ⟨b, o', e', _, hc⟩ := hr.at_ h0
      cases e'
      exact news_of_re hr.len hc
  obtain ⟨v', w', hrun, h2, h3, h4, h5⟩ := run_append_own_at (P := P) w base t o.type e i0 z (El.k α) bytes ht hi hz0 hz1 hz2 hzs (El.pos (α := α)) v n _ hown.row ad m c (evals l) (by rw [evals_length, hr.len]) hnews (evals_cell l) hmax hsum hbase
  exact Lib.wp_append_run w s x t t ho v (.slice (some ad) m c) hs hx v' w' hrun (h v' w' ⟨by rw [evals_app]; exact h2, hown.ok.app hr.ok⟩ h3 h5)
theorem Goe.size {w : World} {base e : Nat} {v : Value} {n : Nat} {l : List Prt} (h : Goe w base e v n l) {B : Nat} (hB : B < base) : NotIn B v := fun k hk => by have := (h.row.lt k hk).1; omega

set_option maxRecDepth 100000 in
set_option maxHeartbeats 8000000 in
theorem stput_yes (B base : Nat) (hbase : B < base) (x : Prt) (hx : PrtW x) (vy vn : Value) (ny nn : Nat) (ly ln : List Prt) (w : World) (hB : Bx w B 53 [vy, vn]) (hy : Goe w base 24 vy ny ly) (hn : Goe w base 24 vn nn ln) (hap : Apart vy vn) (hbw : base ≤ w.heap.size) (hs1 : ny ≤ 1000) (hs2 : nn ≤ 1000) :
    Calls Try.prog 46 #[.pointer (some ⟨B, 0, none⟩), .agg #[.int .i64 x.seq, .int .i64 x.len, .int .i64 x.dsn, .int .i64 x.at_, .int .i64 x.tries, .bool x.came, .bool x.lost, .int .i64 x.total, .int .i64 x.last], .bool true] w fun e w' => e = .returned (.tuple #[]) ∧ ∃ v', Bx w' B 53 [v', vn] ∧ Goe w' base 24 v' (ny + 1) (ly ++ [x]) ∧ Goe w' base 24 vn nn ln ∧ Apart v' vn ∧ Below B w w' := by
  obtain ⟨P, hP⟩ : ∃ P, w.heap.size = P := ⟨_, rfl⟩
  have e0 : Bx (w.alloc (.cells #[.int .i64 x.seq, .int .i64 x.len, .int .i64 x.dsn, .int .i64 x.at_, .int .i64 x.tries, .bool x.came, .bool x.lost, .int .i64 x.total, .int .i64 x.last] 24)) P 24 (El.cells x) := hP ▸ Bx.new w 24 [.int .i64 x.seq, .int .i64 x.len, .int .i64 x.dsn, .int .i64 x.at_, .int .i64 x.tries, .bool x.came, .bool x.lost, .int .i64 x.total, .int .i64 x.last]
  have b0 : Below B w (w.alloc (.cells #[.int .i64 x.seq, .int .i64 x.len, .int .i64 x.dsn, .int .i64 x.at_, .int .i64 x.tries, .bool x.came, .bool x.lost, .int .i64 x.total, .int .i64 x.last] 24)) := (Below.refl _ _).alloc (by omega) _
  have hB0 := hB.alloc (.cells #[.int .i64 x.seq, .int .i64 x.len, .int .i64 x.dsn, .int .i64 x.at_, .int .i64 x.tries, .bool x.came, .bool x.lost, .int .i64 x.total, .int .i64 x.last] 24)
  have HM := Lib.hid (hy.alloc (.cells #[.int .i64 x.seq, .int .i64 x.len, .int .i64 x.dsn, .int .i64 x.at_, .int .i64 x.tries, .bool x.came, .bool x.lost, .int .i64 x.total, .int .i64 x.last] 24))
  have HO := Lib.hid (hn.alloc (.cells #[.int .i64 x.seq, .int .i64 x.len, .int .i64 x.dsn, .int .i64 x.at_, .int .i64 x.tries, .bool x.came, .bool x.lost, .int .i64 x.total, .int .i64 x.last] 24))
  have HAP := Lib.hid hap
  have HX := Lib.hid hx
  have hBP : B < P := by omega
  have hNP : NotIn P vy := fun k hk => by have := (hy.row.lt k hk).2; omega
  have HNP := Lib.hid hNP
  clear hB hy hn hap hx hNP
  go_enter Try.func46, Try.ntmps46
  go_upto_region 2 with fail
  change Code.wp _ _ _ _ (w.alloc (.cells #[.int .i64 x.seq, .int .i64 x.len, .int .i64 x.dsn, .int .i64 x.at_, .int .i64 x.tries, .bool x.came, .bool x.lost, .int .i64 x.total, .int .i64 x.last] 24))
  try rw [hP]
  have hbw1 : base ≤ (w.alloc (.cells #[.int .i64 x.seq, .int .i64 x.len, .int .i64 x.dsn, .int .i64 x.at_, .int .i64 x.tries, .bool x.came, .bool x.lost, .int .i64 x.total, .int .i64 x.last] 24)).heap.size := by simp; omega
  generalize w.alloc (.cells #[.int .i64 x.seq, .int .i64 x.len, .int .i64 x.dsn, .int .i64 x.at_, .int .i64 x.tries, .bool x.came, .bool x.lost, .int .i64 x.total, .int .i64 x.last] 24) = w1 at e0 b0 hB0 HM HO hbw1 ⊢
  obtain ⟨w2, hw2⟩ : ∃ w2, w1.drew = w2 := ⟨_, rfl⟩
  have e2 : Bx w2 P 24 (El.cells x) := by rw [← hw2]; exact e0.drew
  have b2 : Below B w w2 := by rw [← hw2]; exact b0.drew
  have hB2 : Bx w2 B 53 [vy, vn] := by rw [← hw2]; exact hB0.drew
  have HM2 : Hid (Goe w2 base 24 vy ny ly) := Lib.hid (by rw [← hw2]; exact HM.out.drew)
  have HO2 : Hid (Goe w2 base 24 vn nn ln) := Lib.hid (by rw [← hw2]; exact HO.out.drew)
  have hbw2 : base ≤ w2.heap.size := by rw [← hw2]; exact hbw1
  clear e0 b0 hB0 HM HO hbw1
  refine wp_region_tail 8 11 (fun (W : World) => Bx W P 24 (El.cells x) ∧ W.cell? ⟨B, 0, none⟩ = some vy ∧ Below B w W) (by kernel_rfl) (by rfl) (by decide) ?_
  rw [hw2]
  have HS : ((fun (W : World) => Bx W P 24 (El.cells x) ∧ W.cell? ⟨B, 0, none⟩ = some vy ∧ Below B w W)) w2 := ⟨e2, hB2.cell 0 rfl, b2⟩
  clear hw2
  refine wpAnyT_take (i := 0) (v := ?vv1) rfl (by kernel_rfl) (fun _ _ _ h => h) (Or.inl ⟨by rfl, fun w hSw => ?yy1⟩) HS ?rr1
  case yy1 =>
    (try dsimp only at hSw); go_simp
    try with_reducible rfl
  try simp only [Act.put, List.setIfInBounds_toArray, List.set_cons_zero, List.set_cons_succ]
  refine wpAnyT_take (i := 1) (v := ?vv2) rfl (by kernel_rfl) (fun _ _ _ h => h) (Or.inl ⟨by rfl, fun w hSw => ?yy2⟩) HS ?rr2
  case yy2 =>
    (try dsimp only at hSw); go_simp
    try with_reducible rfl
  try simp only [Act.put, List.setIfInBounds_toArray, List.set_cons_zero, List.set_cons_succ]
  refine wpAnyT_take (i := 2) (v := ?vv3) rfl (by kernel_rfl) (fun _ _ _ h => h) (Or.inl ⟨by rfl, fun w hSw => ?yy3⟩) HS ?rr3
  case yy3 =>
    (try dsimp only at hSw); go_simp
    try with_reducible rfl
  try simp only [Act.put, List.setIfInBounds_toArray, List.set_cons_zero, List.set_cons_succ]
  refine wpAnyT_take (i := 3) (v := ?vv4) rfl (by kernel_rfl) (fun _ _ _ h => h) (Or.inl ⟨by rfl, fun w hSw => ?yy4⟩) HS ?rr4
  case yy4 =>
    (try dsimp only at hSw); go_simp
    try with_reducible rfl
  try simp only [Act.put, List.setIfInBounds_toArray, List.set_cons_zero, List.set_cons_succ]
  refine wpAnyT_take (i := 4) (v := ?vv5) rfl (by kernel_rfl) (fun _ _ _ h => h) (Or.inl ⟨by rfl, fun w hSw => ?yy5⟩) HS ?rr5
  case yy5 =>
    (try dsimp only at hSw); go_simp
    try with_reducible rfl
  try simp only [Act.put, List.setIfInBounds_toArray, List.set_cons_zero, List.set_cons_succ]
  refine wpAnyT_take (i := 5) (v := .agg #[.int .i64 x.seq, .int .i64 x.len, .int .i64 x.dsn, .int .i64 x.at_, .int .i64 x.tries, .bool x.came, .bool x.lost, .int .i64 x.total, .int .i64 x.last]) rfl (by kernel_rfl) (fun _ _ _ h => h) (st_yields (by rfl) (.tmp 4) rfl rfl (El.cells x) rfl 24 (fun W hW => hW.1)) HS ?_
  try simp only [Act.put, List.setIfInBounds_toArray, List.set_cons_zero, List.set_cons_succ]
  refine wpAnyT_one (k := 6) rfl (by kernel_rfl) (by decide) (fun K hK => ?_)
  go_simp
  have hb3 : Below w2.heap.size w2 (w2.alloc (.cells (El.cells x).toArray 24)) := (Below.refl _ _).alloc (Nat.le_refl _) _
  have hB3 := hB2.alloc (.cells (El.cells x).toArray 24)
  have HS : ((fun (W : World) => Bx W P 24 (El.cells x) ∧ W.cell? ⟨B, 0, none⟩ = some vy ∧ Below B w W)) (w2.alloc (.cells (El.cells x).toArray 24)) := ⟨e2.alloc _, hB3.cell 0 rfl, b2.alloc (by omega) _⟩
  have hlit := se_one w2 (x := x) HX.out 24
  have HM3 := Lib.hid (HM2.out.alloc (.cells (El.cells x).toArray 24))
  have HO3 := Lib.hid (HO2.out.alloc (.cells (El.cells x).toArray 24))
  have e3 := e2.alloc (.cells (El.cells x).toArray 24)
  have hbw3 : base ≤ (w2.alloc (.cells (El.cells x).toArray 24)).heap.size := by simp; omega
  have b3 : Below B w (w2.alloc (.cells (El.cells x).toArray 24)) := b2.alloc (by omega) _
  refine hK _ _ HS ?_
  clear hK K HS HM2 HO2 hb3 e2 b2 hB2
  try simp only [Act.put, List.setIfInBounds_toArray, List.set_cons_zero, List.set_cons_succ]
  generalize w2.alloc (.cells (El.cells x).toArray 24) = w3 at hlit HM3 HO3 e3 hB3 hbw3 b3 ⊢
  generalize w2.heap.size = L at hlit hbw2 ⊢
  refine wpAnyT_one (k := 7) rfl (by kernel_rfl) (by decide) (fun K hK => ?_)
  refine step_appe3 w3 (by rfl) (.tmp 11) (.tmp 13) 22 (by rfl) base 24 Try.underlying22 (.agg #[.int .i64 0, .int .i64 0, .int .i64 0, .int .i64 0, .int .i64 0, .bool false, .bool false, .int .i64 0, .int .i64 0]) 64 info_prt (by decide) vy ny ly (by rfl) (by rfl) HM3.out hlit.rd (by unfold maxLen; omega) (by omega) hbw3 ?_
  intro v4 w4 hg4 hgr4 hv4
  obtain ⟨R4, d4, ev4, _⟩ := hg4.se
  subst ev4
  have hB4 := hB3.grown hgr4 (fun h => (HM3.out.size hbase) _ h.symm rfl)
  have e4 := e3.grown hgr4 (fun h => HNP.out _ h.symm rfl)
  have b4 : Below B w w4 := b3.grown hgr4 (by omega) (fun k hk => by have := (HM3.out.row.lt k hk).1; omega)
  have HO4 := Lib.hid (HO3.out.other (HAP.out.symm) hgr4)
  have hap4 := (HAP.out.symm).step HO3.out hv4
  have HAP4 := Lib.hid hap4
  have HM4 := Lib.hid hg4
  have HS : ((fun (W : World) => Bx W P 24 (El.cells x) ∧ W.cell? ⟨B, 0, none⟩ = some vy ∧ Below B w W)) w4 := ⟨e4, hB4.cell 0 rfl, b4⟩
  refine hK _ _ HS ?_
  clear hK K HS HM3 HO3 HAP hB3 e3 b3 hlit hg4 hgr4 hv4 hap4
  try simp only [Act.put, List.setIfInBounds_toArray, List.set_cons_zero, List.set_cons_succ]
  refine ⟨by kernel_rfl, ?_⟩
  simp only [List.drop_succ_cons, List.drop_zero]
  have c0 := hB4.cell 0 rfl; have f0 := hB4.free 0
  go_wp2_with fail
  go_end0
  refine ⟨rfl, _, hB4.set 0 _, HM4.out.setBox (HM4.out.size hbase) 0 _, HO4.out.setBox (HO4.out.size hbase) 0 _, HAP4.out.symm, b4.setCell (p := ⟨B, 0, none⟩) (Nat.le_refl _) _⟩

set_option maxRecDepth 100000 in
set_option maxHeartbeats 8000000 in
theorem stput_no (B base : Nat) (hbase : B < base) (x : Prt) (hx : PrtW x) (vy vn : Value) (ny nn : Nat) (ly ln : List Prt) (w : World) (hB : Bx w B 53 [vy, vn]) (hy : Goe w base 24 vy ny ly) (hn : Goe w base 24 vn nn ln) (hap : Apart vy vn) (hbw : base ≤ w.heap.size) (hs1 : ny ≤ 1000) (hs2 : nn ≤ 1000) :
    Calls Try.prog 46 #[.pointer (some ⟨B, 0, none⟩), .agg #[.int .i64 x.seq, .int .i64 x.len, .int .i64 x.dsn, .int .i64 x.at_, .int .i64 x.tries, .bool x.came, .bool x.lost, .int .i64 x.total, .int .i64 x.last], .bool false] w fun e w' => e = .returned (.tuple #[]) ∧ ∃ v', Bx w' B 53 [vy, v'] ∧ Goe w' base 24 v' (nn + 1) (ln ++ [x]) ∧ Goe w' base 24 vy ny ly ∧ Apart vy v' ∧ Below B w w' := by
  obtain ⟨P, hP⟩ : ∃ P, w.heap.size = P := ⟨_, rfl⟩
  have e0 : Bx (w.alloc (.cells #[.int .i64 x.seq, .int .i64 x.len, .int .i64 x.dsn, .int .i64 x.at_, .int .i64 x.tries, .bool x.came, .bool x.lost, .int .i64 x.total, .int .i64 x.last] 24)) P 24 (El.cells x) := hP ▸ Bx.new w 24 [.int .i64 x.seq, .int .i64 x.len, .int .i64 x.dsn, .int .i64 x.at_, .int .i64 x.tries, .bool x.came, .bool x.lost, .int .i64 x.total, .int .i64 x.last]
  have b0 : Below B w (w.alloc (.cells #[.int .i64 x.seq, .int .i64 x.len, .int .i64 x.dsn, .int .i64 x.at_, .int .i64 x.tries, .bool x.came, .bool x.lost, .int .i64 x.total, .int .i64 x.last] 24)) := (Below.refl _ _).alloc (by omega) _
  have hB0 := hB.alloc (.cells #[.int .i64 x.seq, .int .i64 x.len, .int .i64 x.dsn, .int .i64 x.at_, .int .i64 x.tries, .bool x.came, .bool x.lost, .int .i64 x.total, .int .i64 x.last] 24)
  have HM := Lib.hid (hn.alloc (.cells #[.int .i64 x.seq, .int .i64 x.len, .int .i64 x.dsn, .int .i64 x.at_, .int .i64 x.tries, .bool x.came, .bool x.lost, .int .i64 x.total, .int .i64 x.last] 24))
  have HO := Lib.hid (hy.alloc (.cells #[.int .i64 x.seq, .int .i64 x.len, .int .i64 x.dsn, .int .i64 x.at_, .int .i64 x.tries, .bool x.came, .bool x.lost, .int .i64 x.total, .int .i64 x.last] 24))
  have HAP := Lib.hid hap
  have HX := Lib.hid hx
  have hBP : B < P := by omega
  have hNP : NotIn P vn := fun k hk => by have := (hn.row.lt k hk).2; omega
  have HNP := Lib.hid hNP
  clear hB hy hn hap hx hNP
  go_enter Try.func46, Try.ntmps46
  go_upto_region 3 with fail
  change Code.wp _ _ _ _ (w.alloc (.cells #[.int .i64 x.seq, .int .i64 x.len, .int .i64 x.dsn, .int .i64 x.at_, .int .i64 x.tries, .bool x.came, .bool x.lost, .int .i64 x.total, .int .i64 x.last] 24))
  try rw [hP]
  have hbw1 : base ≤ (w.alloc (.cells #[.int .i64 x.seq, .int .i64 x.len, .int .i64 x.dsn, .int .i64 x.at_, .int .i64 x.tries, .bool x.came, .bool x.lost, .int .i64 x.total, .int .i64 x.last] 24)).heap.size := by simp; omega
  generalize w.alloc (.cells #[.int .i64 x.seq, .int .i64 x.len, .int .i64 x.dsn, .int .i64 x.at_, .int .i64 x.tries, .bool x.came, .bool x.lost, .int .i64 x.total, .int .i64 x.last] 24) = w1 at e0 b0 hB0 HM HO hbw1 ⊢
  obtain ⟨w2, hw2⟩ : ∃ w2, w1.drew = w2 := ⟨_, rfl⟩
  have e2 : Bx w2 P 24 (El.cells x) := by rw [← hw2]; exact e0.drew
  have b2 : Below B w w2 := by rw [← hw2]; exact b0.drew
  have hB2 : Bx w2 B 53 [vy, vn] := by rw [← hw2]; exact hB0.drew
  have HM2 : Hid (Goe w2 base 24 vn nn ln) := Lib.hid (by rw [← hw2]; exact HM.out.drew)
  have HO2 : Hid (Goe w2 base 24 vy ny ly) := Lib.hid (by rw [← hw2]; exact HO.out.drew)
  have hbw2 : base ≤ w2.heap.size := by rw [← hw2]; exact hbw1
  clear e0 b0 hB0 HM HO hbw1
  refine wp_region_tail 8 11 (fun (W : World) => Bx W P 24 (El.cells x) ∧ W.cell? ⟨B, 1, none⟩ = some vn ∧ Below B w W) (by kernel_rfl) (by rfl) (by decide) ?_
  rw [hw2]
  have HS : ((fun (W : World) => Bx W P 24 (El.cells x) ∧ W.cell? ⟨B, 1, none⟩ = some vn ∧ Below B w W)) w2 := ⟨e2, hB2.cell 1 rfl, b2⟩
  clear hw2
  refine wpAnyT_take (i := 0) (v := ?vv6) rfl (by kernel_rfl) (fun _ _ _ h => h) (Or.inl ⟨by rfl, fun w hSw => ?yy6⟩) HS ?rr6
  case yy6 =>
    (try dsimp only at hSw); go_simp
    try with_reducible rfl
  try simp only [Act.put, List.setIfInBounds_toArray, List.set_cons_zero, List.set_cons_succ]
  refine wpAnyT_take (i := 1) (v := ?vv7) rfl (by kernel_rfl) (fun _ _ _ h => h) (Or.inl ⟨by rfl, fun w hSw => ?yy7⟩) HS ?rr7
  case yy7 =>
    (try dsimp only at hSw); go_simp
    try with_reducible rfl
  try simp only [Act.put, List.setIfInBounds_toArray, List.set_cons_zero, List.set_cons_succ]
  refine wpAnyT_take (i := 2) (v := ?vv8) rfl (by kernel_rfl) (fun _ _ _ h => h) (Or.inl ⟨by rfl, fun w hSw => ?yy8⟩) HS ?rr8
  case yy8 =>
    (try dsimp only at hSw); go_simp
    try with_reducible rfl
  try simp only [Act.put, List.setIfInBounds_toArray, List.set_cons_zero, List.set_cons_succ]
  refine wpAnyT_take (i := 3) (v := ?vv9) rfl (by kernel_rfl) (fun _ _ _ h => h) (Or.inl ⟨by rfl, fun w hSw => ?yy9⟩) HS ?rr9
  case yy9 =>
    (try dsimp only at hSw); go_simp
    try with_reducible rfl
  try simp only [Act.put, List.setIfInBounds_toArray, List.set_cons_zero, List.set_cons_succ]
  refine wpAnyT_take (i := 4) (v := ?vv10) rfl (by kernel_rfl) (fun _ _ _ h => h) (Or.inl ⟨by rfl, fun w hSw => ?yy10⟩) HS ?rr10
  case yy10 =>
    (try dsimp only at hSw); go_simp
    try with_reducible rfl
  try simp only [Act.put, List.setIfInBounds_toArray, List.set_cons_zero, List.set_cons_succ]
  refine wpAnyT_take (i := 5) (v := .agg #[.int .i64 x.seq, .int .i64 x.len, .int .i64 x.dsn, .int .i64 x.at_, .int .i64 x.tries, .bool x.came, .bool x.lost, .int .i64 x.total, .int .i64 x.last]) rfl (by kernel_rfl) (fun _ _ _ h => h) (st_yields (by rfl) (.tmp 4) rfl rfl (El.cells x) rfl 24 (fun W hW => hW.1)) HS ?_
  try simp only [Act.put, List.setIfInBounds_toArray, List.set_cons_zero, List.set_cons_succ]
  refine wpAnyT_one (k := 6) rfl (by kernel_rfl) (by decide) (fun K hK => ?_)
  go_simp
  have hb3 : Below w2.heap.size w2 (w2.alloc (.cells (El.cells x).toArray 24)) := (Below.refl _ _).alloc (Nat.le_refl _) _
  have hB3 := hB2.alloc (.cells (El.cells x).toArray 24)
  have HS : ((fun (W : World) => Bx W P 24 (El.cells x) ∧ W.cell? ⟨B, 1, none⟩ = some vn ∧ Below B w W)) (w2.alloc (.cells (El.cells x).toArray 24)) := ⟨e2.alloc _, hB3.cell 1 rfl, b2.alloc (by omega) _⟩
  have hlit := se_one w2 (x := x) HX.out 24
  have HM3 := Lib.hid (HM2.out.alloc (.cells (El.cells x).toArray 24))
  have HO3 := Lib.hid (HO2.out.alloc (.cells (El.cells x).toArray 24))
  have e3 := e2.alloc (.cells (El.cells x).toArray 24)
  have hbw3 : base ≤ (w2.alloc (.cells (El.cells x).toArray 24)).heap.size := by simp; omega
  have b3 : Below B w (w2.alloc (.cells (El.cells x).toArray 24)) := b2.alloc (by omega) _
  refine hK _ _ HS ?_
  clear hK K HS HM2 HO2 hb3 e2 b2 hB2
  try simp only [Act.put, List.setIfInBounds_toArray, List.set_cons_zero, List.set_cons_succ]
  generalize w2.alloc (.cells (El.cells x).toArray 24) = w3 at hlit HM3 HO3 e3 hB3 hbw3 b3 ⊢
  generalize w2.heap.size = L at hlit hbw2 ⊢
  refine wpAnyT_one (k := 7) rfl (by kernel_rfl) (by decide) (fun K hK => ?_)
  refine step_appe3 w3 (by rfl) (.tmp 21) (.tmp 23) 22 (by rfl) base 24 Try.underlying22 (.agg #[.int .i64 0, .int .i64 0, .int .i64 0, .int .i64 0, .int .i64 0, .bool false, .bool false, .int .i64 0, .int .i64 0]) 64 info_prt (by decide) vn nn ln (by rfl) (by rfl) HM3.out hlit.rd (by unfold maxLen; omega) (by omega) hbw3 ?_
  intro v4 w4 hg4 hgr4 hv4
  obtain ⟨R4, d4, ev4, _⟩ := hg4.se
  subst ev4
  have hB4 := hB3.grown hgr4 (fun h => (HM3.out.size hbase) _ h.symm rfl)
  have e4 := e3.grown hgr4 (fun h => HNP.out _ h.symm rfl)
  have b4 : Below B w w4 := b3.grown hgr4 (by omega) (fun k hk => by have := (HM3.out.row.lt k hk).1; omega)
  have HO4 := Lib.hid (HO3.out.other (HAP.out) hgr4)
  have hap4 := (HAP.out).step HO3.out hv4
  have HAP4 := Lib.hid hap4
  have HM4 := Lib.hid hg4
  have HS : ((fun (W : World) => Bx W P 24 (El.cells x) ∧ W.cell? ⟨B, 1, none⟩ = some vn ∧ Below B w W)) w4 := ⟨e4, hB4.cell 1 rfl, b4⟩
  refine hK _ _ HS ?_
  clear hK K HS HM3 HO3 HAP hB3 e3 b3 hlit hg4 hgr4 hv4 hap4
  try simp only [Act.put, List.setIfInBounds_toArray, List.set_cons_zero, List.set_cons_succ]
  refine ⟨by kernel_rfl, ?_⟩
  simp only [List.drop_succ_cons, List.drop_zero]
  have c0 := hB4.cell 1 rfl; have f0 := hB4.free 1
  go_wp2_with fail
  go_end0
  refine ⟨rfl, _, hB4.set 1 _, HM4.out.setBox (HM4.out.size hbase) 1 _, HO4.out.setBox (HO4.out.size hbase) 1 _, HAP4.out, b4.setCell (p := ⟨B, 1, none⟩) (Nat.le_refl _) _⟩

end Go.Proofs.Ytnbamacdcggaeaa
