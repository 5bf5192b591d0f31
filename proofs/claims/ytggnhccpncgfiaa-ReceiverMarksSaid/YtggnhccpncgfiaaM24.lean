/- The texts RcRefS. -/
import Derived.Below
import Derived.BigQuiet
import Derived.Deep.AppendLies
import Derived.Deep.DeepCutAuto
import Derived.Deep.QuietTactic
import Derived.IntWalk
import Derived.Laws.Rows
import Derived.Laws.Tables
import Derived.Lib.Hide
import Derived.OrdersHeld
import Derived.Outline
import Derived.Test.YtggnhccpncgfiaaProg
import Derived.WalkKit
import Derived.WalkSmall
import Derived.WalkSpells
import Derived.Test.YtggnhccpncgfiaaM02
import Derived.Test.YtggnhccpncgfiaaM03
set_option linter.all false
namespace Go.Proofs.Ytggnhccpncgfiaa
open Go.RowKit
set_option maxRecDepth 100000 in
set_option maxHeartbeats 32000000 in
theorem rrsame_yes (p q : Nat → Prop) (s s' : Rcs) (r : Rc) (w : World) (h : RcM w p s r) (h' : RcM w q s' r) :
    Calls Try.prog 13 #[.agg (rcs s r).toArray, .agg (rcs s' r).toArray] w fun e w' => e = .returned (.bool true) ∧ Below w.heap.size w w' := by
  obtain ⟨B, hB⟩ : ∃ B, w.heap.size = B := ⟨_, rfl⟩
  have e0 := (Bx.new w 32 (rcs s r)).alloc (.cells (rcs s' r).toArray 32)
  have y0 := Bx.new (w.alloc (.cells (rcs s r).toArray 32)) 32 (rcs s' r)
  rw [World.size_alloc] at y0
  rw [hB] at e0 y0 ⊢
  have b0 : Below B w ((w.alloc (.cells (rcs s r).toArray 32)).alloc (.cells (rcs s' r).toArray 32)) := by rw [← hB]; exact ((Below.refl _ _).alloc (Nat.le_refl _) _).alloc (by simp) _
  have f0 := (h.alloc (.cells (rcs s r).toArray 32)).alloc (.cells (rcs s' r).toArray 32)
  have g0 := (h'.alloc (.cells (rcs s r).toArray 32)).alloc (.cells (rcs s' r).toArray 32)
  clear h h'
  go_enter Try.func13, Try.ntmps13
  go_upto_region 1 with fail
  generalize (w.alloc (.cells (rcs s r).toArray 32)).alloc (.cells (rcs s' r).toArray 32) = w0 at e0 y0 b0 f0 g0 ⊢
  clear hB
  have z0 : B ≤ w0.heap.size := Nat.le_of_lt e0.lt
  go_wp2_with fail
  go_loopw [5] (fun i wr => ∃ k : Nat, k ≤ 4 ∧ i = .int .i64 (k : Int) ∧ Bx wr B 32 (rcs s r) ∧ Bx wr (B + 1) 32 (rcs s' r) ∧ RcM wr p s r ∧ RcM wr q s' r ∧ Below B w wr ∧ B ≤ wr.heap.size) (fun i _ => 4 - (intOf i).toNat)
  case atStart => exact ⟨0, Nat.zero_le _, rfl, e0, y0, f0, g0, b0, z0⟩
  case round =>
    obtain ⟨k, hk, rfl, e1, y1, f1, g1, b1, z1⟩ := hrel
    clear e0 y0 f0 g0 b0 z0
    have hc : k = 0 ∨ k = 1 ∨ k = 2 ∨ k = 3 ∨ k = 4 := by omega
    rcases hc with rfl | rfl | rfl | rfl | rfl
    · go_upto_region 4 with fail
      refine wp_region_tail 11 12 (fun (W : World) => Bx W B 32 (rcs s r) ∧ Bx W (B + 1) 32 (rcs s' r) ∧ RcM W p s r ∧ RcM W q s' r ∧ Below B w W ∧ B ≤ W.heap.size) (by kernel_rfl) (by rfl) (by decide) ?_
      have HS : ((fun (W : World) => Bx W B 32 (rcs s r) ∧ Bx W (B + 1) 32 (rcs s' r) ∧ RcM W p s r ∧ RcM W q s' r ∧ Below B w W ∧ B ≤ W.heap.size)) _ := ⟨e1.drew, y1.drew, f1.drew, g1.drew, b1.drew, z1⟩
      refine wpAnyT_take (i := 0) (v := .int .i64 0) rfl (by kernel_rfl) (fun _ _ _ h => h) (Or.inl ⟨by rfl, fun w hSw => ?_⟩) HS ?_
      · clear hSw HS
        go_simp
      try simp only [Act.put, List.setIfInBounds_toArray, List.set_cons_zero, List.set_cons_succ]
      refine wpAnyT_take (i := 1) (v := .pointer (some ⟨B, 5, none⟩)) rfl (by kernel_rfl) (fun _ _ _ h => h) (Or.inl ⟨by rfl, fun w hSw => ?_⟩) HS ?_
      · clear hSw HS
        go_simp
      try simp only [Act.put, List.setIfInBounds_toArray, List.set_cons_zero, List.set_cons_succ]
      refine wpAnyT_take (i := 2) (v := .pointer (some ⟨B, 5, none⟩)) rfl (by kernel_rfl) (fun _ _ _ h => h) (Or.inl ⟨by rfl, fun w hSw => ?_⟩) HS ?_
      · clear hSw HS
        go_simp
      try simp only [Act.put, List.setIfInBounds_toArray, List.set_cons_zero, List.set_cons_succ]
      refine wpAnyT_take (i := 3) (v := .pointer (some ⟨B, 5, none⟩)) rfl (by kernel_rfl) (fun _ _ _ h => h) (Or.inl ⟨by rfl, fun w hSw => ?_⟩) HS ?_
      · clear hSw HS
        go_simp
      try simp only [Act.put, List.setIfInBounds_toArray, List.set_cons_zero, List.set_cons_succ]
      refine wpAnyT_take (i := 4) (v := .slice s.a0 s.n0 s.c0) rfl (by kernel_rfl) (fun _ _ _ h => h) (Or.inl ⟨by rfl, fun w hSw => ?_⟩) HS ?_
      · have cc := Bx.cell (hSw.1) 5 (v := .slice s.a0 s.n0 s.c0) rfl
        clear hSw HS
        go_simp
      try simp only [Act.put, List.setIfInBounds_toArray, List.set_cons_zero, List.set_cons_succ]
      refine wpAnyT_take (i := 5) (v := .int .i64 0) rfl (by kernel_rfl) (fun _ _ _ h => h) (Or.inl ⟨by rfl, fun w hSw => ?_⟩) HS ?_
      · clear hSw HS
        go_simp
      try simp only [Act.put, List.setIfInBounds_toArray, List.set_cons_zero, List.set_cons_succ]
      refine wpAnyT_take (i := 6) (v := .pointer (some ⟨B + 1, 5, none⟩)) rfl (by kernel_rfl) (fun _ _ _ h => h) (Or.inl ⟨by rfl, fun w hSw => ?_⟩) HS ?_
      · clear hSw HS
        go_simp
      try simp only [Act.put, List.setIfInBounds_toArray, List.set_cons_zero, List.set_cons_succ]
      refine wpAnyT_take (i := 7) (v := .pointer (some ⟨B + 1, 5, none⟩)) rfl (by kernel_rfl) (fun _ _ _ h => h) (Or.inl ⟨by rfl, fun w hSw => ?_⟩) HS ?_
      · clear hSw HS
        go_simp
      try simp only [Act.put, List.setIfInBounds_toArray, List.set_cons_zero, List.set_cons_succ]
      refine wpAnyT_take (i := 8) (v := .pointer (some ⟨B + 1, 5, none⟩)) rfl (by kernel_rfl) (fun _ _ _ h => h) (Or.inl ⟨by rfl, fun w hSw => ?_⟩) HS ?_
      · clear hSw HS
        go_simp
      try simp only [Act.put, List.setIfInBounds_toArray, List.set_cons_zero, List.set_cons_succ]
      refine wpAnyT_take (i := 9) (v := .slice s'.a0 s'.n0 s'.c0) rfl (by kernel_rfl) (fun _ _ _ h => h) (Or.inl ⟨by rfl, fun w hSw => ?_⟩) HS ?_
      · have cc := Bx.cell (hSw.2.1) 5 (v := .slice s'.a0 s'.n0 s'.c0) rfl
        clear hSw HS
        go_simp
      try simp only [Act.put, List.setIfInBounds_toArray, List.set_cons_zero, List.set_cons_succ]
      refine wpAnyT_one (k := 10) rfl (by kernel_rfl) (by decide) (fun K hK => ?_)
      go_simp
      refine (same_yes s.a0 s'.a0 s.n0 s.c0 s'.n0 s'.c0 r.s0.got _ HS.2.2.1.g0 HS.2.2.2.1.g0).mono ?_
      rintro e w2 ⟨rfl, hb⟩
      have HS : ((fun (W : World) => Bx W B 32 (rcs s r) ∧ Bx W (B + 1) 32 (rcs s' r) ∧ RcM W p s r ∧ RcM W q s' r ∧ Below B w W ∧ B ≤ W.heap.size)) _ := ⟨HS.1.kept hb, HS.2.1.kept hb, HS.2.2.1.keep hb, HS.2.2.2.1.keep hb, HS.2.2.2.2.1.trans (hb.mono HS.2.2.2.2.2), Nat.le_trans HS.2.2.2.2.2 hb.size⟩
      refine hK _ _ HS ?_
      clear hK K
      try simp only [Act.put, List.setIfInBounds_toArray, List.set_cons_zero, List.set_cons_succ]
      refine ⟨by kernel_rfl, ?_⟩
      simp only [List.drop_succ_cons, List.drop_zero]
      obtain ⟨e2, y2, f2, g2, b2, z2⟩ := HS
      clear e1 y1 f1 g1 b1 z1
      go_upto_region 5 with fail
      refine wp_region_tail 14 15 (fun (W : World) => Bx W B 32 (rcs s r) ∧ Bx W (B + 1) 32 (rcs s' r) ∧ RcM W p s r ∧ RcM W q s' r ∧ Below B w W ∧ B ≤ W.heap.size) (by kernel_rfl) (by rfl) (by decide) ?_
      have HS : ((fun (W : World) => Bx W B 32 (rcs s r) ∧ Bx W (B + 1) 32 (rcs s' r) ∧ RcM W p s r ∧ RcM W q s' r ∧ Below B w W ∧ B ≤ W.heap.size)) _ := ⟨e2.drew, y2.drew, f2.drew, g2.drew, b2.drew, z2⟩
      refine wpAnyT_take (i := 0) (v := .bool true) rfl (by kernel_rfl) (fun _ _ _ h => h) (Or.inl ⟨by rfl, fun w hSw => ?_⟩) HS ?_
      · clear hSw HS
        go_simp
      try simp only [Act.put, List.setIfInBounds_toArray, List.set_cons_zero, List.set_cons_succ]
      refine wpAnyT_take (i := 1) (v := .bool false) rfl (by kernel_rfl) (fun _ _ _ h => h) (Or.inl ⟨by rfl, fun w hSw => ?_⟩) HS ?_
      · clear hSw HS
        go_simp
      try simp only [Act.put, List.setIfInBounds_toArray, List.set_cons_zero, List.set_cons_succ]
      refine wpAnyT_take (i := 2) (v := .bool false) rfl (by kernel_rfl) (fun _ _ _ h => h) (Or.inl ⟨by rfl, fun w hSw => ?_⟩) HS ?_
      · clear hSw HS
        go_simp
      try simp only [Act.put, List.setIfInBounds_toArray, List.set_cons_zero, List.set_cons_succ]
      refine wpAnyT_take (i := 3) (v := .int .i64 0) rfl (by kernel_rfl) (fun _ _ _ h => h) (Or.inl ⟨by rfl, fun w hSw => ?_⟩) HS ?_
      · clear hSw HS
        go_simp
      try simp only [Act.put, List.setIfInBounds_toArray, List.set_cons_zero, List.set_cons_succ]
      refine wpAnyT_take (i := 4) (v := .pointer (some ⟨B, 5, none⟩)) rfl (by kernel_rfl) (fun _ _ _ h => h) (Or.inl ⟨by rfl, fun w hSw => ?_⟩) HS ?_
      · clear hSw HS
        go_simp
      try simp only [Act.put, List.setIfInBounds_toArray, List.set_cons_zero, List.set_cons_succ]
      refine wpAnyT_take (i := 5) (v := .pointer (some ⟨B, 5, none⟩)) rfl (by kernel_rfl) (fun _ _ _ h => h) (Or.inl ⟨by rfl, fun w hSw => ?_⟩) HS ?_
      · clear hSw HS
        go_simp
      try simp only [Act.put, List.setIfInBounds_toArray, List.set_cons_zero, List.set_cons_succ]
      refine wpAnyT_take (i := 6) (v := .pointer (some ⟨B, 6, none⟩)) rfl (by kernel_rfl) (fun _ _ _ h => h) (Or.inl ⟨by rfl, fun w hSw => ?_⟩) HS ?_
      · clear hSw HS
        go_simp
      try simp only [Act.put, List.setIfInBounds_toArray, List.set_cons_zero, List.set_cons_succ]
      refine wpAnyT_take (i := 7) (v := .agg #[.int .i64 r.s0.m.pk, .int .i64 r.s0.m.bt, .int .i64 r.s0.m.ca, .int .i64 r.s0.m.md, .int .i64 r.s0.m.pt]) rfl (by kernel_rfl) (fun _ _ _ h => h) (rsub_y (cs := rcs s r) (vs := [.int .i64 r.s0.m.pk, .int .i64 r.s0.m.bt, .int .i64 r.s0.m.ca, .int .i64 r.s0.m.md, .int .i64 r.s0.m.pt]) ir_marks (by rfl) (.tmp 28) rfl rfl (fun w hSw => hSw.1) rfl rfl) HS ?_
      try simp only [Act.put, List.setIfInBounds_toArray, List.set_cons_zero, List.set_cons_succ]
      refine wpAnyT_take (i := 8) (v := .int .i64 0) rfl (by kernel_rfl) (fun _ _ _ h => h) (Or.inl ⟨by rfl, fun w hSw => ?_⟩) HS ?_
      · clear hSw HS
        go_simp
      try simp only [Act.put, List.setIfInBounds_toArray, List.set_cons_zero, List.set_cons_succ]
      refine wpAnyT_take (i := 9) (v := .pointer (some ⟨B + 1, 5, none⟩)) rfl (by kernel_rfl) (fun _ _ _ h => h) (Or.inl ⟨by rfl, fun w hSw => ?_⟩) HS ?_
      · clear hSw HS
        go_simp
      try simp only [Act.put, List.setIfInBounds_toArray, List.set_cons_zero, List.set_cons_succ]
      refine wpAnyT_take (i := 10) (v := .pointer (some ⟨B + 1, 5, none⟩)) rfl (by kernel_rfl) (fun _ _ _ h => h) (Or.inl ⟨by rfl, fun w hSw => ?_⟩) HS ?_
      · clear hSw HS
        go_simp
      try simp only [Act.put, List.setIfInBounds_toArray, List.set_cons_zero, List.set_cons_succ]
      refine wpAnyT_take (i := 11) (v := .pointer (some ⟨B + 1, 6, none⟩)) rfl (by kernel_rfl) (fun _ _ _ h => h) (Or.inl ⟨by rfl, fun w hSw => ?_⟩) HS ?_
      · clear hSw HS
        go_simp
      try simp only [Act.put, List.setIfInBounds_toArray, List.set_cons_zero, List.set_cons_succ]
      refine wpAnyT_take (i := 12) (v := .agg #[.int .i64 r.s0.m.pk, .int .i64 r.s0.m.bt, .int .i64 r.s0.m.ca, .int .i64 r.s0.m.md, .int .i64 r.s0.m.pt]) rfl (by kernel_rfl) (fun _ _ _ h => h) (rsub_y (cs := rcs s' r) (vs := [.int .i64 r.s0.m.pk, .int .i64 r.s0.m.bt, .int .i64 r.s0.m.ca, .int .i64 r.s0.m.md, .int .i64 r.s0.m.pt]) ir_marks (by rfl) (.tmp 33) rfl rfl (fun w hSw => hSw.2.1) rfl rfl) HS ?_
      try simp only [Act.put, List.setIfInBounds_toArray, List.set_cons_zero, List.set_cons_succ]
      refine wpAnyT_take (i := 13) (v := .bool false) rfl (by kernel_rfl) (fun _ _ _ h => h) (Or.inl ⟨by rfl, fun w hSw => ?_⟩) HS ?_
      · clear hSw HS
        go_simp
      try simp only [Act.put, List.setIfInBounds_toArray, List.set_cons_zero, List.set_cons_succ]
      refine ⟨by kernel_rfl, ?_⟩
      simp only [List.drop_succ_cons, List.drop_zero]
      obtain ⟨e3, y3, f3, g3, b3, z3⟩ := HS
      clear e2 y2 f2 g2 b2 z2
      go_wp2_with fail
      go_roundw
      case rel => exact ⟨1, by omega, rfl, e3, y3, f3, g3, b3, z3⟩
      case measure => simp [intOf]
    · go_upto_region 4 with fail
      refine wp_region_tail 11 12 (fun (W : World) => Bx W B 32 (rcs s r) ∧ Bx W (B + 1) 32 (rcs s' r) ∧ RcM W p s r ∧ RcM W q s' r ∧ Below B w W ∧ B ≤ W.heap.size) (by kernel_rfl) (by rfl) (by decide) ?_
      have HS : ((fun (W : World) => Bx W B 32 (rcs s r) ∧ Bx W (B + 1) 32 (rcs s' r) ∧ RcM W p s r ∧ RcM W q s' r ∧ Below B w W ∧ B ≤ W.heap.size)) _ := ⟨e1.drew, y1.drew, f1.drew, g1.drew, b1.drew, z1⟩
      refine wpAnyT_take (i := 0) (v := .int .i64 1) rfl (by kernel_rfl) (fun _ _ _ h => h) (Or.inl ⟨by rfl, fun w hSw => ?_⟩) HS ?_
      · clear hSw HS
        go_simp
      try simp only [Act.put, List.setIfInBounds_toArray, List.set_cons_zero, List.set_cons_succ]
      refine wpAnyT_take (i := 1) (v := .pointer (some ⟨B, 5, none⟩)) rfl (by kernel_rfl) (fun _ _ _ h => h) (Or.inl ⟨by rfl, fun w hSw => ?_⟩) HS ?_
      · clear hSw HS
        go_simp
      try simp only [Act.put, List.setIfInBounds_toArray, List.set_cons_zero, List.set_cons_succ]
      refine wpAnyT_take (i := 2) (v := .pointer (some ⟨B, 11, none⟩)) rfl (by kernel_rfl) (fun _ _ _ h => h) (Or.inl ⟨by rfl, fun w hSw => ?_⟩) HS ?_
      · clear hSw HS
        go_simp
      try simp only [Act.put, List.setIfInBounds_toArray, List.set_cons_zero, List.set_cons_succ]
      refine wpAnyT_take (i := 3) (v := .pointer (some ⟨B, 11, none⟩)) rfl (by kernel_rfl) (fun _ _ _ h => h) (Or.inl ⟨by rfl, fun w hSw => ?_⟩) HS ?_
      · clear hSw HS
        go_simp
      try simp only [Act.put, List.setIfInBounds_toArray, List.set_cons_zero, List.set_cons_succ]
      refine wpAnyT_take (i := 4) (v := .slice s.a1 s.n1 s.c1) rfl (by kernel_rfl) (fun _ _ _ h => h) (Or.inl ⟨by rfl, fun w hSw => ?_⟩) HS ?_
      · have cc := Bx.cell (hSw.1) 11 (v := .slice s.a1 s.n1 s.c1) rfl
        clear hSw HS
        go_simp
      try simp only [Act.put, List.setIfInBounds_toArray, List.set_cons_zero, List.set_cons_succ]
      refine wpAnyT_take (i := 5) (v := .int .i64 1) rfl (by kernel_rfl) (fun _ _ _ h => h) (Or.inl ⟨by rfl, fun w hSw => ?_⟩) HS ?_
      · clear hSw HS
        go_simp
      try simp only [Act.put, List.setIfInBounds_toArray, List.set_cons_zero, List.set_cons_succ]
      refine wpAnyT_take (i := 6) (v := .pointer (some ⟨B + 1, 5, none⟩)) rfl (by kernel_rfl) (fun _ _ _ h => h) (Or.inl ⟨by rfl, fun w hSw => ?_⟩) HS ?_
      · clear hSw HS
        go_simp
      try simp only [Act.put, List.setIfInBounds_toArray, List.set_cons_zero, List.set_cons_succ]
      refine wpAnyT_take (i := 7) (v := .pointer (some ⟨B + 1, 11, none⟩)) rfl (by kernel_rfl) (fun _ _ _ h => h) (Or.inl ⟨by rfl, fun w hSw => ?_⟩) HS ?_
      · clear hSw HS
        go_simp
      try simp only [Act.put, List.setIfInBounds_toArray, List.set_cons_zero, List.set_cons_succ]
      refine wpAnyT_take (i := 8) (v := .pointer (some ⟨B + 1, 11, none⟩)) rfl (by kernel_rfl) (fun _ _ _ h => h) (Or.inl ⟨by rfl, fun w hSw => ?_⟩) HS ?_
      · clear hSw HS
        go_simp
      try simp only [Act.put, List.setIfInBounds_toArray, List.set_cons_zero, List.set_cons_succ]
      refine wpAnyT_take (i := 9) (v := .slice s'.a1 s'.n1 s'.c1) rfl (by kernel_rfl) (fun _ _ _ h => h) (Or.inl ⟨by rfl, fun w hSw => ?_⟩) HS ?_
      · have cc := Bx.cell (hSw.2.1) 11 (v := .slice s'.a1 s'.n1 s'.c1) rfl
        clear hSw HS
        go_simp
      try simp only [Act.put, List.setIfInBounds_toArray, List.set_cons_zero, List.set_cons_succ]
      refine wpAnyT_one (k := 10) rfl (by kernel_rfl) (by decide) (fun K hK => ?_)
      go_simp
      refine (same_yes s.a1 s'.a1 s.n1 s.c1 s'.n1 s'.c1 r.s1.got _ HS.2.2.1.g1 HS.2.2.2.1.g1).mono ?_
      rintro e w2 ⟨rfl, hb⟩
      have HS : ((fun (W : World) => Bx W B 32 (rcs s r) ∧ Bx W (B + 1) 32 (rcs s' r) ∧ RcM W p s r ∧ RcM W q s' r ∧ Below B w W ∧ B ≤ W.heap.size)) _ := ⟨HS.1.kept hb, HS.2.1.kept hb, HS.2.2.1.keep hb, HS.2.2.2.1.keep hb, HS.2.2.2.2.1.trans (hb.mono HS.2.2.2.2.2), Nat.le_trans HS.2.2.2.2.2 hb.size⟩
      refine hK _ _ HS ?_
      clear hK K
      try simp only [Act.put, List.setIfInBounds_toArray, List.set_cons_zero, List.set_cons_succ]
      refine ⟨by kernel_rfl, ?_⟩
      simp only [List.drop_succ_cons, List.drop_zero]
      obtain ⟨e2, y2, f2, g2, b2, z2⟩ := HS
      clear e1 y1 f1 g1 b1 z1
      go_upto_region 5 with fail
      refine wp_region_tail 14 15 (fun (W : World) => Bx W B 32 (rcs s r) ∧ Bx W (B + 1) 32 (rcs s' r) ∧ RcM W p s r ∧ RcM W q s' r ∧ Below B w W ∧ B ≤ W.heap.size) (by kernel_rfl) (by rfl) (by decide) ?_
      have HS : ((fun (W : World) => Bx W B 32 (rcs s r) ∧ Bx W (B + 1) 32 (rcs s' r) ∧ RcM W p s r ∧ RcM W q s' r ∧ Below B w W ∧ B ≤ W.heap.size)) _ := ⟨e2.drew, y2.drew, f2.drew, g2.drew, b2.drew, z2⟩
      refine wpAnyT_take (i := 0) (v := .bool true) rfl (by kernel_rfl) (fun _ _ _ h => h) (Or.inl ⟨by rfl, fun w hSw => ?_⟩) HS ?_
      · clear hSw HS
        go_simp
      try simp only [Act.put, List.setIfInBounds_toArray, List.set_cons_zero, List.set_cons_succ]
      refine wpAnyT_take (i := 1) (v := .bool false) rfl (by kernel_rfl) (fun _ _ _ h => h) (Or.inl ⟨by rfl, fun w hSw => ?_⟩) HS ?_
      · clear hSw HS
        go_simp
      try simp only [Act.put, List.setIfInBounds_toArray, List.set_cons_zero, List.set_cons_succ]
      refine wpAnyT_take (i := 2) (v := .bool false) rfl (by kernel_rfl) (fun _ _ _ h => h) (Or.inl ⟨by rfl, fun w hSw => ?_⟩) HS ?_
      · clear hSw HS
        go_simp
      try simp only [Act.put, List.setIfInBounds_toArray, List.set_cons_zero, List.set_cons_succ]
      refine wpAnyT_take (i := 3) (v := .int .i64 1) rfl (by kernel_rfl) (fun _ _ _ h => h) (Or.inl ⟨by rfl, fun w hSw => ?_⟩) HS ?_
      · clear hSw HS
        go_simp
      try simp only [Act.put, List.setIfInBounds_toArray, List.set_cons_zero, List.set_cons_succ]
      refine wpAnyT_take (i := 4) (v := .pointer (some ⟨B, 5, none⟩)) rfl (by kernel_rfl) (fun _ _ _ h => h) (Or.inl ⟨by rfl, fun w hSw => ?_⟩) HS ?_
      · clear hSw HS
        go_simp
      try simp only [Act.put, List.setIfInBounds_toArray, List.set_cons_zero, List.set_cons_succ]
      refine wpAnyT_take (i := 5) (v := .pointer (some ⟨B, 11, none⟩)) rfl (by kernel_rfl) (fun _ _ _ h => h) (Or.inl ⟨by rfl, fun w hSw => ?_⟩) HS ?_
      · clear hSw HS
        go_simp
      try simp only [Act.put, List.setIfInBounds_toArray, List.set_cons_zero, List.set_cons_succ]
      refine wpAnyT_take (i := 6) (v := .pointer (some ⟨B, 12, none⟩)) rfl (by kernel_rfl) (fun _ _ _ h => h) (Or.inl ⟨by rfl, fun w hSw => ?_⟩) HS ?_
      · clear hSw HS
        go_simp
      try simp only [Act.put, List.setIfInBounds_toArray, List.set_cons_zero, List.set_cons_succ]
      refine wpAnyT_take (i := 7) (v := .agg #[.int .i64 r.s1.m.pk, .int .i64 r.s1.m.bt, .int .i64 r.s1.m.ca, .int .i64 r.s1.m.md, .int .i64 r.s1.m.pt]) rfl (by kernel_rfl) (fun _ _ _ h => h) (rsub_y (cs := rcs s r) (vs := [.int .i64 r.s1.m.pk, .int .i64 r.s1.m.bt, .int .i64 r.s1.m.ca, .int .i64 r.s1.m.md, .int .i64 r.s1.m.pt]) ir_marks (by rfl) (.tmp 28) rfl rfl (fun w hSw => hSw.1) rfl rfl) HS ?_
      try simp only [Act.put, List.setIfInBounds_toArray, List.set_cons_zero, List.set_cons_succ]
      refine wpAnyT_take (i := 8) (v := .int .i64 1) rfl (by kernel_rfl) (fun _ _ _ h => h) (Or.inl ⟨by rfl, fun w hSw => ?_⟩) HS ?_
      · clear hSw HS
        go_simp
      try simp only [Act.put, List.setIfInBounds_toArray, List.set_cons_zero, List.set_cons_succ]
      refine wpAnyT_take (i := 9) (v := .pointer (some ⟨B + 1, 5, none⟩)) rfl (by kernel_rfl) (fun _ _ _ h => h) (Or.inl ⟨by rfl, fun w hSw => ?_⟩) HS ?_
      · clear hSw HS
        go_simp
      try simp only [Act.put, List.setIfInBounds_toArray, List.set_cons_zero, List.set_cons_succ]
      refine wpAnyT_take (i := 10) (v := .pointer (some ⟨B + 1, 11, none⟩)) rfl (by kernel_rfl) (fun _ _ _ h => h) (Or.inl ⟨by rfl, fun w hSw => ?_⟩) HS ?_
      · clear hSw HS
        go_simp
      try simp only [Act.put, List.setIfInBounds_toArray, List.set_cons_zero, List.set_cons_succ]
      refine wpAnyT_take (i := 11) (v := .pointer (some ⟨B + 1, 12, none⟩)) rfl (by kernel_rfl) (fun _ _ _ h => h) (Or.inl ⟨by rfl, fun w hSw => ?_⟩) HS ?_
      · clear hSw HS
        go_simp
      try simp only [Act.put, List.setIfInBounds_toArray, List.set_cons_zero, List.set_cons_succ]
      refine wpAnyT_take (i := 12) (v := .agg #[.int .i64 r.s1.m.pk, .int .i64 r.s1.m.bt, .int .i64 r.s1.m.ca, .int .i64 r.s1.m.md, .int .i64 r.s1.m.pt]) rfl (by kernel_rfl) (fun _ _ _ h => h) (rsub_y (cs := rcs s' r) (vs := [.int .i64 r.s1.m.pk, .int .i64 r.s1.m.bt, .int .i64 r.s1.m.ca, .int .i64 r.s1.m.md, .int .i64 r.s1.m.pt]) ir_marks (by rfl) (.tmp 33) rfl rfl (fun w hSw => hSw.2.1) rfl rfl) HS ?_
      try simp only [Act.put, List.setIfInBounds_toArray, List.set_cons_zero, List.set_cons_succ]
      refine wpAnyT_take (i := 13) (v := .bool false) rfl (by kernel_rfl) (fun _ _ _ h => h) (Or.inl ⟨by rfl, fun w hSw => ?_⟩) HS ?_
      · clear hSw HS
        go_simp
      try simp only [Act.put, List.setIfInBounds_toArray, List.set_cons_zero, List.set_cons_succ]
      refine ⟨by kernel_rfl, ?_⟩
      simp only [List.drop_succ_cons, List.drop_zero]
      obtain ⟨e3, y3, f3, g3, b3, z3⟩ := HS
      clear e2 y2 f2 g2 b2 z2
      go_wp2_with fail
      go_roundw
      case rel => exact ⟨2, by omega, rfl, e3, y3, f3, g3, b3, z3⟩
      case measure => simp [intOf]
    · go_upto_region 4 with fail
      refine wp_region_tail 11 12 (fun (W : World) => Bx W B 32 (rcs s r) ∧ Bx W (B + 1) 32 (rcs s' r) ∧ RcM W p s r ∧ RcM W q s' r ∧ Below B w W ∧ B ≤ W.heap.size) (by kernel_rfl) (by rfl) (by decide) ?_
      have HS : ((fun (W : World) => Bx W B 32 (rcs s r) ∧ Bx W (B + 1) 32 (rcs s' r) ∧ RcM W p s r ∧ RcM W q s' r ∧ Below B w W ∧ B ≤ W.heap.size)) _ := ⟨e1.drew, y1.drew, f1.drew, g1.drew, b1.drew, z1⟩
      refine wpAnyT_take (i := 0) (v := .int .i64 2) rfl (by kernel_rfl) (fun _ _ _ h => h) (Or.inl ⟨by rfl, fun w hSw => ?_⟩) HS ?_
      · clear hSw HS
        go_simp
      try simp only [Act.put, List.setIfInBounds_toArray, List.set_cons_zero, List.set_cons_succ]
      refine wpAnyT_take (i := 1) (v := .pointer (some ⟨B, 5, none⟩)) rfl (by kernel_rfl) (fun _ _ _ h => h) (Or.inl ⟨by rfl, fun w hSw => ?_⟩) HS ?_
      · clear hSw HS
        go_simp
      try simp only [Act.put, List.setIfInBounds_toArray, List.set_cons_zero, List.set_cons_succ]
      refine wpAnyT_take (i := 2) (v := .pointer (some ⟨B, 17, none⟩)) rfl (by kernel_rfl) (fun _ _ _ h => h) (Or.inl ⟨by rfl, fun w hSw => ?_⟩) HS ?_
      · clear hSw HS
        go_simp
      try simp only [Act.put, List.setIfInBounds_toArray, List.set_cons_zero, List.set_cons_succ]
      refine wpAnyT_take (i := 3) (v := .pointer (some ⟨B, 17, none⟩)) rfl (by kernel_rfl) (fun _ _ _ h => h) (Or.inl ⟨by rfl, fun w hSw => ?_⟩) HS ?_
      · clear hSw HS
        go_simp
      try simp only [Act.put, List.setIfInBounds_toArray, List.set_cons_zero, List.set_cons_succ]
      refine wpAnyT_take (i := 4) (v := .slice s.a2 s.n2 s.c2) rfl (by kernel_rfl) (fun _ _ _ h => h) (Or.inl ⟨by rfl, fun w hSw => ?_⟩) HS ?_
      · have cc := Bx.cell (hSw.1) 17 (v := .slice s.a2 s.n2 s.c2) rfl
        clear hSw HS
        go_simp
      try simp only [Act.put, List.setIfInBounds_toArray, List.set_cons_zero, List.set_cons_succ]
      refine wpAnyT_take (i := 5) (v := .int .i64 2) rfl (by kernel_rfl) (fun _ _ _ h => h) (Or.inl ⟨by rfl, fun w hSw => ?_⟩) HS ?_
      · clear hSw HS
        go_simp
      try simp only [Act.put, List.setIfInBounds_toArray, List.set_cons_zero, List.set_cons_succ]
      refine wpAnyT_take (i := 6) (v := .pointer (some ⟨B + 1, 5, none⟩)) rfl (by kernel_rfl) (fun _ _ _ h => h) (Or.inl ⟨by rfl, fun w hSw => ?_⟩) HS ?_
      · clear hSw HS
        go_simp
      try simp only [Act.put, List.setIfInBounds_toArray, List.set_cons_zero, List.set_cons_succ]
      refine wpAnyT_take (i := 7) (v := .pointer (some ⟨B + 1, 17, none⟩)) rfl (by kernel_rfl) (fun _ _ _ h => h) (Or.inl ⟨by rfl, fun w hSw => ?_⟩) HS ?_
      · clear hSw HS
        go_simp
      try simp only [Act.put, List.setIfInBounds_toArray, List.set_cons_zero, List.set_cons_succ]
      refine wpAnyT_take (i := 8) (v := .pointer (some ⟨B + 1, 17, none⟩)) rfl (by kernel_rfl) (fun _ _ _ h => h) (Or.inl ⟨by rfl, fun w hSw => ?_⟩) HS ?_
      · clear hSw HS
        go_simp
      try simp only [Act.put, List.setIfInBounds_toArray, List.set_cons_zero, List.set_cons_succ]
      refine wpAnyT_take (i := 9) (v := .slice s'.a2 s'.n2 s'.c2) rfl (by kernel_rfl) (fun _ _ _ h => h) (Or.inl ⟨by rfl, fun w hSw => ?_⟩) HS ?_
      · have cc := Bx.cell (hSw.2.1) 17 (v := .slice s'.a2 s'.n2 s'.c2) rfl
        clear hSw HS
        go_simp
      try simp only [Act.put, List.setIfInBounds_toArray, List.set_cons_zero, List.set_cons_succ]
      refine wpAnyT_one (k := 10) rfl (by kernel_rfl) (by decide) (fun K hK => ?_)
      go_simp
      refine (same_yes s.a2 s'.a2 s.n2 s.c2 s'.n2 s'.c2 r.s2.got _ HS.2.2.1.g2 HS.2.2.2.1.g2).mono ?_
      rintro e w2 ⟨rfl, hb⟩
      have HS : ((fun (W : World) => Bx W B 32 (rcs s r) ∧ Bx W (B + 1) 32 (rcs s' r) ∧ RcM W p s r ∧ RcM W q s' r ∧ Below B w W ∧ B ≤ W.heap.size)) _ := ⟨HS.1.kept hb, HS.2.1.kept hb, HS.2.2.1.keep hb, HS.2.2.2.1.keep hb, HS.2.2.2.2.1.trans (hb.mono HS.2.2.2.2.2), Nat.le_trans HS.2.2.2.2.2 hb.size⟩
      refine hK _ _ HS ?_
      clear hK K
      try simp only [Act.put, List.setIfInBounds_toArray, List.set_cons_zero, List.set_cons_succ]
      refine ⟨by kernel_rfl, ?_⟩
      simp only [List.drop_succ_cons, List.drop_zero]
      obtain ⟨e2, y2, f2, g2, b2, z2⟩ := HS
      clear e1 y1 f1 g1 b1 z1
      go_upto_region 5 with fail
      refine wp_region_tail 14 15 (fun (W : World) => Bx W B 32 (rcs s r) ∧ Bx W (B + 1) 32 (rcs s' r) ∧ RcM W p s r ∧ RcM W q s' r ∧ Below B w W ∧ B ≤ W.heap.size) (by kernel_rfl) (by rfl) (by decide) ?_
      have HS : ((fun (W : World) => Bx W B 32 (rcs s r) ∧ Bx W (B + 1) 32 (rcs s' r) ∧ RcM W p s r ∧ RcM W q s' r ∧ Below B w W ∧ B ≤ W.heap.size)) _ := ⟨e2.drew, y2.drew, f2.drew, g2.drew, b2.drew, z2⟩
      refine wpAnyT_take (i := 0) (v := .bool true) rfl (by kernel_rfl) (fun _ _ _ h => h) (Or.inl ⟨by rfl, fun w hSw => ?_⟩) HS ?_
      · clear hSw HS
        go_simp
      try simp only [Act.put, List.setIfInBounds_toArray, List.set_cons_zero, List.set_cons_succ]
      refine wpAnyT_take (i := 1) (v := .bool false) rfl (by kernel_rfl) (fun _ _ _ h => h) (Or.inl ⟨by rfl, fun w hSw => ?_⟩) HS ?_
      · clear hSw HS
        go_simp
      try simp only [Act.put, List.setIfInBounds_toArray, List.set_cons_zero, List.set_cons_succ]
      refine wpAnyT_take (i := 2) (v := .bool false) rfl (by kernel_rfl) (fun _ _ _ h => h) (Or.inl ⟨by rfl, fun w hSw => ?_⟩) HS ?_
      · clear hSw HS
        go_simp
      try simp only [Act.put, List.setIfInBounds_toArray, List.set_cons_zero, List.set_cons_succ]
      refine wpAnyT_take (i := 3) (v := .int .i64 2) rfl (by kernel_rfl) (fun _ _ _ h => h) (Or.inl ⟨by rfl, fun w hSw => ?_⟩) HS ?_
      · clear hSw HS
        go_simp
      try simp only [Act.put, List.setIfInBounds_toArray, List.set_cons_zero, List.set_cons_succ]
      refine wpAnyT_take (i := 4) (v := .pointer (some ⟨B, 5, none⟩)) rfl (by kernel_rfl) (fun _ _ _ h => h) (Or.inl ⟨by rfl, fun w hSw => ?_⟩) HS ?_
      · clear hSw HS
        go_simp
      try simp only [Act.put, List.setIfInBounds_toArray, List.set_cons_zero, List.set_cons_succ]
      refine wpAnyT_take (i := 5) (v := .pointer (some ⟨B, 17, none⟩)) rfl (by kernel_rfl) (fun _ _ _ h => h) (Or.inl ⟨by rfl, fun w hSw => ?_⟩) HS ?_
      · clear hSw HS
        go_simp
      try simp only [Act.put, List.setIfInBounds_toArray, List.set_cons_zero, List.set_cons_succ]
      refine wpAnyT_take (i := 6) (v := .pointer (some ⟨B, 18, none⟩)) rfl (by kernel_rfl) (fun _ _ _ h => h) (Or.inl ⟨by rfl, fun w hSw => ?_⟩) HS ?_
      · clear hSw HS
        go_simp
      try simp only [Act.put, List.setIfInBounds_toArray, List.set_cons_zero, List.set_cons_succ]
      refine wpAnyT_take (i := 7) (v := .agg #[.int .i64 r.s2.m.pk, .int .i64 r.s2.m.bt, .int .i64 r.s2.m.ca, .int .i64 r.s2.m.md, .int .i64 r.s2.m.pt]) rfl (by kernel_rfl) (fun _ _ _ h => h) (rsub_y (cs := rcs s r) (vs := [.int .i64 r.s2.m.pk, .int .i64 r.s2.m.bt, .int .i64 r.s2.m.ca, .int .i64 r.s2.m.md, .int .i64 r.s2.m.pt]) ir_marks (by rfl) (.tmp 28) rfl rfl (fun w hSw => hSw.1) rfl rfl) HS ?_
      try simp only [Act.put, List.setIfInBounds_toArray, List.set_cons_zero, List.set_cons_succ]
      refine wpAnyT_take (i := 8) (v := .int .i64 2) rfl (by kernel_rfl) (fun _ _ _ h => h) (Or.inl ⟨by rfl, fun w hSw => ?_⟩) HS ?_
      · clear hSw HS
        go_simp
      try simp only [Act.put, List.setIfInBounds_toArray, List.set_cons_zero, List.set_cons_succ]
      refine wpAnyT_take (i := 9) (v := .pointer (some ⟨B + 1, 5, none⟩)) rfl (by kernel_rfl) (fun _ _ _ h => h) (Or.inl ⟨by rfl, fun w hSw => ?_⟩) HS ?_
      · clear hSw HS
        go_simp
      try simp only [Act.put, List.setIfInBounds_toArray, List.set_cons_zero, List.set_cons_succ]
      refine wpAnyT_take (i := 10) (v := .pointer (some ⟨B + 1, 17, none⟩)) rfl (by kernel_rfl) (fun _ _ _ h => h) (Or.inl ⟨by rfl, fun w hSw => ?_⟩) HS ?_
      · clear hSw HS
        go_simp
      try simp only [Act.put, List.setIfInBounds_toArray, List.set_cons_zero, List.set_cons_succ]
      refine wpAnyT_take (i := 11) (v := .pointer (some ⟨B + 1, 18, none⟩)) rfl (by kernel_rfl) (fun _ _ _ h => h) (Or.inl ⟨by rfl, fun w hSw => ?_⟩) HS ?_
      · clear hSw HS
        go_simp
      try simp only [Act.put, List.setIfInBounds_toArray, List.set_cons_zero, List.set_cons_succ]
      refine wpAnyT_take (i := 12) (v := .agg #[.int .i64 r.s2.m.pk, .int .i64 r.s2.m.bt, .int .i64 r.s2.m.ca, .int .i64 r.s2.m.md, .int .i64 r.s2.m.pt]) rfl (by kernel_rfl) (fun _ _ _ h => h) (rsub_y (cs := rcs s' r) (vs := [.int .i64 r.s2.m.pk, .int .i64 r.s2.m.bt, .int .i64 r.s2.m.ca, .int .i64 r.s2.m.md, .int .i64 r.s2.m.pt]) ir_marks (by rfl) (.tmp 33) rfl rfl (fun w hSw => hSw.2.1) rfl rfl) HS ?_
      try simp only [Act.put, List.setIfInBounds_toArray, List.set_cons_zero, List.set_cons_succ]
      refine wpAnyT_take (i := 13) (v := .bool false) rfl (by kernel_rfl) (fun _ _ _ h => h) (Or.inl ⟨by rfl, fun w hSw => ?_⟩) HS ?_
      · clear hSw HS
        go_simp
      try simp only [Act.put, List.setIfInBounds_toArray, List.set_cons_zero, List.set_cons_succ]
      refine ⟨by kernel_rfl, ?_⟩
      simp only [List.drop_succ_cons, List.drop_zero]
      obtain ⟨e3, y3, f3, g3, b3, z3⟩ := HS
      clear e2 y2 f2 g2 b2 z2
      go_wp2_with fail
      go_roundw
      case rel => exact ⟨3, by omega, rfl, e3, y3, f3, g3, b3, z3⟩
      case measure => simp [intOf]
    · go_upto_region 4 with fail
      refine wp_region_tail 11 12 (fun (W : World) => Bx W B 32 (rcs s r) ∧ Bx W (B + 1) 32 (rcs s' r) ∧ RcM W p s r ∧ RcM W q s' r ∧ Below B w W ∧ B ≤ W.heap.size) (by kernel_rfl) (by rfl) (by decide) ?_
      have HS : ((fun (W : World) => Bx W B 32 (rcs s r) ∧ Bx W (B + 1) 32 (rcs s' r) ∧ RcM W p s r ∧ RcM W q s' r ∧ Below B w W ∧ B ≤ W.heap.size)) _ := ⟨e1.drew, y1.drew, f1.drew, g1.drew, b1.drew, z1⟩
      refine wpAnyT_take (i := 0) (v := .int .i64 3) rfl (by kernel_rfl) (fun _ _ _ h => h) (Or.inl ⟨by rfl, fun w hSw => ?_⟩) HS ?_
      · clear hSw HS
        go_simp
      try simp only [Act.put, List.setIfInBounds_toArray, List.set_cons_zero, List.set_cons_succ]
      refine wpAnyT_take (i := 1) (v := .pointer (some ⟨B, 5, none⟩)) rfl (by kernel_rfl) (fun _ _ _ h => h) (Or.inl ⟨by rfl, fun w hSw => ?_⟩) HS ?_
      · clear hSw HS
        go_simp
      try simp only [Act.put, List.setIfInBounds_toArray, List.set_cons_zero, List.set_cons_succ]
      refine wpAnyT_take (i := 2) (v := .pointer (some ⟨B, 23, none⟩)) rfl (by kernel_rfl) (fun _ _ _ h => h) (Or.inl ⟨by rfl, fun w hSw => ?_⟩) HS ?_
      · clear hSw HS
        go_simp
      try simp only [Act.put, List.setIfInBounds_toArray, List.set_cons_zero, List.set_cons_succ]
      refine wpAnyT_take (i := 3) (v := .pointer (some ⟨B, 23, none⟩)) rfl (by kernel_rfl) (fun _ _ _ h => h) (Or.inl ⟨by rfl, fun w hSw => ?_⟩) HS ?_
      · clear hSw HS
        go_simp
      try simp only [Act.put, List.setIfInBounds_toArray, List.set_cons_zero, List.set_cons_succ]
      refine wpAnyT_take (i := 4) (v := .slice s.a3 s.n3 s.c3) rfl (by kernel_rfl) (fun _ _ _ h => h) (Or.inl ⟨by rfl, fun w hSw => ?_⟩) HS ?_
      · have cc := Bx.cell (hSw.1) 23 (v := .slice s.a3 s.n3 s.c3) rfl
        clear hSw HS
        go_simp
      try simp only [Act.put, List.setIfInBounds_toArray, List.set_cons_zero, List.set_cons_succ]
      refine wpAnyT_take (i := 5) (v := .int .i64 3) rfl (by kernel_rfl) (fun _ _ _ h => h) (Or.inl ⟨by rfl, fun w hSw => ?_⟩) HS ?_
      · clear hSw HS
        go_simp
      try simp only [Act.put, List.setIfInBounds_toArray, List.set_cons_zero, List.set_cons_succ]
      refine wpAnyT_take (i := 6) (v := .pointer (some ⟨B + 1, 5, none⟩)) rfl (by kernel_rfl) (fun _ _ _ h => h) (Or.inl ⟨by rfl, fun w hSw => ?_⟩) HS ?_
      · clear hSw HS
        go_simp
      try simp only [Act.put, List.setIfInBounds_toArray, List.set_cons_zero, List.set_cons_succ]
      refine wpAnyT_take (i := 7) (v := .pointer (some ⟨B + 1, 23, none⟩)) rfl (by kernel_rfl) (fun _ _ _ h => h) (Or.inl ⟨by rfl, fun w hSw => ?_⟩) HS ?_
      · clear hSw HS
        go_simp
      try simp only [Act.put, List.setIfInBounds_toArray, List.set_cons_zero, List.set_cons_succ]
      refine wpAnyT_take (i := 8) (v := .pointer (some ⟨B + 1, 23, none⟩)) rfl (by kernel_rfl) (fun _ _ _ h => h) (Or.inl ⟨by rfl, fun w hSw => ?_⟩) HS ?_
      · clear hSw HS
        go_simp
      try simp only [Act.put, List.setIfInBounds_toArray, List.set_cons_zero, List.set_cons_succ]
      refine wpAnyT_take (i := 9) (v := .slice s'.a3 s'.n3 s'.c3) rfl (by kernel_rfl) (fun _ _ _ h => h) (Or.inl ⟨by rfl, fun w hSw => ?_⟩) HS ?_
      · have cc := Bx.cell (hSw.2.1) 23 (v := .slice s'.a3 s'.n3 s'.c3) rfl
        clear hSw HS
        go_simp
      try simp only [Act.put, List.setIfInBounds_toArray, List.set_cons_zero, List.set_cons_succ]
      refine wpAnyT_one (k := 10) rfl (by kernel_rfl) (by decide) (fun K hK => ?_)
      go_simp
      refine (same_yes s.a3 s'.a3 s.n3 s.c3 s'.n3 s'.c3 r.s3.got _ HS.2.2.1.g3 HS.2.2.2.1.g3).mono ?_
      rintro e w2 ⟨rfl, hb⟩
      have HS : ((fun (W : World) => Bx W B 32 (rcs s r) ∧ Bx W (B + 1) 32 (rcs s' r) ∧ RcM W p s r ∧ RcM W q s' r ∧ Below B w W ∧ B ≤ W.heap.size)) _ := ⟨HS.1.kept hb, HS.2.1.kept hb, HS.2.2.1.keep hb, HS.2.2.2.1.keep hb, HS.2.2.2.2.1.trans (hb.mono HS.2.2.2.2.2), Nat.le_trans HS.2.2.2.2.2 hb.size⟩
      refine hK _ _ HS ?_
      clear hK K
      try simp only [Act.put, List.setIfInBounds_toArray, List.set_cons_zero, List.set_cons_succ]
      refine ⟨by kernel_rfl, ?_⟩
      simp only [List.drop_succ_cons, List.drop_zero]
      obtain ⟨e2, y2, f2, g2, b2, z2⟩ := HS
      clear e1 y1 f1 g1 b1 z1
      go_upto_region 5 with fail
      refine wp_region_tail 14 15 (fun (W : World) => Bx W B 32 (rcs s r) ∧ Bx W (B + 1) 32 (rcs s' r) ∧ RcM W p s r ∧ RcM W q s' r ∧ Below B w W ∧ B ≤ W.heap.size) (by kernel_rfl) (by rfl) (by decide) ?_
      have HS : ((fun (W : World) => Bx W B 32 (rcs s r) ∧ Bx W (B + 1) 32 (rcs s' r) ∧ RcM W p s r ∧ RcM W q s' r ∧ Below B w W ∧ B ≤ W.heap.size)) _ := ⟨e2.drew, y2.drew, f2.drew, g2.drew, b2.drew, z2⟩
      refine wpAnyT_take (i := 0) (v := .bool true) rfl (by kernel_rfl) (fun _ _ _ h => h) (Or.inl ⟨by rfl, fun w hSw => ?_⟩) HS ?_
      · clear hSw HS
        go_simp
      try simp only [Act.put, List.setIfInBounds_toArray, List.set_cons_zero, List.set_cons_succ]
      refine wpAnyT_take (i := 1) (v := .bool false) rfl (by kernel_rfl) (fun _ _ _ h => h) (Or.inl ⟨by rfl, fun w hSw => ?_⟩) HS ?_
      · clear hSw HS
        go_simp
      try simp only [Act.put, List.setIfInBounds_toArray, List.set_cons_zero, List.set_cons_succ]
      refine wpAnyT_take (i := 2) (v := .bool false) rfl (by kernel_rfl) (fun _ _ _ h => h) (Or.inl ⟨by rfl, fun w hSw => ?_⟩) HS ?_
      · clear hSw HS
        go_simp
      try simp only [Act.put, List.setIfInBounds_toArray, List.set_cons_zero, List.set_cons_succ]
      refine wpAnyT_take (i := 3) (v := .int .i64 3) rfl (by kernel_rfl) (fun _ _ _ h => h) (Or.inl ⟨by rfl, fun w hSw => ?_⟩) HS ?_
      · clear hSw HS
        go_simp
      try simp only [Act.put, List.setIfInBounds_toArray, List.set_cons_zero, List.set_cons_succ]
      refine wpAnyT_take (i := 4) (v := .pointer (some ⟨B, 5, none⟩)) rfl (by kernel_rfl) (fun _ _ _ h => h) (Or.inl ⟨by rfl, fun w hSw => ?_⟩) HS ?_
      · clear hSw HS
        go_simp
      try simp only [Act.put, List.setIfInBounds_toArray, List.set_cons_zero, List.set_cons_succ]
      refine wpAnyT_take (i := 5) (v := .pointer (some ⟨B, 23, none⟩)) rfl (by kernel_rfl) (fun _ _ _ h => h) (Or.inl ⟨by rfl, fun w hSw => ?_⟩) HS ?_
      · clear hSw HS
        go_simp
      try simp only [Act.put, List.setIfInBounds_toArray, List.set_cons_zero, List.set_cons_succ]
      refine wpAnyT_take (i := 6) (v := .pointer (some ⟨B, 24, none⟩)) rfl (by kernel_rfl) (fun _ _ _ h => h) (Or.inl ⟨by rfl, fun w hSw => ?_⟩) HS ?_
      · clear hSw HS
        go_simp
      try simp only [Act.put, List.setIfInBounds_toArray, List.set_cons_zero, List.set_cons_succ]
      refine wpAnyT_take (i := 7) (v := .agg #[.int .i64 r.s3.m.pk, .int .i64 r.s3.m.bt, .int .i64 r.s3.m.ca, .int .i64 r.s3.m.md, .int .i64 r.s3.m.pt]) rfl (by kernel_rfl) (fun _ _ _ h => h) (rsub_y (cs := rcs s r) (vs := [.int .i64 r.s3.m.pk, .int .i64 r.s3.m.bt, .int .i64 r.s3.m.ca, .int .i64 r.s3.m.md, .int .i64 r.s3.m.pt]) ir_marks (by rfl) (.tmp 28) rfl rfl (fun w hSw => hSw.1) rfl rfl) HS ?_
      try simp only [Act.put, List.setIfInBounds_toArray, List.set_cons_zero, List.set_cons_succ]
      refine wpAnyT_take (i := 8) (v := .int .i64 3) rfl (by kernel_rfl) (fun _ _ _ h => h) (Or.inl ⟨by rfl, fun w hSw => ?_⟩) HS ?_
      · clear hSw HS
        go_simp
      try simp only [Act.put, List.setIfInBounds_toArray, List.set_cons_zero, List.set_cons_succ]
      refine wpAnyT_take (i := 9) (v := .pointer (some ⟨B + 1, 5, none⟩)) rfl (by kernel_rfl) (fun _ _ _ h => h) (Or.inl ⟨by rfl, fun w hSw => ?_⟩) HS ?_
      · clear hSw HS
        go_simp
      try simp only [Act.put, List.setIfInBounds_toArray, List.set_cons_zero, List.set_cons_succ]
      refine wpAnyT_take (i := 10) (v := .pointer (some ⟨B + 1, 23, none⟩)) rfl (by kernel_rfl) (fun _ _ _ h => h) (Or.inl ⟨by rfl, fun w hSw => ?_⟩) HS ?_
      · clear hSw HS
        go_simp
      try simp only [Act.put, List.setIfInBounds_toArray, List.set_cons_zero, List.set_cons_succ]
      refine wpAnyT_take (i := 11) (v := .pointer (some ⟨B + 1, 24, none⟩)) rfl (by kernel_rfl) (fun _ _ _ h => h) (Or.inl ⟨by rfl, fun w hSw => ?_⟩) HS ?_
      · clear hSw HS
        go_simp
      try simp only [Act.put, List.setIfInBounds_toArray, List.set_cons_zero, List.set_cons_succ]
      refine wpAnyT_take (i := 12) (v := .agg #[.int .i64 r.s3.m.pk, .int .i64 r.s3.m.bt, .int .i64 r.s3.m.ca, .int .i64 r.s3.m.md, .int .i64 r.s3.m.pt]) rfl (by kernel_rfl) (fun _ _ _ h => h) (rsub_y (cs := rcs s' r) (vs := [.int .i64 r.s3.m.pk, .int .i64 r.s3.m.bt, .int .i64 r.s3.m.ca, .int .i64 r.s3.m.md, .int .i64 r.s3.m.pt]) ir_marks (by rfl) (.tmp 33) rfl rfl (fun w hSw => hSw.2.1) rfl rfl) HS ?_
      try simp only [Act.put, List.setIfInBounds_toArray, List.set_cons_zero, List.set_cons_succ]
      refine wpAnyT_take (i := 13) (v := .bool false) rfl (by kernel_rfl) (fun _ _ _ h => h) (Or.inl ⟨by rfl, fun w hSw => ?_⟩) HS ?_
      · clear hSw HS
        go_simp
      try simp only [Act.put, List.setIfInBounds_toArray, List.set_cons_zero, List.set_cons_succ]
      refine ⟨by kernel_rfl, ?_⟩
      simp only [List.drop_succ_cons, List.drop_zero]
      obtain ⟨e3, y3, f3, g3, b3, z3⟩ := HS
      clear e2 y2 f2 g2 b2 z2
      go_wp2_with fail
      go_roundw
      case rel => exact ⟨4, by omega, rfl, e3, y3, f3, g3, b3, z3⟩
      case measure => simp [intOf]
    · go_wp2_with (first | (refine rsub_load (cs := rcs s r) (vs := [.int .i64 r.w.base, .slice s.wa s.wn s.wc, .slice s.ga s.gn s.gc, .int .i64 r.w.cap, .int .i64 r.w.en]) ir_weave rfl (.tmp 37) rfl rfl e1 rfl rfl ?_) | (refine rsub_load (cs := rcs s' r) (vs := [.int .i64 r.w.base, .slice s'.wa s'.wn s'.wc, .slice s'.ga s'.gn s'.gc, .int .i64 r.w.cap, .int .i64 r.w.en]) ir_weave rfl (.tmp 39) rfl rfl y1 rfl rfl ?_))
      have hl := f1.b.rd.len.symm.trans g1.b.rd.len
      have hl2 := f1.g.rd.len.symm.trans g1.g.rd.len
      have hs1 := g1.b; have hs2 := g1.g
      rw [← hl] at hs1
      rw [← hl2] at hs2
      rw [← hl, ← hl2]
      refine (wsame_yes r.w.base s.wa s.wn s.wc s.ga s.gn s.gc r.w.cap r.w.en r.w.b r.w.got s'.wa s'.wc s'.ga s'.gc _ f1.b f1.g hs1 hs2).mono ?_
      rintro e w2 ⟨rfl, hb⟩
      have b2 := b1.trans (hb.mono z1)
      go_wp2_with fail
      go_ret
      exact ⟨rfl, b2⟩
end Go.Proofs.Ytggnhccpncgfiaa
