/- The walk of the law LeastTells. -/
import Derived.Test.YtihheanjlabioaaProg
import Derived.Test.YtihheanjlabioaaLeAwake
import Derived.Test.YtihheanjlabioaaLeIn
import Derived.Test.YtihheanjlabioaaTail
import Derived.OrdersHeld
import Derived.Deep.DeepCutAuto
import Derived.Deep.LoopGhost
import Derived.WalkKit
import Derived.WalkSpells
import Derived.WalkSmall
import Derived.Lib.Hide
import Derived.Below
import Derived.Outline
namespace Go.Proofs.Ytihheanjlabioaa.leastTells
open Go.RowKit
set_option linter.unusedVariables false
set_option linter.unusedSimpArgs false

/-- a whole windowed minimum is loaded, in a region that draws its order -/
theorem le_yields {ops : Array Oper} {S : World → Prop} {op : Oper} {a : Act} {B : Nat} (hw : Region.wanted op (yielded ops a.tmps) = true) (x : Operand) (ho : op.op = .load 24 x)
    (hx : a.eval x = .pointer (some ⟨B, 0, none⟩)) (cs : List Value) (hl : cs.length = 3) (t : TypeId) (hS : ∀ W, S W → Bx W B t cs) : YieldsIf Try.prog ops S op (.agg cs.toArray) a := by
  obtain ⟨fs, hu⟩ := least_struct
  exact .inl ⟨hw, fun w hw' => by
    unfold execOp
    simp only [ho, hx, Instr.loadAt, Instr.sureAddr, Sem.run_bind, Sem.run_pure, Result.andThen_ok, run_loadVar_row w B t 24 cs.toArray (0, 0) _ (hS w hw') hu rfl (by rw [info_least]; simp [hl])]⟩

set_option maxRecDepth 100000 in
set_option maxHeartbeats 8000000 in
theorem walk (span : Int) (A : Option Addr) (n c : Nat) (high : Int) (l : List Sp) (at_ nn : Int) (w : World) (hw1 : W64 span) (hw2 : W64 high) (hs : Ss w A n c l) :
    Calls Try.prog 3 #[.agg #[.int .i64 span, .slice A n c, .int .i64 high], .int .i64 at_, .int .i64 nn] w fun e w' => e = .returned (.bool true) ∧ Below w.heap.size w w' := by
  obtain ⟨B, hB⟩ : ∃ B, w.heap.size = B := ⟨_, rfl⟩
  rw [hB]
  have HL := Lib.hid hs.rd.len
  have e0 := Bx.new w 24 [.int .i64 span, .slice A n c, .int .i64 high]
  rw [hB] at e0
  have b0 : Below B w (w.alloc (.cells #[.int .i64 span, .slice A n c, .int .i64 high] 24)) := by rw [← hB]; exact (Below.refl _ _).alloc (Nat.le_refl _) _
  have s0 := hs.alloc (.cells #[.int .i64 span, .slice A n c, .int .i64 high] 24)
  clear hs hw1 hw2
  go_enter Try.func3, Try.ntmps3
  go_wp2_with fail
  generalize w.alloc (.cells #[.int .i64 span, .slice A n c, .int .i64 high] 24) = w0 at e0 b0 s0 ⊢
  refine (leawake_any _).mono ?_
  rintro e w1 ⟨rfl, hb1⟩
  have e1 := e0.kept hb1
  have s1 := s0.keep hb1
  have b1 := b0.trans (hb1.mono (Nat.le_of_lt e0.lt))
  by_cases hn : n ≤ 200
  case neg =>
    have x1 := e1.cell 1 rfl
    have hd : decide (200 < n) = true := decide_eq_true (by omega)
    go_wp2_with fail
    go_ret
    exact ⟨rfl, b1⟩
  case pos =>
  have hd : decide (200 < n) = false := decide_eq_false (by omega)
  have x1 := e1.cell 1 rfl
  go_wp2_with (refine le_load rfl (.tmp 3) rfl rfl e1 rfl ?_)
  refine (rlown_any span A n c high l _ s1 (by omega)).mono ?_
  rintro e w2 ⟨R0, d0, rfl, hr2, hb2⟩
  have e2 := (e1.kept hb2).alloc (.cells #[.int .i64 span, .slice R0 n d0, .int .i64 high] 24)
  have s2 := (s1.keep hb2).alloc (.cells #[.int .i64 span, .slice R0 n d0, .int .i64 high] 24)
  have b2 := (b1.trans (hb2.mono (Nat.le_of_lt e1.lt))).alloc (Nat.le_of_lt (e1.kept hb2).lt) (.cells #[.int .i64 span, .slice R0 n d0, .int .i64 high] 24)
  obtain ⟨V0, hV0⟩ : ∃ V, w2.heap.size = V := ⟨_, rfl⟩
  have v2 := Bx.new w2 24 [.int .i64 span, .slice R0 n d0, .int .i64 high]
  rw [hV0] at v2
  have r2 := hr2.ss.alloc (.cells #[.int .i64 span, .slice R0 n d0, .int .i64 high] 24)
  obtain ⟨x, hx⟩ : ∃ x, metR ⟨span, l, high⟩ at_ nn = x := ⟨_, rfl⟩
  obtain ⟨x, xb, xe⟩ := x
  obtain ⟨y, hy⟩ : ∃ y, ofR ⟨span, l, high⟩ at_ = y := ⟨_, rfl⟩
  obtain ⟨yn, yb⟩ := y
  have HX := Lib.hid hx; have HY := Lib.hid hy; clear hx hy
  go_wp2_with (refine le_load rfl (.tmp 3) rfl rfl e2 rfl ?_)
  refine (lemet_any span A n c high l at_ nn _ s2).mono ?_
  rintro e w3 ⟨R1, m1, d1, he, hr3, hb3⟩
  rw [HX.out] at he hr3
  dsimp only at he hr3
  subst he
  have e3 := (e2.kept hb3).alloc (.cells #[.int .i64 x.span, .slice R1 m1 d1, .int .i64 x.high] 24)
  have s3 := (s2.keep hb3).alloc (.cells #[.int .i64 x.span, .slice R1 m1 d1, .int .i64 x.high] 24)
  have v3 := (v2.kept hb3).alloc (.cells #[.int .i64 x.span, .slice R1 m1 d1, .int .i64 x.high] 24)
  have r3 := (r2.keep hb3).alloc (.cells #[.int .i64 x.span, .slice R1 m1 d1, .int .i64 x.high] 24)
  have b3 := (b2.trans (hb3.mono (Nat.le_of_lt e2.lt))).alloc (Nat.le_of_lt (e2.kept hb3).lt) (.cells #[.int .i64 x.span, .slice R1 m1 d1, .int .i64 x.high] 24)
  obtain ⟨V1, hV1⟩ : ∃ V, w3.heap.size = V := ⟨_, rfl⟩
  have p3 := Bx.new w3 24 [.int .i64 x.span, .slice R1 m1 d1, .int .i64 x.high]
  rw [hV1] at p3
  have q3 := hr3.ss.alloc (.cells #[.int .i64 x.span, .slice R1 m1 d1, .int .i64 x.high] 24)
  go_wp2_with (refine le_load rfl (.tmp 3) rfl rfl e3 rfl ?_)
  refine (rlmet_any span A n c high l at_ nn _ s3).mono ?_
  rintro e w4 ⟨R2, m2, d2, he, hr4, hb4⟩
  rw [HX.out] at he hr4
  dsimp only at he hr4
  subst he
  have e4 := (e3.kept hb4).alloc (.cells #[.int .i64 x.span, .slice R2 m2 d2, .int .i64 x.high] 24)
  have s4 := (s3.keep hb4).alloc (.cells #[.int .i64 x.span, .slice R2 m2 d2, .int .i64 x.high] 24)
  have v4 := (v3.kept hb4).alloc (.cells #[.int .i64 x.span, .slice R2 m2 d2, .int .i64 x.high] 24)
  have r4 := (r3.keep hb4).alloc (.cells #[.int .i64 x.span, .slice R2 m2 d2, .int .i64 x.high] 24)
  have p4 := (p3.kept hb4).alloc (.cells #[.int .i64 x.span, .slice R2 m2 d2, .int .i64 x.high] 24)
  have q4 := (q3.keep hb4).alloc (.cells #[.int .i64 x.span, .slice R2 m2 d2, .int .i64 x.high] 24)
  have b4 := (b3.trans (hb4.mono (Nat.le_of_lt e3.lt))).alloc (Nat.le_of_lt (e3.kept hb4).lt) (.cells #[.int .i64 x.span, .slice R2 m2 d2, .int .i64 x.high] 24)
  obtain ⟨V2, hV2⟩ : ∃ V, w4.heap.size = V := ⟨_, rfl⟩
  have u4 := Bx.new w4 24 [.int .i64 x.span, .slice R2 m2 d2, .int .i64 x.high]
  rw [hV2] at u4
  have t4 := hr4.ss.alloc (.cells #[.int .i64 x.span, .slice R2 m2 d2, .int .i64 x.high] 24)
  go_wp2_with (first | (refine le_load rfl (.tmp 9) rfl rfl p4 rfl ?_) | (refine le_load rfl (.tmp 12) rfl rfl u4 rfl ?_))
  refine (rlsame_yes x.span R1 m1 d1 x.high x.l R2 m2 d2 _ q4 t4).mono ?_
  rintro e w5 ⟨rfl, hb5⟩
  have e5 := e4.kept hb5
  have s5 := s4.keep hb5
  have v5 := v4.kept hb5
  have r5 := r4.keep hb5
  have p5 := p4.kept hb5
  have q5 := q4.keep hb5
  have u5 := u4.kept hb5
  have t5 := t4.keep hb5
  have b5 := b4.trans (hb5.mono (Nat.le_of_lt e4.lt))
  go_wp2_with (refine le_load rfl (.tmp 3) rfl rfl e5 rfl ?_)
  refine (leof_any span A n c high l at_ _ s5).mono ?_
  rintro e w6 ⟨rfl, hb6⟩
  rw [HY.out]
  dsimp only
  have e6 := e5.kept hb6
  have s6 := s5.keep hb6
  have v6 := v5.kept hb6
  have r6 := r5.keep hb6
  have p6 := p5.kept hb6
  have q6 := q5.keep hb6
  have u6 := u5.kept hb6
  have t6 := t5.keep hb6
  have b6 := b5.trans (hb6.mono (Nat.le_of_lt e5.lt))
  go_wp2_with (refine le_load rfl (.tmp 3) rfl rfl e6 rfl ?_)
  refine (rlof_any span A n c high l at_ _ s6).mono ?_
  rintro e w7 ⟨rfl, hb7⟩
  rw [HY.out]
  dsimp only
  have e7 := e6.kept hb7
  have s7 := s6.keep hb7
  have v7 := v6.kept hb7
  have r7 := r6.keep hb7
  have p7 := p6.kept hb7
  have q7 := q6.keep hb7
  have u7 := u6.kept hb7
  have t7 := t6.keep hb7
  have b7 := b6.trans (hb7.mono (Nat.le_of_lt e6.lt))
  go_upto_region 10 with fail
  refine wp_region_tail 33 34 (fun (W : World) => Bx W B 24 [.int .i64 span, .slice A n c, .int .i64 high] ∧ Bx W V0 24 [.int .i64 span, .slice R0 n d0, .int .i64 high] ∧ Ss W A n c l ∧ Ss W R0 n d0 l ∧ Below B w W) (by kernel_rfl) (by rfl) (by decide) ?_
  have HS : ((fun (W : World) => Bx W B 24 [.int .i64 span, .slice A n c, .int .i64 high] ∧ Bx W V0 24 [.int .i64 span, .slice R0 n d0, .int .i64 high] ∧ Ss W A n c l ∧ Ss W R0 n d0 l ∧ Below B w W)) _ := ⟨e7.drew, v7.drew, s7.keep (Below.refl _ _).drew, r7.keep (Below.refl _ _).drew, b7.drew⟩
  refine wpAnyT_take (i := 0) (v := ?vv1) rfl (by kernel_rfl) (fun _ _ _ h => h) (Or.inl ⟨by rfl, fun w hSw => ?yy1⟩) HS ?rr1
  case yy1 =>
    (try dsimp only at hSw); go_simp
    try with_reducible rfl
  try simp only [Act.put, List.setIfInBounds_toArray, List.set_cons_zero, List.set_cons_succ]
  refine wpAnyT_take (i := 1) (v := .bool true) rfl (by kernel_rfl) (fun _ _ _ h => h) (Or.inl ⟨by rfl, fun w hSw => ?_⟩) HS ?_
  · (try dsimp only at hSw); go_simp
  try simp only [Act.put, List.setIfInBounds_toArray, List.set_cons_zero, List.set_cons_succ]
  refine wpAnyT_take (i := 2) (v := ?vv3) rfl (by kernel_rfl) (fun _ _ _ h => h) (Or.inl ⟨by rfl, fun w hSw => ?yy3⟩) HS ?rr3
  case yy3 =>
    (try dsimp only at hSw); go_simp
    try with_reducible rfl
  try simp only [Act.put, List.setIfInBounds_toArray, List.set_cons_zero, List.set_cons_succ]
  refine wpAnyT_take (i := 3) (v := ?vv4) rfl (by kernel_rfl) (fun _ _ _ h => h) (Or.inl ⟨by rfl, fun w hSw => ?yy4⟩) HS ?rr4
  case yy4 =>
    (try dsimp only at hSw); go_simp
    try with_reducible rfl
  try simp only [Act.put, List.setIfInBounds_toArray, List.set_cons_zero, List.set_cons_succ]
  refine wpAnyT_take (i := 4) (v := .bool true) rfl (by kernel_rfl) (fun _ _ _ h => h) (Or.inl ⟨by rfl, fun w hSw => ?_⟩) HS ?_
  · (try dsimp only at hSw); go_simp
  try simp only [Act.put, List.setIfInBounds_toArray, List.set_cons_zero, List.set_cons_succ]
  refine wpAnyT_take (i := 5) (v := .bool true) rfl (by kernel_rfl) (fun _ _ _ h => h) (Or.inl ⟨by rfl, fun w hSw => ?_⟩) HS ?_
  · (try dsimp only at hSw); go_simp
  try simp only [Act.put, List.setIfInBounds_toArray, List.set_cons_zero, List.set_cons_succ]
  refine wpAnyT_take (i := 6) (v := .bool true) rfl (by kernel_rfl) (fun _ _ _ h => h) (Or.inl ⟨by rfl, fun w hSw => ?_⟩) HS ?_
  · (try dsimp only at hSw); go_simp
  try simp only [Act.put, List.setIfInBounds_toArray, List.set_cons_zero, List.set_cons_succ]
  refine wpAnyT_take (i := 7) (v := ?vv8) rfl (by kernel_rfl) (fun _ _ _ h => h) (Or.inl ⟨by rfl, fun w hSw => ?yy8⟩) HS ?rr8
  case yy8 =>
    (try dsimp only at hSw); go_simp
    try with_reducible rfl
  try simp only [Act.put, List.setIfInBounds_toArray, List.set_cons_zero, List.set_cons_succ]
  refine wpAnyT_take (i := 8) (v := ?vv9) rfl (by kernel_rfl) (fun _ _ _ h => h) (Or.inl ⟨by rfl, fun w hSw => ?yy9⟩) HS ?rr9
  case yy9 =>
    (try dsimp only at hSw); go_simp
    try with_reducible rfl
  try simp only [Act.put, List.setIfInBounds_toArray, List.set_cons_zero, List.set_cons_succ]
  refine wpAnyT_take (i := 9) (v := .bool true) rfl (by kernel_rfl) (fun _ _ _ h => h) (Or.inl ⟨by rfl, fun w hSw => ?_⟩) HS ?_
  · (try dsimp only at hSw); go_simp
  try simp only [Act.put, List.setIfInBounds_toArray, List.set_cons_zero, List.set_cons_succ]
  refine wpAnyT_take (i := 10) (v := .bool true) rfl (by kernel_rfl) (fun _ _ _ h => h) (Or.inl ⟨by rfl, fun w hSw => ?_⟩) HS ?_
  · (try dsimp only at hSw); go_simp
  try simp only [Act.put, List.setIfInBounds_toArray, List.set_cons_zero, List.set_cons_succ]
  refine wpAnyT_take (i := 11) (v := .bool true) rfl (by kernel_rfl) (fun _ _ _ h => h) (Or.inl ⟨by rfl, fun w hSw => ?_⟩) HS ?_
  · (try dsimp only at hSw); go_simp
  try simp only [Act.put, List.setIfInBounds_toArray, List.set_cons_zero, List.set_cons_succ]
  refine wpAnyT_take (i := 12) (v := ?vv13) rfl (by kernel_rfl) (fun _ _ _ h => h) (Or.inl ⟨by rfl, fun w hSw => ?yy13⟩) HS ?rr13
  case yy13 =>
    (try dsimp only at hSw); go_simp
    try with_reducible rfl
  try simp only [Act.put, List.setIfInBounds_toArray, List.set_cons_zero, List.set_cons_succ]
  refine wpAnyT_take (i := 13) (v := ?vv14) rfl (by kernel_rfl) (fun _ _ _ h => h) (Or.inl ⟨by rfl, fun w hSw => ?yy14⟩) HS ?rr14
  case yy14 =>
    (try dsimp only at hSw); go_simp
    try with_reducible rfl
  try simp only [Act.put, List.setIfInBounds_toArray, List.set_cons_zero, List.set_cons_succ]
  refine wpAnyT_take (i := 14) (v := .bool true) rfl (by kernel_rfl) (fun _ _ _ h => h) (Or.inl ⟨by rfl, fun w hSw => ?_⟩) HS ?_
  · (try dsimp only at hSw); go_simp
  try simp only [Act.put, List.setIfInBounds_toArray, List.set_cons_zero, List.set_cons_succ]
  refine wpAnyT_take (i := 15) (v := .bool true) rfl (by kernel_rfl) (fun _ _ _ h => h) (Or.inl ⟨by rfl, fun w hSw => ?_⟩) HS ?_
  · (try dsimp only at hSw); go_simp
  try simp only [Act.put, List.setIfInBounds_toArray, List.set_cons_zero, List.set_cons_succ]
  refine wpAnyT_take (i := 16) (v := .bool true) rfl (by kernel_rfl) (fun _ _ _ h => h) (Or.inl ⟨by rfl, fun w hSw => ?_⟩) HS ?_
  · (try dsimp only at hSw); go_simp
  try simp only [Act.put, List.setIfInBounds_toArray, List.set_cons_zero, List.set_cons_succ]
  refine wpAnyT_take (i := 17) (v := ?vv18) rfl (by kernel_rfl) (fun _ _ _ h => h) (Or.inl ⟨by rfl, fun w hSw => ?yy18⟩) HS ?rr18
  case yy18 =>
    (try dsimp only at hSw); go_simp
    try with_reducible rfl
  try simp only [Act.put, List.setIfInBounds_toArray, List.set_cons_zero, List.set_cons_succ]
  refine wpAnyT_take (i := 18) (v := ?vv19) rfl (by kernel_rfl) (fun _ _ _ h => h) (Or.inl ⟨by rfl, fun w hSw => ?yy19⟩) HS ?rr19
  case yy19 =>
    (try dsimp only at hSw); go_simp
    try with_reducible rfl
  try simp only [Act.put, List.setIfInBounds_toArray, List.set_cons_zero, List.set_cons_succ]
  refine wpAnyT_take (i := 19) (v := .bool true) rfl (by kernel_rfl) (fun _ _ _ h => h) (Or.inl ⟨by rfl, fun w hSw => ?_⟩) HS ?_
  · (try dsimp only at hSw); go_simp
  try simp only [Act.put, List.setIfInBounds_toArray, List.set_cons_zero, List.set_cons_succ]
  refine wpAnyT_take (i := 20) (v := .bool true) rfl (by kernel_rfl) (fun _ _ _ h => h) (Or.inl ⟨by rfl, fun w hSw => ?_⟩) HS ?_
  · (try dsimp only at hSw); go_simp
  try simp only [Act.put, List.setIfInBounds_toArray, List.set_cons_zero, List.set_cons_succ]
  refine wpAnyT_take (i := 21) (v := .bool true) rfl (by kernel_rfl) (fun _ _ _ h => h) (Or.inl ⟨by rfl, fun w hSw => ?_⟩) HS ?_
  · (try dsimp only at hSw); go_simp
  try simp only [Act.put, List.setIfInBounds_toArray, List.set_cons_zero, List.set_cons_succ]
  refine wpAnyT_take (i := 22) (v := .agg #[.int .i64 span, .slice A n c, .int .i64 high]) rfl (by kernel_rfl) (fun _ _ _ h => h) (le_yields (by rfl) (.tmp 3) rfl rfl [.int .i64 span, .slice A n c, .int .i64 high] rfl 24 (fun W hW => hW.1)) HS ?_
  try simp only [Act.put, List.setIfInBounds_toArray, List.set_cons_zero, List.set_cons_succ]
  refine wpAnyT_take (i := 23) (v := .agg #[.int .i64 span, .slice R0 n d0, .int .i64 high]) rfl (by kernel_rfl) (fun _ _ _ h => h) (le_yields (by rfl) (.tmp 8) rfl rfl [.int .i64 span, .slice R0 n d0, .int .i64 high] rfl 24 (fun W hW => hW.2.1)) HS ?_
  try simp only [Act.put, List.setIfInBounds_toArray, List.set_cons_zero, List.set_cons_succ]
  refine wpAnyT_one (k := 24) rfl (by kernel_rfl) (by decide) (fun K hK => ?_)
  go_simp
  refine (rlsame_yes span A n c high l R0 n d0 _ HS.2.2.1 HS.2.2.2.1).mono ?_; rintro e wz24 ⟨rfl, hz24⟩
  have HS : ((fun (W : World) => Bx W B 24 [.int .i64 span, .slice A n c, .int .i64 high] ∧ Bx W V0 24 [.int .i64 span, .slice R0 n d0, .int .i64 high] ∧ Ss W A n c l ∧ Ss W R0 n d0 l ∧ Below B w W)) _ := ⟨HS.1.kept hz24, HS.2.1.kept hz24, HS.2.2.1.keep hz24, HS.2.2.2.1.keep hz24, HS.2.2.2.2.trans (hz24.mono (Nat.le_of_lt HS.1.lt))⟩
  refine hK _ _ HS ?_
  clear hK K
  try simp only [Act.put, List.setIfInBounds_toArray, List.set_cons_zero, List.set_cons_succ]
  refine wpAnyT_take (i := 25) (v := .bool true) rfl (by kernel_rfl) (fun _ _ _ h => h) (Or.inl ⟨by rfl, fun w hSw => ?_⟩) HS ?_
  · (try dsimp only at hSw); go_simp
  try simp only [Act.put, List.setIfInBounds_toArray, List.set_cons_zero, List.set_cons_succ]
  refine wpAnyT_take (i := 26) (v := .bool true) rfl (by kernel_rfl) (fun _ _ _ h => h) (Or.inl ⟨by rfl, fun w hSw => ?_⟩) HS ?_
  · (try dsimp only at hSw); go_simp
  try simp only [Act.put, List.setIfInBounds_toArray, List.set_cons_zero, List.set_cons_succ]
  refine wpAnyT_take (i := 27) (v := .agg #[.int .i64 span, .slice A n c, .int .i64 high]) rfl (by kernel_rfl) (fun _ _ _ h => h) (le_yields (by rfl) (.tmp 3) rfl rfl [.int .i64 span, .slice A n c, .int .i64 high] rfl 24 (fun W hW => hW.1)) HS ?_
  try simp only [Act.put, List.setIfInBounds_toArray, List.set_cons_zero, List.set_cons_succ]
  refine wpAnyT_take (i := 29) (v := .agg #[.int .i64 span, .slice A n c, .int .i64 high]) rfl (by kernel_rfl) (fun _ _ _ h => h) (le_yields (by rfl) (.tmp 3) rfl rfl [.int .i64 span, .slice A n c, .int .i64 high] rfl 24 (fun W hW => hW.1)) HS ?_
  try simp only [Act.put, List.setIfInBounds_toArray, List.set_cons_zero, List.set_cons_succ]
  refine wpAnyT_one (k := 28) rfl (by kernel_rfl) (by decide) (fun K hK => ?_)
  go_simp
  refine (lemay_any span A n c high l _ HS.2.2.1).mono ?_; rintro e wz28 ⟨rfl, hz28⟩
  have HS : ((fun (W : World) => Bx W B 24 [.int .i64 span, .slice A n c, .int .i64 high] ∧ Bx W V0 24 [.int .i64 span, .slice R0 n d0, .int .i64 high] ∧ Ss W A n c l ∧ Ss W R0 n d0 l ∧ Below B w W)) _ := ⟨HS.1.kept hz28, HS.2.1.kept hz28, HS.2.2.1.keep hz28, HS.2.2.2.1.keep hz28, HS.2.2.2.2.trans (hz28.mono (Nat.le_of_lt HS.1.lt))⟩
  refine hK _ _ HS ?_
  clear hK K
  try simp only [Act.put, List.setIfInBounds_toArray, List.set_cons_zero, List.set_cons_succ]
  refine wpAnyT_one (k := 30) rfl (by kernel_rfl) (by decide) (fun K hK => ?_)
  go_simp
  refine (rlmay_any span A n c high l _ HS.2.2.1).mono ?_; rintro e wz30 ⟨rfl, hz30⟩
  have HS : ((fun (W : World) => Bx W B 24 [.int .i64 span, .slice A n c, .int .i64 high] ∧ Bx W V0 24 [.int .i64 span, .slice R0 n d0, .int .i64 high] ∧ Ss W A n c l ∧ Ss W R0 n d0 l ∧ Below B w W)) _ := ⟨HS.1.kept hz30, HS.2.1.kept hz30, HS.2.2.1.keep hz30, HS.2.2.2.1.keep hz30, HS.2.2.2.2.trans (hz30.mono (Nat.le_of_lt HS.1.lt))⟩
  refine hK _ _ HS ?_
  clear hK K
  try simp only [Act.put, List.setIfInBounds_toArray, List.set_cons_zero, List.set_cons_succ]
  refine wpAnyT_take (i := 31) (v := .bool true) rfl (by kernel_rfl) (fun _ _ _ h => h) (Or.inl ⟨by rfl, fun w hSw => ?_⟩) HS ?_
  · (try dsimp only at hSw); go_simp
  try simp only [Act.put, List.setIfInBounds_toArray, List.set_cons_zero, List.set_cons_succ]
  refine wpAnyT_take (i := 32) (v := .bool true) rfl (by kernel_rfl) (fun _ _ _ h => h) (Or.inl ⟨by rfl, fun w hSw => ?_⟩) HS ?_
  · (try dsimp only at hSw); go_simp
  try simp only [Act.put, List.setIfInBounds_toArray, List.set_cons_zero, List.set_cons_succ]
  refine ⟨by kernel_rfl, ?_⟩
  simp only [List.drop_succ_cons, List.drop_zero]
  have bz := HS.2.2.2.2
  go_wp2_with fail
  go_ret
  exact ⟨rfl, bz⟩
end Go.Proofs.Ytihheanjlabioaa.leastTells
