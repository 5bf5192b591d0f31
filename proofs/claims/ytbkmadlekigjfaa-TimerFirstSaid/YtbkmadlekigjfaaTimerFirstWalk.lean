/- TimerFirst: the walk. -/
import Derived.Test.YtbkmadlekigjfaaProg
import Derived.Test.YtbkmadlekigjfaaTmAwake
import Derived.Test.YtbkmadlekigjfaaTmMath
import Derived.Test.YtbkmadlekigjfaaTail2
import Derived.WalkKit
import Derived.WalkSpells
import Derived.WalkSmall
import Derived.Lib.Hide
import Derived.Below
import Derived.Outline
import Derived.Deep.QuietTactic
import Derived.BigQuiet
import Derived.IntWalk
import Derived.Deep.DeepCutAuto
import Derived.OrdersHeld
import Derived.StillTail
import Derived.Test.YtbkmadlekigjfaaTail
import Derived.Laws.Rows
import Derived.Laws.Tables
namespace Go.Proofs.Ytbkmadlekigjfaa.timerFirst
open Go.RowKit
set_option linter.unusedVariables false
set_option linter.unusedSimpArgs false
theorem info_tmr : (Try.prog.info? 28).map (fun i => (i.zero, i.size, i.bytes)) = some (some (.agg #[.int .i64 0, .int .i64 0]), 2, 16) := by kernel_rfl
theorem first_ok {l : List Tmr} (h : AllOk l) : TmW (firstR l) := by
  rcases first_in l with e | e
  · rw [e]; exact ⟨by unfold i64 ztm; decide, by unfold i64 ztm; decide⟩
  · exact h _ e
theorem none_any (w : World) : Calls Try.prog 15 #[.slice none 0 0] w fun e w' => e = .returned (.agg #[.int .i64 0, .int .i64 0]) ∧ Below w.heap.size w w' := tifirst_any none 0 0 [] w (Se.none _)
set_option maxRecDepth 100000 in
set_option maxHeartbeats 8000000 in
theorem walk (A : Option Addr) (n c : Nat) (l : List Tmr) (A' : Option Addr) (n' c' : Nat) (k : List Tmr) (w : World) (hs : Se w A n c l) (ht : Se w A' n' c' k) :
    Calls Try.prog 7 #[.slice A n c, .slice A' n' c'] w fun e w' => e = .returned (.bool true) ∧ Below w.heap.size w w' := by
  obtain ⟨B, hB⟩ : ∃ B, w.heap.size = B := ⟨_, rfl⟩
  rw [hB]
  have m1 := hs.le; have m2 := hs.max; have m4 := ht.le; have m5 := ht.max
  have m3 : n ≤ 9223372036854775807 := by unfold maxLen at m2; omega
  have m6 : n' ≤ 9223372036854775807 := by unfold maxLen at m5; omega
  clear m1 m2 m4 m5
  have HL := Lib.hid hs.rd.len; have HL' := Lib.hid ht.rd.len; have HO := Lib.hid hs.rd.ok; have HO' := Lib.hid ht.rd.ok; have HN := Lib.hid hs.nil; have HN' := Lib.hid ht.nil
  go_enter Try.func7, Try.ntmps7
  go_wp2_with fail
  refine (tiawake_any _).mono ?_
  rintro e w2 ⟨rfl, b2⟩
  have s2 := hs.keep b2; have z2 := ht.keep b2
  have bs2 := b2.size
  rw [hB] at b2 bs2
  clear hs ht hB
  by_cases c0 : 50 < n
  case pos =>
    have d0 : decide ((50 : Int) < (n : Int)) = true := decide_eq_true (by omega)
    have d0' : decide (50 < n) = true := decide_eq_true c0
    go_wp2_with fail
    go_ret
    exact ⟨rfl, b2⟩
  have d0 : decide ((50 : Int) < (n : Int)) = false := decide_eq_false (by omega)
  have d0' : decide (50 < n) = false := decide_eq_false c0
  by_cases c1 : 50 < n'
  case pos =>
    have d1 : decide ((50 : Int) < (n' : Int)) = true := decide_eq_true (by omega)
    have d1' : decide (50 < n') = true := decide_eq_true c1
    go_wp2_with fail
    go_ret
    exact ⟨rfl, b2⟩
  have d1 : decide ((50 : Int) < (n' : Int)) = false := decide_eq_false (by omega)
  have d1' : decide (50 < n') = false := decide_eq_false c1
  obtain ⟨X, hX⟩ : ∃ X, firstR l = X := ⟨_, rfl⟩
  obtain ⟨Y, hY⟩ : ∃ Y, firstR k = Y := ⟨_, rfl⟩
  obtain ⟨G, hG⟩ : ∃ G, firstR (l ++ k) = G := ⟨_, rfl⟩
  have hXY : firstR [X, Y] = G := by rw [← hX, ← hY, ← hG]; exact (first_app l k).symm
  have hXo : TmW X := by rw [← hX]; exact first_ok HO.out
  have hYo : TmW Y := by rw [← hY]; exact first_ok HO'.out
  have HX := Lib.hid hX; have HY := Lib.hid hY; have HG := Lib.hid hG; have HXY := Lib.hid hXY; have HXO := Lib.hid hXo; have HYO := Lib.hid hYo
  clear hX hY hG hXY hXo hYo
  go_wp2_with fail
  refine (tifirst_any A n c l _ s2).mono ?_
  rintro e u3 ⟨rfl, hb3⟩
  rw [HX.out]
  have hB2 : B ≤ w2.heap.size := bs2
  have b3 := (b2.trans (hb3.mono hB2)).alloc (Nat.le_trans hB2 hb3.size) (.cells #[.int .i64 X.kd, .int .i64 X.at_] 28)
  have bs3 : B ≤ (u3.alloc (.cells #[.int .i64 X.kd, .int .i64 X.at_] 28)).heap.size := by rw [World.size_alloc]; exact Nat.le_trans hB2 (Nat.le_trans hb3.size (Nat.le_succ _))
  have s3 := (s2.keep hb3).alloc (.cells #[.int .i64 X.kd, .int .i64 X.at_] 28)
  have z3 := (z2.keep hb3).alloc (.cells #[.int .i64 X.kd, .int .i64 X.at_] 28)
  have x3 := Bx.new u3 28 [.int .i64 X.kd, .int .i64 X.at_]
  clear s2 z2 b2 bs2 hB2 hb3
  go_upto_region 5 with fail
  obtain ⟨Qx, hQ⟩ : ∃ Q, u3.heap.size = Q := ⟨_, rfl⟩
  rw [hQ] at x3 ⊢
  generalize u3.alloc (.cells #[.int .i64 X.kd, .int .i64 X.at_] 28) = w3 at x3 s3 z3 b3 bs3 ⊢
  clear hQ
  go_wp2_with fail
  refine (tifirst_any A' n' c' k _ z3).mono ?_
  rintro e u4 ⟨rfl, hb4⟩
  rw [HY.out]
  have hB3 : B ≤ w3.heap.size := bs3
  have x4 := (x3.kept hb4).alloc (.cells #[.int .i64 Y.kd, .int .i64 Y.at_] 28)
  have b4 := (b3.trans (hb4.mono hB3)).alloc (Nat.le_trans hB3 hb4.size) (.cells #[.int .i64 Y.kd, .int .i64 Y.at_] 28)
  have bs4 : B ≤ (u4.alloc (.cells #[.int .i64 Y.kd, .int .i64 Y.at_] 28)).heap.size := by rw [World.size_alloc]; exact Nat.le_trans hB3 (Nat.le_trans hb4.size (Nat.le_succ _))
  have s4 := (s3.keep hb4).alloc (.cells #[.int .i64 Y.kd, .int .i64 Y.at_] 28)
  have z4 := (z3.keep hb4).alloc (.cells #[.int .i64 Y.kd, .int .i64 Y.at_] 28)
  have y4 := Bx.new u4 28 [.int .i64 Y.kd, .int .i64 Y.at_]
  clear x3 s3 z3 b3 bs3 hB3 hb4
  go_upto_region 6 with fail
  obtain ⟨Qy, hQ⟩ : ∃ Q, u4.heap.size = Q := ⟨_, rfl⟩
  rw [hQ] at y4 ⊢
  generalize u4.alloc (.cells #[.int .i64 Y.kd, .int .i64 Y.at_] 28) = w4 at x4 y4 s4 z4 b4 bs4 ⊢
  clear hQ
  obtain ⟨M, hM⟩ : ∃ M, w4.heap.size = M := ⟨_, rfl⟩
  have hMM := Nat.le_of_eq hM.symm
  have hxM : Qx < M := by rw [← hM]; exact x4.lt
  have hyM : Qy < M := by rw [← hM]; exact y4.lt
  have hBM : B ≤ M := by rw [← hM]; exact bs4
  go_wp2_with (first
    | (at_builtin; refine wpList_appe w4 rfl (.const (.slice none 0 0)) (.tmp 28) 25 rfl M 28 Try.underlying25 (.agg #[.int .i64 0, .int .i64 0]) 16 info_tmr (by decide) _ 0 ([] : List Tmr) rfl (Goe.none _ _ _) rfl HN.out s4.rd (by unfold maxLen; omega) (by omega) (Nat.le_of_eq hM.symm) ?_; intro v5 a5 hg5 hgr5 hv5; clear hv5
       have g5 : Goe a5 M 28 v5 n l := by have := hg5; simpa using this
       have hc5 : Below M w4 a5 := (Below.refl _ _).grown hgr5 (Nat.le_of_eq hM.symm) (fun k hk => by cases hk)
       have hz5 := z4.keep (by rw [hM]; exact hc5)
       have hs5 := s4.keep (by rw [hM]; exact hc5)
       have hM5 : M ≤ a5.heap.size := Nat.le_trans (Nat.le_of_eq hM.symm) hc5.size
       have HG5 := Lib.hid g5; clear hg5 g5)
    | (at_builtin; refine wpList_appe a5 rfl (.tmp 29) (.tmp 30) 25 rfl M 28 Try.underlying25 (.agg #[.int .i64 0, .int .i64 0]) 16 info_tmr (by decide) _ n l rfl HG5.out rfl HN'.out hz5.rd (by unfold maxLen; omega) (by omega) hM5 ?_; intro v6 a6 hg6 hgr6 hv6; clear hv6
       have hc6 : Below M w4 a6 := hc5.grown hgr6 hM5 (fun k hk => (HG5.out.row.lt k hk).1)
       obtain ⟨E6, f6, rfl, q6⟩ := hg6.se; clear hg6))
  have x5 := x4.below hc6 hxM; have y5 := y4.below hc6 hyM; have b5 := b4.trans (hc6.mono hBM); have s5 := s4.keep (by rw [hM]; exact hc6); have z5 := z4.keep (by rw [hM]; exact hc6)
  have bs5 : B ≤ a6.heap.size := Nat.le_trans hBM (Nat.le_trans (Nat.le_of_eq hM.symm) hc6.size)
  clear x4 y4 b4 s4 z4 bs4 hc6 hc5 hz5 hs5 hgr5 hgr6 HG5 hxM hyM hBM hM5 hM hMM
  refine (tifirst_any _ _ _ (l ++ k) _ q6).mono ?_
  rintro e u6 ⟨rfl, hb6⟩
  rw [HG.out]
  have hB5 : B ≤ a6.heap.size := bs5
  have x6 := (x5.kept hb6).alloc (.cells #[.int .i64 G.kd, .int .i64 G.at_] 28)
  have y6 := (y5.kept hb6).alloc (.cells #[.int .i64 G.kd, .int .i64 G.at_] 28)
  have b6 := (b5.trans (hb6.mono hB5)).alloc (Nat.le_trans hB5 hb6.size) (.cells #[.int .i64 G.kd, .int .i64 G.at_] 28)
  have bs6 : B ≤ (u6.alloc (.cells #[.int .i64 G.kd, .int .i64 G.at_] 28)).heap.size := by rw [World.size_alloc]; exact Nat.le_trans hB5 (Nat.le_trans hb6.size (Nat.le_succ _))
  have s6 := (s5.keep hb6).alloc (.cells #[.int .i64 G.kd, .int .i64 G.at_] 28)
  have z6 := (z5.keep hb6).alloc (.cells #[.int .i64 G.kd, .int .i64 G.at_] 28)
  have g6 := Bx.new u6 28 [.int .i64 G.kd, .int .i64 G.at_]
  clear q6 x5 y5 s5 z5 b5 bs5 hB5 hb6
  go_upto_region 7 with fail
  obtain ⟨Qg, hQ⟩ : ∃ Q, u6.heap.size = Q := ⟨_, rfl⟩
  rw [hQ] at g6 ⊢
  generalize u6.alloc (.cells #[.int .i64 G.kd, .int .i64 G.at_] 28) = w6 at x6 y6 g6 s6 z6 b6 bs6 ⊢
  clear hQ
  go_wp2_with fail
  refine (none_any w6).mono ?_
  rintro e u7 ⟨rfl, hb7⟩
  have hB6 : B ≤ w6.heap.size := bs6
  have x7 := (x6.kept hb7).alloc (.cells #[.int .i64 0, .int .i64 0] 28)
  have y7 := (y6.kept hb7).alloc (.cells #[.int .i64 0, .int .i64 0] 28)
  have g7 := (g6.kept hb7).alloc (.cells #[.int .i64 0, .int .i64 0] 28)
  have b7 := (b6.trans (hb7.mono hB6)).alloc (Nat.le_trans hB6 hb7.size) (.cells #[.int .i64 0, .int .i64 0] 28)
  have bs7 : B ≤ (u7.alloc (.cells #[.int .i64 0, .int .i64 0] 28)).heap.size := by rw [World.size_alloc]; exact Nat.le_trans hB6 (Nat.le_trans hb7.size (Nat.le_succ _))
  have s7 := (s6.keep hb7).alloc (.cells #[.int .i64 0, .int .i64 0] 28)
  have z7 := (z6.keep hb7).alloc (.cells #[.int .i64 0, .int .i64 0] 28)
  have v7 := Bx.new u7 28 [.int .i64 0, .int .i64 0]
  clear x6 y6 g6 s6 z6 b6 bs6 hB6 hb7
  go_upto_region 8 with fail
  obtain ⟨Qv, hQ⟩ : ∃ Q, u7.heap.size = Q := ⟨_, rfl⟩
  rw [hQ] at v7 ⊢
  generalize u7.alloc (.cells #[.int .i64 0, .int .i64 0] 28) = w7 at x7 y7 g7 v7 s7 z7 b7 bs7 ⊢
  clear hQ
  by_cases n0 : n = 0
  case pos =>
    subst n0
    have dn1 : ((0 : Int) == 1) = false := rfl
    have dd : Below w7.heap.size w7 w7.drew := (Below.refl _ _).drew
    refine wp_region_tail 15 16 (fun (W : World) => Bx W Qx 28 [.int .i64 X.kd, .int .i64 X.at_] ∧ Bx W Qy 28 [.int .i64 Y.kd, .int .i64 Y.at_] ∧ Bx W Qg 28 [.int .i64 G.kd, .int .i64 G.at_] ∧ Bx W Qv 28 [.int .i64 0, .int .i64 0] ∧ Below w7.heap.size w7 W) (by kernel_rfl) (by rfl) (by decide) ?_
    have HS : ((fun (W : World) => Bx W Qx 28 [.int .i64 X.kd, .int .i64 X.at_] ∧ Bx W Qy 28 [.int .i64 Y.kd, .int .i64 Y.at_] ∧ Bx W Qg 28 [.int .i64 G.kd, .int .i64 G.at_] ∧ Bx W Qv 28 [.int .i64 0, .int .i64 0] ∧ Below w7.heap.size w7 W)) _ := ⟨x7.kept dd, y7.kept dd, g7.kept dd, v7.kept dd, dd⟩
    refine wpAnyT_take (i := 0) (v := ?vv1) rfl (by kernel_rfl) (fun _ _ _ h => h) (Or.inl ⟨by rfl, fun w hSw => ?yy1⟩) HS ?rr1
    case yy1 =>
      (try dsimp only at hSw); go_simp
      try with_reducible rfl
    try simp only [Act.put, List.setIfInBounds_toArray, List.set_cons_zero, List.set_cons_succ]
    refine wpAnyT_take (i := 1) (v := ?vv2) rfl (by kernel_rfl) (fun _ _ _ h => h) (Or.inl ⟨by rfl, fun w hSw => ?yy2⟩) HS ?rr2
    case yy2 =>
      (try dsimp only at hSw); go_simp
      try with_reducible rfl
    try simp only [Act.put, List.setIfInBounds_toArray, List.set_cons_zero, List.set_cons_succ]
    refine wpAnyT_take (i := 2) (v := ?vv3) rfl (by kernel_rfl) (fun _ _ _ h => h) (Or.inl ⟨by rfl, fun w hSw => ?yy3⟩) HS ?rr3
    case yy3 =>
      (try dsimp only at hSw); go_simp
      try with_reducible rfl
    try simp only [Act.put, List.setIfInBounds_toArray, List.set_cons_zero, List.set_cons_succ]
    refine wpAnyT_take (i := 3) (v := ?vv4) rfl (by kernel_rfl) (fun _ _ _ h => h) (Or.inl ⟨by rfl, fun w hSw => ?yy4⟩) HS ?rr4
    case yy4 =>
      (try dsimp only at hSw); go_simp
      try with_reducible rfl
    try simp only [Act.put, List.setIfInBounds_toArray, List.set_cons_zero, List.set_cons_succ]
    refine wpAnyT_take (i := 4) (v := undef) rfl (by kernel_rfl) (fun _ _ _ h => h) (Or.inr ⟨by kernel_rfl, rfl⟩) HS ?_
    try simp only [Act.put, List.setIfInBounds_toArray, List.set_cons_zero, List.set_cons_succ]
    refine wpAnyT_take (i := 5) (v := undef) rfl (by kernel_rfl) (fun _ _ _ h => h) (Or.inr ⟨by kernel_rfl, rfl⟩) HS ?_
    try simp only [Act.put, List.setIfInBounds_toArray, List.set_cons_zero, List.set_cons_succ]
    refine wpAnyT_take (i := 6) (v := undef) rfl (by kernel_rfl) (fun _ _ _ h => h) (Or.inr ⟨by kernel_rfl, rfl⟩) HS ?_
    try simp only [Act.put, List.setIfInBounds_toArray, List.set_cons_zero, List.set_cons_succ]
    refine wpAnyT_take (i := 7) (v := undef) rfl (by kernel_rfl) (fun _ _ _ h => h) (Or.inr ⟨by kernel_rfl, rfl⟩) HS ?_
    try simp only [Act.put, List.setIfInBounds_toArray, List.set_cons_zero, List.set_cons_succ]
    refine wpAnyT_take (i := 8) (v := ?vv5) rfl (by kernel_rfl) (fun _ _ _ h => h) (Or.inl ⟨by rfl, fun w hSw => ?yy5⟩) HS ?rr5
    case yy5 =>
      (try dsimp only at hSw); go_simp
      try with_reducible rfl
    try simp only [Act.put, List.setIfInBounds_toArray, List.set_cons_zero, List.set_cons_succ]
    refine wpAnyT_take (i := 9) (v := ?vv6) rfl (by kernel_rfl) (fun _ _ _ h => h) (Or.inl ⟨by rfl, fun w hSw => ?yy6⟩) HS ?rr6
    case yy6 =>
      (try dsimp only at hSw); go_simp
      try with_reducible rfl
    try simp only [Act.put, List.setIfInBounds_toArray, List.set_cons_zero, List.set_cons_succ]
    refine wpAnyT_take (i := 10) (v := undef) rfl (by kernel_rfl) (fun _ _ _ h => h) (Or.inr ⟨by kernel_rfl, rfl⟩) HS ?_
    try simp only [Act.put, List.setIfInBounds_toArray, List.set_cons_zero, List.set_cons_succ]
    refine wpAnyT_take (i := 11) (v := undef) rfl (by kernel_rfl) (fun _ _ _ h => h) (Or.inr ⟨by kernel_rfl, rfl⟩) HS ?_
    try simp only [Act.put, List.setIfInBounds_toArray, List.set_cons_zero, List.set_cons_succ]
    refine wpAnyT_take (i := 12) (v := undef) rfl (by kernel_rfl) (fun _ _ _ h => h) (Or.inr ⟨by kernel_rfl, rfl⟩) HS ?_
    try simp only [Act.put, List.setIfInBounds_toArray, List.set_cons_zero, List.set_cons_succ]
    refine wpAnyT_take (i := 13) (v := undef) rfl (by kernel_rfl) (fun _ _ _ h => h) (Or.inr ⟨by kernel_rfl, rfl⟩) HS ?_
    try simp only [Act.put, List.setIfInBounds_toArray, List.set_cons_zero, List.set_cons_succ]
    refine wpAnyT_take (i := 14) (v := undef) rfl (by kernel_rfl) (fun _ _ _ h => h) (Or.inr ⟨by kernel_rfl, rfl⟩) HS ?_
    try simp only [Act.put, List.setIfInBounds_toArray, List.set_cons_zero, List.set_cons_succ]
    refine ⟨by kernel_rfl, ?_⟩
    simp only [List.drop_succ_cons, List.drop_zero]
    obtain ⟨x8, y8, g8, v8, hb8⟩ := HS
    go_wp2_with fail
    have b8 : Below B w _ := b7.trans (hb8.mono bs7)
    have bs8 := Nat.le_trans bs7 hb8.size
    clear x7 y7 g7 v7 s7 z7 b7 bs7 hb8 dd
    generalize w7.drew = w8 at x8 y8 g8 v8 b8 bs8 ⊢
    have dd : Below w8.heap.size w8 w8.drew := (Below.refl _ _).drew
    refine wp_region_tail 21 22 (fun (W : World) => Bx W Qx 28 [.int .i64 X.kd, .int .i64 X.at_] ∧ Bx W Qy 28 [.int .i64 Y.kd, .int .i64 Y.at_] ∧ Bx W Qg 28 [.int .i64 G.kd, .int .i64 G.at_] ∧ Bx W Qv 28 [.int .i64 0, .int .i64 0] ∧ Below w8.heap.size w8 W) (by kernel_rfl) (by rfl) (by decide) ?_
    have HS : ((fun (W : World) => Bx W Qx 28 [.int .i64 X.kd, .int .i64 X.at_] ∧ Bx W Qy 28 [.int .i64 Y.kd, .int .i64 Y.at_] ∧ Bx W Qg 28 [.int .i64 G.kd, .int .i64 G.at_] ∧ Bx W Qv 28 [.int .i64 0, .int .i64 0] ∧ Below w8.heap.size w8 W)) _ := ⟨x8.kept dd, y8.kept dd, g8.kept dd, v8.kept dd, dd⟩
    refine wpAnyT_take (i := 0) (v := .agg #[.int .i64 G.kd, .int .i64 G.at_]) rfl (by kernel_rfl) (fun _ _ _ h => h) (tm_yields (by rfl) (.tmp 8) rfl rfl [.int .i64 G.kd, .int .i64 G.at_] rfl 28 (fun W hW => hW.2.2.1)) HS ?_
    try simp only [Act.put, List.setIfInBounds_toArray, List.set_cons_zero, List.set_cons_succ]
    refine wpAnyT_take (i := 1) (v := .agg #[.int .i64 X.kd, .int .i64 X.at_]) rfl (by kernel_rfl) (fun _ _ _ h => h) (tm_yields (by rfl) (.tmp 6) rfl rfl [.int .i64 X.kd, .int .i64 X.at_] rfl 28 (fun W hW => hW.1)) HS ?_
    try simp only [Act.put, List.setIfInBounds_toArray, List.set_cons_zero, List.set_cons_succ]
    refine wpAnyT_take (i := 2) (v := .agg #[.int .i64 Y.kd, .int .i64 Y.at_]) rfl (by kernel_rfl) (fun _ _ _ h => h) (tm_yields (by rfl) (.tmp 7) rfl rfl [.int .i64 Y.kd, .int .i64 Y.at_] rfl 28 (fun W hW => hW.2.1)) HS ?_
    try simp only [Act.put, List.setIfInBounds_toArray, List.set_cons_zero, List.set_cons_succ]
    refine wpAnyT_one (k := 3) rfl (by kernel_rfl) (by decide) (fun K hK => ?_)
    go_simp
    have hA : Below w8.heap.size w8 (w8.alloc (.cells #[.int .i64 X.kd, .int .i64 X.at_, .int .i64 Y.kd, .int .i64 Y.at_] 28)).drew := ((Below.refl _ _).alloc (Nat.le_refl _) _).drew
    have p9 := (Bx.new w8 28 [.int .i64 X.kd, .int .i64 X.at_, .int .i64 Y.kd, .int .i64 Y.at_]).kept (Below.refl _ _).drew
    have HS : ((fun (W : World) => Bx W Qx 28 [.int .i64 X.kd, .int .i64 X.at_] ∧ Bx W Qy 28 [.int .i64 Y.kd, .int .i64 Y.at_] ∧ Bx W Qg 28 [.int .i64 G.kd, .int .i64 G.at_] ∧ Bx W Qv 28 [.int .i64 0, .int .i64 0] ∧ Below w8.heap.size w8 W)) (w8.alloc (.cells #[.int .i64 X.kd, .int .i64 X.at_, .int .i64 Y.kd, .int .i64 Y.at_] 28)).drew := ⟨x8.kept hA, y8.kept hA, g8.kept hA, v8.kept hA, hA⟩
    have hq9 : w8.heap.size ≤ w8.heap.size := Nat.le_refl _
    refine hK _ _ HS ?_
    clear hK K
    generalize (w8.alloc (.cells #[.int .i64 X.kd, .int .i64 X.at_, .int .i64 Y.kd, .int .i64 Y.at_] 28)).drew = w9 at HS p9 ⊢
    try simp only [Act.put, List.setIfInBounds_toArray, List.set_cons_zero, List.set_cons_succ]
    refine wpAnyT_one (k := 4) rfl (by kernel_rfl) (by decide) (fun K hK => ?_)
    go_simp
    refine (tifirst_any (some ⟨w8.heap.size, 0, none⟩) 2 2 [X, Y] _ (bx_se (t := 28) p9 rfl (by unfold maxLen; omega) (by intro t ht; simp at ht; rcases ht with rfl | rfl; exact HXO.out; exact HYO.out))).mono ?_
    rintro e y2 ⟨rfl, hy2⟩
    rw [HXY.out]
    have HS : ((fun (W : World) => Bx W Qx 28 [.int .i64 X.kd, .int .i64 X.at_] ∧ Bx W Qy 28 [.int .i64 Y.kd, .int .i64 Y.at_] ∧ Bx W Qg 28 [.int .i64 G.kd, .int .i64 G.at_] ∧ Bx W Qv 28 [.int .i64 0, .int .i64 0] ∧ Below w8.heap.size w8 W)) _ := ⟨HS.1.kept hy2, HS.2.1.kept hy2, HS.2.2.1.kept hy2, HS.2.2.2.1.kept hy2, HS.2.2.2.2.trans (hy2.mono HS.2.2.2.2.size)⟩
    refine hK _ _ HS ?_
    clear hK K p9
    try simp only [Act.put, List.setIfInBounds_toArray, List.set_cons_zero, List.set_cons_succ]
    have hl0 : l = [] := List.length_eq_zero_iff.1 HL.out
    have hX0 : X = ztm := by rw [← HX.out, hl0]; rfl
    have hx0 : X.kd = 0 := by rw [hX0]; rfl
    have hx1 : X.at_ = 0 := by rw [hX0]; rfl
    clear hl0 hX0
    refine wpAnyT_take (i := 5) (v := ?vv7) rfl (by kernel_rfl) (fun _ _ _ h => h) (Or.inl ⟨by rfl, fun w hSw => ?yy7⟩) HS ?rr7
    case yy7 =>
      (try dsimp only at hSw); go_simp
      try with_reducible rfl
    try simp only [Act.put, List.setIfInBounds_toArray, List.set_cons_zero, List.set_cons_succ]
    refine wpAnyT_take (i := 6) (v := ?vv8) rfl (by kernel_rfl) (fun _ _ _ h => h) (Or.inl ⟨by rfl, fun w hSw => ?yy8⟩) HS ?rr8
    case yy8 =>
      (try dsimp only at hSw); go_simp
      try with_reducible rfl
    try simp only [Act.put, List.setIfInBounds_toArray, List.set_cons_zero, List.set_cons_succ]
    refine wpAnyT_take (i := 7) (v := .agg #[.int .i64 0, .int .i64 0]) rfl (by kernel_rfl) (fun _ _ _ h => h) (tm_yields (by rfl) (.tmp 9) rfl rfl [.int .i64 0, .int .i64 0] rfl 28 (fun W hW => hW.2.2.2.1)) HS ?_
    try simp only [Act.put, List.setIfInBounds_toArray, List.set_cons_zero, List.set_cons_succ]
    refine wpAnyT_take (i := 8) (v := ?vv9) rfl (by kernel_rfl) (fun _ _ _ h => h) (Or.inl ⟨by rfl, fun w hSw => ?yy9⟩) HS ?rr9
    case yy9 =>
      (try dsimp only at hSw); go_simp
      try with_reducible rfl
    try simp only [Act.put, List.setIfInBounds_toArray, List.set_cons_zero, List.set_cons_succ]
    refine wpAnyT_take (i := 9) (v := ?vv10) rfl (by kernel_rfl) (fun _ _ _ h => h) (Or.inl ⟨by rfl, fun w hSw => ?yy10⟩) HS ?rr10
    case yy10 =>
      (try dsimp only at hSw); go_simp
      try with_reducible rfl
    try simp only [Act.put, List.setIfInBounds_toArray, List.set_cons_zero, List.set_cons_succ]
    refine wpAnyT_take (i := 10) (v := ?vv11) rfl (by kernel_rfl) (fun _ _ _ h => h) (Or.inl ⟨by rfl, fun w hSw => ?yy11⟩) HS ?rr11
    case yy11 =>
      (try dsimp only at hSw); go_simp
      try with_reducible rfl
    try simp only [Act.put, List.setIfInBounds_toArray, List.set_cons_zero, List.set_cons_succ]
    refine wpAnyT_take (i := 11) (v := ?vv12) rfl (by kernel_rfl) (fun _ _ _ h => h) (Or.inl ⟨by rfl, fun w hSw => ?yy12⟩) HS ?rr12
    case yy12 =>
      (try dsimp only at hSw); go_simp
      try with_reducible rfl
    try simp only [Act.put, List.setIfInBounds_toArray, List.set_cons_zero, List.set_cons_succ]
    refine wpAnyT_take (i := 12) (v := ?vv13) rfl (by kernel_rfl) (fun _ _ _ h => h) (Or.inl ⟨by rfl, fun w hSw => ?yy13⟩) HS ?rr13
    case yy13 =>
      (try dsimp only at hSw); go_simp
      try with_reducible rfl
    try simp only [Act.put, List.setIfInBounds_toArray, List.set_cons_zero, List.set_cons_succ]
    refine wpAnyT_take (i := 13) (v := ?vv14) rfl (by kernel_rfl) (fun _ _ _ h => h) (Or.inl ⟨by rfl, fun w hSw => ?yy14⟩) HS ?rr14
    case yy14 =>
      (try dsimp only at hSw); go_simp
      try with_reducible rfl
    try simp only [Act.put, List.setIfInBounds_toArray, List.set_cons_zero, List.set_cons_succ]
    refine wpAnyT_take (i := 14) (v := ?vv15) rfl (by kernel_rfl) (fun _ _ _ h => h) (Or.inl ⟨by rfl, fun w hSw => ?yy15⟩) HS ?rr15
    case yy15 =>
      (try dsimp only at hSw); go_simp
      try with_reducible rfl
    try simp only [Act.put, List.setIfInBounds_toArray, List.set_cons_zero, List.set_cons_succ]
    refine wpAnyT_take (i := 15) (v := ?vv16) rfl (by kernel_rfl) (fun _ _ _ h => h) (Or.inl ⟨by rfl, fun w hSw => ?yy16⟩) HS ?rr16
    case yy16 =>
      (try dsimp only at hSw); go_simp
      try with_reducible rfl
    try simp only [Act.put, List.setIfInBounds_toArray, List.set_cons_zero, List.set_cons_succ]
    refine wpAnyT_take (i := 16) (v := .agg #[.int .i64 X.kd, .int .i64 X.at_]) rfl (by kernel_rfl) (fun _ _ _ h => h) (tm_yields (by rfl) (.tmp 6) rfl rfl [.int .i64 X.kd, .int .i64 X.at_] rfl 28 (fun W hW => hW.1)) HS ?_
    try simp only [Act.put, List.setIfInBounds_toArray, List.set_cons_zero, List.set_cons_succ]
    refine wpAnyT_take (i := 17) (v := .agg #[.int .i64 0, .int .i64 0]) rfl (by kernel_rfl) (fun _ _ _ h => h) (tm_yields (by rfl) (.tmp 9) rfl rfl [.int .i64 0, .int .i64 0] rfl 28 (fun W hW => hW.2.2.2.1)) HS ?_
    try simp only [Act.put, List.setIfInBounds_toArray, List.set_cons_zero, List.set_cons_succ]
    refine wpAnyT_take (i := 18) (v := ?vv17) rfl (by kernel_rfl) (fun _ _ _ h => h) (Or.inl ⟨by rfl, fun w hSw => ?yy17⟩) HS ?rr17
    case yy17 =>
      (try dsimp only at hSw); go_simp
      try with_reducible rfl
    try simp only [Act.put, List.setIfInBounds_toArray, List.set_cons_zero, List.set_cons_succ]
    refine wpAnyT_take (i := 19) (v := ?vv18) rfl (by kernel_rfl) (fun _ _ _ h => h) (Or.inl ⟨by rfl, fun w hSw => ?yy18⟩) HS ?rr18
    case yy18 =>
      (try dsimp only at hSw); go_simp
      try with_reducible rfl
    try simp only [Act.put, List.setIfInBounds_toArray, List.set_cons_zero, List.set_cons_succ]
    refine wpAnyT_take (i := 20) (v := ?vv19) rfl (by kernel_rfl) (fun _ _ _ h => h) (Or.inl ⟨by rfl, fun w hSw => ?yy19⟩) HS ?rr19
    case yy19 =>
      (try dsimp only at hSw); go_simp
      try with_reducible rfl
    try simp only [Act.put, List.setIfInBounds_toArray, List.set_cons_zero, List.set_cons_succ]
    refine ⟨by kernel_rfl, ?_⟩
    simp only [List.drop_succ_cons, List.drop_zero]
    have bz := b8.trans (HS.2.2.2.2.mono bs8)
    clear HS
    go_wp2_with fail
    go_ret
    exact ⟨rfl, bz⟩
  case neg =>
  have dpos : decide (0 < n) = true := decide_eq_true (by omega)
  have dpos' : decide ((0 : Int) < (n : Int)) = true := decide_eq_true (by omega)
  by_cases n1 : n = 1
  case neg =>
    have dn1 : ((n : Int) == 1) = false := by
      have : (n : Int) ≠ 1 := by omega
      simpa using this
    have dn1' : (n == 1) = false := by simpa using n1
    have dd : Below w7.heap.size w7 w7.drew := (Below.refl _ _).drew
    refine wp_region_tail 15 16 (fun (W : World) => Bx W Qx 28 [.int .i64 X.kd, .int .i64 X.at_] ∧ Bx W Qy 28 [.int .i64 Y.kd, .int .i64 Y.at_] ∧ Bx W Qg 28 [.int .i64 G.kd, .int .i64 G.at_] ∧ Bx W Qv 28 [.int .i64 0, .int .i64 0] ∧ Below w7.heap.size w7 W) (by kernel_rfl) (by rfl) (by decide) ?_
    have HS : ((fun (W : World) => Bx W Qx 28 [.int .i64 X.kd, .int .i64 X.at_] ∧ Bx W Qy 28 [.int .i64 Y.kd, .int .i64 Y.at_] ∧ Bx W Qg 28 [.int .i64 G.kd, .int .i64 G.at_] ∧ Bx W Qv 28 [.int .i64 0, .int .i64 0] ∧ Below w7.heap.size w7 W)) _ := ⟨x7.kept dd, y7.kept dd, g7.kept dd, v7.kept dd, dd⟩
    refine wpAnyT_take (i := 0) (v := ?vv20) rfl (by kernel_rfl) (fun _ _ _ h => h) (Or.inl ⟨by rfl, fun w hSw => ?yy20⟩) HS ?rr20
    case yy20 =>
      (try dsimp only at hSw); go_simp
      try with_reducible rfl
    try simp only [Act.put, List.setIfInBounds_toArray, List.set_cons_zero, List.set_cons_succ]
    refine wpAnyT_take (i := 1) (v := ?vv21) rfl (by kernel_rfl) (fun _ _ _ h => h) (Or.inl ⟨by rfl, fun w hSw => ?yy21⟩) HS ?rr21
    case yy21 =>
      (try dsimp only at hSw); go_simp
      try with_reducible rfl
    try simp only [Act.put, List.setIfInBounds_toArray, List.set_cons_zero, List.set_cons_succ]
    refine wpAnyT_take (i := 2) (v := ?vv22) rfl (by kernel_rfl) (fun _ _ _ h => h) (Or.inl ⟨by rfl, fun w hSw => ?yy22⟩) HS ?rr22
    case yy22 =>
      (try dsimp only at hSw); go_simp
      try with_reducible rfl
    try simp only [Act.put, List.setIfInBounds_toArray, List.set_cons_zero, List.set_cons_succ]
    refine wpAnyT_take (i := 3) (v := ?vv23) rfl (by kernel_rfl) (fun _ _ _ h => h) (Or.inl ⟨by rfl, fun w hSw => ?yy23⟩) HS ?rr23
    case yy23 =>
      (try dsimp only at hSw); go_simp
      try with_reducible rfl
    try simp only [Act.put, List.setIfInBounds_toArray, List.set_cons_zero, List.set_cons_succ]
    refine wpAnyT_take (i := 4) (v := undef) rfl (by kernel_rfl) (fun _ _ _ h => h) (Or.inr ⟨by kernel_rfl, rfl⟩) HS ?_
    try simp only [Act.put, List.setIfInBounds_toArray, List.set_cons_zero, List.set_cons_succ]
    refine wpAnyT_take (i := 5) (v := undef) rfl (by kernel_rfl) (fun _ _ _ h => h) (Or.inr ⟨by kernel_rfl, rfl⟩) HS ?_
    try simp only [Act.put, List.setIfInBounds_toArray, List.set_cons_zero, List.set_cons_succ]
    refine wpAnyT_take (i := 6) (v := undef) rfl (by kernel_rfl) (fun _ _ _ h => h) (Or.inr ⟨by kernel_rfl, rfl⟩) HS ?_
    try simp only [Act.put, List.setIfInBounds_toArray, List.set_cons_zero, List.set_cons_succ]
    refine wpAnyT_take (i := 7) (v := undef) rfl (by kernel_rfl) (fun _ _ _ h => h) (Or.inr ⟨by kernel_rfl, rfl⟩) HS ?_
    try simp only [Act.put, List.setIfInBounds_toArray, List.set_cons_zero, List.set_cons_succ]
    refine wpAnyT_take (i := 8) (v := ?vv24) rfl (by kernel_rfl) (fun _ _ _ h => h) (Or.inl ⟨by rfl, fun w hSw => ?yy24⟩) HS ?rr24
    case yy24 =>
      (try dsimp only at hSw); go_simp
      try with_reducible rfl
    try simp only [Act.put, List.setIfInBounds_toArray, List.set_cons_zero, List.set_cons_succ]
    refine wpAnyT_take (i := 9) (v := ?vv25) rfl (by kernel_rfl) (fun _ _ _ h => h) (Or.inl ⟨by rfl, fun w hSw => ?yy25⟩) HS ?rr25
    case yy25 =>
      (try dsimp only at hSw); go_simp
      try with_reducible rfl
    try simp only [Act.put, List.setIfInBounds_toArray, List.set_cons_zero, List.set_cons_succ]
    refine wpAnyT_take (i := 10) (v := undef) rfl (by kernel_rfl) (fun _ _ _ h => h) (Or.inr ⟨by kernel_rfl, rfl⟩) HS ?_
    try simp only [Act.put, List.setIfInBounds_toArray, List.set_cons_zero, List.set_cons_succ]
    refine wpAnyT_take (i := 11) (v := undef) rfl (by kernel_rfl) (fun _ _ _ h => h) (Or.inr ⟨by kernel_rfl, rfl⟩) HS ?_
    try simp only [Act.put, List.setIfInBounds_toArray, List.set_cons_zero, List.set_cons_succ]
    refine wpAnyT_take (i := 12) (v := undef) rfl (by kernel_rfl) (fun _ _ _ h => h) (Or.inr ⟨by kernel_rfl, rfl⟩) HS ?_
    try simp only [Act.put, List.setIfInBounds_toArray, List.set_cons_zero, List.set_cons_succ]
    refine wpAnyT_take (i := 13) (v := undef) rfl (by kernel_rfl) (fun _ _ _ h => h) (Or.inr ⟨by kernel_rfl, rfl⟩) HS ?_
    try simp only [Act.put, List.setIfInBounds_toArray, List.set_cons_zero, List.set_cons_succ]
    refine wpAnyT_take (i := 14) (v := undef) rfl (by kernel_rfl) (fun _ _ _ h => h) (Or.inr ⟨by kernel_rfl, rfl⟩) HS ?_
    try simp only [Act.put, List.setIfInBounds_toArray, List.set_cons_zero, List.set_cons_succ]
    refine ⟨by kernel_rfl, ?_⟩
    simp only [List.drop_succ_cons, List.drop_zero]
    obtain ⟨x8, y8, g8, v8, hb8⟩ := HS
    go_wp2_with fail
    have b8 : Below B w _ := b7.trans (hb8.mono bs7)
    have bs8 := Nat.le_trans bs7 hb8.size
    clear x7 y7 g7 v7 s7 z7 b7 bs7 hb8 dd
    generalize w7.drew = w8 at x8 y8 g8 v8 b8 bs8 ⊢
    have dd : Below w8.heap.size w8 w8.drew := (Below.refl _ _).drew
    refine wp_region_tail 21 22 (fun (W : World) => Bx W Qx 28 [.int .i64 X.kd, .int .i64 X.at_] ∧ Bx W Qy 28 [.int .i64 Y.kd, .int .i64 Y.at_] ∧ Bx W Qg 28 [.int .i64 G.kd, .int .i64 G.at_] ∧ Bx W Qv 28 [.int .i64 0, .int .i64 0] ∧ Below w8.heap.size w8 W) (by kernel_rfl) (by rfl) (by decide) ?_
    have HS : ((fun (W : World) => Bx W Qx 28 [.int .i64 X.kd, .int .i64 X.at_] ∧ Bx W Qy 28 [.int .i64 Y.kd, .int .i64 Y.at_] ∧ Bx W Qg 28 [.int .i64 G.kd, .int .i64 G.at_] ∧ Bx W Qv 28 [.int .i64 0, .int .i64 0] ∧ Below w8.heap.size w8 W)) _ := ⟨x8.kept dd, y8.kept dd, g8.kept dd, v8.kept dd, dd⟩
    refine wpAnyT_take (i := 0) (v := .agg #[.int .i64 G.kd, .int .i64 G.at_]) rfl (by kernel_rfl) (fun _ _ _ h => h) (tm_yields (by rfl) (.tmp 8) rfl rfl [.int .i64 G.kd, .int .i64 G.at_] rfl 28 (fun W hW => hW.2.2.1)) HS ?_
    try simp only [Act.put, List.setIfInBounds_toArray, List.set_cons_zero, List.set_cons_succ]
    refine wpAnyT_take (i := 1) (v := .agg #[.int .i64 X.kd, .int .i64 X.at_]) rfl (by kernel_rfl) (fun _ _ _ h => h) (tm_yields (by rfl) (.tmp 6) rfl rfl [.int .i64 X.kd, .int .i64 X.at_] rfl 28 (fun W hW => hW.1)) HS ?_
    try simp only [Act.put, List.setIfInBounds_toArray, List.set_cons_zero, List.set_cons_succ]
    refine wpAnyT_take (i := 2) (v := .agg #[.int .i64 Y.kd, .int .i64 Y.at_]) rfl (by kernel_rfl) (fun _ _ _ h => h) (tm_yields (by rfl) (.tmp 7) rfl rfl [.int .i64 Y.kd, .int .i64 Y.at_] rfl 28 (fun W hW => hW.2.1)) HS ?_
    try simp only [Act.put, List.setIfInBounds_toArray, List.set_cons_zero, List.set_cons_succ]
    refine wpAnyT_one (k := 3) rfl (by kernel_rfl) (by decide) (fun K hK => ?_)
    go_simp
    have hA : Below w8.heap.size w8 (w8.alloc (.cells #[.int .i64 X.kd, .int .i64 X.at_, .int .i64 Y.kd, .int .i64 Y.at_] 28)).drew := ((Below.refl _ _).alloc (Nat.le_refl _) _).drew
    have p9 := (Bx.new w8 28 [.int .i64 X.kd, .int .i64 X.at_, .int .i64 Y.kd, .int .i64 Y.at_]).kept (Below.refl _ _).drew
    have HS : ((fun (W : World) => Bx W Qx 28 [.int .i64 X.kd, .int .i64 X.at_] ∧ Bx W Qy 28 [.int .i64 Y.kd, .int .i64 Y.at_] ∧ Bx W Qg 28 [.int .i64 G.kd, .int .i64 G.at_] ∧ Bx W Qv 28 [.int .i64 0, .int .i64 0] ∧ Below w8.heap.size w8 W)) (w8.alloc (.cells #[.int .i64 X.kd, .int .i64 X.at_, .int .i64 Y.kd, .int .i64 Y.at_] 28)).drew := ⟨x8.kept hA, y8.kept hA, g8.kept hA, v8.kept hA, hA⟩
    have hq9 : w8.heap.size ≤ w8.heap.size := Nat.le_refl _
    refine hK _ _ HS ?_
    clear hK K
    generalize (w8.alloc (.cells #[.int .i64 X.kd, .int .i64 X.at_, .int .i64 Y.kd, .int .i64 Y.at_] 28)).drew = w9 at HS p9 ⊢
    try simp only [Act.put, List.setIfInBounds_toArray, List.set_cons_zero, List.set_cons_succ]
    refine wpAnyT_one (k := 4) rfl (by kernel_rfl) (by decide) (fun K hK => ?_)
    go_simp
    refine (tifirst_any (some ⟨w8.heap.size, 0, none⟩) 2 2 [X, Y] _ (bx_se (t := 28) p9 rfl (by unfold maxLen; omega) (by intro t ht; simp at ht; rcases ht with rfl | rfl; exact HXO.out; exact HYO.out))).mono ?_
    rintro e y2 ⟨rfl, hy2⟩
    rw [HXY.out]
    have HS : ((fun (W : World) => Bx W Qx 28 [.int .i64 X.kd, .int .i64 X.at_] ∧ Bx W Qy 28 [.int .i64 Y.kd, .int .i64 Y.at_] ∧ Bx W Qg 28 [.int .i64 G.kd, .int .i64 G.at_] ∧ Bx W Qv 28 [.int .i64 0, .int .i64 0] ∧ Below w8.heap.size w8 W)) _ := ⟨HS.1.kept hy2, HS.2.1.kept hy2, HS.2.2.1.kept hy2, HS.2.2.2.1.kept hy2, HS.2.2.2.2.trans (hy2.mono HS.2.2.2.2.size)⟩
    refine hK _ _ HS ?_
    clear hK K p9
    try simp only [Act.put, List.setIfInBounds_toArray, List.set_cons_zero, List.set_cons_succ]
    refine wpAnyT_take (i := 5) (v := ?vv26) rfl (by kernel_rfl) (fun _ _ _ h => h) (Or.inl ⟨by rfl, fun w hSw => ?yy26⟩) HS ?rr26
    case yy26 =>
      (try dsimp only at hSw); go_simp
      try with_reducible rfl
    try simp only [Act.put, List.setIfInBounds_toArray, List.set_cons_zero, List.set_cons_succ]
    refine wpAnyT_take (i := 6) (v := ?vv27) rfl (by kernel_rfl) (fun _ _ _ h => h) (Or.inl ⟨by rfl, fun w hSw => ?yy27⟩) HS ?rr27
    case yy27 =>
      (try dsimp only at hSw); go_simp
      try with_reducible rfl
    try simp only [Act.put, List.setIfInBounds_toArray, List.set_cons_zero, List.set_cons_succ]
    refine wpAnyT_take (i := 7) (v := .agg #[.int .i64 0, .int .i64 0]) rfl (by kernel_rfl) (fun _ _ _ h => h) (tm_yields (by rfl) (.tmp 9) rfl rfl [.int .i64 0, .int .i64 0] rfl 28 (fun W hW => hW.2.2.2.1)) HS ?_
    try simp only [Act.put, List.setIfInBounds_toArray, List.set_cons_zero, List.set_cons_succ]
    refine wpAnyT_take (i := 8) (v := ?vv28) rfl (by kernel_rfl) (fun _ _ _ h => h) (Or.inl ⟨by rfl, fun w hSw => ?yy28⟩) HS ?rr28
    case yy28 =>
      (try dsimp only at hSw); go_simp
      try with_reducible rfl
    try simp only [Act.put, List.setIfInBounds_toArray, List.set_cons_zero, List.set_cons_succ]
    refine wpAnyT_take (i := 9) (v := ?vv29) rfl (by kernel_rfl) (fun _ _ _ h => h) (Or.inl ⟨by rfl, fun w hSw => ?yy29⟩) HS ?rr29
    case yy29 =>
      (try dsimp only at hSw); go_simp
      try with_reducible rfl
    try simp only [Act.put, List.setIfInBounds_toArray, List.set_cons_zero, List.set_cons_succ]
    refine wpAnyT_take (i := 10) (v := ?vv30) rfl (by kernel_rfl) (fun _ _ _ h => h) (Or.inl ⟨by rfl, fun w hSw => ?yy30⟩) HS ?rr30
    case yy30 =>
      (try dsimp only at hSw); go_simp
      try with_reducible rfl
    try simp only [Act.put, List.setIfInBounds_toArray, List.set_cons_zero, List.set_cons_succ]
    refine wpAnyT_take (i := 11) (v := ?vv31) rfl (by kernel_rfl) (fun _ _ _ h => h) (Or.inl ⟨by rfl, fun w hSw => ?yy31⟩) HS ?rr31
    case yy31 =>
      (try dsimp only at hSw); go_simp
      try with_reducible rfl
    try simp only [Act.put, List.setIfInBounds_toArray, List.set_cons_zero, List.set_cons_succ]
    refine wpAnyT_take (i := 12) (v := ?vv32) rfl (by kernel_rfl) (fun _ _ _ h => h) (Or.inl ⟨by rfl, fun w hSw => ?yy32⟩) HS ?rr32
    case yy32 =>
      (try dsimp only at hSw); go_simp
      try with_reducible rfl
    try simp only [Act.put, List.setIfInBounds_toArray, List.set_cons_zero, List.set_cons_succ]
    refine wpAnyT_take (i := 13) (v := ?vv33) rfl (by kernel_rfl) (fun _ _ _ h => h) (Or.inl ⟨by rfl, fun w hSw => ?yy33⟩) HS ?rr33
    case yy33 =>
      (try dsimp only at hSw); go_simp
      try with_reducible rfl
    try simp only [Act.put, List.setIfInBounds_toArray, List.set_cons_zero, List.set_cons_succ]
    refine wpAnyT_take (i := 14) (v := ?vv34) rfl (by kernel_rfl) (fun _ _ _ h => h) (Or.inl ⟨by rfl, fun w hSw => ?yy34⟩) HS ?rr34
    case yy34 =>
      (try dsimp only at hSw); go_simp
      try with_reducible rfl
    try simp only [Act.put, List.setIfInBounds_toArray, List.set_cons_zero, List.set_cons_succ]
    refine wpAnyT_take (i := 15) (v := ?vv35) rfl (by kernel_rfl) (fun _ _ _ h => h) (Or.inl ⟨by rfl, fun w hSw => ?yy35⟩) HS ?rr35
    case yy35 =>
      (try dsimp only at hSw); go_simp
      try with_reducible rfl
    try simp only [Act.put, List.setIfInBounds_toArray, List.set_cons_zero, List.set_cons_succ]
    refine wpAnyT_take (i := 16) (v := undef) rfl (by kernel_rfl) (fun _ _ _ h => h) (Or.inr ⟨by kernel_rfl, rfl⟩) HS ?_
    try simp only [Act.put, List.setIfInBounds_toArray, List.set_cons_zero, List.set_cons_succ]
    refine wpAnyT_take (i := 17) (v := undef) rfl (by kernel_rfl) (fun _ _ _ h => h) (Or.inr ⟨by kernel_rfl, rfl⟩) HS ?_
    try simp only [Act.put, List.setIfInBounds_toArray, List.set_cons_zero, List.set_cons_succ]
    refine wpAnyT_take (i := 18) (v := undef) rfl (by kernel_rfl) (fun _ _ _ h => h) (Or.inr ⟨by kernel_rfl, rfl⟩) HS ?_
    try simp only [Act.put, List.setIfInBounds_toArray, List.set_cons_zero, List.set_cons_succ]
    refine wpAnyT_take (i := 19) (v := ?vv36) rfl (by kernel_rfl) (fun _ _ _ h => h) (Or.inl ⟨by rfl, fun w hSw => ?yy36⟩) HS ?rr36
    case yy36 =>
      (try dsimp only at hSw); go_simp
      try with_reducible rfl
    try simp only [Act.put, List.setIfInBounds_toArray, List.set_cons_zero, List.set_cons_succ]
    refine wpAnyT_take (i := 20) (v := ?vv37) rfl (by kernel_rfl) (fun _ _ _ h => h) (Or.inl ⟨by rfl, fun w hSw => ?yy37⟩) HS ?rr37
    case yy37 =>
      (try dsimp only at hSw); go_simp
      try with_reducible rfl
    try simp only [Act.put, List.setIfInBounds_toArray, List.set_cons_zero, List.set_cons_succ]
    refine ⟨by kernel_rfl, ?_⟩
    simp only [List.drop_succ_cons, List.drop_zero]
    have bz := b8.trans (HS.2.2.2.2.mono bs8)
    clear HS
    go_wp2_with fail
    go_ret
    exact ⟨rfl, bz⟩
  case pos =>
  subst n1
  clear n0
  obtain ⟨ab, ao, rfl, hal, hc⟩ := s7.rd.at_ (by omega)
  have PX := tm_at hc (show 0 < 1 by omega)
  rw [Nat.zero_mul, Nat.add_zero] at PX
  obtain ⟨p, hp⟩ : ∃ p, ge l 0 = p := ⟨_, rfl⟩
  rw [hp] at PX
  have hlp : l = [p] := by
    have h1 := HL.out
    obtain ⟨y, rfl⟩ := List.length_eq_one_iff.1 h1
    rw [← hp]; rfl
  clear hc hp
  cases hq : tmB p with
  | false =>
    have HQ := Lib.hid hq
    clear hq hlp
    have dd : Below w7.heap.size w7 w7.drew := (Below.refl _ _).drew
    refine wp_region_tail 15 16 (fun (W : World) => Bx W Qx 28 [.int .i64 X.kd, .int .i64 X.at_] ∧ Bx W Qy 28 [.int .i64 Y.kd, .int .i64 Y.at_] ∧ Bx W Qg 28 [.int .i64 G.kd, .int .i64 G.at_] ∧ Bx W Qv 28 [.int .i64 0, .int .i64 0] ∧ Below w7.heap.size w7 W) (by kernel_rfl) (by rfl) (by decide) ?_
    have HS : ((fun (W : World) => Bx W Qx 28 [.int .i64 X.kd, .int .i64 X.at_] ∧ Bx W Qy 28 [.int .i64 Y.kd, .int .i64 Y.at_] ∧ Bx W Qg 28 [.int .i64 G.kd, .int .i64 G.at_] ∧ Bx W Qv 28 [.int .i64 0, .int .i64 0] ∧ Below w7.heap.size w7 W)) _ := ⟨x7.kept dd, y7.kept dd, g7.kept dd, v7.kept dd, dd⟩
    refine wpAnyT_take (i := 0) (v := ?vv38) rfl (by kernel_rfl) (fun _ _ _ h => h) (Or.inl ⟨by rfl, fun w hSw => ?yy38⟩) HS ?rr38
    case yy38 =>
      (try dsimp only at hSw); go_simp
      try with_reducible rfl
    try simp only [Act.put, List.setIfInBounds_toArray, List.set_cons_zero, List.set_cons_succ]
    refine wpAnyT_take (i := 1) (v := ?vv39) rfl (by kernel_rfl) (fun _ _ _ h => h) (Or.inl ⟨by rfl, fun w hSw => ?yy39⟩) HS ?rr39
    case yy39 =>
      (try dsimp only at hSw); go_simp
      try with_reducible rfl
    try simp only [Act.put, List.setIfInBounds_toArray, List.set_cons_zero, List.set_cons_succ]
    refine wpAnyT_take (i := 2) (v := ?vv40) rfl (by kernel_rfl) (fun _ _ _ h => h) (Or.inl ⟨by rfl, fun w hSw => ?yy40⟩) HS ?rr40
    case yy40 =>
      (try dsimp only at hSw); go_simp
      try with_reducible rfl
    try simp only [Act.put, List.setIfInBounds_toArray, List.set_cons_zero, List.set_cons_succ]
    refine wpAnyT_take (i := 3) (v := ?vv41) rfl (by kernel_rfl) (fun _ _ _ h => h) (Or.inl ⟨by rfl, fun w hSw => ?yy41⟩) HS ?rr41
    case yy41 =>
      (try dsimp only at hSw); go_simp
      try with_reducible rfl
    try simp only [Act.put, List.setIfInBounds_toArray, List.set_cons_zero, List.set_cons_succ]
    refine wpAnyT_take (i := 4) (v := ?vv42) rfl (by kernel_rfl) (fun _ _ _ h => h) (Or.inl ⟨by rfl, fun w hSw => ?yy42⟩) HS ?rr42
    case yy42 =>
      (try dsimp only at hSw); go_simp
      try with_reducible rfl
    try simp only [Act.put, List.setIfInBounds_toArray, List.set_cons_zero, List.set_cons_succ]
    refine wpAnyT_take (i := 5) (v := ?vv43) rfl (by kernel_rfl) (fun _ _ _ h => h) (Or.inl ⟨by rfl, fun w hSw => ?yy43⟩) HS ?rr43
    case yy43 =>
      (try dsimp only at hSw); go_simp
      try with_reducible rfl
    try simp only [Act.put, List.setIfInBounds_toArray, List.set_cons_zero, List.set_cons_succ]
    refine wpAnyT_take (i := 6) (v := .agg #[.int .i64 p.kd, .int .i64 p.at_]) rfl (by kernel_rfl) (fun _ _ _ h => h) (Or.inl ⟨by rfl, fun w hSw => ?_⟩) HS ?_
    · obtain ⟨c0, c1⟩ := tm_below PX hSw.2.2.2.2 hal; go_simp
    try simp only [Act.put, List.setIfInBounds_toArray, List.set_cons_zero, List.set_cons_succ]
    refine wpAnyT_one (k := 7) rfl (by kernel_rfl) (by decide) (fun K hK => ?_)
    go_simp
    refine (timay_any p _).mono ?_
    rintro e y1 ⟨rfl, hy1⟩
    rw [HQ.out]
    have HS : ((fun (W : World) => Bx W Qx 28 [.int .i64 X.kd, .int .i64 X.at_] ∧ Bx W Qy 28 [.int .i64 Y.kd, .int .i64 Y.at_] ∧ Bx W Qg 28 [.int .i64 G.kd, .int .i64 G.at_] ∧ Bx W Qv 28 [.int .i64 0, .int .i64 0] ∧ Below w7.heap.size w7 W)) _ := ⟨HS.1.kept hy1, HS.2.1.kept hy1, HS.2.2.1.kept hy1, HS.2.2.2.1.kept hy1, HS.2.2.2.2.trans (hy1.mono HS.2.2.2.2.size)⟩
    refine hK _ _ HS ?_
    clear hK K
    try simp only [Act.put, List.setIfInBounds_toArray, List.set_cons_zero, List.set_cons_succ]
    refine wpAnyT_take (i := 8) (v := ?vv44) rfl (by kernel_rfl) (fun _ _ _ h => h) (Or.inl ⟨by rfl, fun w hSw => ?yy44⟩) HS ?rr44
    case yy44 =>
      (try dsimp only at hSw); go_simp
      try with_reducible rfl
    try simp only [Act.put, List.setIfInBounds_toArray, List.set_cons_zero, List.set_cons_succ]
    refine wpAnyT_take (i := 9) (v := ?vv45) rfl (by kernel_rfl) (fun _ _ _ h => h) (Or.inl ⟨by rfl, fun w hSw => ?yy45⟩) HS ?rr45
    case yy45 =>
      (try dsimp only at hSw); go_simp
      try with_reducible rfl
    try simp only [Act.put, List.setIfInBounds_toArray, List.set_cons_zero, List.set_cons_succ]
    refine wpAnyT_take (i := 10) (v := undef) rfl (by kernel_rfl) (fun _ _ _ h => h) (Or.inr ⟨by kernel_rfl, rfl⟩) HS ?_
    try simp only [Act.put, List.setIfInBounds_toArray, List.set_cons_zero, List.set_cons_succ]
    refine wpAnyT_take (i := 11) (v := undef) rfl (by kernel_rfl) (fun _ _ _ h => h) (Or.inr ⟨by kernel_rfl, rfl⟩) HS ?_
    try simp only [Act.put, List.setIfInBounds_toArray, List.set_cons_zero, List.set_cons_succ]
    refine wpAnyT_take (i := 12) (v := undef) rfl (by kernel_rfl) (fun _ _ _ h => h) (Or.inr ⟨by kernel_rfl, rfl⟩) HS ?_
    try simp only [Act.put, List.setIfInBounds_toArray, List.set_cons_zero, List.set_cons_succ]
    refine wpAnyT_take (i := 13) (v := undef) rfl (by kernel_rfl) (fun _ _ _ h => h) (Or.inr ⟨by kernel_rfl, rfl⟩) HS ?_
    try simp only [Act.put, List.setIfInBounds_toArray, List.set_cons_zero, List.set_cons_succ]
    refine wpAnyT_take (i := 14) (v := undef) rfl (by kernel_rfl) (fun _ _ _ h => h) (Or.inr ⟨by kernel_rfl, rfl⟩) HS ?_
    try simp only [Act.put, List.setIfInBounds_toArray, List.set_cons_zero, List.set_cons_succ]
    refine ⟨by kernel_rfl, ?_⟩
    simp only [List.drop_succ_cons, List.drop_zero]
    obtain ⟨x8, y8, g8, v8, hb8⟩ := HS
    go_wp2_with fail
    have b8 : Below B w _ := b7.trans (hb8.mono bs7)
    have bs8 := Nat.le_trans bs7 hb8.size
    clear x7 y7 g7 v7 s7 z7 b7 bs7 hb8 dd
    generalize y1 = w8 at x8 y8 g8 v8 b8 bs8 ⊢
    have dd : Below w8.heap.size w8 w8.drew := (Below.refl _ _).drew
    refine wp_region_tail 21 22 (fun (W : World) => Bx W Qx 28 [.int .i64 X.kd, .int .i64 X.at_] ∧ Bx W Qy 28 [.int .i64 Y.kd, .int .i64 Y.at_] ∧ Bx W Qg 28 [.int .i64 G.kd, .int .i64 G.at_] ∧ Bx W Qv 28 [.int .i64 0, .int .i64 0] ∧ Below w8.heap.size w8 W) (by kernel_rfl) (by rfl) (by decide) ?_
    have HS : ((fun (W : World) => Bx W Qx 28 [.int .i64 X.kd, .int .i64 X.at_] ∧ Bx W Qy 28 [.int .i64 Y.kd, .int .i64 Y.at_] ∧ Bx W Qg 28 [.int .i64 G.kd, .int .i64 G.at_] ∧ Bx W Qv 28 [.int .i64 0, .int .i64 0] ∧ Below w8.heap.size w8 W)) _ := ⟨x8.kept dd, y8.kept dd, g8.kept dd, v8.kept dd, dd⟩
    refine wpAnyT_take (i := 0) (v := .agg #[.int .i64 G.kd, .int .i64 G.at_]) rfl (by kernel_rfl) (fun _ _ _ h => h) (tm_yields (by rfl) (.tmp 8) rfl rfl [.int .i64 G.kd, .int .i64 G.at_] rfl 28 (fun W hW => hW.2.2.1)) HS ?_
    try simp only [Act.put, List.setIfInBounds_toArray, List.set_cons_zero, List.set_cons_succ]
    refine wpAnyT_take (i := 1) (v := .agg #[.int .i64 X.kd, .int .i64 X.at_]) rfl (by kernel_rfl) (fun _ _ _ h => h) (tm_yields (by rfl) (.tmp 6) rfl rfl [.int .i64 X.kd, .int .i64 X.at_] rfl 28 (fun W hW => hW.1)) HS ?_
    try simp only [Act.put, List.setIfInBounds_toArray, List.set_cons_zero, List.set_cons_succ]
    refine wpAnyT_take (i := 2) (v := .agg #[.int .i64 Y.kd, .int .i64 Y.at_]) rfl (by kernel_rfl) (fun _ _ _ h => h) (tm_yields (by rfl) (.tmp 7) rfl rfl [.int .i64 Y.kd, .int .i64 Y.at_] rfl 28 (fun W hW => hW.2.1)) HS ?_
    try simp only [Act.put, List.setIfInBounds_toArray, List.set_cons_zero, List.set_cons_succ]
    refine wpAnyT_one (k := 3) rfl (by kernel_rfl) (by decide) (fun K hK => ?_)
    go_simp
    have hA : Below w8.heap.size w8 (w8.alloc (.cells #[.int .i64 X.kd, .int .i64 X.at_, .int .i64 Y.kd, .int .i64 Y.at_] 28)).drew := ((Below.refl _ _).alloc (Nat.le_refl _) _).drew
    have p9 := (Bx.new w8 28 [.int .i64 X.kd, .int .i64 X.at_, .int .i64 Y.kd, .int .i64 Y.at_]).kept (Below.refl _ _).drew
    have HS : ((fun (W : World) => Bx W Qx 28 [.int .i64 X.kd, .int .i64 X.at_] ∧ Bx W Qy 28 [.int .i64 Y.kd, .int .i64 Y.at_] ∧ Bx W Qg 28 [.int .i64 G.kd, .int .i64 G.at_] ∧ Bx W Qv 28 [.int .i64 0, .int .i64 0] ∧ Below w8.heap.size w8 W)) (w8.alloc (.cells #[.int .i64 X.kd, .int .i64 X.at_, .int .i64 Y.kd, .int .i64 Y.at_] 28)).drew := ⟨x8.kept hA, y8.kept hA, g8.kept hA, v8.kept hA, hA⟩
    have hq9 : w8.heap.size ≤ w8.heap.size := Nat.le_refl _
    refine hK _ _ HS ?_
    clear hK K
    generalize (w8.alloc (.cells #[.int .i64 X.kd, .int .i64 X.at_, .int .i64 Y.kd, .int .i64 Y.at_] 28)).drew = w9 at HS p9 ⊢
    try simp only [Act.put, List.setIfInBounds_toArray, List.set_cons_zero, List.set_cons_succ]
    refine wpAnyT_one (k := 4) rfl (by kernel_rfl) (by decide) (fun K hK => ?_)
    go_simp
    refine (tifirst_any (some ⟨w8.heap.size, 0, none⟩) 2 2 [X, Y] _ (bx_se (t := 28) p9 rfl (by unfold maxLen; omega) (by intro t ht; simp at ht; rcases ht with rfl | rfl; exact HXO.out; exact HYO.out))).mono ?_
    rintro e y2 ⟨rfl, hy2⟩
    rw [HXY.out]
    have HS : ((fun (W : World) => Bx W Qx 28 [.int .i64 X.kd, .int .i64 X.at_] ∧ Bx W Qy 28 [.int .i64 Y.kd, .int .i64 Y.at_] ∧ Bx W Qg 28 [.int .i64 G.kd, .int .i64 G.at_] ∧ Bx W Qv 28 [.int .i64 0, .int .i64 0] ∧ Below w8.heap.size w8 W)) _ := ⟨HS.1.kept hy2, HS.2.1.kept hy2, HS.2.2.1.kept hy2, HS.2.2.2.1.kept hy2, HS.2.2.2.2.trans (hy2.mono HS.2.2.2.2.size)⟩
    refine hK _ _ HS ?_
    clear hK K p9
    try simp only [Act.put, List.setIfInBounds_toArray, List.set_cons_zero, List.set_cons_succ]
    refine wpAnyT_take (i := 5) (v := ?vv46) rfl (by kernel_rfl) (fun _ _ _ h => h) (Or.inl ⟨by rfl, fun w hSw => ?yy46⟩) HS ?rr46
    case yy46 =>
      (try dsimp only at hSw); go_simp
      try with_reducible rfl
    try simp only [Act.put, List.setIfInBounds_toArray, List.set_cons_zero, List.set_cons_succ]
    refine wpAnyT_take (i := 6) (v := ?vv47) rfl (by kernel_rfl) (fun _ _ _ h => h) (Or.inl ⟨by rfl, fun w hSw => ?yy47⟩) HS ?rr47
    case yy47 =>
      (try dsimp only at hSw); go_simp
      try with_reducible rfl
    try simp only [Act.put, List.setIfInBounds_toArray, List.set_cons_zero, List.set_cons_succ]
    refine wpAnyT_take (i := 7) (v := .agg #[.int .i64 0, .int .i64 0]) rfl (by kernel_rfl) (fun _ _ _ h => h) (tm_yields (by rfl) (.tmp 9) rfl rfl [.int .i64 0, .int .i64 0] rfl 28 (fun W hW => hW.2.2.2.1)) HS ?_
    try simp only [Act.put, List.setIfInBounds_toArray, List.set_cons_zero, List.set_cons_succ]
    refine wpAnyT_take (i := 8) (v := ?vv48) rfl (by kernel_rfl) (fun _ _ _ h => h) (Or.inl ⟨by rfl, fun w hSw => ?yy48⟩) HS ?rr48
    case yy48 =>
      (try dsimp only at hSw); go_simp
      try with_reducible rfl
    try simp only [Act.put, List.setIfInBounds_toArray, List.set_cons_zero, List.set_cons_succ]
    refine wpAnyT_take (i := 9) (v := ?vv49) rfl (by kernel_rfl) (fun _ _ _ h => h) (Or.inl ⟨by rfl, fun w hSw => ?yy49⟩) HS ?rr49
    case yy49 =>
      (try dsimp only at hSw); go_simp
      try with_reducible rfl
    try simp only [Act.put, List.setIfInBounds_toArray, List.set_cons_zero, List.set_cons_succ]
    refine wpAnyT_take (i := 10) (v := ?vv50) rfl (by kernel_rfl) (fun _ _ _ h => h) (Or.inl ⟨by rfl, fun w hSw => ?yy50⟩) HS ?rr50
    case yy50 =>
      (try dsimp only at hSw); go_simp
      try with_reducible rfl
    try simp only [Act.put, List.setIfInBounds_toArray, List.set_cons_zero, List.set_cons_succ]
    refine wpAnyT_take (i := 11) (v := ?vv51) rfl (by kernel_rfl) (fun _ _ _ h => h) (Or.inl ⟨by rfl, fun w hSw => ?yy51⟩) HS ?rr51
    case yy51 =>
      (try dsimp only at hSw); go_simp
      try with_reducible rfl
    try simp only [Act.put, List.setIfInBounds_toArray, List.set_cons_zero, List.set_cons_succ]
    refine wpAnyT_take (i := 12) (v := ?vv52) rfl (by kernel_rfl) (fun _ _ _ h => h) (Or.inl ⟨by rfl, fun w hSw => ?yy52⟩) HS ?rr52
    case yy52 =>
      (try dsimp only at hSw); go_simp
      try with_reducible rfl
    try simp only [Act.put, List.setIfInBounds_toArray, List.set_cons_zero, List.set_cons_succ]
    refine wpAnyT_take (i := 13) (v := ?vv53) rfl (by kernel_rfl) (fun _ _ _ h => h) (Or.inl ⟨by rfl, fun w hSw => ?yy53⟩) HS ?rr53
    case yy53 =>
      (try dsimp only at hSw); go_simp
      try with_reducible rfl
    try simp only [Act.put, List.setIfInBounds_toArray, List.set_cons_zero, List.set_cons_succ]
    refine wpAnyT_take (i := 14) (v := ?vv54) rfl (by kernel_rfl) (fun _ _ _ h => h) (Or.inl ⟨by rfl, fun w hSw => ?yy54⟩) HS ?rr54
    case yy54 =>
      (try dsimp only at hSw); go_simp
      try with_reducible rfl
    try simp only [Act.put, List.setIfInBounds_toArray, List.set_cons_zero, List.set_cons_succ]
    refine wpAnyT_take (i := 15) (v := ?vv55) rfl (by kernel_rfl) (fun _ _ _ h => h) (Or.inl ⟨by rfl, fun w hSw => ?yy55⟩) HS ?rr55
    case yy55 =>
      (try dsimp only at hSw); go_simp
      try with_reducible rfl
    try simp only [Act.put, List.setIfInBounds_toArray, List.set_cons_zero, List.set_cons_succ]
    refine wpAnyT_take (i := 16) (v := undef) rfl (by kernel_rfl) (fun _ _ _ h => h) (Or.inr ⟨by kernel_rfl, rfl⟩) HS ?_
    try simp only [Act.put, List.setIfInBounds_toArray, List.set_cons_zero, List.set_cons_succ]
    refine wpAnyT_take (i := 17) (v := undef) rfl (by kernel_rfl) (fun _ _ _ h => h) (Or.inr ⟨by kernel_rfl, rfl⟩) HS ?_
    try simp only [Act.put, List.setIfInBounds_toArray, List.set_cons_zero, List.set_cons_succ]
    refine wpAnyT_take (i := 18) (v := undef) rfl (by kernel_rfl) (fun _ _ _ h => h) (Or.inr ⟨by kernel_rfl, rfl⟩) HS ?_
    try simp only [Act.put, List.setIfInBounds_toArray, List.set_cons_zero, List.set_cons_succ]
    refine wpAnyT_take (i := 19) (v := ?vv56) rfl (by kernel_rfl) (fun _ _ _ h => h) (Or.inl ⟨by rfl, fun w hSw => ?yy56⟩) HS ?rr56
    case yy56 =>
      (try dsimp only at hSw); go_simp
      try with_reducible rfl
    try simp only [Act.put, List.setIfInBounds_toArray, List.set_cons_zero, List.set_cons_succ]
    refine wpAnyT_take (i := 20) (v := ?vv57) rfl (by kernel_rfl) (fun _ _ _ h => h) (Or.inl ⟨by rfl, fun w hSw => ?yy57⟩) HS ?rr57
    case yy57 =>
      (try dsimp only at hSw); go_simp
      try with_reducible rfl
    try simp only [Act.put, List.setIfInBounds_toArray, List.set_cons_zero, List.set_cons_succ]
    refine ⟨by kernel_rfl, ?_⟩
    simp only [List.drop_succ_cons, List.drop_zero]
    have bz := b8.trans (HS.2.2.2.2.mono bs8)
    clear HS
    go_wp2_with fail
    go_ret
    exact ⟨rfl, bz⟩
  | true =>
    have hXp : X = p := by rw [← HX.out, hlp]; exact first_one hq
    have HQ := Lib.hid hq
    clear hq hlp
    subst hXp
    have dd : Below w7.heap.size w7 w7.drew := (Below.refl _ _).drew
    refine wp_region_tail 15 16 (fun (W : World) => Bx W Qx 28 [.int .i64 X.kd, .int .i64 X.at_] ∧ Bx W Qy 28 [.int .i64 Y.kd, .int .i64 Y.at_] ∧ Bx W Qg 28 [.int .i64 G.kd, .int .i64 G.at_] ∧ Bx W Qv 28 [.int .i64 0, .int .i64 0] ∧ Below w7.heap.size w7 W) (by kernel_rfl) (by rfl) (by decide) ?_
    have HS : ((fun (W : World) => Bx W Qx 28 [.int .i64 X.kd, .int .i64 X.at_] ∧ Bx W Qy 28 [.int .i64 Y.kd, .int .i64 Y.at_] ∧ Bx W Qg 28 [.int .i64 G.kd, .int .i64 G.at_] ∧ Bx W Qv 28 [.int .i64 0, .int .i64 0] ∧ Below w7.heap.size w7 W)) _ := ⟨x7.kept dd, y7.kept dd, g7.kept dd, v7.kept dd, dd⟩
    refine wpAnyT_take (i := 0) (v := ?vv58) rfl (by kernel_rfl) (fun _ _ _ h => h) (Or.inl ⟨by rfl, fun w hSw => ?yy58⟩) HS ?rr58
    case yy58 =>
      (try dsimp only at hSw); go_simp
      try with_reducible rfl
    try simp only [Act.put, List.setIfInBounds_toArray, List.set_cons_zero, List.set_cons_succ]
    refine wpAnyT_take (i := 1) (v := ?vv59) rfl (by kernel_rfl) (fun _ _ _ h => h) (Or.inl ⟨by rfl, fun w hSw => ?yy59⟩) HS ?rr59
    case yy59 =>
      (try dsimp only at hSw); go_simp
      try with_reducible rfl
    try simp only [Act.put, List.setIfInBounds_toArray, List.set_cons_zero, List.set_cons_succ]
    refine wpAnyT_take (i := 2) (v := ?vv60) rfl (by kernel_rfl) (fun _ _ _ h => h) (Or.inl ⟨by rfl, fun w hSw => ?yy60⟩) HS ?rr60
    case yy60 =>
      (try dsimp only at hSw); go_simp
      try with_reducible rfl
    try simp only [Act.put, List.setIfInBounds_toArray, List.set_cons_zero, List.set_cons_succ]
    refine wpAnyT_take (i := 3) (v := ?vv61) rfl (by kernel_rfl) (fun _ _ _ h => h) (Or.inl ⟨by rfl, fun w hSw => ?yy61⟩) HS ?rr61
    case yy61 =>
      (try dsimp only at hSw); go_simp
      try with_reducible rfl
    try simp only [Act.put, List.setIfInBounds_toArray, List.set_cons_zero, List.set_cons_succ]
    refine wpAnyT_take (i := 4) (v := ?vv62) rfl (by kernel_rfl) (fun _ _ _ h => h) (Or.inl ⟨by rfl, fun w hSw => ?yy62⟩) HS ?rr62
    case yy62 =>
      (try dsimp only at hSw); go_simp
      try with_reducible rfl
    try simp only [Act.put, List.setIfInBounds_toArray, List.set_cons_zero, List.set_cons_succ]
    refine wpAnyT_take (i := 5) (v := ?vv63) rfl (by kernel_rfl) (fun _ _ _ h => h) (Or.inl ⟨by rfl, fun w hSw => ?yy63⟩) HS ?rr63
    case yy63 =>
      (try dsimp only at hSw); go_simp
      try with_reducible rfl
    try simp only [Act.put, List.setIfInBounds_toArray, List.set_cons_zero, List.set_cons_succ]
    refine wpAnyT_take (i := 6) (v := .agg #[.int .i64 X.kd, .int .i64 X.at_]) rfl (by kernel_rfl) (fun _ _ _ h => h) (Or.inl ⟨by rfl, fun w hSw => ?_⟩) HS ?_
    · obtain ⟨c0, c1⟩ := tm_below PX hSw.2.2.2.2 hal; go_simp
    try simp only [Act.put, List.setIfInBounds_toArray, List.set_cons_zero, List.set_cons_succ]
    refine wpAnyT_one (k := 7) rfl (by kernel_rfl) (by decide) (fun K hK => ?_)
    go_simp
    refine (timay_any X _).mono ?_
    rintro e y1 ⟨rfl, hy1⟩
    rw [HQ.out]
    have HS : ((fun (W : World) => Bx W Qx 28 [.int .i64 X.kd, .int .i64 X.at_] ∧ Bx W Qy 28 [.int .i64 Y.kd, .int .i64 Y.at_] ∧ Bx W Qg 28 [.int .i64 G.kd, .int .i64 G.at_] ∧ Bx W Qv 28 [.int .i64 0, .int .i64 0] ∧ Below w7.heap.size w7 W)) _ := ⟨HS.1.kept hy1, HS.2.1.kept hy1, HS.2.2.1.kept hy1, HS.2.2.2.1.kept hy1, HS.2.2.2.2.trans (hy1.mono HS.2.2.2.2.size)⟩
    refine hK _ _ HS ?_
    clear hK K
    try simp only [Act.put, List.setIfInBounds_toArray, List.set_cons_zero, List.set_cons_succ]
    refine wpAnyT_take (i := 8) (v := ?vv64) rfl (by kernel_rfl) (fun _ _ _ h => h) (Or.inl ⟨by rfl, fun w hSw => ?yy64⟩) HS ?rr64
    case yy64 =>
      (try dsimp only at hSw); go_simp
      try with_reducible rfl
    try simp only [Act.put, List.setIfInBounds_toArray, List.set_cons_zero, List.set_cons_succ]
    refine wpAnyT_take (i := 9) (v := ?vv65) rfl (by kernel_rfl) (fun _ _ _ h => h) (Or.inl ⟨by rfl, fun w hSw => ?yy65⟩) HS ?rr65
    case yy65 =>
      (try dsimp only at hSw); go_simp
      try with_reducible rfl
    try simp only [Act.put, List.setIfInBounds_toArray, List.set_cons_zero, List.set_cons_succ]
    refine wpAnyT_take (i := 10) (v := .agg #[.int .i64 X.kd, .int .i64 X.at_]) rfl (by kernel_rfl) (fun _ _ _ h => h) (tm_yields (by rfl) (.tmp 6) rfl rfl [.int .i64 X.kd, .int .i64 X.at_] rfl 28 (fun W hW => hW.1)) HS ?_
    try simp only [Act.put, List.setIfInBounds_toArray, List.set_cons_zero, List.set_cons_succ]
    refine wpAnyT_take (i := 11) (v := ?vv66) rfl (by kernel_rfl) (fun _ _ _ h => h) (Or.inl ⟨by rfl, fun w hSw => ?yy66⟩) HS ?rr66
    case yy66 =>
      (try dsimp only at hSw); go_simp
      try with_reducible rfl
    try simp only [Act.put, List.setIfInBounds_toArray, List.set_cons_zero, List.set_cons_succ]
    refine wpAnyT_take (i := 12) (v := ?vv67) rfl (by kernel_rfl) (fun _ _ _ h => h) (Or.inl ⟨by rfl, fun w hSw => ?yy67⟩) HS ?rr67
    case yy67 =>
      (try dsimp only at hSw); go_simp
      try with_reducible rfl
    try simp only [Act.put, List.setIfInBounds_toArray, List.set_cons_zero, List.set_cons_succ]
    refine wpAnyT_take (i := 13) (v := .agg #[.int .i64 X.kd, .int .i64 X.at_]) rfl (by kernel_rfl) (fun _ _ _ h => h) (Or.inl ⟨by rfl, fun w hSw => ?_⟩) HS ?_
    · obtain ⟨c0, c1⟩ := tm_below PX hSw.2.2.2.2 hal; go_simp
    try simp only [Act.put, List.setIfInBounds_toArray, List.set_cons_zero, List.set_cons_succ]
    refine wpAnyT_take (i := 14) (v := ?vv68) rfl (by kernel_rfl) (fun _ _ _ h => h) (Or.inl ⟨by rfl, fun w hSw => ?yy68⟩) HS ?rr68
    case yy68 =>
      (try dsimp only at hSw); go_simp
      try with_reducible rfl
    try simp only [Act.put, List.setIfInBounds_toArray, List.set_cons_zero, List.set_cons_succ]
    refine ⟨by kernel_rfl, ?_⟩
    simp only [List.drop_succ_cons, List.drop_zero]
    obtain ⟨x8, y8, g8, v8, hb8⟩ := HS
    go_wp2_with fail
    have b8 : Below B w _ := b7.trans (hb8.mono bs7)
    have bs8 := Nat.le_trans bs7 hb8.size
    clear x7 y7 g7 v7 s7 z7 b7 bs7 hb8 dd
    generalize y1 = w8 at x8 y8 g8 v8 b8 bs8 ⊢
    have dd : Below w8.heap.size w8 w8.drew := (Below.refl _ _).drew
    refine wp_region_tail 21 22 (fun (W : World) => Bx W Qx 28 [.int .i64 X.kd, .int .i64 X.at_] ∧ Bx W Qy 28 [.int .i64 Y.kd, .int .i64 Y.at_] ∧ Bx W Qg 28 [.int .i64 G.kd, .int .i64 G.at_] ∧ Bx W Qv 28 [.int .i64 0, .int .i64 0] ∧ Below w8.heap.size w8 W) (by kernel_rfl) (by rfl) (by decide) ?_
    have HS : ((fun (W : World) => Bx W Qx 28 [.int .i64 X.kd, .int .i64 X.at_] ∧ Bx W Qy 28 [.int .i64 Y.kd, .int .i64 Y.at_] ∧ Bx W Qg 28 [.int .i64 G.kd, .int .i64 G.at_] ∧ Bx W Qv 28 [.int .i64 0, .int .i64 0] ∧ Below w8.heap.size w8 W)) _ := ⟨x8.kept dd, y8.kept dd, g8.kept dd, v8.kept dd, dd⟩
    refine wpAnyT_take (i := 0) (v := .agg #[.int .i64 G.kd, .int .i64 G.at_]) rfl (by kernel_rfl) (fun _ _ _ h => h) (tm_yields (by rfl) (.tmp 8) rfl rfl [.int .i64 G.kd, .int .i64 G.at_] rfl 28 (fun W hW => hW.2.2.1)) HS ?_
    try simp only [Act.put, List.setIfInBounds_toArray, List.set_cons_zero, List.set_cons_succ]
    refine wpAnyT_take (i := 1) (v := .agg #[.int .i64 X.kd, .int .i64 X.at_]) rfl (by kernel_rfl) (fun _ _ _ h => h) (tm_yields (by rfl) (.tmp 6) rfl rfl [.int .i64 X.kd, .int .i64 X.at_] rfl 28 (fun W hW => hW.1)) HS ?_
    try simp only [Act.put, List.setIfInBounds_toArray, List.set_cons_zero, List.set_cons_succ]
    refine wpAnyT_take (i := 2) (v := .agg #[.int .i64 Y.kd, .int .i64 Y.at_]) rfl (by kernel_rfl) (fun _ _ _ h => h) (tm_yields (by rfl) (.tmp 7) rfl rfl [.int .i64 Y.kd, .int .i64 Y.at_] rfl 28 (fun W hW => hW.2.1)) HS ?_
    try simp only [Act.put, List.setIfInBounds_toArray, List.set_cons_zero, List.set_cons_succ]
    refine wpAnyT_one (k := 3) rfl (by kernel_rfl) (by decide) (fun K hK => ?_)
    go_simp
    have hA : Below w8.heap.size w8 (w8.alloc (.cells #[.int .i64 X.kd, .int .i64 X.at_, .int .i64 Y.kd, .int .i64 Y.at_] 28)).drew := ((Below.refl _ _).alloc (Nat.le_refl _) _).drew
    have p9 := (Bx.new w8 28 [.int .i64 X.kd, .int .i64 X.at_, .int .i64 Y.kd, .int .i64 Y.at_]).kept (Below.refl _ _).drew
    have HS : ((fun (W : World) => Bx W Qx 28 [.int .i64 X.kd, .int .i64 X.at_] ∧ Bx W Qy 28 [.int .i64 Y.kd, .int .i64 Y.at_] ∧ Bx W Qg 28 [.int .i64 G.kd, .int .i64 G.at_] ∧ Bx W Qv 28 [.int .i64 0, .int .i64 0] ∧ Below w8.heap.size w8 W)) (w8.alloc (.cells #[.int .i64 X.kd, .int .i64 X.at_, .int .i64 Y.kd, .int .i64 Y.at_] 28)).drew := ⟨x8.kept hA, y8.kept hA, g8.kept hA, v8.kept hA, hA⟩
    have hq9 : w8.heap.size ≤ w8.heap.size := Nat.le_refl _
    refine hK _ _ HS ?_
    clear hK K
    generalize (w8.alloc (.cells #[.int .i64 X.kd, .int .i64 X.at_, .int .i64 Y.kd, .int .i64 Y.at_] 28)).drew = w9 at HS p9 ⊢
    try simp only [Act.put, List.setIfInBounds_toArray, List.set_cons_zero, List.set_cons_succ]
    refine wpAnyT_one (k := 4) rfl (by kernel_rfl) (by decide) (fun K hK => ?_)
    go_simp
    refine (tifirst_any (some ⟨w8.heap.size, 0, none⟩) 2 2 [X, Y] _ (bx_se (t := 28) p9 rfl (by unfold maxLen; omega) (by intro t ht; simp at ht; rcases ht with rfl | rfl; exact HXO.out; exact HYO.out))).mono ?_
    rintro e y2 ⟨rfl, hy2⟩
    rw [HXY.out]
    have HS : ((fun (W : World) => Bx W Qx 28 [.int .i64 X.kd, .int .i64 X.at_] ∧ Bx W Qy 28 [.int .i64 Y.kd, .int .i64 Y.at_] ∧ Bx W Qg 28 [.int .i64 G.kd, .int .i64 G.at_] ∧ Bx W Qv 28 [.int .i64 0, .int .i64 0] ∧ Below w8.heap.size w8 W)) _ := ⟨HS.1.kept hy2, HS.2.1.kept hy2, HS.2.2.1.kept hy2, HS.2.2.2.1.kept hy2, HS.2.2.2.2.trans (hy2.mono HS.2.2.2.2.size)⟩
    refine hK _ _ HS ?_
    clear hK K p9
    try simp only [Act.put, List.setIfInBounds_toArray, List.set_cons_zero, List.set_cons_succ]
    refine wpAnyT_take (i := 5) (v := ?vv69) rfl (by kernel_rfl) (fun _ _ _ h => h) (Or.inl ⟨by rfl, fun w hSw => ?yy69⟩) HS ?rr69
    case yy69 =>
      (try dsimp only at hSw); go_simp
      try with_reducible rfl
    try simp only [Act.put, List.setIfInBounds_toArray, List.set_cons_zero, List.set_cons_succ]
    refine wpAnyT_take (i := 6) (v := ?vv70) rfl (by kernel_rfl) (fun _ _ _ h => h) (Or.inl ⟨by rfl, fun w hSw => ?yy70⟩) HS ?rr70
    case yy70 =>
      (try dsimp only at hSw); go_simp
      try with_reducible rfl
    try simp only [Act.put, List.setIfInBounds_toArray, List.set_cons_zero, List.set_cons_succ]
    refine wpAnyT_take (i := 7) (v := .agg #[.int .i64 0, .int .i64 0]) rfl (by kernel_rfl) (fun _ _ _ h => h) (tm_yields (by rfl) (.tmp 9) rfl rfl [.int .i64 0, .int .i64 0] rfl 28 (fun W hW => hW.2.2.2.1)) HS ?_
    try simp only [Act.put, List.setIfInBounds_toArray, List.set_cons_zero, List.set_cons_succ]
    refine wpAnyT_take (i := 8) (v := ?vv71) rfl (by kernel_rfl) (fun _ _ _ h => h) (Or.inl ⟨by rfl, fun w hSw => ?yy71⟩) HS ?rr71
    case yy71 =>
      (try dsimp only at hSw); go_simp
      try with_reducible rfl
    try simp only [Act.put, List.setIfInBounds_toArray, List.set_cons_zero, List.set_cons_succ]
    refine wpAnyT_take (i := 9) (v := ?vv72) rfl (by kernel_rfl) (fun _ _ _ h => h) (Or.inl ⟨by rfl, fun w hSw => ?yy72⟩) HS ?rr72
    case yy72 =>
      (try dsimp only at hSw); go_simp
      try with_reducible rfl
    try simp only [Act.put, List.setIfInBounds_toArray, List.set_cons_zero, List.set_cons_succ]
    refine wpAnyT_take (i := 10) (v := ?vv73) rfl (by kernel_rfl) (fun _ _ _ h => h) (Or.inl ⟨by rfl, fun w hSw => ?yy73⟩) HS ?rr73
    case yy73 =>
      (try dsimp only at hSw); go_simp
      try with_reducible rfl
    try simp only [Act.put, List.setIfInBounds_toArray, List.set_cons_zero, List.set_cons_succ]
    refine wpAnyT_take (i := 11) (v := ?vv74) rfl (by kernel_rfl) (fun _ _ _ h => h) (Or.inl ⟨by rfl, fun w hSw => ?yy74⟩) HS ?rr74
    case yy74 =>
      (try dsimp only at hSw); go_simp
      try with_reducible rfl
    try simp only [Act.put, List.setIfInBounds_toArray, List.set_cons_zero, List.set_cons_succ]
    refine wpAnyT_take (i := 12) (v := ?vv75) rfl (by kernel_rfl) (fun _ _ _ h => h) (Or.inl ⟨by rfl, fun w hSw => ?yy75⟩) HS ?rr75
    case yy75 =>
      (try dsimp only at hSw); go_simp
      try with_reducible rfl
    try simp only [Act.put, List.setIfInBounds_toArray, List.set_cons_zero, List.set_cons_succ]
    refine wpAnyT_take (i := 13) (v := ?vv76) rfl (by kernel_rfl) (fun _ _ _ h => h) (Or.inl ⟨by rfl, fun w hSw => ?yy76⟩) HS ?rr76
    case yy76 =>
      (try dsimp only at hSw); go_simp
      try with_reducible rfl
    try simp only [Act.put, List.setIfInBounds_toArray, List.set_cons_zero, List.set_cons_succ]
    refine wpAnyT_take (i := 14) (v := ?vv77) rfl (by kernel_rfl) (fun _ _ _ h => h) (Or.inl ⟨by rfl, fun w hSw => ?yy77⟩) HS ?rr77
    case yy77 =>
      (try dsimp only at hSw); go_simp
      try with_reducible rfl
    try simp only [Act.put, List.setIfInBounds_toArray, List.set_cons_zero, List.set_cons_succ]
    refine wpAnyT_take (i := 15) (v := ?vv78) rfl (by kernel_rfl) (fun _ _ _ h => h) (Or.inl ⟨by rfl, fun w hSw => ?yy78⟩) HS ?rr78
    case yy78 =>
      (try dsimp only at hSw); go_simp
      try with_reducible rfl
    try simp only [Act.put, List.setIfInBounds_toArray, List.set_cons_zero, List.set_cons_succ]
    refine wpAnyT_take (i := 16) (v := undef) rfl (by kernel_rfl) (fun _ _ _ h => h) (Or.inr ⟨by kernel_rfl, rfl⟩) HS ?_
    try simp only [Act.put, List.setIfInBounds_toArray, List.set_cons_zero, List.set_cons_succ]
    refine wpAnyT_take (i := 17) (v := undef) rfl (by kernel_rfl) (fun _ _ _ h => h) (Or.inr ⟨by kernel_rfl, rfl⟩) HS ?_
    try simp only [Act.put, List.setIfInBounds_toArray, List.set_cons_zero, List.set_cons_succ]
    refine wpAnyT_take (i := 18) (v := undef) rfl (by kernel_rfl) (fun _ _ _ h => h) (Or.inr ⟨by kernel_rfl, rfl⟩) HS ?_
    try simp only [Act.put, List.setIfInBounds_toArray, List.set_cons_zero, List.set_cons_succ]
    refine wpAnyT_take (i := 19) (v := ?vv79) rfl (by kernel_rfl) (fun _ _ _ h => h) (Or.inl ⟨by rfl, fun w hSw => ?yy79⟩) HS ?rr79
    case yy79 =>
      (try dsimp only at hSw); go_simp
      try with_reducible rfl
    try simp only [Act.put, List.setIfInBounds_toArray, List.set_cons_zero, List.set_cons_succ]
    refine wpAnyT_take (i := 20) (v := ?vv80) rfl (by kernel_rfl) (fun _ _ _ h => h) (Or.inl ⟨by rfl, fun w hSw => ?yy80⟩) HS ?rr80
    case yy80 =>
      (try dsimp only at hSw); go_simp
      try with_reducible rfl
    try simp only [Act.put, List.setIfInBounds_toArray, List.set_cons_zero, List.set_cons_succ]
    refine ⟨by kernel_rfl, ?_⟩
    simp only [List.drop_succ_cons, List.drop_zero]
    have bz := b8.trans (HS.2.2.2.2.mono bs8)
    clear HS
    go_wp2_with fail
    go_ret
    exact ⟨rfl, bz⟩
end Go.Proofs.Ytbkmadlekigjfaa.timerFirst
