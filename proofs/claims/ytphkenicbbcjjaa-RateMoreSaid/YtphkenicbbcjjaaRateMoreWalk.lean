/- The walk of the law RateMore. -/
import Derived.Test.YtphkenicbbcjjaaProg
import Derived.Test.YtphkenicbbcjjaaRaAwake
import Derived.Test.YtphkenicbbcjjaaRaRef3
import Derived.Test.YtphkenicbbcjjaaRaMath
import Derived.Test.YtphkenicbbcjjaaTail
import Derived.Deep.LoopGhost
import Derived.WalkKit
import Derived.WalkSpells
import Derived.WalkSmall
import Derived.Lib.Hide
import Derived.Below
import Derived.Outline
import Derived.Laws.Tables
import Derived.Laws.Rows
import Derived.OrdersHeld
import Derived.Deep.QuietTactic
import Derived.BigQuiet
import Derived.IntWalk
import Derived.Deep.DeepCutAuto
namespace Go.Proofs.Ytphkenicbbcjjaa.rateMore
open Go.RowKit
set_option linter.unusedVariables false
set_option linter.unusedSimpArgs false

set_option maxRecDepth 100000 in
set_option maxHeartbeats 8000000 in
theorem walk (total last : Int) (A : Option Addr) (n c : Nat) (l : List Int) (a1 a2 a3 a4 : Int) (w : World) (hs : Si w A n c l) :
    Calls Try.prog 5 #[.agg #[.int .i64 total, .int .i64 last, .slice A n c], .int .i64 a1, .int .i64 a2, .int .i64 a3, .int .i64 a4] w fun e w' => e = .returned (.bool true) ∧ Below w.heap.size w w' := by
  obtain ⟨B, hB⟩ : ∃ B, w.heap.size = B := ⟨_, rfl⟩
  rw [hB]
  have e0 := Bx.new w 24 [.int .i64 total, .int .i64 last, .slice A n c]
  rw [hB] at e0
  have b0 : Below B w (w.alloc (.cells #[.int .i64 total, .int .i64 last, .slice A n c] 24)) := by rw [← hB]; exact (Below.refl _ _).alloc (Nat.le_refl _) _
  have s0 := hs.alloc (.cells #[.int .i64 total, .int .i64 last, .slice A n c] 24)
  go_enter Try.func5, Try.ntmps5
  go_wp2_with fail
  generalize w.alloc (.cells #[.int .i64 total, .int .i64 last, .slice A n c] 24) = w0 at e0 b0 s0 ⊢
  refine (raawake_any _).mono ?_
  rintro e w1 ⟨rfl, hb1⟩
  have e1 := e0.kept hb1
  have s1 := s0.keep hb1
  have b1 := b0.trans (hb1.mono (Nat.le_of_lt e0.lt))
  have HL : Hid (l.length = n) := Lib.hid hs.rd.len
  have x2 := e1.cell 2 rfl
  by_cases hn : n ≤ 10
  case neg =>
    have d0 : decide ((10 : Int) < (n : Int)) = true := decide_eq_true (by omega)
    have HN := Lib.hid hn; clear hn
    go_wp2_with fail
    go_ret
    exact ⟨rfl, b1⟩
  case pos =>
  have d0 : decide ((10 : Int) < (n : Int)) = false := decide_eq_false (by omega)
  have HN := Lib.hid hn; clear hn
  clear hs
  obtain ⟨bm, hbm⟩ : ∃ t, bestR ⟨total, last, l⟩ = t := ⟨_, rfl⟩
  have hb0 : 0 ≤ bm := by rw [← hbm]; unfold bestR; split; exact mx_nn _; exact Int.le_refl _
  have HBM := Lib.hid hbm; clear hbm
  cases hk : ramay ⟨total, last, l⟩ with
  | false =>
    have HK := Lib.hid hk
    have HX : Hid (cameR ⟨total, last, l⟩ a1 a2 = (zrv, 1)) := Lib.hid (came_no (fun h => by have := h.1; rw [hk] at this; cases this))
    have HY : Hid (sampR ⟨total, last, l⟩ a3 a4 = (zrv, 0, 1)) := Lib.hid (samp_no (fun h => by have := h.1; rw [hk] at this; cases this))
    clear hk
    go_wp2_with (refine ra_load rfl (.tmp 5) rfl rfl e1 rfl ?_)
    clear x2
    refine (ratcame_any total last A n c l a1 a2 (fun _ => True) _ s1.sq (fun _ _ => trivial)).mono ?_
    rintro e w2 ⟨R1, m1, d1, he, hs1, hb2⟩
    rw [HX.out] at he hs1
    dsimp only [zrv] at he hs1
    subst he
    have hm1 : 0 = m1 := hs1.len
    subst hm1
    have e2 := (e1.kept hb2).alloc (.cells #[.int .i64 0, .int .i64 0, .slice R1 0 d1] 24)
    have s2 := (s1.keep hb2).alloc (.cells #[.int .i64 0, .int .i64 0, .slice R1 0 d1] 24)
    have b2 := (b1.trans (hb2.mono (Nat.le_of_lt e1.lt))).alloc (Nat.le_of_lt (e1.kept hb2).lt) (.cells #[.int .i64 0, .int .i64 0, .slice R1 0 d1] 24)
    have pp2 := hs1.si.alloc (.cells #[.int .i64 0, .int .i64 0, .slice R1 0 d1] 24)
    clear hs1
    obtain ⟨V1, hV1⟩ : ∃ V, w2.heap.size = V := ⟨_, rfl⟩
    have p2 := Bx.new w2 24 [.int .i64 0, .int .i64 0, .slice R1 0 d1]
    rw [hV1] at p2
    go_wp2_with (refine ra_load rfl (.tmp 5) rfl rfl e2 rfl ?_)
    refine (ratsamp_any total last A n c l a3 a4 (fun _ => True) _ s2.sq (fun _ _ => trivial)).mono ?_
    rintro e w3 ⟨R2, m2, d2, he, hs2, hb3⟩
    rw [HY.out] at he hs2
    dsimp only [zrv] at he hs2
    subst he
    have hm2 : 0 = m2 := hs2.len
    subst hm2
    have e3 := (e2.kept hb3).alloc (.cells #[.int .i64 0, .int .i64 0, .slice R2 0 d2] 24)
    have s3 := (s2.keep hb3).alloc (.cells #[.int .i64 0, .int .i64 0, .slice R2 0 d2] 24)
    have p3 := (p2.kept hb3).alloc (.cells #[.int .i64 0, .int .i64 0, .slice R2 0 d2] 24)
    have pp3 := (pp2.keep hb3).alloc (.cells #[.int .i64 0, .int .i64 0, .slice R2 0 d2] 24)
    have b3 := (b2.trans (hb3.mono (Nat.le_of_lt e2.lt))).alloc (Nat.le_of_lt (e2.kept hb3).lt) (.cells #[.int .i64 0, .int .i64 0, .slice R2 0 d2] 24)
    have rr3 := hs2.si.alloc (.cells #[.int .i64 0, .int .i64 0, .slice R2 0 d2] 24)
    clear hs2
    obtain ⟨V2, hV2⟩ : ∃ V, w3.heap.size = V := ⟨_, rfl⟩
    have r3 := Bx.new w3 24 [.int .i64 0, .int .i64 0, .slice R2 0 d2]
    rw [hV2] at r3
    go_upto_region 6 with fail
    refine wp_region_tail 28 29 (fun (W : World) => Bx W B 24 [.int .i64 total, .int .i64 last, .slice A n c] ∧ Bx W V1 24 [.int .i64 0, .int .i64 0, .slice R1 0 d1] ∧ Bx W V2 24 [.int .i64 0, .int .i64 0, .slice R2 0 d2] ∧ Si W A n c l ∧ Si W R1 0 d1 [] ∧ Si W R2 0 d2 [] ∧ Below B w W ∧ (W.cell? ⟨V1, 0, none⟩ = some (.int .i64 0) ∧ W.cell? ⟨V1, 1, none⟩ = some (.int .i64 0) ∧ W.cell? ⟨B, 0, none⟩ = some (.int .i64 total))) (by kernel_rfl) (by rfl) (by decide) ?_
    have HS : ((fun (W : World) => Bx W B 24 [.int .i64 total, .int .i64 last, .slice A n c] ∧ Bx W V1 24 [.int .i64 0, .int .i64 0, .slice R1 0 d1] ∧ Bx W V2 24 [.int .i64 0, .int .i64 0, .slice R2 0 d2] ∧ Si W A n c l ∧ Si W R1 0 d1 [] ∧ Si W R2 0 d2 [] ∧ Below B w W ∧ (W.cell? ⟨V1, 0, none⟩ = some (.int .i64 0) ∧ W.cell? ⟨V1, 1, none⟩ = some (.int .i64 0) ∧ W.cell? ⟨B, 0, none⟩ = some (.int .i64 total)))) _ := ⟨e3.drew, p3.drew, r3.drew, s3.keep ((Below.refl _ _).drew), pp3.keep ((Below.refl _ _).drew), rr3.keep ((Below.refl _ _).drew), b3.drew, p3.drew.cell 0 rfl, p3.drew.cell 1 rfl, e3.drew.cell 0 rfl⟩
    refine wpAnyT_take (i := 0) (v := ?vv1) rfl (by kernel_rfl) (fun _ _ _ h => h) (Or.inl ⟨by rfl, fun w hSw => ?yy1⟩) HS ?rr1
    case yy1 =>
      (try dsimp only at hSw); go_simp
      try with_reducible rfl
    try simp only [Act.put, List.setIfInBounds_toArray, List.set_cons_zero, List.set_cons_succ]
    refine wpAnyT_take (i := 1) (v := .bool false) rfl (by kernel_rfl) (fun _ _ _ h => h) (Or.inl ⟨by rfl, fun w hSw => ?_⟩) HS ?_
    · (try dsimp only at hSw); go_simp
    try simp only [Act.put, List.setIfInBounds_toArray, List.set_cons_zero, List.set_cons_succ]
    refine wpAnyT_take (i := 2) (v := .bool false) rfl (by kernel_rfl) (fun _ _ _ h => h) (Or.inl ⟨by rfl, fun w hSw => ?_⟩) HS ?_
    · (try dsimp only at hSw); go_simp
    try simp only [Act.put, List.setIfInBounds_toArray, List.set_cons_zero, List.set_cons_succ]
    refine wpAnyT_take (i := 3) (v := undef) rfl (by kernel_rfl) (fun _ _ _ h => h) (Or.inr ⟨by kernel_rfl, rfl⟩) HS ?_
    try simp only [Act.put, List.setIfInBounds_toArray, List.set_cons_zero, List.set_cons_succ]
    refine wpAnyT_take (i := 4) (v := undef) rfl (by kernel_rfl) (fun _ _ _ h => h) (Or.inr ⟨by kernel_rfl, rfl⟩) HS ?_
    try simp only [Act.put, List.setIfInBounds_toArray, List.set_cons_zero, List.set_cons_succ]
    refine wpAnyT_take (i := 5) (v := undef) rfl (by kernel_rfl) (fun _ _ _ h => h) (Or.inr ⟨by kernel_rfl, rfl⟩) HS ?_
    try simp only [Act.put, List.setIfInBounds_toArray, List.set_cons_zero, List.set_cons_succ]
    refine wpAnyT_take (i := 6) (v := undef) rfl (by kernel_rfl) (fun _ _ _ h => h) (Or.inr ⟨by kernel_rfl, rfl⟩) HS ?_
    try simp only [Act.put, List.setIfInBounds_toArray, List.set_cons_zero, List.set_cons_succ]
    refine wpAnyT_take (i := 7) (v := undef) rfl (by kernel_rfl) (fun _ _ _ h => h) (Or.inr ⟨by kernel_rfl, rfl⟩) HS ?_
    try simp only [Act.put, List.setIfInBounds_toArray, List.set_cons_zero, List.set_cons_succ]
    refine wpAnyT_take (i := 8) (v := undef) rfl (by kernel_rfl) (fun _ _ _ h => h) (Or.inr ⟨by kernel_rfl, rfl⟩) HS ?_
    try simp only [Act.put, List.setIfInBounds_toArray, List.set_cons_zero, List.set_cons_succ]
    refine wpAnyT_take (i := 9) (v := undef) rfl (by kernel_rfl) (fun _ _ _ h => h) (Or.inr ⟨by kernel_rfl, rfl⟩) HS ?_
    try simp only [Act.put, List.setIfInBounds_toArray, List.set_cons_zero, List.set_cons_succ]
    refine wpAnyT_take (i := 10) (v := undef) rfl (by kernel_rfl) (fun _ _ _ h => h) (Or.inr ⟨by kernel_rfl, rfl⟩) HS ?_
    try simp only [Act.put, List.setIfInBounds_toArray, List.set_cons_zero, List.set_cons_succ]
    refine wpAnyT_take (i := 11) (v := undef) rfl (by kernel_rfl) (fun _ _ _ h => h) (Or.inr ⟨by kernel_rfl, rfl⟩) HS ?_
    try simp only [Act.put, List.setIfInBounds_toArray, List.set_cons_zero, List.set_cons_succ]
    refine wpAnyT_take (i := 12) (v := undef) rfl (by kernel_rfl) (fun _ _ _ h => h) (Or.inr ⟨by kernel_rfl, rfl⟩) HS ?_
    try simp only [Act.put, List.setIfInBounds_toArray, List.set_cons_zero, List.set_cons_succ]
    refine wpAnyT_take (i := 13) (v := undef) rfl (by kernel_rfl) (fun _ _ _ h => h) (Or.inr ⟨by kernel_rfl, rfl⟩) HS ?_
    try simp only [Act.put, List.setIfInBounds_toArray, List.set_cons_zero, List.set_cons_succ]
    refine wpAnyT_take (i := 14) (v := undef) rfl (by kernel_rfl) (fun _ _ _ h => h) (Or.inr ⟨by kernel_rfl, rfl⟩) HS ?_
    try simp only [Act.put, List.setIfInBounds_toArray, List.set_cons_zero, List.set_cons_succ]
    refine wpAnyT_take (i := 15) (v := undef) rfl (by kernel_rfl) (fun _ _ _ h => h) (Or.inr ⟨by kernel_rfl, rfl⟩) HS ?_
    try simp only [Act.put, List.setIfInBounds_toArray, List.set_cons_zero, List.set_cons_succ]
    refine wpAnyT_take (i := 16) (v := undef) rfl (by kernel_rfl) (fun _ _ _ h => h) (Or.inr ⟨by kernel_rfl, rfl⟩) HS ?_
    try simp only [Act.put, List.setIfInBounds_toArray, List.set_cons_zero, List.set_cons_succ]
    refine wpAnyT_take (i := 17) (v := undef) rfl (by kernel_rfl) (fun _ _ _ h => h) (Or.inr ⟨by kernel_rfl, rfl⟩) HS ?_
    try simp only [Act.put, List.setIfInBounds_toArray, List.set_cons_zero, List.set_cons_succ]
    refine wpAnyT_take (i := 18) (v := undef) rfl (by kernel_rfl) (fun _ _ _ h => h) (Or.inr ⟨by kernel_rfl, rfl⟩) HS ?_
    try simp only [Act.put, List.setIfInBounds_toArray, List.set_cons_zero, List.set_cons_succ]
    refine wpAnyT_take (i := 19) (v := undef) rfl (by kernel_rfl) (fun _ _ _ h => h) (Or.inr ⟨by kernel_rfl, rfl⟩) HS ?_
    try simp only [Act.put, List.setIfInBounds_toArray, List.set_cons_zero, List.set_cons_succ]
    refine wpAnyT_take (i := 20) (v := undef) rfl (by kernel_rfl) (fun _ _ _ h => h) (Or.inr ⟨by kernel_rfl, rfl⟩) HS ?_
    try simp only [Act.put, List.setIfInBounds_toArray, List.set_cons_zero, List.set_cons_succ]
    refine wpAnyT_take (i := 21) (v := undef) rfl (by kernel_rfl) (fun _ _ _ h => h) (Or.inr ⟨by kernel_rfl, rfl⟩) HS ?_
    try simp only [Act.put, List.setIfInBounds_toArray, List.set_cons_zero, List.set_cons_succ]
    refine wpAnyT_take (i := 22) (v := undef) rfl (by kernel_rfl) (fun _ _ _ h => h) (Or.inr ⟨by kernel_rfl, rfl⟩) HS ?_
    try simp only [Act.put, List.setIfInBounds_toArray, List.set_cons_zero, List.set_cons_succ]
    refine wpAnyT_take (i := 23) (v := undef) rfl (by kernel_rfl) (fun _ _ _ h => h) (Or.inr ⟨by kernel_rfl, rfl⟩) HS ?_
    try simp only [Act.put, List.setIfInBounds_toArray, List.set_cons_zero, List.set_cons_succ]
    refine wpAnyT_take (i := 24) (v := undef) rfl (by kernel_rfl) (fun _ _ _ h => h) (Or.inr ⟨by kernel_rfl, rfl⟩) HS ?_
    try simp only [Act.put, List.setIfInBounds_toArray, List.set_cons_zero, List.set_cons_succ]
    refine wpAnyT_take (i := 25) (v := undef) rfl (by kernel_rfl) (fun _ _ _ h => h) (Or.inr ⟨by kernel_rfl, rfl⟩) HS ?_
    try simp only [Act.put, List.setIfInBounds_toArray, List.set_cons_zero, List.set_cons_succ]
    refine wpAnyT_take (i := 26) (v := undef) rfl (by kernel_rfl) (fun _ _ _ h => h) (Or.inr ⟨by kernel_rfl, rfl⟩) HS ?_
    try simp only [Act.put, List.setIfInBounds_toArray, List.set_cons_zero, List.set_cons_succ]
    refine wpAnyT_take (i := 27) (v := undef) rfl (by kernel_rfl) (fun _ _ _ h => h) (Or.inr ⟨by kernel_rfl, rfl⟩) HS ?_
    try simp only [Act.put, List.setIfInBounds_toArray, List.set_cons_zero, List.set_cons_succ]
    refine ⟨by kernel_rfl, ?_⟩
    simp only [List.drop_succ_cons, List.drop_zero]
    have ee := HS.1; have er := HS.2.2.1; have err := HS.2.2.2.2.2.1; have eb := HS.2.2.2.2.2.2.1
    have xe0 := ee.cell 0 rfl; have xe1 := ee.cell 1 rfl; have xe2 := ee.cell 2 rfl
    have xr0 := er.cell 0 rfl; have xr1 := er.cell 1 rfl; have xr2 := er.cell 2 rfl
    go_wp2_with fail
    go_ret
    exact ⟨rfl, eb⟩
  | true =>
    have HK := Lib.hid hk; clear hk
    rcases came_cases (v := ⟨total, last, l⟩) (a := a1) (b := a2) with hx | hx | ⟨hx, hok1, hok2⟩
    · have HX := Lib.hid hx; clear hx
      by_cases hok : SampOk ⟨total, last, l⟩ a3 a4
      case neg =>
        have HY : Hid (sampR ⟨total, last, l⟩ a3 a4 = (zrv, 0, 1)) := Lib.hid (samp_no hok)
        clear hok
        go_wp2_with (refine ra_load rfl (.tmp 5) rfl rfl e1 rfl ?_)
        clear x2
        refine (ratcame_any total last A n c l a1 a2 (fun _ => True) _ s1.sq (fun _ _ => trivial)).mono ?_
        rintro e w2 ⟨R1, m1, d1, he, hs1, hb2⟩
        rw [HX.out] at he hs1
        dsimp only [zrv] at he hs1
        subst he
        have hm1 : 0 = m1 := hs1.len
        subst hm1
        have e2 := (e1.kept hb2).alloc (.cells #[.int .i64 0, .int .i64 0, .slice R1 0 d1] 24)
        have s2 := (s1.keep hb2).alloc (.cells #[.int .i64 0, .int .i64 0, .slice R1 0 d1] 24)
        have b2 := (b1.trans (hb2.mono (Nat.le_of_lt e1.lt))).alloc (Nat.le_of_lt (e1.kept hb2).lt) (.cells #[.int .i64 0, .int .i64 0, .slice R1 0 d1] 24)
        have pp2 := hs1.si.alloc (.cells #[.int .i64 0, .int .i64 0, .slice R1 0 d1] 24)
        clear hs1
        obtain ⟨V1, hV1⟩ : ∃ V, w2.heap.size = V := ⟨_, rfl⟩
        have p2 := Bx.new w2 24 [.int .i64 0, .int .i64 0, .slice R1 0 d1]
        rw [hV1] at p2
        go_wp2_with (refine ra_load rfl (.tmp 5) rfl rfl e2 rfl ?_)
        refine (ratsamp_any total last A n c l a3 a4 (fun _ => True) _ s2.sq (fun _ _ => trivial)).mono ?_
        rintro e w3 ⟨R2, m2, d2, he, hs2, hb3⟩
        rw [HY.out] at he hs2
        dsimp only [zrv] at he hs2
        subst he
        have hm2 : 0 = m2 := hs2.len
        subst hm2
        have e3 := (e2.kept hb3).alloc (.cells #[.int .i64 0, .int .i64 0, .slice R2 0 d2] 24)
        have s3 := (s2.keep hb3).alloc (.cells #[.int .i64 0, .int .i64 0, .slice R2 0 d2] 24)
        have p3 := (p2.kept hb3).alloc (.cells #[.int .i64 0, .int .i64 0, .slice R2 0 d2] 24)
        have pp3 := (pp2.keep hb3).alloc (.cells #[.int .i64 0, .int .i64 0, .slice R2 0 d2] 24)
        have b3 := (b2.trans (hb3.mono (Nat.le_of_lt e2.lt))).alloc (Nat.le_of_lt (e2.kept hb3).lt) (.cells #[.int .i64 0, .int .i64 0, .slice R2 0 d2] 24)
        have rr3 := hs2.si.alloc (.cells #[.int .i64 0, .int .i64 0, .slice R2 0 d2] 24)
        clear hs2
        obtain ⟨V2, hV2⟩ : ∃ V, w3.heap.size = V := ⟨_, rfl⟩
        have r3 := Bx.new w3 24 [.int .i64 0, .int .i64 0, .slice R2 0 d2]
        rw [hV2] at r3
        go_upto_region 6 with fail
        refine wp_region_tail 28 29 (fun (W : World) => Bx W B 24 [.int .i64 total, .int .i64 last, .slice A n c] ∧ Bx W V1 24 [.int .i64 0, .int .i64 0, .slice R1 0 d1] ∧ Bx W V2 24 [.int .i64 0, .int .i64 0, .slice R2 0 d2] ∧ Si W A n c l ∧ Si W R1 0 d1 [] ∧ Si W R2 0 d2 [] ∧ Below B w W ∧ (W.cell? ⟨V1, 0, none⟩ = some (.int .i64 0) ∧ W.cell? ⟨V1, 1, none⟩ = some (.int .i64 0) ∧ W.cell? ⟨B, 0, none⟩ = some (.int .i64 total))) (by kernel_rfl) (by rfl) (by decide) ?_
        have HS : ((fun (W : World) => Bx W B 24 [.int .i64 total, .int .i64 last, .slice A n c] ∧ Bx W V1 24 [.int .i64 0, .int .i64 0, .slice R1 0 d1] ∧ Bx W V2 24 [.int .i64 0, .int .i64 0, .slice R2 0 d2] ∧ Si W A n c l ∧ Si W R1 0 d1 [] ∧ Si W R2 0 d2 [] ∧ Below B w W ∧ (W.cell? ⟨V1, 0, none⟩ = some (.int .i64 0) ∧ W.cell? ⟨V1, 1, none⟩ = some (.int .i64 0) ∧ W.cell? ⟨B, 0, none⟩ = some (.int .i64 total)))) _ := ⟨e3.drew, p3.drew, r3.drew, s3.keep ((Below.refl _ _).drew), pp3.keep ((Below.refl _ _).drew), rr3.keep ((Below.refl _ _).drew), b3.drew, p3.drew.cell 0 rfl, p3.drew.cell 1 rfl, e3.drew.cell 0 rfl⟩
        refine wpAnyT_take (i := 0) (v := ?vv4) rfl (by kernel_rfl) (fun _ _ _ h => h) (Or.inl ⟨by rfl, fun w hSw => ?yy4⟩) HS ?rr4
        case yy4 =>
          (try dsimp only at hSw); go_simp
          try with_reducible rfl
        try simp only [Act.put, List.setIfInBounds_toArray, List.set_cons_zero, List.set_cons_succ]
        refine wpAnyT_take (i := 1) (v := .bool false) rfl (by kernel_rfl) (fun _ _ _ h => h) (Or.inl ⟨by rfl, fun w hSw => ?_⟩) HS ?_
        · (try dsimp only at hSw); go_simp
        try simp only [Act.put, List.setIfInBounds_toArray, List.set_cons_zero, List.set_cons_succ]
        refine wpAnyT_take (i := 2) (v := .bool false) rfl (by kernel_rfl) (fun _ _ _ h => h) (Or.inl ⟨by rfl, fun w hSw => ?_⟩) HS ?_
        · (try dsimp only at hSw); go_simp
        try simp only [Act.put, List.setIfInBounds_toArray, List.set_cons_zero, List.set_cons_succ]
        refine wpAnyT_take (i := 3) (v := undef) rfl (by kernel_rfl) (fun _ _ _ h => h) (Or.inr ⟨by kernel_rfl, rfl⟩) HS ?_
        try simp only [Act.put, List.setIfInBounds_toArray, List.set_cons_zero, List.set_cons_succ]
        refine wpAnyT_take (i := 4) (v := undef) rfl (by kernel_rfl) (fun _ _ _ h => h) (Or.inr ⟨by kernel_rfl, rfl⟩) HS ?_
        try simp only [Act.put, List.setIfInBounds_toArray, List.set_cons_zero, List.set_cons_succ]
        refine wpAnyT_take (i := 5) (v := undef) rfl (by kernel_rfl) (fun _ _ _ h => h) (Or.inr ⟨by kernel_rfl, rfl⟩) HS ?_
        try simp only [Act.put, List.setIfInBounds_toArray, List.set_cons_zero, List.set_cons_succ]
        refine wpAnyT_take (i := 6) (v := undef) rfl (by kernel_rfl) (fun _ _ _ h => h) (Or.inr ⟨by kernel_rfl, rfl⟩) HS ?_
        try simp only [Act.put, List.setIfInBounds_toArray, List.set_cons_zero, List.set_cons_succ]
        refine wpAnyT_take (i := 7) (v := undef) rfl (by kernel_rfl) (fun _ _ _ h => h) (Or.inr ⟨by kernel_rfl, rfl⟩) HS ?_
        try simp only [Act.put, List.setIfInBounds_toArray, List.set_cons_zero, List.set_cons_succ]
        refine wpAnyT_take (i := 8) (v := undef) rfl (by kernel_rfl) (fun _ _ _ h => h) (Or.inr ⟨by kernel_rfl, rfl⟩) HS ?_
        try simp only [Act.put, List.setIfInBounds_toArray, List.set_cons_zero, List.set_cons_succ]
        refine wpAnyT_take (i := 9) (v := undef) rfl (by kernel_rfl) (fun _ _ _ h => h) (Or.inr ⟨by kernel_rfl, rfl⟩) HS ?_
        try simp only [Act.put, List.setIfInBounds_toArray, List.set_cons_zero, List.set_cons_succ]
        refine wpAnyT_take (i := 10) (v := undef) rfl (by kernel_rfl) (fun _ _ _ h => h) (Or.inr ⟨by kernel_rfl, rfl⟩) HS ?_
        try simp only [Act.put, List.setIfInBounds_toArray, List.set_cons_zero, List.set_cons_succ]
        refine wpAnyT_take (i := 11) (v := undef) rfl (by kernel_rfl) (fun _ _ _ h => h) (Or.inr ⟨by kernel_rfl, rfl⟩) HS ?_
        try simp only [Act.put, List.setIfInBounds_toArray, List.set_cons_zero, List.set_cons_succ]
        refine wpAnyT_take (i := 12) (v := undef) rfl (by kernel_rfl) (fun _ _ _ h => h) (Or.inr ⟨by kernel_rfl, rfl⟩) HS ?_
        try simp only [Act.put, List.setIfInBounds_toArray, List.set_cons_zero, List.set_cons_succ]
        refine wpAnyT_take (i := 13) (v := undef) rfl (by kernel_rfl) (fun _ _ _ h => h) (Or.inr ⟨by kernel_rfl, rfl⟩) HS ?_
        try simp only [Act.put, List.setIfInBounds_toArray, List.set_cons_zero, List.set_cons_succ]
        refine wpAnyT_take (i := 14) (v := undef) rfl (by kernel_rfl) (fun _ _ _ h => h) (Or.inr ⟨by kernel_rfl, rfl⟩) HS ?_
        try simp only [Act.put, List.setIfInBounds_toArray, List.set_cons_zero, List.set_cons_succ]
        refine wpAnyT_take (i := 15) (v := undef) rfl (by kernel_rfl) (fun _ _ _ h => h) (Or.inr ⟨by kernel_rfl, rfl⟩) HS ?_
        try simp only [Act.put, List.setIfInBounds_toArray, List.set_cons_zero, List.set_cons_succ]
        refine wpAnyT_take (i := 16) (v := undef) rfl (by kernel_rfl) (fun _ _ _ h => h) (Or.inr ⟨by kernel_rfl, rfl⟩) HS ?_
        try simp only [Act.put, List.setIfInBounds_toArray, List.set_cons_zero, List.set_cons_succ]
        refine wpAnyT_take (i := 17) (v := undef) rfl (by kernel_rfl) (fun _ _ _ h => h) (Or.inr ⟨by kernel_rfl, rfl⟩) HS ?_
        try simp only [Act.put, List.setIfInBounds_toArray, List.set_cons_zero, List.set_cons_succ]
        refine wpAnyT_take (i := 18) (v := undef) rfl (by kernel_rfl) (fun _ _ _ h => h) (Or.inr ⟨by kernel_rfl, rfl⟩) HS ?_
        try simp only [Act.put, List.setIfInBounds_toArray, List.set_cons_zero, List.set_cons_succ]
        refine wpAnyT_take (i := 19) (v := undef) rfl (by kernel_rfl) (fun _ _ _ h => h) (Or.inr ⟨by kernel_rfl, rfl⟩) HS ?_
        try simp only [Act.put, List.setIfInBounds_toArray, List.set_cons_zero, List.set_cons_succ]
        refine wpAnyT_take (i := 20) (v := undef) rfl (by kernel_rfl) (fun _ _ _ h => h) (Or.inr ⟨by kernel_rfl, rfl⟩) HS ?_
        try simp only [Act.put, List.setIfInBounds_toArray, List.set_cons_zero, List.set_cons_succ]
        refine wpAnyT_take (i := 21) (v := undef) rfl (by kernel_rfl) (fun _ _ _ h => h) (Or.inr ⟨by kernel_rfl, rfl⟩) HS ?_
        try simp only [Act.put, List.setIfInBounds_toArray, List.set_cons_zero, List.set_cons_succ]
        refine wpAnyT_take (i := 22) (v := undef) rfl (by kernel_rfl) (fun _ _ _ h => h) (Or.inr ⟨by kernel_rfl, rfl⟩) HS ?_
        try simp only [Act.put, List.setIfInBounds_toArray, List.set_cons_zero, List.set_cons_succ]
        refine wpAnyT_take (i := 23) (v := undef) rfl (by kernel_rfl) (fun _ _ _ h => h) (Or.inr ⟨by kernel_rfl, rfl⟩) HS ?_
        try simp only [Act.put, List.setIfInBounds_toArray, List.set_cons_zero, List.set_cons_succ]
        refine wpAnyT_take (i := 24) (v := undef) rfl (by kernel_rfl) (fun _ _ _ h => h) (Or.inr ⟨by kernel_rfl, rfl⟩) HS ?_
        try simp only [Act.put, List.setIfInBounds_toArray, List.set_cons_zero, List.set_cons_succ]
        refine wpAnyT_take (i := 25) (v := undef) rfl (by kernel_rfl) (fun _ _ _ h => h) (Or.inr ⟨by kernel_rfl, rfl⟩) HS ?_
        try simp only [Act.put, List.setIfInBounds_toArray, List.set_cons_zero, List.set_cons_succ]
        refine wpAnyT_take (i := 26) (v := undef) rfl (by kernel_rfl) (fun _ _ _ h => h) (Or.inr ⟨by kernel_rfl, rfl⟩) HS ?_
        try simp only [Act.put, List.setIfInBounds_toArray, List.set_cons_zero, List.set_cons_succ]
        refine wpAnyT_take (i := 27) (v := undef) rfl (by kernel_rfl) (fun _ _ _ h => h) (Or.inr ⟨by kernel_rfl, rfl⟩) HS ?_
        try simp only [Act.put, List.setIfInBounds_toArray, List.set_cons_zero, List.set_cons_succ]
        refine ⟨by kernel_rfl, ?_⟩
        simp only [List.drop_succ_cons, List.drop_zero]
        have ee := HS.1; have er := HS.2.2.1; have err := HS.2.2.2.2.2.1; have eb := HS.2.2.2.2.2.2.1
        have xe0 := ee.cell 0 rfl; have xe1 := ee.cell 1 rfl; have xe2 := ee.cell 2 rfl
        have xr0 := er.cell 0 rfl; have xr1 := er.cell 1 rfl; have xr2 := er.cell 2 rfl
        go_wp2_with fail
        go_ret
        exact ⟨rfl, eb⟩
      case pos =>
      have c0 : 0 ≤ a3 := hok.2.1; have c1 : a3 ≤ total := hok.2.2.1; have c2 : 0 ≤ a4 := hok.2.2.2.1; have c3 : a4 ≤ last := hok.2.2.2.2
      have HOK := Lib.hid hok; clear hok
      by_cases c5 : a4 = last
      case pos =>
        have HY : Hid (sampR ⟨total, last, l⟩ a3 a4 = (⟨total, last, l⟩, 0, 0)) := Lib.hid (samp_same HOK.out (by show last - a4 ≤ 0; omega))
        clear c5
        go_wp2_with (refine ra_load rfl (.tmp 5) rfl rfl e1 rfl ?_)
        clear x2
        refine (ratcame_any total last A n c l a1 a2 (fun _ => True) _ s1.sq (fun _ _ => trivial)).mono ?_
        rintro e w2 ⟨R1, m1, d1, he, hs1, hb2⟩
        rw [HX.out] at he hs1
        dsimp only [zrv] at he hs1
        subst he
        have hm1 : 0 = m1 := hs1.len
        subst hm1
        have e2 := (e1.kept hb2).alloc (.cells #[.int .i64 0, .int .i64 0, .slice R1 0 d1] 24)
        have s2 := (s1.keep hb2).alloc (.cells #[.int .i64 0, .int .i64 0, .slice R1 0 d1] 24)
        have b2 := (b1.trans (hb2.mono (Nat.le_of_lt e1.lt))).alloc (Nat.le_of_lt (e1.kept hb2).lt) (.cells #[.int .i64 0, .int .i64 0, .slice R1 0 d1] 24)
        have pp2 := hs1.si.alloc (.cells #[.int .i64 0, .int .i64 0, .slice R1 0 d1] 24)
        clear hs1
        obtain ⟨V1, hV1⟩ : ∃ V, w2.heap.size = V := ⟨_, rfl⟩
        have p2 := Bx.new w2 24 [.int .i64 0, .int .i64 0, .slice R1 0 d1]
        rw [hV1] at p2
        go_wp2_with (refine ra_load rfl (.tmp 5) rfl rfl e2 rfl ?_)
        refine (ratsamp_any total last A n c l a3 a4 (fun _ => True) _ s2.sq (fun _ _ => trivial)).mono ?_
        rintro e w3 ⟨R2, m2, d2, he, hs2, hb3⟩
        rw [HY.out] at he hs2
        dsimp only [zrv] at he hs2
        subst he
        have hm2 : n = m2 := HL.out.symm.trans hs2.len
        subst hm2
        have e3 := (e2.kept hb3).alloc (.cells #[.int .i64 total, .int .i64 last, .slice R2 n d2] 24)
        have s3 := (s2.keep hb3).alloc (.cells #[.int .i64 total, .int .i64 last, .slice R2 n d2] 24)
        have p3 := (p2.kept hb3).alloc (.cells #[.int .i64 total, .int .i64 last, .slice R2 n d2] 24)
        have pp3 := (pp2.keep hb3).alloc (.cells #[.int .i64 total, .int .i64 last, .slice R2 n d2] 24)
        have b3 := (b2.trans (hb3.mono (Nat.le_of_lt e2.lt))).alloc (Nat.le_of_lt (e2.kept hb3).lt) (.cells #[.int .i64 total, .int .i64 last, .slice R2 n d2] 24)
        have rr3 := hs2.si.alloc (.cells #[.int .i64 total, .int .i64 last, .slice R2 n d2] 24)
        clear hs2
        obtain ⟨V2, hV2⟩ : ∃ V, w3.heap.size = V := ⟨_, rfl⟩
        have r3 := Bx.new w3 24 [.int .i64 total, .int .i64 last, .slice R2 n d2]
        rw [hV2] at r3
        go_upto_region 6 with fail
        refine wp_region_tail 28 29 (fun (W : World) => Bx W B 24 [.int .i64 total, .int .i64 last, .slice A n c] ∧ Bx W V1 24 [.int .i64 0, .int .i64 0, .slice R1 0 d1] ∧ Bx W V2 24 [.int .i64 total, .int .i64 last, .slice R2 n d2] ∧ Si W A n c l ∧ Si W R1 0 d1 [] ∧ Si W R2 n d2 l ∧ Below B w W ∧ (W.cell? ⟨V1, 0, none⟩ = some (.int .i64 0) ∧ W.cell? ⟨V1, 1, none⟩ = some (.int .i64 0) ∧ W.cell? ⟨B, 0, none⟩ = some (.int .i64 total))) (by kernel_rfl) (by rfl) (by decide) ?_
        have HS : ((fun (W : World) => Bx W B 24 [.int .i64 total, .int .i64 last, .slice A n c] ∧ Bx W V1 24 [.int .i64 0, .int .i64 0, .slice R1 0 d1] ∧ Bx W V2 24 [.int .i64 total, .int .i64 last, .slice R2 n d2] ∧ Si W A n c l ∧ Si W R1 0 d1 [] ∧ Si W R2 n d2 l ∧ Below B w W ∧ (W.cell? ⟨V1, 0, none⟩ = some (.int .i64 0) ∧ W.cell? ⟨V1, 1, none⟩ = some (.int .i64 0) ∧ W.cell? ⟨B, 0, none⟩ = some (.int .i64 total)))) _ := ⟨e3.drew, p3.drew, r3.drew, s3.keep ((Below.refl _ _).drew), pp3.keep ((Below.refl _ _).drew), rr3.keep ((Below.refl _ _).drew), b3.drew, p3.drew.cell 0 rfl, p3.drew.cell 1 rfl, e3.drew.cell 0 rfl⟩
        refine wpAnyT_take (i := 0) (v := ?vv7) rfl (by kernel_rfl) (fun _ _ _ h => h) (Or.inl ⟨by rfl, fun w hSw => ?yy7⟩) HS ?rr7
        case yy7 =>
          (try dsimp only at hSw); go_simp
          try with_reducible rfl
        try simp only [Act.put, List.setIfInBounds_toArray, List.set_cons_zero, List.set_cons_succ]
        refine wpAnyT_take (i := 1) (v := .bool false) rfl (by kernel_rfl) (fun _ _ _ h => h) (Or.inl ⟨by rfl, fun w hSw => ?_⟩) HS ?_
        · (try dsimp only at hSw); go_simp
        try simp only [Act.put, List.setIfInBounds_toArray, List.set_cons_zero, List.set_cons_succ]
        refine wpAnyT_take (i := 2) (v := .bool false) rfl (by kernel_rfl) (fun _ _ _ h => h) (Or.inl ⟨by rfl, fun w hSw => ?_⟩) HS ?_
        · (try dsimp only at hSw); go_simp
        try simp only [Act.put, List.setIfInBounds_toArray, List.set_cons_zero, List.set_cons_succ]
        refine wpAnyT_take (i := 3) (v := undef) rfl (by kernel_rfl) (fun _ _ _ h => h) (Or.inr ⟨by kernel_rfl, rfl⟩) HS ?_
        try simp only [Act.put, List.setIfInBounds_toArray, List.set_cons_zero, List.set_cons_succ]
        refine wpAnyT_take (i := 4) (v := undef) rfl (by kernel_rfl) (fun _ _ _ h => h) (Or.inr ⟨by kernel_rfl, rfl⟩) HS ?_
        try simp only [Act.put, List.setIfInBounds_toArray, List.set_cons_zero, List.set_cons_succ]
        refine wpAnyT_take (i := 5) (v := undef) rfl (by kernel_rfl) (fun _ _ _ h => h) (Or.inr ⟨by kernel_rfl, rfl⟩) HS ?_
        try simp only [Act.put, List.setIfInBounds_toArray, List.set_cons_zero, List.set_cons_succ]
        refine wpAnyT_take (i := 6) (v := undef) rfl (by kernel_rfl) (fun _ _ _ h => h) (Or.inr ⟨by kernel_rfl, rfl⟩) HS ?_
        try simp only [Act.put, List.setIfInBounds_toArray, List.set_cons_zero, List.set_cons_succ]
        refine wpAnyT_take (i := 7) (v := undef) rfl (by kernel_rfl) (fun _ _ _ h => h) (Or.inr ⟨by kernel_rfl, rfl⟩) HS ?_
        try simp only [Act.put, List.setIfInBounds_toArray, List.set_cons_zero, List.set_cons_succ]
        refine wpAnyT_take (i := 8) (v := undef) rfl (by kernel_rfl) (fun _ _ _ h => h) (Or.inr ⟨by kernel_rfl, rfl⟩) HS ?_
        try simp only [Act.put, List.setIfInBounds_toArray, List.set_cons_zero, List.set_cons_succ]
        refine wpAnyT_take (i := 9) (v := undef) rfl (by kernel_rfl) (fun _ _ _ h => h) (Or.inr ⟨by kernel_rfl, rfl⟩) HS ?_
        try simp only [Act.put, List.setIfInBounds_toArray, List.set_cons_zero, List.set_cons_succ]
        refine wpAnyT_take (i := 10) (v := undef) rfl (by kernel_rfl) (fun _ _ _ h => h) (Or.inr ⟨by kernel_rfl, rfl⟩) HS ?_
        try simp only [Act.put, List.setIfInBounds_toArray, List.set_cons_zero, List.set_cons_succ]
        refine wpAnyT_take (i := 11) (v := undef) rfl (by kernel_rfl) (fun _ _ _ h => h) (Or.inr ⟨by kernel_rfl, rfl⟩) HS ?_
        try simp only [Act.put, List.setIfInBounds_toArray, List.set_cons_zero, List.set_cons_succ]
        refine wpAnyT_take (i := 12) (v := undef) rfl (by kernel_rfl) (fun _ _ _ h => h) (Or.inr ⟨by kernel_rfl, rfl⟩) HS ?_
        try simp only [Act.put, List.setIfInBounds_toArray, List.set_cons_zero, List.set_cons_succ]
        refine wpAnyT_take (i := 13) (v := undef) rfl (by kernel_rfl) (fun _ _ _ h => h) (Or.inr ⟨by kernel_rfl, rfl⟩) HS ?_
        try simp only [Act.put, List.setIfInBounds_toArray, List.set_cons_zero, List.set_cons_succ]
        refine wpAnyT_take (i := 14) (v := undef) rfl (by kernel_rfl) (fun _ _ _ h => h) (Or.inr ⟨by kernel_rfl, rfl⟩) HS ?_
        try simp only [Act.put, List.setIfInBounds_toArray, List.set_cons_zero, List.set_cons_succ]
        refine wpAnyT_take (i := 15) (v := undef) rfl (by kernel_rfl) (fun _ _ _ h => h) (Or.inr ⟨by kernel_rfl, rfl⟩) HS ?_
        try simp only [Act.put, List.setIfInBounds_toArray, List.set_cons_zero, List.set_cons_succ]
        refine wpAnyT_take (i := 16) (v := undef) rfl (by kernel_rfl) (fun _ _ _ h => h) (Or.inr ⟨by kernel_rfl, rfl⟩) HS ?_
        try simp only [Act.put, List.setIfInBounds_toArray, List.set_cons_zero, List.set_cons_succ]
        refine wpAnyT_take (i := 17) (v := undef) rfl (by kernel_rfl) (fun _ _ _ h => h) (Or.inr ⟨by kernel_rfl, rfl⟩) HS ?_
        try simp only [Act.put, List.setIfInBounds_toArray, List.set_cons_zero, List.set_cons_succ]
        refine wpAnyT_take (i := 18) (v := undef) rfl (by kernel_rfl) (fun _ _ _ h => h) (Or.inr ⟨by kernel_rfl, rfl⟩) HS ?_
        try simp only [Act.put, List.setIfInBounds_toArray, List.set_cons_zero, List.set_cons_succ]
        refine wpAnyT_take (i := 19) (v := undef) rfl (by kernel_rfl) (fun _ _ _ h => h) (Or.inr ⟨by kernel_rfl, rfl⟩) HS ?_
        try simp only [Act.put, List.setIfInBounds_toArray, List.set_cons_zero, List.set_cons_succ]
        refine wpAnyT_take (i := 20) (v := undef) rfl (by kernel_rfl) (fun _ _ _ h => h) (Or.inr ⟨by kernel_rfl, rfl⟩) HS ?_
        try simp only [Act.put, List.setIfInBounds_toArray, List.set_cons_zero, List.set_cons_succ]
        refine wpAnyT_take (i := 21) (v := undef) rfl (by kernel_rfl) (fun _ _ _ h => h) (Or.inr ⟨by kernel_rfl, rfl⟩) HS ?_
        try simp only [Act.put, List.setIfInBounds_toArray, List.set_cons_zero, List.set_cons_succ]
        refine wpAnyT_take (i := 22) (v := undef) rfl (by kernel_rfl) (fun _ _ _ h => h) (Or.inr ⟨by kernel_rfl, rfl⟩) HS ?_
        try simp only [Act.put, List.setIfInBounds_toArray, List.set_cons_zero, List.set_cons_succ]
        refine wpAnyT_take (i := 23) (v := undef) rfl (by kernel_rfl) (fun _ _ _ h => h) (Or.inr ⟨by kernel_rfl, rfl⟩) HS ?_
        try simp only [Act.put, List.setIfInBounds_toArray, List.set_cons_zero, List.set_cons_succ]
        refine wpAnyT_take (i := 24) (v := undef) rfl (by kernel_rfl) (fun _ _ _ h => h) (Or.inr ⟨by kernel_rfl, rfl⟩) HS ?_
        try simp only [Act.put, List.setIfInBounds_toArray, List.set_cons_zero, List.set_cons_succ]
        refine wpAnyT_take (i := 25) (v := undef) rfl (by kernel_rfl) (fun _ _ _ h => h) (Or.inr ⟨by kernel_rfl, rfl⟩) HS ?_
        try simp only [Act.put, List.setIfInBounds_toArray, List.set_cons_zero, List.set_cons_succ]
        refine wpAnyT_take (i := 26) (v := undef) rfl (by kernel_rfl) (fun _ _ _ h => h) (Or.inr ⟨by kernel_rfl, rfl⟩) HS ?_
        try simp only [Act.put, List.setIfInBounds_toArray, List.set_cons_zero, List.set_cons_succ]
        refine wpAnyT_take (i := 27) (v := undef) rfl (by kernel_rfl) (fun _ _ _ h => h) (Or.inr ⟨by kernel_rfl, rfl⟩) HS ?_
        try simp only [Act.put, List.setIfInBounds_toArray, List.set_cons_zero, List.set_cons_succ]
        refine ⟨by kernel_rfl, ?_⟩
        simp only [List.drop_succ_cons, List.drop_zero]
        have ee := HS.1; have er := HS.2.2.1; have err := HS.2.2.2.2.2.1; have eb := HS.2.2.2.2.2.2.1
        have xe0 := ee.cell 0 rfl; have xe1 := ee.cell 1 rfl; have xe2 := ee.cell 2 rfl
        have xr0 := er.cell 0 rfl; have xr1 := er.cell 1 rfl; have xr2 := er.cell 2 rfl
        go_wp2_with fail
        refine (ratmay_any total last R2 n d2 l _ err).mono ?_
        rintro e wm ⟨rfl, hm⟩
        rw [HK.out]
        have ee2 := ee.kept hm; have er2 := er.kept hm; have err2 := err.keep hm; have eb2 := eb.trans (hm.mono (Nat.le_of_lt ee.lt))
        have ye0 := ee2.cell 0 rfl; have ye1 := ee2.cell 1 rfl; have ye2 := ee2.cell 2 rfl
        have yr0 := er2.cell 0 rfl; have yr1 := er2.cell 1 rfl; have yr2 := er2.cell 2 rfl
        go_wp2_with fail
        refine (ratbest_any total last R2 n d2 l _ err2).mono ?_
        rintro e wn ⟨rfl, hn2⟩
        rw [HBM.out]
        have eb3 := eb2.trans (hn2.mono (Nat.le_of_lt ee2.lt))
        go_wp2_with fail
        go_ret
        exact ⟨rfl, eb3⟩
      case neg =>
      obtain ⟨nr, hnr⟩ : ∃ nr, numR (total - a3) (last - a4) = nr := ⟨_, rfl⟩
      have hnb := num_bd (a := total - a3) (d := last - a4) (by omega) (by omega)
      rw [hnr] at hnb
      obtain ⟨nr0, nr1⟩ := hnb
      have HY : Hid (sampR ⟨total, last, l⟩ a3 a4 = (⟨total, last, pushR l nr⟩, nr, 0)) := Lib.hid (by rw [samp_ok HOK.out (by show ¬ last - a4 ≤ 0; omega)]; show ((⟨total, last, pushR l (numR (total - a3) (last - a4))⟩ : Rv), numR (total - a3) (last - a4), (0 : Int)) = _; rw [hnr])
      have hmy : ramay ⟨total, last, pushR l nr⟩ = true := by
        have := (ramay_iff _).2 (samp_valid HOK.out)
        rw [HY.out] at this
        exact this
      obtain ⟨by_, hby⟩ : ∃ t, bestR ⟨total, last, pushR l nr⟩ = t := ⟨_, rfl⟩
      have hge : nr ≤ by_ := by
        rw [← hby]; unfold bestR; rw [if_pos hmy]; exact mx_ge push_in
      have HMY := Lib.hid hmy; have HBY := Lib.hid hby
      clear hnr hmy hby c5
      go_wp2_with (refine ra_load rfl (.tmp 5) rfl rfl e1 rfl ?_)
      clear x2
      refine (ratcame_any total last A n c l a1 a2 (fun _ => True) _ s1.sq (fun _ _ => trivial)).mono ?_
      rintro e w2 ⟨R1, m1, d1, he, hs1, hb2⟩
      rw [HX.out] at he hs1
      dsimp only [zrv] at he hs1
      subst he
      have hm1 : 0 = m1 := hs1.len
      subst hm1
      have e2 := (e1.kept hb2).alloc (.cells #[.int .i64 0, .int .i64 0, .slice R1 0 d1] 24)
      have s2 := (s1.keep hb2).alloc (.cells #[.int .i64 0, .int .i64 0, .slice R1 0 d1] 24)
      have b2 := (b1.trans (hb2.mono (Nat.le_of_lt e1.lt))).alloc (Nat.le_of_lt (e1.kept hb2).lt) (.cells #[.int .i64 0, .int .i64 0, .slice R1 0 d1] 24)
      have pp2 := hs1.si.alloc (.cells #[.int .i64 0, .int .i64 0, .slice R1 0 d1] 24)
      clear hs1
      obtain ⟨V1, hV1⟩ : ∃ V, w2.heap.size = V := ⟨_, rfl⟩
      have p2 := Bx.new w2 24 [.int .i64 0, .int .i64 0, .slice R1 0 d1]
      rw [hV1] at p2
      go_wp2_with (refine ra_load rfl (.tmp 5) rfl rfl e2 rfl ?_)
      refine (ratsamp_any total last A n c l a3 a4 (fun _ => True) _ s2.sq (fun _ _ => trivial)).mono ?_
      rintro e w3 ⟨R2, m2, d2, he, hs2, hb3⟩
      rw [HY.out] at he hs2
      dsimp only [zrv] at he hs2
      subst he
      have e3 := (e2.kept hb3).alloc (.cells #[.int .i64 total, .int .i64 last, .slice R2 m2 d2] 24)
      have s3 := (s2.keep hb3).alloc (.cells #[.int .i64 total, .int .i64 last, .slice R2 m2 d2] 24)
      have p3 := (p2.kept hb3).alloc (.cells #[.int .i64 total, .int .i64 last, .slice R2 m2 d2] 24)
      have pp3 := (pp2.keep hb3).alloc (.cells #[.int .i64 total, .int .i64 last, .slice R2 m2 d2] 24)
      have b3 := (b2.trans (hb3.mono (Nat.le_of_lt e2.lt))).alloc (Nat.le_of_lt (e2.kept hb3).lt) (.cells #[.int .i64 total, .int .i64 last, .slice R2 m2 d2] 24)
      have rr3 := hs2.si.alloc (.cells #[.int .i64 total, .int .i64 last, .slice R2 m2 d2] 24)
      clear hs2
      obtain ⟨V2, hV2⟩ : ∃ V, w3.heap.size = V := ⟨_, rfl⟩
      have r3 := Bx.new w3 24 [.int .i64 total, .int .i64 last, .slice R2 m2 d2]
      rw [hV2] at r3
      go_upto_region 6 with fail
      refine wp_region_tail 28 29 (fun (W : World) => Bx W B 24 [.int .i64 total, .int .i64 last, .slice A n c] ∧ Bx W V1 24 [.int .i64 0, .int .i64 0, .slice R1 0 d1] ∧ Bx W V2 24 [.int .i64 total, .int .i64 last, .slice R2 m2 d2] ∧ Si W A n c l ∧ Si W R1 0 d1 [] ∧ Si W R2 m2 d2 (pushR l nr) ∧ Below B w W ∧ (W.cell? ⟨V1, 0, none⟩ = some (.int .i64 0) ∧ W.cell? ⟨V1, 1, none⟩ = some (.int .i64 0) ∧ W.cell? ⟨B, 0, none⟩ = some (.int .i64 total))) (by kernel_rfl) (by rfl) (by decide) ?_
      have HS : ((fun (W : World) => Bx W B 24 [.int .i64 total, .int .i64 last, .slice A n c] ∧ Bx W V1 24 [.int .i64 0, .int .i64 0, .slice R1 0 d1] ∧ Bx W V2 24 [.int .i64 total, .int .i64 last, .slice R2 m2 d2] ∧ Si W A n c l ∧ Si W R1 0 d1 [] ∧ Si W R2 m2 d2 (pushR l nr) ∧ Below B w W ∧ (W.cell? ⟨V1, 0, none⟩ = some (.int .i64 0) ∧ W.cell? ⟨V1, 1, none⟩ = some (.int .i64 0) ∧ W.cell? ⟨B, 0, none⟩ = some (.int .i64 total)))) _ := ⟨e3.drew, p3.drew, r3.drew, s3.keep ((Below.refl _ _).drew), pp3.keep ((Below.refl _ _).drew), rr3.keep ((Below.refl _ _).drew), b3.drew, p3.drew.cell 0 rfl, p3.drew.cell 1 rfl, e3.drew.cell 0 rfl⟩
      refine wpAnyT_take (i := 0) (v := ?vv10) rfl (by kernel_rfl) (fun _ _ _ h => h) (Or.inl ⟨by rfl, fun w hSw => ?yy10⟩) HS ?rr10
      case yy10 =>
        (try dsimp only at hSw); go_simp
        try with_reducible rfl
      try simp only [Act.put, List.setIfInBounds_toArray, List.set_cons_zero, List.set_cons_succ]
      refine wpAnyT_take (i := 1) (v := .bool false) rfl (by kernel_rfl) (fun _ _ _ h => h) (Or.inl ⟨by rfl, fun w hSw => ?_⟩) HS ?_
      · (try dsimp only at hSw); go_simp
      try simp only [Act.put, List.setIfInBounds_toArray, List.set_cons_zero, List.set_cons_succ]
      refine wpAnyT_take (i := 2) (v := .bool false) rfl (by kernel_rfl) (fun _ _ _ h => h) (Or.inl ⟨by rfl, fun w hSw => ?_⟩) HS ?_
      · (try dsimp only at hSw); go_simp
      try simp only [Act.put, List.setIfInBounds_toArray, List.set_cons_zero, List.set_cons_succ]
      refine wpAnyT_take (i := 3) (v := undef) rfl (by kernel_rfl) (fun _ _ _ h => h) (Or.inr ⟨by kernel_rfl, rfl⟩) HS ?_
      try simp only [Act.put, List.setIfInBounds_toArray, List.set_cons_zero, List.set_cons_succ]
      refine wpAnyT_take (i := 4) (v := undef) rfl (by kernel_rfl) (fun _ _ _ h => h) (Or.inr ⟨by kernel_rfl, rfl⟩) HS ?_
      try simp only [Act.put, List.setIfInBounds_toArray, List.set_cons_zero, List.set_cons_succ]
      refine wpAnyT_take (i := 5) (v := undef) rfl (by kernel_rfl) (fun _ _ _ h => h) (Or.inr ⟨by kernel_rfl, rfl⟩) HS ?_
      try simp only [Act.put, List.setIfInBounds_toArray, List.set_cons_zero, List.set_cons_succ]
      refine wpAnyT_take (i := 6) (v := undef) rfl (by kernel_rfl) (fun _ _ _ h => h) (Or.inr ⟨by kernel_rfl, rfl⟩) HS ?_
      try simp only [Act.put, List.setIfInBounds_toArray, List.set_cons_zero, List.set_cons_succ]
      refine wpAnyT_take (i := 7) (v := undef) rfl (by kernel_rfl) (fun _ _ _ h => h) (Or.inr ⟨by kernel_rfl, rfl⟩) HS ?_
      try simp only [Act.put, List.setIfInBounds_toArray, List.set_cons_zero, List.set_cons_succ]
      refine wpAnyT_take (i := 8) (v := undef) rfl (by kernel_rfl) (fun _ _ _ h => h) (Or.inr ⟨by kernel_rfl, rfl⟩) HS ?_
      try simp only [Act.put, List.setIfInBounds_toArray, List.set_cons_zero, List.set_cons_succ]
      refine wpAnyT_take (i := 9) (v := undef) rfl (by kernel_rfl) (fun _ _ _ h => h) (Or.inr ⟨by kernel_rfl, rfl⟩) HS ?_
      try simp only [Act.put, List.setIfInBounds_toArray, List.set_cons_zero, List.set_cons_succ]
      refine wpAnyT_take (i := 10) (v := undef) rfl (by kernel_rfl) (fun _ _ _ h => h) (Or.inr ⟨by kernel_rfl, rfl⟩) HS ?_
      try simp only [Act.put, List.setIfInBounds_toArray, List.set_cons_zero, List.set_cons_succ]
      refine wpAnyT_take (i := 11) (v := undef) rfl (by kernel_rfl) (fun _ _ _ h => h) (Or.inr ⟨by kernel_rfl, rfl⟩) HS ?_
      try simp only [Act.put, List.setIfInBounds_toArray, List.set_cons_zero, List.set_cons_succ]
      refine wpAnyT_take (i := 12) (v := undef) rfl (by kernel_rfl) (fun _ _ _ h => h) (Or.inr ⟨by kernel_rfl, rfl⟩) HS ?_
      try simp only [Act.put, List.setIfInBounds_toArray, List.set_cons_zero, List.set_cons_succ]
      refine wpAnyT_take (i := 13) (v := undef) rfl (by kernel_rfl) (fun _ _ _ h => h) (Or.inr ⟨by kernel_rfl, rfl⟩) HS ?_
      try simp only [Act.put, List.setIfInBounds_toArray, List.set_cons_zero, List.set_cons_succ]
      refine wpAnyT_take (i := 14) (v := undef) rfl (by kernel_rfl) (fun _ _ _ h => h) (Or.inr ⟨by kernel_rfl, rfl⟩) HS ?_
      try simp only [Act.put, List.setIfInBounds_toArray, List.set_cons_zero, List.set_cons_succ]
      refine wpAnyT_take (i := 15) (v := undef) rfl (by kernel_rfl) (fun _ _ _ h => h) (Or.inr ⟨by kernel_rfl, rfl⟩) HS ?_
      try simp only [Act.put, List.setIfInBounds_toArray, List.set_cons_zero, List.set_cons_succ]
      refine wpAnyT_take (i := 16) (v := undef) rfl (by kernel_rfl) (fun _ _ _ h => h) (Or.inr ⟨by kernel_rfl, rfl⟩) HS ?_
      try simp only [Act.put, List.setIfInBounds_toArray, List.set_cons_zero, List.set_cons_succ]
      refine wpAnyT_take (i := 17) (v := undef) rfl (by kernel_rfl) (fun _ _ _ h => h) (Or.inr ⟨by kernel_rfl, rfl⟩) HS ?_
      try simp only [Act.put, List.setIfInBounds_toArray, List.set_cons_zero, List.set_cons_succ]
      refine wpAnyT_take (i := 18) (v := undef) rfl (by kernel_rfl) (fun _ _ _ h => h) (Or.inr ⟨by kernel_rfl, rfl⟩) HS ?_
      try simp only [Act.put, List.setIfInBounds_toArray, List.set_cons_zero, List.set_cons_succ]
      refine wpAnyT_take (i := 19) (v := undef) rfl (by kernel_rfl) (fun _ _ _ h => h) (Or.inr ⟨by kernel_rfl, rfl⟩) HS ?_
      try simp only [Act.put, List.setIfInBounds_toArray, List.set_cons_zero, List.set_cons_succ]
      refine wpAnyT_take (i := 20) (v := undef) rfl (by kernel_rfl) (fun _ _ _ h => h) (Or.inr ⟨by kernel_rfl, rfl⟩) HS ?_
      try simp only [Act.put, List.setIfInBounds_toArray, List.set_cons_zero, List.set_cons_succ]
      refine wpAnyT_take (i := 21) (v := undef) rfl (by kernel_rfl) (fun _ _ _ h => h) (Or.inr ⟨by kernel_rfl, rfl⟩) HS ?_
      try simp only [Act.put, List.setIfInBounds_toArray, List.set_cons_zero, List.set_cons_succ]
      refine wpAnyT_take (i := 22) (v := undef) rfl (by kernel_rfl) (fun _ _ _ h => h) (Or.inr ⟨by kernel_rfl, rfl⟩) HS ?_
      try simp only [Act.put, List.setIfInBounds_toArray, List.set_cons_zero, List.set_cons_succ]
      refine wpAnyT_take (i := 23) (v := undef) rfl (by kernel_rfl) (fun _ _ _ h => h) (Or.inr ⟨by kernel_rfl, rfl⟩) HS ?_
      try simp only [Act.put, List.setIfInBounds_toArray, List.set_cons_zero, List.set_cons_succ]
      refine wpAnyT_take (i := 24) (v := undef) rfl (by kernel_rfl) (fun _ _ _ h => h) (Or.inr ⟨by kernel_rfl, rfl⟩) HS ?_
      try simp only [Act.put, List.setIfInBounds_toArray, List.set_cons_zero, List.set_cons_succ]
      refine wpAnyT_take (i := 25) (v := undef) rfl (by kernel_rfl) (fun _ _ _ h => h) (Or.inr ⟨by kernel_rfl, rfl⟩) HS ?_
      try simp only [Act.put, List.setIfInBounds_toArray, List.set_cons_zero, List.set_cons_succ]
      refine wpAnyT_take (i := 26) (v := undef) rfl (by kernel_rfl) (fun _ _ _ h => h) (Or.inr ⟨by kernel_rfl, rfl⟩) HS ?_
      try simp only [Act.put, List.setIfInBounds_toArray, List.set_cons_zero, List.set_cons_succ]
      refine wpAnyT_take (i := 27) (v := undef) rfl (by kernel_rfl) (fun _ _ _ h => h) (Or.inr ⟨by kernel_rfl, rfl⟩) HS ?_
      try simp only [Act.put, List.setIfInBounds_toArray, List.set_cons_zero, List.set_cons_succ]
      refine ⟨by kernel_rfl, ?_⟩
      simp only [List.drop_succ_cons, List.drop_zero]
      have ee := HS.1; have er := HS.2.2.1; have err := HS.2.2.2.2.2.1; have eb := HS.2.2.2.2.2.2.1
      have xe0 := ee.cell 0 rfl; have xe1 := ee.cell 1 rfl; have xe2 := ee.cell 2 rfl
      have xr0 := er.cell 0 rfl; have xr1 := er.cell 1 rfl; have xr2 := er.cell 2 rfl
      go_wp2_with fail
      refine (ratmay_any total last R2 m2 d2 (pushR l nr) _ err).mono ?_
      rintro e wm ⟨rfl, hm⟩
      rw [HMY.out]
      have ee2 := ee.kept hm; have er2 := er.kept hm; have err2 := err.keep hm; have eb2 := eb.trans (hm.mono (Nat.le_of_lt ee.lt))
      have ye0 := ee2.cell 0 rfl; have ye1 := ee2.cell 1 rfl; have ye2 := ee2.cell 2 rfl
      have yr0 := er2.cell 0 rfl; have yr1 := er2.cell 1 rfl; have yr2 := er2.cell 2 rfl
      go_wp2_with fail
      refine (ratbest_any total last R2 m2 d2 (pushR l nr) _ err2).mono ?_
      rintro e wn ⟨rfl, hn2⟩
      rw [HBY.out]
      have eb3 := eb2.trans (hn2.mono (Nat.le_of_lt ee2.lt))
      go_wp2_with fail
      go_ret
      exact ⟨rfl, eb3⟩
    · have HX := Lib.hid hx; clear hx
      by_cases hok : SampOk ⟨total, last, l⟩ a3 a4
      case neg =>
        have HY : Hid (sampR ⟨total, last, l⟩ a3 a4 = (zrv, 0, 1)) := Lib.hid (samp_no hok)
        clear hok
        go_wp2_with (refine ra_load rfl (.tmp 5) rfl rfl e1 rfl ?_)
        clear x2
        refine (ratcame_any total last A n c l a1 a2 (fun _ => True) _ s1.sq (fun _ _ => trivial)).mono ?_
        rintro e w2 ⟨R1, m1, d1, he, hs1, hb2⟩
        rw [HX.out] at he hs1
        dsimp only [zrv] at he hs1
        subst he
        have hm1 : 0 = m1 := hs1.len
        subst hm1
        have e2 := (e1.kept hb2).alloc (.cells #[.int .i64 0, .int .i64 0, .slice R1 0 d1] 24)
        have s2 := (s1.keep hb2).alloc (.cells #[.int .i64 0, .int .i64 0, .slice R1 0 d1] 24)
        have b2 := (b1.trans (hb2.mono (Nat.le_of_lt e1.lt))).alloc (Nat.le_of_lt (e1.kept hb2).lt) (.cells #[.int .i64 0, .int .i64 0, .slice R1 0 d1] 24)
        have pp2 := hs1.si.alloc (.cells #[.int .i64 0, .int .i64 0, .slice R1 0 d1] 24)
        clear hs1
        obtain ⟨V1, hV1⟩ : ∃ V, w2.heap.size = V := ⟨_, rfl⟩
        have p2 := Bx.new w2 24 [.int .i64 0, .int .i64 0, .slice R1 0 d1]
        rw [hV1] at p2
        go_wp2_with (refine ra_load rfl (.tmp 5) rfl rfl e2 rfl ?_)
        refine (ratsamp_any total last A n c l a3 a4 (fun _ => True) _ s2.sq (fun _ _ => trivial)).mono ?_
        rintro e w3 ⟨R2, m2, d2, he, hs2, hb3⟩
        rw [HY.out] at he hs2
        dsimp only [zrv] at he hs2
        subst he
        have hm2 : 0 = m2 := hs2.len
        subst hm2
        have e3 := (e2.kept hb3).alloc (.cells #[.int .i64 0, .int .i64 0, .slice R2 0 d2] 24)
        have s3 := (s2.keep hb3).alloc (.cells #[.int .i64 0, .int .i64 0, .slice R2 0 d2] 24)
        have p3 := (p2.kept hb3).alloc (.cells #[.int .i64 0, .int .i64 0, .slice R2 0 d2] 24)
        have pp3 := (pp2.keep hb3).alloc (.cells #[.int .i64 0, .int .i64 0, .slice R2 0 d2] 24)
        have b3 := (b2.trans (hb3.mono (Nat.le_of_lt e2.lt))).alloc (Nat.le_of_lt (e2.kept hb3).lt) (.cells #[.int .i64 0, .int .i64 0, .slice R2 0 d2] 24)
        have rr3 := hs2.si.alloc (.cells #[.int .i64 0, .int .i64 0, .slice R2 0 d2] 24)
        clear hs2
        obtain ⟨V2, hV2⟩ : ∃ V, w3.heap.size = V := ⟨_, rfl⟩
        have r3 := Bx.new w3 24 [.int .i64 0, .int .i64 0, .slice R2 0 d2]
        rw [hV2] at r3
        go_upto_region 6 with fail
        refine wp_region_tail 28 29 (fun (W : World) => Bx W B 24 [.int .i64 total, .int .i64 last, .slice A n c] ∧ Bx W V1 24 [.int .i64 0, .int .i64 0, .slice R1 0 d1] ∧ Bx W V2 24 [.int .i64 0, .int .i64 0, .slice R2 0 d2] ∧ Si W A n c l ∧ Si W R1 0 d1 [] ∧ Si W R2 0 d2 [] ∧ Below B w W ∧ (W.cell? ⟨V1, 0, none⟩ = some (.int .i64 0) ∧ W.cell? ⟨V1, 1, none⟩ = some (.int .i64 0) ∧ W.cell? ⟨B, 0, none⟩ = some (.int .i64 total))) (by kernel_rfl) (by rfl) (by decide) ?_
        have HS : ((fun (W : World) => Bx W B 24 [.int .i64 total, .int .i64 last, .slice A n c] ∧ Bx W V1 24 [.int .i64 0, .int .i64 0, .slice R1 0 d1] ∧ Bx W V2 24 [.int .i64 0, .int .i64 0, .slice R2 0 d2] ∧ Si W A n c l ∧ Si W R1 0 d1 [] ∧ Si W R2 0 d2 [] ∧ Below B w W ∧ (W.cell? ⟨V1, 0, none⟩ = some (.int .i64 0) ∧ W.cell? ⟨V1, 1, none⟩ = some (.int .i64 0) ∧ W.cell? ⟨B, 0, none⟩ = some (.int .i64 total)))) _ := ⟨e3.drew, p3.drew, r3.drew, s3.keep ((Below.refl _ _).drew), pp3.keep ((Below.refl _ _).drew), rr3.keep ((Below.refl _ _).drew), b3.drew, p3.drew.cell 0 rfl, p3.drew.cell 1 rfl, e3.drew.cell 0 rfl⟩
        refine wpAnyT_take (i := 0) (v := ?vv13) rfl (by kernel_rfl) (fun _ _ _ h => h) (Or.inl ⟨by rfl, fun w hSw => ?yy13⟩) HS ?rr13
        case yy13 =>
          (try dsimp only at hSw); go_simp
          try with_reducible rfl
        try simp only [Act.put, List.setIfInBounds_toArray, List.set_cons_zero, List.set_cons_succ]
        refine wpAnyT_take (i := 1) (v := .bool false) rfl (by kernel_rfl) (fun _ _ _ h => h) (Or.inl ⟨by rfl, fun w hSw => ?_⟩) HS ?_
        · (try dsimp only at hSw); go_simp
        try simp only [Act.put, List.setIfInBounds_toArray, List.set_cons_zero, List.set_cons_succ]
        refine wpAnyT_take (i := 2) (v := .bool false) rfl (by kernel_rfl) (fun _ _ _ h => h) (Or.inl ⟨by rfl, fun w hSw => ?_⟩) HS ?_
        · (try dsimp only at hSw); go_simp
        try simp only [Act.put, List.setIfInBounds_toArray, List.set_cons_zero, List.set_cons_succ]
        refine wpAnyT_take (i := 3) (v := undef) rfl (by kernel_rfl) (fun _ _ _ h => h) (Or.inr ⟨by kernel_rfl, rfl⟩) HS ?_
        try simp only [Act.put, List.setIfInBounds_toArray, List.set_cons_zero, List.set_cons_succ]
        refine wpAnyT_take (i := 4) (v := undef) rfl (by kernel_rfl) (fun _ _ _ h => h) (Or.inr ⟨by kernel_rfl, rfl⟩) HS ?_
        try simp only [Act.put, List.setIfInBounds_toArray, List.set_cons_zero, List.set_cons_succ]
        refine wpAnyT_take (i := 5) (v := undef) rfl (by kernel_rfl) (fun _ _ _ h => h) (Or.inr ⟨by kernel_rfl, rfl⟩) HS ?_
        try simp only [Act.put, List.setIfInBounds_toArray, List.set_cons_zero, List.set_cons_succ]
        refine wpAnyT_take (i := 6) (v := undef) rfl (by kernel_rfl) (fun _ _ _ h => h) (Or.inr ⟨by kernel_rfl, rfl⟩) HS ?_
        try simp only [Act.put, List.setIfInBounds_toArray, List.set_cons_zero, List.set_cons_succ]
        refine wpAnyT_take (i := 7) (v := undef) rfl (by kernel_rfl) (fun _ _ _ h => h) (Or.inr ⟨by kernel_rfl, rfl⟩) HS ?_
        try simp only [Act.put, List.setIfInBounds_toArray, List.set_cons_zero, List.set_cons_succ]
        refine wpAnyT_take (i := 8) (v := undef) rfl (by kernel_rfl) (fun _ _ _ h => h) (Or.inr ⟨by kernel_rfl, rfl⟩) HS ?_
        try simp only [Act.put, List.setIfInBounds_toArray, List.set_cons_zero, List.set_cons_succ]
        refine wpAnyT_take (i := 9) (v := undef) rfl (by kernel_rfl) (fun _ _ _ h => h) (Or.inr ⟨by kernel_rfl, rfl⟩) HS ?_
        try simp only [Act.put, List.setIfInBounds_toArray, List.set_cons_zero, List.set_cons_succ]
        refine wpAnyT_take (i := 10) (v := undef) rfl (by kernel_rfl) (fun _ _ _ h => h) (Or.inr ⟨by kernel_rfl, rfl⟩) HS ?_
        try simp only [Act.put, List.setIfInBounds_toArray, List.set_cons_zero, List.set_cons_succ]
        refine wpAnyT_take (i := 11) (v := undef) rfl (by kernel_rfl) (fun _ _ _ h => h) (Or.inr ⟨by kernel_rfl, rfl⟩) HS ?_
        try simp only [Act.put, List.setIfInBounds_toArray, List.set_cons_zero, List.set_cons_succ]
        refine wpAnyT_take (i := 12) (v := undef) rfl (by kernel_rfl) (fun _ _ _ h => h) (Or.inr ⟨by kernel_rfl, rfl⟩) HS ?_
        try simp only [Act.put, List.setIfInBounds_toArray, List.set_cons_zero, List.set_cons_succ]
        refine wpAnyT_take (i := 13) (v := undef) rfl (by kernel_rfl) (fun _ _ _ h => h) (Or.inr ⟨by kernel_rfl, rfl⟩) HS ?_
        try simp only [Act.put, List.setIfInBounds_toArray, List.set_cons_zero, List.set_cons_succ]
        refine wpAnyT_take (i := 14) (v := undef) rfl (by kernel_rfl) (fun _ _ _ h => h) (Or.inr ⟨by kernel_rfl, rfl⟩) HS ?_
        try simp only [Act.put, List.setIfInBounds_toArray, List.set_cons_zero, List.set_cons_succ]
        refine wpAnyT_take (i := 15) (v := undef) rfl (by kernel_rfl) (fun _ _ _ h => h) (Or.inr ⟨by kernel_rfl, rfl⟩) HS ?_
        try simp only [Act.put, List.setIfInBounds_toArray, List.set_cons_zero, List.set_cons_succ]
        refine wpAnyT_take (i := 16) (v := undef) rfl (by kernel_rfl) (fun _ _ _ h => h) (Or.inr ⟨by kernel_rfl, rfl⟩) HS ?_
        try simp only [Act.put, List.setIfInBounds_toArray, List.set_cons_zero, List.set_cons_succ]
        refine wpAnyT_take (i := 17) (v := undef) rfl (by kernel_rfl) (fun _ _ _ h => h) (Or.inr ⟨by kernel_rfl, rfl⟩) HS ?_
        try simp only [Act.put, List.setIfInBounds_toArray, List.set_cons_zero, List.set_cons_succ]
        refine wpAnyT_take (i := 18) (v := undef) rfl (by kernel_rfl) (fun _ _ _ h => h) (Or.inr ⟨by kernel_rfl, rfl⟩) HS ?_
        try simp only [Act.put, List.setIfInBounds_toArray, List.set_cons_zero, List.set_cons_succ]
        refine wpAnyT_take (i := 19) (v := undef) rfl (by kernel_rfl) (fun _ _ _ h => h) (Or.inr ⟨by kernel_rfl, rfl⟩) HS ?_
        try simp only [Act.put, List.setIfInBounds_toArray, List.set_cons_zero, List.set_cons_succ]
        refine wpAnyT_take (i := 20) (v := undef) rfl (by kernel_rfl) (fun _ _ _ h => h) (Or.inr ⟨by kernel_rfl, rfl⟩) HS ?_
        try simp only [Act.put, List.setIfInBounds_toArray, List.set_cons_zero, List.set_cons_succ]
        refine wpAnyT_take (i := 21) (v := undef) rfl (by kernel_rfl) (fun _ _ _ h => h) (Or.inr ⟨by kernel_rfl, rfl⟩) HS ?_
        try simp only [Act.put, List.setIfInBounds_toArray, List.set_cons_zero, List.set_cons_succ]
        refine wpAnyT_take (i := 22) (v := undef) rfl (by kernel_rfl) (fun _ _ _ h => h) (Or.inr ⟨by kernel_rfl, rfl⟩) HS ?_
        try simp only [Act.put, List.setIfInBounds_toArray, List.set_cons_zero, List.set_cons_succ]
        refine wpAnyT_take (i := 23) (v := undef) rfl (by kernel_rfl) (fun _ _ _ h => h) (Or.inr ⟨by kernel_rfl, rfl⟩) HS ?_
        try simp only [Act.put, List.setIfInBounds_toArray, List.set_cons_zero, List.set_cons_succ]
        refine wpAnyT_take (i := 24) (v := undef) rfl (by kernel_rfl) (fun _ _ _ h => h) (Or.inr ⟨by kernel_rfl, rfl⟩) HS ?_
        try simp only [Act.put, List.setIfInBounds_toArray, List.set_cons_zero, List.set_cons_succ]
        refine wpAnyT_take (i := 25) (v := undef) rfl (by kernel_rfl) (fun _ _ _ h => h) (Or.inr ⟨by kernel_rfl, rfl⟩) HS ?_
        try simp only [Act.put, List.setIfInBounds_toArray, List.set_cons_zero, List.set_cons_succ]
        refine wpAnyT_take (i := 26) (v := undef) rfl (by kernel_rfl) (fun _ _ _ h => h) (Or.inr ⟨by kernel_rfl, rfl⟩) HS ?_
        try simp only [Act.put, List.setIfInBounds_toArray, List.set_cons_zero, List.set_cons_succ]
        refine wpAnyT_take (i := 27) (v := undef) rfl (by kernel_rfl) (fun _ _ _ h => h) (Or.inr ⟨by kernel_rfl, rfl⟩) HS ?_
        try simp only [Act.put, List.setIfInBounds_toArray, List.set_cons_zero, List.set_cons_succ]
        refine ⟨by kernel_rfl, ?_⟩
        simp only [List.drop_succ_cons, List.drop_zero]
        have ee := HS.1; have er := HS.2.2.1; have err := HS.2.2.2.2.2.1; have eb := HS.2.2.2.2.2.2.1
        have xe0 := ee.cell 0 rfl; have xe1 := ee.cell 1 rfl; have xe2 := ee.cell 2 rfl
        have xr0 := er.cell 0 rfl; have xr1 := er.cell 1 rfl; have xr2 := er.cell 2 rfl
        go_wp2_with fail
        go_ret
        exact ⟨rfl, eb⟩
      case pos =>
      have c0 : 0 ≤ a3 := hok.2.1; have c1 : a3 ≤ total := hok.2.2.1; have c2 : 0 ≤ a4 := hok.2.2.2.1; have c3 : a4 ≤ last := hok.2.2.2.2
      have HOK := Lib.hid hok; clear hok
      by_cases c5 : a4 = last
      case pos =>
        have HY : Hid (sampR ⟨total, last, l⟩ a3 a4 = (⟨total, last, l⟩, 0, 0)) := Lib.hid (samp_same HOK.out (by show last - a4 ≤ 0; omega))
        clear c5
        go_wp2_with (refine ra_load rfl (.tmp 5) rfl rfl e1 rfl ?_)
        clear x2
        refine (ratcame_any total last A n c l a1 a2 (fun _ => True) _ s1.sq (fun _ _ => trivial)).mono ?_
        rintro e w2 ⟨R1, m1, d1, he, hs1, hb2⟩
        rw [HX.out] at he hs1
        dsimp only [zrv] at he hs1
        subst he
        have hm1 : 0 = m1 := hs1.len
        subst hm1
        have e2 := (e1.kept hb2).alloc (.cells #[.int .i64 0, .int .i64 0, .slice R1 0 d1] 24)
        have s2 := (s1.keep hb2).alloc (.cells #[.int .i64 0, .int .i64 0, .slice R1 0 d1] 24)
        have b2 := (b1.trans (hb2.mono (Nat.le_of_lt e1.lt))).alloc (Nat.le_of_lt (e1.kept hb2).lt) (.cells #[.int .i64 0, .int .i64 0, .slice R1 0 d1] 24)
        have pp2 := hs1.si.alloc (.cells #[.int .i64 0, .int .i64 0, .slice R1 0 d1] 24)
        clear hs1
        obtain ⟨V1, hV1⟩ : ∃ V, w2.heap.size = V := ⟨_, rfl⟩
        have p2 := Bx.new w2 24 [.int .i64 0, .int .i64 0, .slice R1 0 d1]
        rw [hV1] at p2
        go_wp2_with (refine ra_load rfl (.tmp 5) rfl rfl e2 rfl ?_)
        refine (ratsamp_any total last A n c l a3 a4 (fun _ => True) _ s2.sq (fun _ _ => trivial)).mono ?_
        rintro e w3 ⟨R2, m2, d2, he, hs2, hb3⟩
        rw [HY.out] at he hs2
        dsimp only [zrv] at he hs2
        subst he
        have hm2 : n = m2 := HL.out.symm.trans hs2.len
        subst hm2
        have e3 := (e2.kept hb3).alloc (.cells #[.int .i64 total, .int .i64 last, .slice R2 n d2] 24)
        have s3 := (s2.keep hb3).alloc (.cells #[.int .i64 total, .int .i64 last, .slice R2 n d2] 24)
        have p3 := (p2.kept hb3).alloc (.cells #[.int .i64 total, .int .i64 last, .slice R2 n d2] 24)
        have pp3 := (pp2.keep hb3).alloc (.cells #[.int .i64 total, .int .i64 last, .slice R2 n d2] 24)
        have b3 := (b2.trans (hb3.mono (Nat.le_of_lt e2.lt))).alloc (Nat.le_of_lt (e2.kept hb3).lt) (.cells #[.int .i64 total, .int .i64 last, .slice R2 n d2] 24)
        have rr3 := hs2.si.alloc (.cells #[.int .i64 total, .int .i64 last, .slice R2 n d2] 24)
        clear hs2
        obtain ⟨V2, hV2⟩ : ∃ V, w3.heap.size = V := ⟨_, rfl⟩
        have r3 := Bx.new w3 24 [.int .i64 total, .int .i64 last, .slice R2 n d2]
        rw [hV2] at r3
        go_upto_region 6 with fail
        refine wp_region_tail 28 29 (fun (W : World) => Bx W B 24 [.int .i64 total, .int .i64 last, .slice A n c] ∧ Bx W V1 24 [.int .i64 0, .int .i64 0, .slice R1 0 d1] ∧ Bx W V2 24 [.int .i64 total, .int .i64 last, .slice R2 n d2] ∧ Si W A n c l ∧ Si W R1 0 d1 [] ∧ Si W R2 n d2 l ∧ Below B w W ∧ (W.cell? ⟨V1, 0, none⟩ = some (.int .i64 0) ∧ W.cell? ⟨V1, 1, none⟩ = some (.int .i64 0) ∧ W.cell? ⟨B, 0, none⟩ = some (.int .i64 total))) (by kernel_rfl) (by rfl) (by decide) ?_
        have HS : ((fun (W : World) => Bx W B 24 [.int .i64 total, .int .i64 last, .slice A n c] ∧ Bx W V1 24 [.int .i64 0, .int .i64 0, .slice R1 0 d1] ∧ Bx W V2 24 [.int .i64 total, .int .i64 last, .slice R2 n d2] ∧ Si W A n c l ∧ Si W R1 0 d1 [] ∧ Si W R2 n d2 l ∧ Below B w W ∧ (W.cell? ⟨V1, 0, none⟩ = some (.int .i64 0) ∧ W.cell? ⟨V1, 1, none⟩ = some (.int .i64 0) ∧ W.cell? ⟨B, 0, none⟩ = some (.int .i64 total)))) _ := ⟨e3.drew, p3.drew, r3.drew, s3.keep ((Below.refl _ _).drew), pp3.keep ((Below.refl _ _).drew), rr3.keep ((Below.refl _ _).drew), b3.drew, p3.drew.cell 0 rfl, p3.drew.cell 1 rfl, e3.drew.cell 0 rfl⟩
        refine wpAnyT_take (i := 0) (v := ?vv16) rfl (by kernel_rfl) (fun _ _ _ h => h) (Or.inl ⟨by rfl, fun w hSw => ?yy16⟩) HS ?rr16
        case yy16 =>
          (try dsimp only at hSw); go_simp
          try with_reducible rfl
        try simp only [Act.put, List.setIfInBounds_toArray, List.set_cons_zero, List.set_cons_succ]
        refine wpAnyT_take (i := 1) (v := .bool false) rfl (by kernel_rfl) (fun _ _ _ h => h) (Or.inl ⟨by rfl, fun w hSw => ?_⟩) HS ?_
        · (try dsimp only at hSw); go_simp
        try simp only [Act.put, List.setIfInBounds_toArray, List.set_cons_zero, List.set_cons_succ]
        refine wpAnyT_take (i := 2) (v := .bool false) rfl (by kernel_rfl) (fun _ _ _ h => h) (Or.inl ⟨by rfl, fun w hSw => ?_⟩) HS ?_
        · (try dsimp only at hSw); go_simp
        try simp only [Act.put, List.setIfInBounds_toArray, List.set_cons_zero, List.set_cons_succ]
        refine wpAnyT_take (i := 3) (v := undef) rfl (by kernel_rfl) (fun _ _ _ h => h) (Or.inr ⟨by kernel_rfl, rfl⟩) HS ?_
        try simp only [Act.put, List.setIfInBounds_toArray, List.set_cons_zero, List.set_cons_succ]
        refine wpAnyT_take (i := 4) (v := undef) rfl (by kernel_rfl) (fun _ _ _ h => h) (Or.inr ⟨by kernel_rfl, rfl⟩) HS ?_
        try simp only [Act.put, List.setIfInBounds_toArray, List.set_cons_zero, List.set_cons_succ]
        refine wpAnyT_take (i := 5) (v := undef) rfl (by kernel_rfl) (fun _ _ _ h => h) (Or.inr ⟨by kernel_rfl, rfl⟩) HS ?_
        try simp only [Act.put, List.setIfInBounds_toArray, List.set_cons_zero, List.set_cons_succ]
        refine wpAnyT_take (i := 6) (v := undef) rfl (by kernel_rfl) (fun _ _ _ h => h) (Or.inr ⟨by kernel_rfl, rfl⟩) HS ?_
        try simp only [Act.put, List.setIfInBounds_toArray, List.set_cons_zero, List.set_cons_succ]
        refine wpAnyT_take (i := 7) (v := undef) rfl (by kernel_rfl) (fun _ _ _ h => h) (Or.inr ⟨by kernel_rfl, rfl⟩) HS ?_
        try simp only [Act.put, List.setIfInBounds_toArray, List.set_cons_zero, List.set_cons_succ]
        refine wpAnyT_take (i := 8) (v := undef) rfl (by kernel_rfl) (fun _ _ _ h => h) (Or.inr ⟨by kernel_rfl, rfl⟩) HS ?_
        try simp only [Act.put, List.setIfInBounds_toArray, List.set_cons_zero, List.set_cons_succ]
        refine wpAnyT_take (i := 9) (v := undef) rfl (by kernel_rfl) (fun _ _ _ h => h) (Or.inr ⟨by kernel_rfl, rfl⟩) HS ?_
        try simp only [Act.put, List.setIfInBounds_toArray, List.set_cons_zero, List.set_cons_succ]
        refine wpAnyT_take (i := 10) (v := undef) rfl (by kernel_rfl) (fun _ _ _ h => h) (Or.inr ⟨by kernel_rfl, rfl⟩) HS ?_
        try simp only [Act.put, List.setIfInBounds_toArray, List.set_cons_zero, List.set_cons_succ]
        refine wpAnyT_take (i := 11) (v := undef) rfl (by kernel_rfl) (fun _ _ _ h => h) (Or.inr ⟨by kernel_rfl, rfl⟩) HS ?_
        try simp only [Act.put, List.setIfInBounds_toArray, List.set_cons_zero, List.set_cons_succ]
        refine wpAnyT_take (i := 12) (v := undef) rfl (by kernel_rfl) (fun _ _ _ h => h) (Or.inr ⟨by kernel_rfl, rfl⟩) HS ?_
        try simp only [Act.put, List.setIfInBounds_toArray, List.set_cons_zero, List.set_cons_succ]
        refine wpAnyT_take (i := 13) (v := undef) rfl (by kernel_rfl) (fun _ _ _ h => h) (Or.inr ⟨by kernel_rfl, rfl⟩) HS ?_
        try simp only [Act.put, List.setIfInBounds_toArray, List.set_cons_zero, List.set_cons_succ]
        refine wpAnyT_take (i := 14) (v := undef) rfl (by kernel_rfl) (fun _ _ _ h => h) (Or.inr ⟨by kernel_rfl, rfl⟩) HS ?_
        try simp only [Act.put, List.setIfInBounds_toArray, List.set_cons_zero, List.set_cons_succ]
        refine wpAnyT_take (i := 15) (v := undef) rfl (by kernel_rfl) (fun _ _ _ h => h) (Or.inr ⟨by kernel_rfl, rfl⟩) HS ?_
        try simp only [Act.put, List.setIfInBounds_toArray, List.set_cons_zero, List.set_cons_succ]
        refine wpAnyT_take (i := 16) (v := undef) rfl (by kernel_rfl) (fun _ _ _ h => h) (Or.inr ⟨by kernel_rfl, rfl⟩) HS ?_
        try simp only [Act.put, List.setIfInBounds_toArray, List.set_cons_zero, List.set_cons_succ]
        refine wpAnyT_take (i := 17) (v := undef) rfl (by kernel_rfl) (fun _ _ _ h => h) (Or.inr ⟨by kernel_rfl, rfl⟩) HS ?_
        try simp only [Act.put, List.setIfInBounds_toArray, List.set_cons_zero, List.set_cons_succ]
        refine wpAnyT_take (i := 18) (v := undef) rfl (by kernel_rfl) (fun _ _ _ h => h) (Or.inr ⟨by kernel_rfl, rfl⟩) HS ?_
        try simp only [Act.put, List.setIfInBounds_toArray, List.set_cons_zero, List.set_cons_succ]
        refine wpAnyT_take (i := 19) (v := undef) rfl (by kernel_rfl) (fun _ _ _ h => h) (Or.inr ⟨by kernel_rfl, rfl⟩) HS ?_
        try simp only [Act.put, List.setIfInBounds_toArray, List.set_cons_zero, List.set_cons_succ]
        refine wpAnyT_take (i := 20) (v := undef) rfl (by kernel_rfl) (fun _ _ _ h => h) (Or.inr ⟨by kernel_rfl, rfl⟩) HS ?_
        try simp only [Act.put, List.setIfInBounds_toArray, List.set_cons_zero, List.set_cons_succ]
        refine wpAnyT_take (i := 21) (v := undef) rfl (by kernel_rfl) (fun _ _ _ h => h) (Or.inr ⟨by kernel_rfl, rfl⟩) HS ?_
        try simp only [Act.put, List.setIfInBounds_toArray, List.set_cons_zero, List.set_cons_succ]
        refine wpAnyT_take (i := 22) (v := undef) rfl (by kernel_rfl) (fun _ _ _ h => h) (Or.inr ⟨by kernel_rfl, rfl⟩) HS ?_
        try simp only [Act.put, List.setIfInBounds_toArray, List.set_cons_zero, List.set_cons_succ]
        refine wpAnyT_take (i := 23) (v := undef) rfl (by kernel_rfl) (fun _ _ _ h => h) (Or.inr ⟨by kernel_rfl, rfl⟩) HS ?_
        try simp only [Act.put, List.setIfInBounds_toArray, List.set_cons_zero, List.set_cons_succ]
        refine wpAnyT_take (i := 24) (v := undef) rfl (by kernel_rfl) (fun _ _ _ h => h) (Or.inr ⟨by kernel_rfl, rfl⟩) HS ?_
        try simp only [Act.put, List.setIfInBounds_toArray, List.set_cons_zero, List.set_cons_succ]
        refine wpAnyT_take (i := 25) (v := undef) rfl (by kernel_rfl) (fun _ _ _ h => h) (Or.inr ⟨by kernel_rfl, rfl⟩) HS ?_
        try simp only [Act.put, List.setIfInBounds_toArray, List.set_cons_zero, List.set_cons_succ]
        refine wpAnyT_take (i := 26) (v := undef) rfl (by kernel_rfl) (fun _ _ _ h => h) (Or.inr ⟨by kernel_rfl, rfl⟩) HS ?_
        try simp only [Act.put, List.setIfInBounds_toArray, List.set_cons_zero, List.set_cons_succ]
        refine wpAnyT_take (i := 27) (v := undef) rfl (by kernel_rfl) (fun _ _ _ h => h) (Or.inr ⟨by kernel_rfl, rfl⟩) HS ?_
        try simp only [Act.put, List.setIfInBounds_toArray, List.set_cons_zero, List.set_cons_succ]
        refine ⟨by kernel_rfl, ?_⟩
        simp only [List.drop_succ_cons, List.drop_zero]
        have ee := HS.1; have er := HS.2.2.1; have err := HS.2.2.2.2.2.1; have eb := HS.2.2.2.2.2.2.1
        have xe0 := ee.cell 0 rfl; have xe1 := ee.cell 1 rfl; have xe2 := ee.cell 2 rfl
        have xr0 := er.cell 0 rfl; have xr1 := er.cell 1 rfl; have xr2 := er.cell 2 rfl
        go_wp2_with fail
        refine (ratmay_any total last R2 n d2 l _ err).mono ?_
        rintro e wm ⟨rfl, hm⟩
        rw [HK.out]
        have ee2 := ee.kept hm; have er2 := er.kept hm; have err2 := err.keep hm; have eb2 := eb.trans (hm.mono (Nat.le_of_lt ee.lt))
        have ye0 := ee2.cell 0 rfl; have ye1 := ee2.cell 1 rfl; have ye2 := ee2.cell 2 rfl
        have yr0 := er2.cell 0 rfl; have yr1 := er2.cell 1 rfl; have yr2 := er2.cell 2 rfl
        go_wp2_with fail
        refine (ratbest_any total last R2 n d2 l _ err2).mono ?_
        rintro e wn ⟨rfl, hn2⟩
        rw [HBM.out]
        have eb3 := eb2.trans (hn2.mono (Nat.le_of_lt ee2.lt))
        go_wp2_with fail
        go_ret
        exact ⟨rfl, eb3⟩
      case neg =>
      obtain ⟨nr, hnr⟩ : ∃ nr, numR (total - a3) (last - a4) = nr := ⟨_, rfl⟩
      have hnb := num_bd (a := total - a3) (d := last - a4) (by omega) (by omega)
      rw [hnr] at hnb
      obtain ⟨nr0, nr1⟩ := hnb
      have HY : Hid (sampR ⟨total, last, l⟩ a3 a4 = (⟨total, last, pushR l nr⟩, nr, 0)) := Lib.hid (by rw [samp_ok HOK.out (by show ¬ last - a4 ≤ 0; omega)]; show ((⟨total, last, pushR l (numR (total - a3) (last - a4))⟩ : Rv), numR (total - a3) (last - a4), (0 : Int)) = _; rw [hnr])
      have hmy : ramay ⟨total, last, pushR l nr⟩ = true := by
        have := (ramay_iff _).2 (samp_valid HOK.out)
        rw [HY.out] at this
        exact this
      obtain ⟨by_, hby⟩ : ∃ t, bestR ⟨total, last, pushR l nr⟩ = t := ⟨_, rfl⟩
      have hge : nr ≤ by_ := by
        rw [← hby]; unfold bestR; rw [if_pos hmy]; exact mx_ge push_in
      have HMY := Lib.hid hmy; have HBY := Lib.hid hby
      clear hnr hmy hby c5
      go_wp2_with (refine ra_load rfl (.tmp 5) rfl rfl e1 rfl ?_)
      clear x2
      refine (ratcame_any total last A n c l a1 a2 (fun _ => True) _ s1.sq (fun _ _ => trivial)).mono ?_
      rintro e w2 ⟨R1, m1, d1, he, hs1, hb2⟩
      rw [HX.out] at he hs1
      dsimp only [zrv] at he hs1
      subst he
      have hm1 : 0 = m1 := hs1.len
      subst hm1
      have e2 := (e1.kept hb2).alloc (.cells #[.int .i64 0, .int .i64 0, .slice R1 0 d1] 24)
      have s2 := (s1.keep hb2).alloc (.cells #[.int .i64 0, .int .i64 0, .slice R1 0 d1] 24)
      have b2 := (b1.trans (hb2.mono (Nat.le_of_lt e1.lt))).alloc (Nat.le_of_lt (e1.kept hb2).lt) (.cells #[.int .i64 0, .int .i64 0, .slice R1 0 d1] 24)
      have pp2 := hs1.si.alloc (.cells #[.int .i64 0, .int .i64 0, .slice R1 0 d1] 24)
      clear hs1
      obtain ⟨V1, hV1⟩ : ∃ V, w2.heap.size = V := ⟨_, rfl⟩
      have p2 := Bx.new w2 24 [.int .i64 0, .int .i64 0, .slice R1 0 d1]
      rw [hV1] at p2
      go_wp2_with (refine ra_load rfl (.tmp 5) rfl rfl e2 rfl ?_)
      refine (ratsamp_any total last A n c l a3 a4 (fun _ => True) _ s2.sq (fun _ _ => trivial)).mono ?_
      rintro e w3 ⟨R2, m2, d2, he, hs2, hb3⟩
      rw [HY.out] at he hs2
      dsimp only [zrv] at he hs2
      subst he
      have e3 := (e2.kept hb3).alloc (.cells #[.int .i64 total, .int .i64 last, .slice R2 m2 d2] 24)
      have s3 := (s2.keep hb3).alloc (.cells #[.int .i64 total, .int .i64 last, .slice R2 m2 d2] 24)
      have p3 := (p2.kept hb3).alloc (.cells #[.int .i64 total, .int .i64 last, .slice R2 m2 d2] 24)
      have pp3 := (pp2.keep hb3).alloc (.cells #[.int .i64 total, .int .i64 last, .slice R2 m2 d2] 24)
      have b3 := (b2.trans (hb3.mono (Nat.le_of_lt e2.lt))).alloc (Nat.le_of_lt (e2.kept hb3).lt) (.cells #[.int .i64 total, .int .i64 last, .slice R2 m2 d2] 24)
      have rr3 := hs2.si.alloc (.cells #[.int .i64 total, .int .i64 last, .slice R2 m2 d2] 24)
      clear hs2
      obtain ⟨V2, hV2⟩ : ∃ V, w3.heap.size = V := ⟨_, rfl⟩
      have r3 := Bx.new w3 24 [.int .i64 total, .int .i64 last, .slice R2 m2 d2]
      rw [hV2] at r3
      go_upto_region 6 with fail
      refine wp_region_tail 28 29 (fun (W : World) => Bx W B 24 [.int .i64 total, .int .i64 last, .slice A n c] ∧ Bx W V1 24 [.int .i64 0, .int .i64 0, .slice R1 0 d1] ∧ Bx W V2 24 [.int .i64 total, .int .i64 last, .slice R2 m2 d2] ∧ Si W A n c l ∧ Si W R1 0 d1 [] ∧ Si W R2 m2 d2 (pushR l nr) ∧ Below B w W ∧ (W.cell? ⟨V1, 0, none⟩ = some (.int .i64 0) ∧ W.cell? ⟨V1, 1, none⟩ = some (.int .i64 0) ∧ W.cell? ⟨B, 0, none⟩ = some (.int .i64 total))) (by kernel_rfl) (by rfl) (by decide) ?_
      have HS : ((fun (W : World) => Bx W B 24 [.int .i64 total, .int .i64 last, .slice A n c] ∧ Bx W V1 24 [.int .i64 0, .int .i64 0, .slice R1 0 d1] ∧ Bx W V2 24 [.int .i64 total, .int .i64 last, .slice R2 m2 d2] ∧ Si W A n c l ∧ Si W R1 0 d1 [] ∧ Si W R2 m2 d2 (pushR l nr) ∧ Below B w W ∧ (W.cell? ⟨V1, 0, none⟩ = some (.int .i64 0) ∧ W.cell? ⟨V1, 1, none⟩ = some (.int .i64 0) ∧ W.cell? ⟨B, 0, none⟩ = some (.int .i64 total)))) _ := ⟨e3.drew, p3.drew, r3.drew, s3.keep ((Below.refl _ _).drew), pp3.keep ((Below.refl _ _).drew), rr3.keep ((Below.refl _ _).drew), b3.drew, p3.drew.cell 0 rfl, p3.drew.cell 1 rfl, e3.drew.cell 0 rfl⟩
      refine wpAnyT_take (i := 0) (v := ?vv19) rfl (by kernel_rfl) (fun _ _ _ h => h) (Or.inl ⟨by rfl, fun w hSw => ?yy19⟩) HS ?rr19
      case yy19 =>
        (try dsimp only at hSw); go_simp
        try with_reducible rfl
      try simp only [Act.put, List.setIfInBounds_toArray, List.set_cons_zero, List.set_cons_succ]
      refine wpAnyT_take (i := 1) (v := .bool false) rfl (by kernel_rfl) (fun _ _ _ h => h) (Or.inl ⟨by rfl, fun w hSw => ?_⟩) HS ?_
      · (try dsimp only at hSw); go_simp
      try simp only [Act.put, List.setIfInBounds_toArray, List.set_cons_zero, List.set_cons_succ]
      refine wpAnyT_take (i := 2) (v := .bool false) rfl (by kernel_rfl) (fun _ _ _ h => h) (Or.inl ⟨by rfl, fun w hSw => ?_⟩) HS ?_
      · (try dsimp only at hSw); go_simp
      try simp only [Act.put, List.setIfInBounds_toArray, List.set_cons_zero, List.set_cons_succ]
      refine wpAnyT_take (i := 3) (v := undef) rfl (by kernel_rfl) (fun _ _ _ h => h) (Or.inr ⟨by kernel_rfl, rfl⟩) HS ?_
      try simp only [Act.put, List.setIfInBounds_toArray, List.set_cons_zero, List.set_cons_succ]
      refine wpAnyT_take (i := 4) (v := undef) rfl (by kernel_rfl) (fun _ _ _ h => h) (Or.inr ⟨by kernel_rfl, rfl⟩) HS ?_
      try simp only [Act.put, List.setIfInBounds_toArray, List.set_cons_zero, List.set_cons_succ]
      refine wpAnyT_take (i := 5) (v := undef) rfl (by kernel_rfl) (fun _ _ _ h => h) (Or.inr ⟨by kernel_rfl, rfl⟩) HS ?_
      try simp only [Act.put, List.setIfInBounds_toArray, List.set_cons_zero, List.set_cons_succ]
      refine wpAnyT_take (i := 6) (v := undef) rfl (by kernel_rfl) (fun _ _ _ h => h) (Or.inr ⟨by kernel_rfl, rfl⟩) HS ?_
      try simp only [Act.put, List.setIfInBounds_toArray, List.set_cons_zero, List.set_cons_succ]
      refine wpAnyT_take (i := 7) (v := undef) rfl (by kernel_rfl) (fun _ _ _ h => h) (Or.inr ⟨by kernel_rfl, rfl⟩) HS ?_
      try simp only [Act.put, List.setIfInBounds_toArray, List.set_cons_zero, List.set_cons_succ]
      refine wpAnyT_take (i := 8) (v := undef) rfl (by kernel_rfl) (fun _ _ _ h => h) (Or.inr ⟨by kernel_rfl, rfl⟩) HS ?_
      try simp only [Act.put, List.setIfInBounds_toArray, List.set_cons_zero, List.set_cons_succ]
      refine wpAnyT_take (i := 9) (v := undef) rfl (by kernel_rfl) (fun _ _ _ h => h) (Or.inr ⟨by kernel_rfl, rfl⟩) HS ?_
      try simp only [Act.put, List.setIfInBounds_toArray, List.set_cons_zero, List.set_cons_succ]
      refine wpAnyT_take (i := 10) (v := undef) rfl (by kernel_rfl) (fun _ _ _ h => h) (Or.inr ⟨by kernel_rfl, rfl⟩) HS ?_
      try simp only [Act.put, List.setIfInBounds_toArray, List.set_cons_zero, List.set_cons_succ]
      refine wpAnyT_take (i := 11) (v := undef) rfl (by kernel_rfl) (fun _ _ _ h => h) (Or.inr ⟨by kernel_rfl, rfl⟩) HS ?_
      try simp only [Act.put, List.setIfInBounds_toArray, List.set_cons_zero, List.set_cons_succ]
      refine wpAnyT_take (i := 12) (v := undef) rfl (by kernel_rfl) (fun _ _ _ h => h) (Or.inr ⟨by kernel_rfl, rfl⟩) HS ?_
      try simp only [Act.put, List.setIfInBounds_toArray, List.set_cons_zero, List.set_cons_succ]
      refine wpAnyT_take (i := 13) (v := undef) rfl (by kernel_rfl) (fun _ _ _ h => h) (Or.inr ⟨by kernel_rfl, rfl⟩) HS ?_
      try simp only [Act.put, List.setIfInBounds_toArray, List.set_cons_zero, List.set_cons_succ]
      refine wpAnyT_take (i := 14) (v := undef) rfl (by kernel_rfl) (fun _ _ _ h => h) (Or.inr ⟨by kernel_rfl, rfl⟩) HS ?_
      try simp only [Act.put, List.setIfInBounds_toArray, List.set_cons_zero, List.set_cons_succ]
      refine wpAnyT_take (i := 15) (v := undef) rfl (by kernel_rfl) (fun _ _ _ h => h) (Or.inr ⟨by kernel_rfl, rfl⟩) HS ?_
      try simp only [Act.put, List.setIfInBounds_toArray, List.set_cons_zero, List.set_cons_succ]
      refine wpAnyT_take (i := 16) (v := undef) rfl (by kernel_rfl) (fun _ _ _ h => h) (Or.inr ⟨by kernel_rfl, rfl⟩) HS ?_
      try simp only [Act.put, List.setIfInBounds_toArray, List.set_cons_zero, List.set_cons_succ]
      refine wpAnyT_take (i := 17) (v := undef) rfl (by kernel_rfl) (fun _ _ _ h => h) (Or.inr ⟨by kernel_rfl, rfl⟩) HS ?_
      try simp only [Act.put, List.setIfInBounds_toArray, List.set_cons_zero, List.set_cons_succ]
      refine wpAnyT_take (i := 18) (v := undef) rfl (by kernel_rfl) (fun _ _ _ h => h) (Or.inr ⟨by kernel_rfl, rfl⟩) HS ?_
      try simp only [Act.put, List.setIfInBounds_toArray, List.set_cons_zero, List.set_cons_succ]
      refine wpAnyT_take (i := 19) (v := undef) rfl (by kernel_rfl) (fun _ _ _ h => h) (Or.inr ⟨by kernel_rfl, rfl⟩) HS ?_
      try simp only [Act.put, List.setIfInBounds_toArray, List.set_cons_zero, List.set_cons_succ]
      refine wpAnyT_take (i := 20) (v := undef) rfl (by kernel_rfl) (fun _ _ _ h => h) (Or.inr ⟨by kernel_rfl, rfl⟩) HS ?_
      try simp only [Act.put, List.setIfInBounds_toArray, List.set_cons_zero, List.set_cons_succ]
      refine wpAnyT_take (i := 21) (v := undef) rfl (by kernel_rfl) (fun _ _ _ h => h) (Or.inr ⟨by kernel_rfl, rfl⟩) HS ?_
      try simp only [Act.put, List.setIfInBounds_toArray, List.set_cons_zero, List.set_cons_succ]
      refine wpAnyT_take (i := 22) (v := undef) rfl (by kernel_rfl) (fun _ _ _ h => h) (Or.inr ⟨by kernel_rfl, rfl⟩) HS ?_
      try simp only [Act.put, List.setIfInBounds_toArray, List.set_cons_zero, List.set_cons_succ]
      refine wpAnyT_take (i := 23) (v := undef) rfl (by kernel_rfl) (fun _ _ _ h => h) (Or.inr ⟨by kernel_rfl, rfl⟩) HS ?_
      try simp only [Act.put, List.setIfInBounds_toArray, List.set_cons_zero, List.set_cons_succ]
      refine wpAnyT_take (i := 24) (v := undef) rfl (by kernel_rfl) (fun _ _ _ h => h) (Or.inr ⟨by kernel_rfl, rfl⟩) HS ?_
      try simp only [Act.put, List.setIfInBounds_toArray, List.set_cons_zero, List.set_cons_succ]
      refine wpAnyT_take (i := 25) (v := undef) rfl (by kernel_rfl) (fun _ _ _ h => h) (Or.inr ⟨by kernel_rfl, rfl⟩) HS ?_
      try simp only [Act.put, List.setIfInBounds_toArray, List.set_cons_zero, List.set_cons_succ]
      refine wpAnyT_take (i := 26) (v := undef) rfl (by kernel_rfl) (fun _ _ _ h => h) (Or.inr ⟨by kernel_rfl, rfl⟩) HS ?_
      try simp only [Act.put, List.setIfInBounds_toArray, List.set_cons_zero, List.set_cons_succ]
      refine wpAnyT_take (i := 27) (v := undef) rfl (by kernel_rfl) (fun _ _ _ h => h) (Or.inr ⟨by kernel_rfl, rfl⟩) HS ?_
      try simp only [Act.put, List.setIfInBounds_toArray, List.set_cons_zero, List.set_cons_succ]
      refine ⟨by kernel_rfl, ?_⟩
      simp only [List.drop_succ_cons, List.drop_zero]
      have ee := HS.1; have er := HS.2.2.1; have err := HS.2.2.2.2.2.1; have eb := HS.2.2.2.2.2.2.1
      have xe0 := ee.cell 0 rfl; have xe1 := ee.cell 1 rfl; have xe2 := ee.cell 2 rfl
      have xr0 := er.cell 0 rfl; have xr1 := er.cell 1 rfl; have xr2 := er.cell 2 rfl
      go_wp2_with fail
      refine (ratmay_any total last R2 m2 d2 (pushR l nr) _ err).mono ?_
      rintro e wm ⟨rfl, hm⟩
      rw [HMY.out]
      have ee2 := ee.kept hm; have er2 := er.kept hm; have err2 := err.keep hm; have eb2 := eb.trans (hm.mono (Nat.le_of_lt ee.lt))
      have ye0 := ee2.cell 0 rfl; have ye1 := ee2.cell 1 rfl; have ye2 := ee2.cell 2 rfl
      have yr0 := er2.cell 0 rfl; have yr1 := er2.cell 1 rfl; have yr2 := er2.cell 2 rfl
      go_wp2_with fail
      refine (ratbest_any total last R2 m2 d2 (pushR l nr) _ err2).mono ?_
      rintro e wn ⟨rfl, hn2⟩
      rw [HBY.out]
      have eb3 := eb2.trans (hn2.mono (Nat.le_of_lt ee2.lt))
      go_wp2_with fail
      go_ret
      exact ⟨rfl, eb3⟩
    · have HX := Lib.hid hx; clear hx
      have hma := came_max hok1 hok2
      have hba := (best_eq HK.out hma rfl).trans HBM.out
      dsimp only at hma hba
      have HMA := Lib.hid hma; have HBA := Lib.hid hba
      have q0 : 0 ≤ a2 := hok1.2.2.2.1; have q1 : a2 ≤ 1099511627776 := hok1.2.2.2.2
      clear hma hba hok1 hok2
      have hwr : IntKind.i64.wrap (total + a2 - total) = a2 := by rw [IntWalk.i64_in _ (by omega)]; omega
      by_cases hok : SampOk ⟨total, last, l⟩ a3 a4
      case neg =>
        have HY : Hid (sampR ⟨total, last, l⟩ a3 a4 = (zrv, 0, 1)) := Lib.hid (samp_no hok)
        clear hok
        go_wp2_with (refine ra_load rfl (.tmp 5) rfl rfl e1 rfl ?_)
        clear x2
        refine (ratcame_any total last A n c l a1 a2 (fun _ => True) _ s1.sq (fun _ _ => trivial)).mono ?_
        rintro e w2 ⟨R1, m1, d1, he, hs1, hb2⟩
        rw [HX.out] at he hs1
        dsimp only [zrv] at he hs1
        subst he
        have hm1 : n = m1 := HL.out.symm.trans hs1.len
        subst hm1
        have e2 := (e1.kept hb2).alloc (.cells #[.int .i64 (total + a2), .int .i64 a1, .slice R1 n d1] 24)
        have s2 := (s1.keep hb2).alloc (.cells #[.int .i64 (total + a2), .int .i64 a1, .slice R1 n d1] 24)
        have b2 := (b1.trans (hb2.mono (Nat.le_of_lt e1.lt))).alloc (Nat.le_of_lt (e1.kept hb2).lt) (.cells #[.int .i64 (total + a2), .int .i64 a1, .slice R1 n d1] 24)
        have pp2 := hs1.si.alloc (.cells #[.int .i64 (total + a2), .int .i64 a1, .slice R1 n d1] 24)
        clear hs1
        obtain ⟨V1, hV1⟩ : ∃ V, w2.heap.size = V := ⟨_, rfl⟩
        have p2 := Bx.new w2 24 [.int .i64 (total + a2), .int .i64 a1, .slice R1 n d1]
        rw [hV1] at p2
        go_wp2_with (refine ra_load rfl (.tmp 5) rfl rfl e2 rfl ?_)
        refine (ratsamp_any total last A n c l a3 a4 (fun _ => True) _ s2.sq (fun _ _ => trivial)).mono ?_
        rintro e w3 ⟨R2, m2, d2, he, hs2, hb3⟩
        rw [HY.out] at he hs2
        dsimp only [zrv] at he hs2
        subst he
        have hm2 : 0 = m2 := hs2.len
        subst hm2
        have e3 := (e2.kept hb3).alloc (.cells #[.int .i64 0, .int .i64 0, .slice R2 0 d2] 24)
        have s3 := (s2.keep hb3).alloc (.cells #[.int .i64 0, .int .i64 0, .slice R2 0 d2] 24)
        have p3 := (p2.kept hb3).alloc (.cells #[.int .i64 0, .int .i64 0, .slice R2 0 d2] 24)
        have pp3 := (pp2.keep hb3).alloc (.cells #[.int .i64 0, .int .i64 0, .slice R2 0 d2] 24)
        have b3 := (b2.trans (hb3.mono (Nat.le_of_lt e2.lt))).alloc (Nat.le_of_lt (e2.kept hb3).lt) (.cells #[.int .i64 0, .int .i64 0, .slice R2 0 d2] 24)
        have rr3 := hs2.si.alloc (.cells #[.int .i64 0, .int .i64 0, .slice R2 0 d2] 24)
        clear hs2
        obtain ⟨V2, hV2⟩ : ∃ V, w3.heap.size = V := ⟨_, rfl⟩
        have r3 := Bx.new w3 24 [.int .i64 0, .int .i64 0, .slice R2 0 d2]
        rw [hV2] at r3
        go_upto_region 6 with fail
        refine wp_region_tail 28 29 (fun (W : World) => Bx W B 24 [.int .i64 total, .int .i64 last, .slice A n c] ∧ Bx W V1 24 [.int .i64 (total + a2), .int .i64 a1, .slice R1 n d1] ∧ Bx W V2 24 [.int .i64 0, .int .i64 0, .slice R2 0 d2] ∧ Si W A n c l ∧ Si W R1 n d1 l ∧ Si W R2 0 d2 [] ∧ Below B w W ∧ (W.cell? ⟨V1, 0, none⟩ = some (.int .i64 (total + a2)) ∧ W.cell? ⟨V1, 1, none⟩ = some (.int .i64 a1) ∧ W.cell? ⟨B, 0, none⟩ = some (.int .i64 total))) (by kernel_rfl) (by rfl) (by decide) ?_
        have HS : ((fun (W : World) => Bx W B 24 [.int .i64 total, .int .i64 last, .slice A n c] ∧ Bx W V1 24 [.int .i64 (total + a2), .int .i64 a1, .slice R1 n d1] ∧ Bx W V2 24 [.int .i64 0, .int .i64 0, .slice R2 0 d2] ∧ Si W A n c l ∧ Si W R1 n d1 l ∧ Si W R2 0 d2 [] ∧ Below B w W ∧ (W.cell? ⟨V1, 0, none⟩ = some (.int .i64 (total + a2)) ∧ W.cell? ⟨V1, 1, none⟩ = some (.int .i64 a1) ∧ W.cell? ⟨B, 0, none⟩ = some (.int .i64 total)))) _ := ⟨e3.drew, p3.drew, r3.drew, s3.keep ((Below.refl _ _).drew), pp3.keep ((Below.refl _ _).drew), rr3.keep ((Below.refl _ _).drew), b3.drew, p3.drew.cell 0 rfl, p3.drew.cell 1 rfl, e3.drew.cell 0 rfl⟩
        refine wpAnyT_take (i := 0) (v := ?vv22) rfl (by kernel_rfl) (fun _ _ _ h => h) (Or.inl ⟨by rfl, fun w hSw => ?yy22⟩) HS ?rr22
        case yy22 =>
          (try dsimp only at hSw); go_simp
          try with_reducible rfl
        try simp only [Act.put, List.setIfInBounds_toArray, List.set_cons_zero, List.set_cons_succ]
        refine wpAnyT_take (i := 1) (v := .bool true) rfl (by kernel_rfl) (fun _ _ _ h => h) (Or.inl ⟨by rfl, fun w hSw => ?_⟩) HS ?_
        · (try dsimp only at hSw); go_simp
        try simp only [Act.put, List.setIfInBounds_toArray, List.set_cons_zero, List.set_cons_succ]
        refine wpAnyT_take (i := 2) (v := .bool true) rfl (by kernel_rfl) (fun _ _ _ h => h) (Or.inl ⟨by rfl, fun w hSw => ?_⟩) HS ?_
        · (try dsimp only at hSw); go_simp
        try simp only [Act.put, List.setIfInBounds_toArray, List.set_cons_zero, List.set_cons_succ]
        refine wpAnyT_take (i := 3) (v := .agg #[.int .i64 (total + a2), .int .i64 a1, .slice R1 n d1]) rfl (by kernel_rfl) (fun _ _ _ h => h) (ra_yields (by rfl) (.tmp 12) rfl rfl [.int .i64 (total + a2), .int .i64 a1, .slice R1 n d1] rfl 24 (fun W hW => hW.2.1)) HS ?_
        try simp only [Act.put, List.setIfInBounds_toArray, List.set_cons_zero, List.set_cons_succ]
        refine wpAnyT_take (i := 5) (v := .agg #[.int .i64 total, .int .i64 last, .slice A n c]) rfl (by kernel_rfl) (fun _ _ _ h => h) (ra_yields (by rfl) (.tmp 5) rfl rfl [.int .i64 total, .int .i64 last, .slice A n c] rfl 24 (fun W hW => hW.1)) HS ?_
        try simp only [Act.put, List.setIfInBounds_toArray, List.set_cons_zero, List.set_cons_succ]
        refine wpAnyT_one (k := 4) rfl (by kernel_rfl) (by decide) (fun K hK => ?_)
        go_simp
        refine (ratbest_any (total + a2) a1 R1 n d1 l _ HS.2.2.2.2.1).mono ?_; rintro e wz4 ⟨rfl, hz4⟩; rw [HBA.out]
        have HS : ((fun (W : World) => Bx W B 24 [.int .i64 total, .int .i64 last, .slice A n c] ∧ Bx W V1 24 [.int .i64 (total + a2), .int .i64 a1, .slice R1 n d1] ∧ Bx W V2 24 [.int .i64 0, .int .i64 0, .slice R2 0 d2] ∧ Si W A n c l ∧ Si W R1 n d1 l ∧ Si W R2 0 d2 [] ∧ Below B w W ∧ (W.cell? ⟨V1, 0, none⟩ = some (.int .i64 (total + a2)) ∧ W.cell? ⟨V1, 1, none⟩ = some (.int .i64 a1) ∧ W.cell? ⟨B, 0, none⟩ = some (.int .i64 total)))) _ := ⟨HS.1.kept hz4, HS.2.1.kept hz4, HS.2.2.1.kept hz4, HS.2.2.2.1.keep hz4, HS.2.2.2.2.1.keep hz4, HS.2.2.2.2.2.1.keep hz4, HS.2.2.2.2.2.2.1.trans (hz4.mono (Nat.le_of_lt HS.1.lt)), (HS.2.1.kept hz4).cell 0 rfl, (HS.2.1.kept hz4).cell 1 rfl, (HS.1.kept hz4).cell 0 rfl⟩
        refine hK _ _ HS ?_
        clear hK K
        try simp only [Act.put, List.setIfInBounds_toArray, List.set_cons_zero, List.set_cons_succ]
        refine wpAnyT_one (k := 6) rfl (by kernel_rfl) (by decide) (fun K hK => ?_)
        go_simp
        refine (ratbest_any total last A n c l _ HS.2.2.2.1).mono ?_; rintro e wz6 ⟨rfl, hz6⟩; rw [HBM.out]
        have HS : ((fun (W : World) => Bx W B 24 [.int .i64 total, .int .i64 last, .slice A n c] ∧ Bx W V1 24 [.int .i64 (total + a2), .int .i64 a1, .slice R1 n d1] ∧ Bx W V2 24 [.int .i64 0, .int .i64 0, .slice R2 0 d2] ∧ Si W A n c l ∧ Si W R1 n d1 l ∧ Si W R2 0 d2 [] ∧ Below B w W ∧ (W.cell? ⟨V1, 0, none⟩ = some (.int .i64 (total + a2)) ∧ W.cell? ⟨V1, 1, none⟩ = some (.int .i64 a1) ∧ W.cell? ⟨B, 0, none⟩ = some (.int .i64 total)))) _ := ⟨HS.1.kept hz6, HS.2.1.kept hz6, HS.2.2.1.kept hz6, HS.2.2.2.1.keep hz6, HS.2.2.2.2.1.keep hz6, HS.2.2.2.2.2.1.keep hz6, HS.2.2.2.2.2.2.1.trans (hz6.mono (Nat.le_of_lt HS.1.lt)), (HS.2.1.kept hz6).cell 0 rfl, (HS.2.1.kept hz6).cell 1 rfl, (HS.1.kept hz6).cell 0 rfl⟩
        refine hK _ _ HS ?_
        clear hK K
        try simp only [Act.put, List.setIfInBounds_toArray, List.set_cons_zero, List.set_cons_succ]
        refine wpAnyT_take (i := 7) (v := .bool false) rfl (by kernel_rfl) (fun _ _ _ h => h) (Or.inl ⟨by rfl, fun w hSw => ?_⟩) HS ?_
        · (try dsimp only at hSw); go_simp
        try simp only [Act.put, List.setIfInBounds_toArray, List.set_cons_zero, List.set_cons_succ]
        refine wpAnyT_take (i := 8) (v := .bool false) rfl (by kernel_rfl) (fun _ _ _ h => h) (Or.inl ⟨by rfl, fun w hSw => ?_⟩) HS ?_
        · (try dsimp only at hSw); go_simp
        try simp only [Act.put, List.setIfInBounds_toArray, List.set_cons_zero, List.set_cons_succ]
        refine wpAnyT_take (i := 9) (v := ?vv29) rfl (by kernel_rfl) (fun _ _ _ h => h) (Or.inl ⟨by rfl, fun w hSw => ?yy29⟩) HS ?rr29
        case yy29 =>
          (try dsimp only at hSw); go_simp
          try with_reducible rfl
        try simp only [Act.put, List.setIfInBounds_toArray, List.set_cons_zero, List.set_cons_succ]
        refine wpAnyT_take (i := 10) (v := ?vv30) rfl (by kernel_rfl) (fun _ _ _ h => h) (Or.inl ⟨by rfl, fun w hSw => ?yy30⟩) HS ?rr30
        case yy30 =>
          (try dsimp only at hSw); go_simp
          try with_reducible rfl
        try simp only [Act.put, List.setIfInBounds_toArray, List.set_cons_zero, List.set_cons_succ]
        refine wpAnyT_take (i := 11) (v := ?vv31) rfl (by kernel_rfl) (fun _ _ _ h => h) (Or.inl ⟨by rfl, fun w hSw => ?yy31⟩) HS ?rr31
        case yy31 =>
          (try dsimp only at hSw); go_simp
          try with_reducible rfl
        try simp only [Act.put, List.setIfInBounds_toArray, List.set_cons_zero, List.set_cons_succ]
        refine wpAnyT_take (i := 12) (v := ?vv32) rfl (by kernel_rfl) (fun _ _ _ h => h) (Or.inl ⟨by rfl, fun w hSw => ?yy32⟩) HS ?rr32
        case yy32 =>
          (try dsimp only at hSw); go_simp
          try with_reducible rfl
        try simp only [Act.put, List.setIfInBounds_toArray, List.set_cons_zero, List.set_cons_succ]
        refine wpAnyT_take (i := 13) (v := .int .i64 a2) rfl (by kernel_rfl) (fun _ _ _ h => h) (Or.inl ⟨by rfl, fun w hSw => ?_⟩) HS ?_
        · (try dsimp only at hSw); go_simp
        try simp only [Act.put, List.setIfInBounds_toArray, List.set_cons_zero, List.set_cons_succ]
        refine wpAnyT_take (i := 14) (v := ?vv34) rfl (by kernel_rfl) (fun _ _ _ h => h) (Or.inl ⟨by rfl, fun w hSw => ?yy34⟩) HS ?rr34
        case yy34 =>
          (try dsimp only at hSw); go_simp
          try with_reducible rfl
        try simp only [Act.put, List.setIfInBounds_toArray, List.set_cons_zero, List.set_cons_succ]
        refine wpAnyT_take (i := 15) (v := .bool false) rfl (by kernel_rfl) (fun _ _ _ h => h) (Or.inl ⟨by rfl, fun w hSw => ?_⟩) HS ?_
        · (try dsimp only at hSw); go_simp
        try simp only [Act.put, List.setIfInBounds_toArray, List.set_cons_zero, List.set_cons_succ]
        refine wpAnyT_take (i := 16) (v := .bool false) rfl (by kernel_rfl) (fun _ _ _ h => h) (Or.inl ⟨by rfl, fun w hSw => ?_⟩) HS ?_
        · (try dsimp only at hSw); go_simp
        try simp only [Act.put, List.setIfInBounds_toArray, List.set_cons_zero, List.set_cons_succ]
        refine wpAnyT_take (i := 17) (v := .bool false) rfl (by kernel_rfl) (fun _ _ _ h => h) (Or.inl ⟨by rfl, fun w hSw => ?_⟩) HS ?_
        · (try dsimp only at hSw); go_simp
        try simp only [Act.put, List.setIfInBounds_toArray, List.set_cons_zero, List.set_cons_succ]
        refine wpAnyT_take (i := 18) (v := ?vv38) rfl (by kernel_rfl) (fun _ _ _ h => h) (Or.inl ⟨by rfl, fun w hSw => ?yy38⟩) HS ?rr38
        case yy38 =>
          (try dsimp only at hSw); go_simp
          try with_reducible rfl
        try simp only [Act.put, List.setIfInBounds_toArray, List.set_cons_zero, List.set_cons_succ]
        refine wpAnyT_take (i := 19) (v := ?vv39) rfl (by kernel_rfl) (fun _ _ _ h => h) (Or.inl ⟨by rfl, fun w hSw => ?yy39⟩) HS ?rr39
        case yy39 =>
          (try dsimp only at hSw); go_simp
          try with_reducible rfl
        try simp only [Act.put, List.setIfInBounds_toArray, List.set_cons_zero, List.set_cons_succ]
        refine wpAnyT_take (i := 20) (v := ?vv40) rfl (by kernel_rfl) (fun _ _ _ h => h) (Or.inl ⟨by rfl, fun w hSw => ?yy40⟩) HS ?rr40
        case yy40 =>
          (try dsimp only at hSw); go_simp
          try with_reducible rfl
        try simp only [Act.put, List.setIfInBounds_toArray, List.set_cons_zero, List.set_cons_succ]
        refine wpAnyT_take (i := 21) (v := .bool false) rfl (by kernel_rfl) (fun _ _ _ h => h) (Or.inl ⟨by rfl, fun w hSw => ?_⟩) HS ?_
        · (try dsimp only at hSw); go_simp
        try simp only [Act.put, List.setIfInBounds_toArray, List.set_cons_zero, List.set_cons_succ]
        refine wpAnyT_take (i := 22) (v := .bool false) rfl (by kernel_rfl) (fun _ _ _ h => h) (Or.inl ⟨by rfl, fun w hSw => ?_⟩) HS ?_
        · (try dsimp only at hSw); go_simp
        try simp only [Act.put, List.setIfInBounds_toArray, List.set_cons_zero, List.set_cons_succ]
        refine wpAnyT_take (i := 23) (v := .bool false) rfl (by kernel_rfl) (fun _ _ _ h => h) (Or.inl ⟨by rfl, fun w hSw => ?_⟩) HS ?_
        · (try dsimp only at hSw); go_simp
        try simp only [Act.put, List.setIfInBounds_toArray, List.set_cons_zero, List.set_cons_succ]
        refine wpAnyT_take (i := 24) (v := .agg #[.int .i64 (total + a2), .int .i64 a1, .slice R1 n d1]) rfl (by kernel_rfl) (fun _ _ _ h => h) (ra_yields (by rfl) (.tmp 12) rfl rfl [.int .i64 (total + a2), .int .i64 a1, .slice R1 n d1] rfl 24 (fun W hW => hW.2.1)) HS ?_
        try simp only [Act.put, List.setIfInBounds_toArray, List.set_cons_zero, List.set_cons_succ]
        refine wpAnyT_one (k := 25) rfl (by kernel_rfl) (by decide) (fun K hK => ?_)
        go_simp
        refine (ratmay_any (total + a2) a1 R1 n d1 l _ HS.2.2.2.2.1).mono ?_; rintro e wz25 ⟨rfl, hz25⟩; rw [HMA.out]
        have HS : ((fun (W : World) => Bx W B 24 [.int .i64 total, .int .i64 last, .slice A n c] ∧ Bx W V1 24 [.int .i64 (total + a2), .int .i64 a1, .slice R1 n d1] ∧ Bx W V2 24 [.int .i64 0, .int .i64 0, .slice R2 0 d2] ∧ Si W A n c l ∧ Si W R1 n d1 l ∧ Si W R2 0 d2 [] ∧ Below B w W ∧ (W.cell? ⟨V1, 0, none⟩ = some (.int .i64 (total + a2)) ∧ W.cell? ⟨V1, 1, none⟩ = some (.int .i64 a1) ∧ W.cell? ⟨B, 0, none⟩ = some (.int .i64 total)))) _ := ⟨HS.1.kept hz25, HS.2.1.kept hz25, HS.2.2.1.kept hz25, HS.2.2.2.1.keep hz25, HS.2.2.2.2.1.keep hz25, HS.2.2.2.2.2.1.keep hz25, HS.2.2.2.2.2.2.1.trans (hz25.mono (Nat.le_of_lt HS.1.lt)), (HS.2.1.kept hz25).cell 0 rfl, (HS.2.1.kept hz25).cell 1 rfl, (HS.1.kept hz25).cell 0 rfl⟩
        refine hK _ _ HS ?_
        clear hK K
        try simp only [Act.put, List.setIfInBounds_toArray, List.set_cons_zero, List.set_cons_succ]
        refine wpAnyT_take (i := 26) (v := .bool false) rfl (by kernel_rfl) (fun _ _ _ h => h) (Or.inl ⟨by rfl, fun w hSw => ?_⟩) HS ?_
        · (try dsimp only at hSw); go_simp
        try simp only [Act.put, List.setIfInBounds_toArray, List.set_cons_zero, List.set_cons_succ]
        refine wpAnyT_take (i := 27) (v := .bool false) rfl (by kernel_rfl) (fun _ _ _ h => h) (Or.inl ⟨by rfl, fun w hSw => ?_⟩) HS ?_
        · (try dsimp only at hSw); go_simp
        try simp only [Act.put, List.setIfInBounds_toArray, List.set_cons_zero, List.set_cons_succ]
        refine ⟨by kernel_rfl, ?_⟩
        simp only [List.drop_succ_cons, List.drop_zero]
        have ee := HS.1; have er := HS.2.2.1; have err := HS.2.2.2.2.2.1; have eb := HS.2.2.2.2.2.2.1
        have xe0 := ee.cell 0 rfl; have xe1 := ee.cell 1 rfl; have xe2 := ee.cell 2 rfl
        have xr0 := er.cell 0 rfl; have xr1 := er.cell 1 rfl; have xr2 := er.cell 2 rfl
        go_wp2_with fail
        go_ret
        exact ⟨rfl, eb⟩
      case pos =>
      have c0 : 0 ≤ a3 := hok.2.1; have c1 : a3 ≤ total := hok.2.2.1; have c2 : 0 ≤ a4 := hok.2.2.2.1; have c3 : a4 ≤ last := hok.2.2.2.2
      have HOK := Lib.hid hok; clear hok
      by_cases c5 : a4 = last
      case pos =>
        have HY : Hid (sampR ⟨total, last, l⟩ a3 a4 = (⟨total, last, l⟩, 0, 0)) := Lib.hid (samp_same HOK.out (by show last - a4 ≤ 0; omega))
        clear c5
        go_wp2_with (refine ra_load rfl (.tmp 5) rfl rfl e1 rfl ?_)
        clear x2
        refine (ratcame_any total last A n c l a1 a2 (fun _ => True) _ s1.sq (fun _ _ => trivial)).mono ?_
        rintro e w2 ⟨R1, m1, d1, he, hs1, hb2⟩
        rw [HX.out] at he hs1
        dsimp only [zrv] at he hs1
        subst he
        have hm1 : n = m1 := HL.out.symm.trans hs1.len
        subst hm1
        have e2 := (e1.kept hb2).alloc (.cells #[.int .i64 (total + a2), .int .i64 a1, .slice R1 n d1] 24)
        have s2 := (s1.keep hb2).alloc (.cells #[.int .i64 (total + a2), .int .i64 a1, .slice R1 n d1] 24)
        have b2 := (b1.trans (hb2.mono (Nat.le_of_lt e1.lt))).alloc (Nat.le_of_lt (e1.kept hb2).lt) (.cells #[.int .i64 (total + a2), .int .i64 a1, .slice R1 n d1] 24)
        have pp2 := hs1.si.alloc (.cells #[.int .i64 (total + a2), .int .i64 a1, .slice R1 n d1] 24)
        clear hs1
        obtain ⟨V1, hV1⟩ : ∃ V, w2.heap.size = V := ⟨_, rfl⟩
        have p2 := Bx.new w2 24 [.int .i64 (total + a2), .int .i64 a1, .slice R1 n d1]
        rw [hV1] at p2
        go_wp2_with (refine ra_load rfl (.tmp 5) rfl rfl e2 rfl ?_)
        refine (ratsamp_any total last A n c l a3 a4 (fun _ => True) _ s2.sq (fun _ _ => trivial)).mono ?_
        rintro e w3 ⟨R2, m2, d2, he, hs2, hb3⟩
        rw [HY.out] at he hs2
        dsimp only [zrv] at he hs2
        subst he
        have hm2 : n = m2 := HL.out.symm.trans hs2.len
        subst hm2
        have e3 := (e2.kept hb3).alloc (.cells #[.int .i64 total, .int .i64 last, .slice R2 n d2] 24)
        have s3 := (s2.keep hb3).alloc (.cells #[.int .i64 total, .int .i64 last, .slice R2 n d2] 24)
        have p3 := (p2.kept hb3).alloc (.cells #[.int .i64 total, .int .i64 last, .slice R2 n d2] 24)
        have pp3 := (pp2.keep hb3).alloc (.cells #[.int .i64 total, .int .i64 last, .slice R2 n d2] 24)
        have b3 := (b2.trans (hb3.mono (Nat.le_of_lt e2.lt))).alloc (Nat.le_of_lt (e2.kept hb3).lt) (.cells #[.int .i64 total, .int .i64 last, .slice R2 n d2] 24)
        have rr3 := hs2.si.alloc (.cells #[.int .i64 total, .int .i64 last, .slice R2 n d2] 24)
        clear hs2
        obtain ⟨V2, hV2⟩ : ∃ V, w3.heap.size = V := ⟨_, rfl⟩
        have r3 := Bx.new w3 24 [.int .i64 total, .int .i64 last, .slice R2 n d2]
        rw [hV2] at r3
        go_upto_region 6 with fail
        refine wp_region_tail 28 29 (fun (W : World) => Bx W B 24 [.int .i64 total, .int .i64 last, .slice A n c] ∧ Bx W V1 24 [.int .i64 (total + a2), .int .i64 a1, .slice R1 n d1] ∧ Bx W V2 24 [.int .i64 total, .int .i64 last, .slice R2 n d2] ∧ Si W A n c l ∧ Si W R1 n d1 l ∧ Si W R2 n d2 l ∧ Below B w W ∧ (W.cell? ⟨V1, 0, none⟩ = some (.int .i64 (total + a2)) ∧ W.cell? ⟨V1, 1, none⟩ = some (.int .i64 a1) ∧ W.cell? ⟨B, 0, none⟩ = some (.int .i64 total))) (by kernel_rfl) (by rfl) (by decide) ?_
        have HS : ((fun (W : World) => Bx W B 24 [.int .i64 total, .int .i64 last, .slice A n c] ∧ Bx W V1 24 [.int .i64 (total + a2), .int .i64 a1, .slice R1 n d1] ∧ Bx W V2 24 [.int .i64 total, .int .i64 last, .slice R2 n d2] ∧ Si W A n c l ∧ Si W R1 n d1 l ∧ Si W R2 n d2 l ∧ Below B w W ∧ (W.cell? ⟨V1, 0, none⟩ = some (.int .i64 (total + a2)) ∧ W.cell? ⟨V1, 1, none⟩ = some (.int .i64 a1) ∧ W.cell? ⟨B, 0, none⟩ = some (.int .i64 total)))) _ := ⟨e3.drew, p3.drew, r3.drew, s3.keep ((Below.refl _ _).drew), pp3.keep ((Below.refl _ _).drew), rr3.keep ((Below.refl _ _).drew), b3.drew, p3.drew.cell 0 rfl, p3.drew.cell 1 rfl, e3.drew.cell 0 rfl⟩
        refine wpAnyT_take (i := 0) (v := ?vv47) rfl (by kernel_rfl) (fun _ _ _ h => h) (Or.inl ⟨by rfl, fun w hSw => ?yy47⟩) HS ?rr47
        case yy47 =>
          (try dsimp only at hSw); go_simp
          try with_reducible rfl
        try simp only [Act.put, List.setIfInBounds_toArray, List.set_cons_zero, List.set_cons_succ]
        refine wpAnyT_take (i := 1) (v := .bool true) rfl (by kernel_rfl) (fun _ _ _ h => h) (Or.inl ⟨by rfl, fun w hSw => ?_⟩) HS ?_
        · (try dsimp only at hSw); go_simp
        try simp only [Act.put, List.setIfInBounds_toArray, List.set_cons_zero, List.set_cons_succ]
        refine wpAnyT_take (i := 2) (v := .bool true) rfl (by kernel_rfl) (fun _ _ _ h => h) (Or.inl ⟨by rfl, fun w hSw => ?_⟩) HS ?_
        · (try dsimp only at hSw); go_simp
        try simp only [Act.put, List.setIfInBounds_toArray, List.set_cons_zero, List.set_cons_succ]
        refine wpAnyT_take (i := 3) (v := .agg #[.int .i64 (total + a2), .int .i64 a1, .slice R1 n d1]) rfl (by kernel_rfl) (fun _ _ _ h => h) (ra_yields (by rfl) (.tmp 12) rfl rfl [.int .i64 (total + a2), .int .i64 a1, .slice R1 n d1] rfl 24 (fun W hW => hW.2.1)) HS ?_
        try simp only [Act.put, List.setIfInBounds_toArray, List.set_cons_zero, List.set_cons_succ]
        refine wpAnyT_take (i := 5) (v := .agg #[.int .i64 total, .int .i64 last, .slice A n c]) rfl (by kernel_rfl) (fun _ _ _ h => h) (ra_yields (by rfl) (.tmp 5) rfl rfl [.int .i64 total, .int .i64 last, .slice A n c] rfl 24 (fun W hW => hW.1)) HS ?_
        try simp only [Act.put, List.setIfInBounds_toArray, List.set_cons_zero, List.set_cons_succ]
        refine wpAnyT_one (k := 4) rfl (by kernel_rfl) (by decide) (fun K hK => ?_)
        go_simp
        refine (ratbest_any (total + a2) a1 R1 n d1 l _ HS.2.2.2.2.1).mono ?_; rintro e wz4 ⟨rfl, hz4⟩; rw [HBA.out]
        have HS : ((fun (W : World) => Bx W B 24 [.int .i64 total, .int .i64 last, .slice A n c] ∧ Bx W V1 24 [.int .i64 (total + a2), .int .i64 a1, .slice R1 n d1] ∧ Bx W V2 24 [.int .i64 total, .int .i64 last, .slice R2 n d2] ∧ Si W A n c l ∧ Si W R1 n d1 l ∧ Si W R2 n d2 l ∧ Below B w W ∧ (W.cell? ⟨V1, 0, none⟩ = some (.int .i64 (total + a2)) ∧ W.cell? ⟨V1, 1, none⟩ = some (.int .i64 a1) ∧ W.cell? ⟨B, 0, none⟩ = some (.int .i64 total)))) _ := ⟨HS.1.kept hz4, HS.2.1.kept hz4, HS.2.2.1.kept hz4, HS.2.2.2.1.keep hz4, HS.2.2.2.2.1.keep hz4, HS.2.2.2.2.2.1.keep hz4, HS.2.2.2.2.2.2.1.trans (hz4.mono (Nat.le_of_lt HS.1.lt)), (HS.2.1.kept hz4).cell 0 rfl, (HS.2.1.kept hz4).cell 1 rfl, (HS.1.kept hz4).cell 0 rfl⟩
        refine hK _ _ HS ?_
        clear hK K
        try simp only [Act.put, List.setIfInBounds_toArray, List.set_cons_zero, List.set_cons_succ]
        refine wpAnyT_one (k := 6) rfl (by kernel_rfl) (by decide) (fun K hK => ?_)
        go_simp
        refine (ratbest_any total last A n c l _ HS.2.2.2.1).mono ?_; rintro e wz6 ⟨rfl, hz6⟩; rw [HBM.out]
        have HS : ((fun (W : World) => Bx W B 24 [.int .i64 total, .int .i64 last, .slice A n c] ∧ Bx W V1 24 [.int .i64 (total + a2), .int .i64 a1, .slice R1 n d1] ∧ Bx W V2 24 [.int .i64 total, .int .i64 last, .slice R2 n d2] ∧ Si W A n c l ∧ Si W R1 n d1 l ∧ Si W R2 n d2 l ∧ Below B w W ∧ (W.cell? ⟨V1, 0, none⟩ = some (.int .i64 (total + a2)) ∧ W.cell? ⟨V1, 1, none⟩ = some (.int .i64 a1) ∧ W.cell? ⟨B, 0, none⟩ = some (.int .i64 total)))) _ := ⟨HS.1.kept hz6, HS.2.1.kept hz6, HS.2.2.1.kept hz6, HS.2.2.2.1.keep hz6, HS.2.2.2.2.1.keep hz6, HS.2.2.2.2.2.1.keep hz6, HS.2.2.2.2.2.2.1.trans (hz6.mono (Nat.le_of_lt HS.1.lt)), (HS.2.1.kept hz6).cell 0 rfl, (HS.2.1.kept hz6).cell 1 rfl, (HS.1.kept hz6).cell 0 rfl⟩
        refine hK _ _ HS ?_
        clear hK K
        try simp only [Act.put, List.setIfInBounds_toArray, List.set_cons_zero, List.set_cons_succ]
        refine wpAnyT_take (i := 7) (v := .bool false) rfl (by kernel_rfl) (fun _ _ _ h => h) (Or.inl ⟨by rfl, fun w hSw => ?_⟩) HS ?_
        · (try dsimp only at hSw); go_simp
        try simp only [Act.put, List.setIfInBounds_toArray, List.set_cons_zero, List.set_cons_succ]
        refine wpAnyT_take (i := 8) (v := .bool false) rfl (by kernel_rfl) (fun _ _ _ h => h) (Or.inl ⟨by rfl, fun w hSw => ?_⟩) HS ?_
        · (try dsimp only at hSw); go_simp
        try simp only [Act.put, List.setIfInBounds_toArray, List.set_cons_zero, List.set_cons_succ]
        refine wpAnyT_take (i := 9) (v := ?vv54) rfl (by kernel_rfl) (fun _ _ _ h => h) (Or.inl ⟨by rfl, fun w hSw => ?yy54⟩) HS ?rr54
        case yy54 =>
          (try dsimp only at hSw); go_simp
          try with_reducible rfl
        try simp only [Act.put, List.setIfInBounds_toArray, List.set_cons_zero, List.set_cons_succ]
        refine wpAnyT_take (i := 10) (v := ?vv55) rfl (by kernel_rfl) (fun _ _ _ h => h) (Or.inl ⟨by rfl, fun w hSw => ?yy55⟩) HS ?rr55
        case yy55 =>
          (try dsimp only at hSw); go_simp
          try with_reducible rfl
        try simp only [Act.put, List.setIfInBounds_toArray, List.set_cons_zero, List.set_cons_succ]
        refine wpAnyT_take (i := 11) (v := ?vv56) rfl (by kernel_rfl) (fun _ _ _ h => h) (Or.inl ⟨by rfl, fun w hSw => ?yy56⟩) HS ?rr56
        case yy56 =>
          (try dsimp only at hSw); go_simp
          try with_reducible rfl
        try simp only [Act.put, List.setIfInBounds_toArray, List.set_cons_zero, List.set_cons_succ]
        refine wpAnyT_take (i := 12) (v := ?vv57) rfl (by kernel_rfl) (fun _ _ _ h => h) (Or.inl ⟨by rfl, fun w hSw => ?yy57⟩) HS ?rr57
        case yy57 =>
          (try dsimp only at hSw); go_simp
          try with_reducible rfl
        try simp only [Act.put, List.setIfInBounds_toArray, List.set_cons_zero, List.set_cons_succ]
        refine wpAnyT_take (i := 13) (v := .int .i64 a2) rfl (by kernel_rfl) (fun _ _ _ h => h) (Or.inl ⟨by rfl, fun w hSw => ?_⟩) HS ?_
        · (try dsimp only at hSw); go_simp
        try simp only [Act.put, List.setIfInBounds_toArray, List.set_cons_zero, List.set_cons_succ]
        refine wpAnyT_take (i := 14) (v := ?vv59) rfl (by kernel_rfl) (fun _ _ _ h => h) (Or.inl ⟨by rfl, fun w hSw => ?yy59⟩) HS ?rr59
        case yy59 =>
          (try dsimp only at hSw); go_simp
          try with_reducible rfl
        try simp only [Act.put, List.setIfInBounds_toArray, List.set_cons_zero, List.set_cons_succ]
        refine wpAnyT_take (i := 15) (v := .bool false) rfl (by kernel_rfl) (fun _ _ _ h => h) (Or.inl ⟨by rfl, fun w hSw => ?_⟩) HS ?_
        · (try dsimp only at hSw); go_simp
        try simp only [Act.put, List.setIfInBounds_toArray, List.set_cons_zero, List.set_cons_succ]
        refine wpAnyT_take (i := 16) (v := .bool false) rfl (by kernel_rfl) (fun _ _ _ h => h) (Or.inl ⟨by rfl, fun w hSw => ?_⟩) HS ?_
        · (try dsimp only at hSw); go_simp
        try simp only [Act.put, List.setIfInBounds_toArray, List.set_cons_zero, List.set_cons_succ]
        refine wpAnyT_take (i := 17) (v := .bool false) rfl (by kernel_rfl) (fun _ _ _ h => h) (Or.inl ⟨by rfl, fun w hSw => ?_⟩) HS ?_
        · (try dsimp only at hSw); go_simp
        try simp only [Act.put, List.setIfInBounds_toArray, List.set_cons_zero, List.set_cons_succ]
        refine wpAnyT_take (i := 18) (v := ?vv63) rfl (by kernel_rfl) (fun _ _ _ h => h) (Or.inl ⟨by rfl, fun w hSw => ?yy63⟩) HS ?rr63
        case yy63 =>
          (try dsimp only at hSw); go_simp
          try with_reducible rfl
        try simp only [Act.put, List.setIfInBounds_toArray, List.set_cons_zero, List.set_cons_succ]
        refine wpAnyT_take (i := 19) (v := ?vv64) rfl (by kernel_rfl) (fun _ _ _ h => h) (Or.inl ⟨by rfl, fun w hSw => ?yy64⟩) HS ?rr64
        case yy64 =>
          (try dsimp only at hSw); go_simp
          try with_reducible rfl
        try simp only [Act.put, List.setIfInBounds_toArray, List.set_cons_zero, List.set_cons_succ]
        refine wpAnyT_take (i := 20) (v := ?vv65) rfl (by kernel_rfl) (fun _ _ _ h => h) (Or.inl ⟨by rfl, fun w hSw => ?yy65⟩) HS ?rr65
        case yy65 =>
          (try dsimp only at hSw); go_simp
          try with_reducible rfl
        try simp only [Act.put, List.setIfInBounds_toArray, List.set_cons_zero, List.set_cons_succ]
        refine wpAnyT_take (i := 21) (v := .bool false) rfl (by kernel_rfl) (fun _ _ _ h => h) (Or.inl ⟨by rfl, fun w hSw => ?_⟩) HS ?_
        · (try dsimp only at hSw); go_simp
        try simp only [Act.put, List.setIfInBounds_toArray, List.set_cons_zero, List.set_cons_succ]
        refine wpAnyT_take (i := 22) (v := .bool false) rfl (by kernel_rfl) (fun _ _ _ h => h) (Or.inl ⟨by rfl, fun w hSw => ?_⟩) HS ?_
        · (try dsimp only at hSw); go_simp
        try simp only [Act.put, List.setIfInBounds_toArray, List.set_cons_zero, List.set_cons_succ]
        refine wpAnyT_take (i := 23) (v := .bool false) rfl (by kernel_rfl) (fun _ _ _ h => h) (Or.inl ⟨by rfl, fun w hSw => ?_⟩) HS ?_
        · (try dsimp only at hSw); go_simp
        try simp only [Act.put, List.setIfInBounds_toArray, List.set_cons_zero, List.set_cons_succ]
        refine wpAnyT_take (i := 24) (v := .agg #[.int .i64 (total + a2), .int .i64 a1, .slice R1 n d1]) rfl (by kernel_rfl) (fun _ _ _ h => h) (ra_yields (by rfl) (.tmp 12) rfl rfl [.int .i64 (total + a2), .int .i64 a1, .slice R1 n d1] rfl 24 (fun W hW => hW.2.1)) HS ?_
        try simp only [Act.put, List.setIfInBounds_toArray, List.set_cons_zero, List.set_cons_succ]
        refine wpAnyT_one (k := 25) rfl (by kernel_rfl) (by decide) (fun K hK => ?_)
        go_simp
        refine (ratmay_any (total + a2) a1 R1 n d1 l _ HS.2.2.2.2.1).mono ?_; rintro e wz25 ⟨rfl, hz25⟩; rw [HMA.out]
        have HS : ((fun (W : World) => Bx W B 24 [.int .i64 total, .int .i64 last, .slice A n c] ∧ Bx W V1 24 [.int .i64 (total + a2), .int .i64 a1, .slice R1 n d1] ∧ Bx W V2 24 [.int .i64 total, .int .i64 last, .slice R2 n d2] ∧ Si W A n c l ∧ Si W R1 n d1 l ∧ Si W R2 n d2 l ∧ Below B w W ∧ (W.cell? ⟨V1, 0, none⟩ = some (.int .i64 (total + a2)) ∧ W.cell? ⟨V1, 1, none⟩ = some (.int .i64 a1) ∧ W.cell? ⟨B, 0, none⟩ = some (.int .i64 total)))) _ := ⟨HS.1.kept hz25, HS.2.1.kept hz25, HS.2.2.1.kept hz25, HS.2.2.2.1.keep hz25, HS.2.2.2.2.1.keep hz25, HS.2.2.2.2.2.1.keep hz25, HS.2.2.2.2.2.2.1.trans (hz25.mono (Nat.le_of_lt HS.1.lt)), (HS.2.1.kept hz25).cell 0 rfl, (HS.2.1.kept hz25).cell 1 rfl, (HS.1.kept hz25).cell 0 rfl⟩
        refine hK _ _ HS ?_
        clear hK K
        try simp only [Act.put, List.setIfInBounds_toArray, List.set_cons_zero, List.set_cons_succ]
        refine wpAnyT_take (i := 26) (v := .bool false) rfl (by kernel_rfl) (fun _ _ _ h => h) (Or.inl ⟨by rfl, fun w hSw => ?_⟩) HS ?_
        · (try dsimp only at hSw); go_simp
        try simp only [Act.put, List.setIfInBounds_toArray, List.set_cons_zero, List.set_cons_succ]
        refine wpAnyT_take (i := 27) (v := .bool false) rfl (by kernel_rfl) (fun _ _ _ h => h) (Or.inl ⟨by rfl, fun w hSw => ?_⟩) HS ?_
        · (try dsimp only at hSw); go_simp
        try simp only [Act.put, List.setIfInBounds_toArray, List.set_cons_zero, List.set_cons_succ]
        refine ⟨by kernel_rfl, ?_⟩
        simp only [List.drop_succ_cons, List.drop_zero]
        have ee := HS.1; have er := HS.2.2.1; have err := HS.2.2.2.2.2.1; have eb := HS.2.2.2.2.2.2.1
        have xe0 := ee.cell 0 rfl; have xe1 := ee.cell 1 rfl; have xe2 := ee.cell 2 rfl
        have xr0 := er.cell 0 rfl; have xr1 := er.cell 1 rfl; have xr2 := er.cell 2 rfl
        go_wp2_with fail
        refine (ratmay_any total last R2 n d2 l _ err).mono ?_
        rintro e wm ⟨rfl, hm⟩
        rw [HK.out]
        have ee2 := ee.kept hm; have er2 := er.kept hm; have err2 := err.keep hm; have eb2 := eb.trans (hm.mono (Nat.le_of_lt ee.lt))
        have ye0 := ee2.cell 0 rfl; have ye1 := ee2.cell 1 rfl; have ye2 := ee2.cell 2 rfl
        have yr0 := er2.cell 0 rfl; have yr1 := er2.cell 1 rfl; have yr2 := er2.cell 2 rfl
        go_wp2_with fail
        refine (ratbest_any total last R2 n d2 l _ err2).mono ?_
        rintro e wn ⟨rfl, hn2⟩
        rw [HBM.out]
        have eb3 := eb2.trans (hn2.mono (Nat.le_of_lt ee2.lt))
        go_wp2_with fail
        go_ret
        exact ⟨rfl, eb3⟩
      case neg =>
      obtain ⟨nr, hnr⟩ : ∃ nr, numR (total - a3) (last - a4) = nr := ⟨_, rfl⟩
      have hnb := num_bd (a := total - a3) (d := last - a4) (by omega) (by omega)
      rw [hnr] at hnb
      obtain ⟨nr0, nr1⟩ := hnb
      have HY : Hid (sampR ⟨total, last, l⟩ a3 a4 = (⟨total, last, pushR l nr⟩, nr, 0)) := Lib.hid (by rw [samp_ok HOK.out (by show ¬ last - a4 ≤ 0; omega)]; show ((⟨total, last, pushR l (numR (total - a3) (last - a4))⟩ : Rv), numR (total - a3) (last - a4), (0 : Int)) = _; rw [hnr])
      have hmy : ramay ⟨total, last, pushR l nr⟩ = true := by
        have := (ramay_iff _).2 (samp_valid HOK.out)
        rw [HY.out] at this
        exact this
      obtain ⟨by_, hby⟩ : ∃ t, bestR ⟨total, last, pushR l nr⟩ = t := ⟨_, rfl⟩
      have hge : nr ≤ by_ := by
        rw [← hby]; unfold bestR; rw [if_pos hmy]; exact mx_ge push_in
      have HMY := Lib.hid hmy; have HBY := Lib.hid hby
      clear hnr hmy hby c5
      go_wp2_with (refine ra_load rfl (.tmp 5) rfl rfl e1 rfl ?_)
      clear x2
      refine (ratcame_any total last A n c l a1 a2 (fun _ => True) _ s1.sq (fun _ _ => trivial)).mono ?_
      rintro e w2 ⟨R1, m1, d1, he, hs1, hb2⟩
      rw [HX.out] at he hs1
      dsimp only [zrv] at he hs1
      subst he
      have hm1 : n = m1 := HL.out.symm.trans hs1.len
      subst hm1
      have e2 := (e1.kept hb2).alloc (.cells #[.int .i64 (total + a2), .int .i64 a1, .slice R1 n d1] 24)
      have s2 := (s1.keep hb2).alloc (.cells #[.int .i64 (total + a2), .int .i64 a1, .slice R1 n d1] 24)
      have b2 := (b1.trans (hb2.mono (Nat.le_of_lt e1.lt))).alloc (Nat.le_of_lt (e1.kept hb2).lt) (.cells #[.int .i64 (total + a2), .int .i64 a1, .slice R1 n d1] 24)
      have pp2 := hs1.si.alloc (.cells #[.int .i64 (total + a2), .int .i64 a1, .slice R1 n d1] 24)
      clear hs1
      obtain ⟨V1, hV1⟩ : ∃ V, w2.heap.size = V := ⟨_, rfl⟩
      have p2 := Bx.new w2 24 [.int .i64 (total + a2), .int .i64 a1, .slice R1 n d1]
      rw [hV1] at p2
      go_wp2_with (refine ra_load rfl (.tmp 5) rfl rfl e2 rfl ?_)
      refine (ratsamp_any total last A n c l a3 a4 (fun _ => True) _ s2.sq (fun _ _ => trivial)).mono ?_
      rintro e w3 ⟨R2, m2, d2, he, hs2, hb3⟩
      rw [HY.out] at he hs2
      dsimp only [zrv] at he hs2
      subst he
      have e3 := (e2.kept hb3).alloc (.cells #[.int .i64 total, .int .i64 last, .slice R2 m2 d2] 24)
      have s3 := (s2.keep hb3).alloc (.cells #[.int .i64 total, .int .i64 last, .slice R2 m2 d2] 24)
      have p3 := (p2.kept hb3).alloc (.cells #[.int .i64 total, .int .i64 last, .slice R2 m2 d2] 24)
      have pp3 := (pp2.keep hb3).alloc (.cells #[.int .i64 total, .int .i64 last, .slice R2 m2 d2] 24)
      have b3 := (b2.trans (hb3.mono (Nat.le_of_lt e2.lt))).alloc (Nat.le_of_lt (e2.kept hb3).lt) (.cells #[.int .i64 total, .int .i64 last, .slice R2 m2 d2] 24)
      have rr3 := hs2.si.alloc (.cells #[.int .i64 total, .int .i64 last, .slice R2 m2 d2] 24)
      clear hs2
      obtain ⟨V2, hV2⟩ : ∃ V, w3.heap.size = V := ⟨_, rfl⟩
      have r3 := Bx.new w3 24 [.int .i64 total, .int .i64 last, .slice R2 m2 d2]
      rw [hV2] at r3
      go_upto_region 6 with fail
      refine wp_region_tail 28 29 (fun (W : World) => Bx W B 24 [.int .i64 total, .int .i64 last, .slice A n c] ∧ Bx W V1 24 [.int .i64 (total + a2), .int .i64 a1, .slice R1 n d1] ∧ Bx W V2 24 [.int .i64 total, .int .i64 last, .slice R2 m2 d2] ∧ Si W A n c l ∧ Si W R1 n d1 l ∧ Si W R2 m2 d2 (pushR l nr) ∧ Below B w W ∧ (W.cell? ⟨V1, 0, none⟩ = some (.int .i64 (total + a2)) ∧ W.cell? ⟨V1, 1, none⟩ = some (.int .i64 a1) ∧ W.cell? ⟨B, 0, none⟩ = some (.int .i64 total))) (by kernel_rfl) (by rfl) (by decide) ?_
      have HS : ((fun (W : World) => Bx W B 24 [.int .i64 total, .int .i64 last, .slice A n c] ∧ Bx W V1 24 [.int .i64 (total + a2), .int .i64 a1, .slice R1 n d1] ∧ Bx W V2 24 [.int .i64 total, .int .i64 last, .slice R2 m2 d2] ∧ Si W A n c l ∧ Si W R1 n d1 l ∧ Si W R2 m2 d2 (pushR l nr) ∧ Below B w W ∧ (W.cell? ⟨V1, 0, none⟩ = some (.int .i64 (total + a2)) ∧ W.cell? ⟨V1, 1, none⟩ = some (.int .i64 a1) ∧ W.cell? ⟨B, 0, none⟩ = some (.int .i64 total)))) _ := ⟨e3.drew, p3.drew, r3.drew, s3.keep ((Below.refl _ _).drew), pp3.keep ((Below.refl _ _).drew), rr3.keep ((Below.refl _ _).drew), b3.drew, p3.drew.cell 0 rfl, p3.drew.cell 1 rfl, e3.drew.cell 0 rfl⟩
      refine wpAnyT_take (i := 0) (v := ?vv72) rfl (by kernel_rfl) (fun _ _ _ h => h) (Or.inl ⟨by rfl, fun w hSw => ?yy72⟩) HS ?rr72
      case yy72 =>
        (try dsimp only at hSw); go_simp
        try with_reducible rfl
      try simp only [Act.put, List.setIfInBounds_toArray, List.set_cons_zero, List.set_cons_succ]
      refine wpAnyT_take (i := 1) (v := .bool true) rfl (by kernel_rfl) (fun _ _ _ h => h) (Or.inl ⟨by rfl, fun w hSw => ?_⟩) HS ?_
      · (try dsimp only at hSw); go_simp
      try simp only [Act.put, List.setIfInBounds_toArray, List.set_cons_zero, List.set_cons_succ]
      refine wpAnyT_take (i := 2) (v := .bool true) rfl (by kernel_rfl) (fun _ _ _ h => h) (Or.inl ⟨by rfl, fun w hSw => ?_⟩) HS ?_
      · (try dsimp only at hSw); go_simp
      try simp only [Act.put, List.setIfInBounds_toArray, List.set_cons_zero, List.set_cons_succ]
      refine wpAnyT_take (i := 3) (v := .agg #[.int .i64 (total + a2), .int .i64 a1, .slice R1 n d1]) rfl (by kernel_rfl) (fun _ _ _ h => h) (ra_yields (by rfl) (.tmp 12) rfl rfl [.int .i64 (total + a2), .int .i64 a1, .slice R1 n d1] rfl 24 (fun W hW => hW.2.1)) HS ?_
      try simp only [Act.put, List.setIfInBounds_toArray, List.set_cons_zero, List.set_cons_succ]
      refine wpAnyT_take (i := 5) (v := .agg #[.int .i64 total, .int .i64 last, .slice A n c]) rfl (by kernel_rfl) (fun _ _ _ h => h) (ra_yields (by rfl) (.tmp 5) rfl rfl [.int .i64 total, .int .i64 last, .slice A n c] rfl 24 (fun W hW => hW.1)) HS ?_
      try simp only [Act.put, List.setIfInBounds_toArray, List.set_cons_zero, List.set_cons_succ]
      refine wpAnyT_one (k := 4) rfl (by kernel_rfl) (by decide) (fun K hK => ?_)
      go_simp
      refine (ratbest_any (total + a2) a1 R1 n d1 l _ HS.2.2.2.2.1).mono ?_; rintro e wz4 ⟨rfl, hz4⟩; rw [HBA.out]
      have HS : ((fun (W : World) => Bx W B 24 [.int .i64 total, .int .i64 last, .slice A n c] ∧ Bx W V1 24 [.int .i64 (total + a2), .int .i64 a1, .slice R1 n d1] ∧ Bx W V2 24 [.int .i64 total, .int .i64 last, .slice R2 m2 d2] ∧ Si W A n c l ∧ Si W R1 n d1 l ∧ Si W R2 m2 d2 (pushR l nr) ∧ Below B w W ∧ (W.cell? ⟨V1, 0, none⟩ = some (.int .i64 (total + a2)) ∧ W.cell? ⟨V1, 1, none⟩ = some (.int .i64 a1) ∧ W.cell? ⟨B, 0, none⟩ = some (.int .i64 total)))) _ := ⟨HS.1.kept hz4, HS.2.1.kept hz4, HS.2.2.1.kept hz4, HS.2.2.2.1.keep hz4, HS.2.2.2.2.1.keep hz4, HS.2.2.2.2.2.1.keep hz4, HS.2.2.2.2.2.2.1.trans (hz4.mono (Nat.le_of_lt HS.1.lt)), (HS.2.1.kept hz4).cell 0 rfl, (HS.2.1.kept hz4).cell 1 rfl, (HS.1.kept hz4).cell 0 rfl⟩
      refine hK _ _ HS ?_
      clear hK K
      try simp only [Act.put, List.setIfInBounds_toArray, List.set_cons_zero, List.set_cons_succ]
      refine wpAnyT_one (k := 6) rfl (by kernel_rfl) (by decide) (fun K hK => ?_)
      go_simp
      refine (ratbest_any total last A n c l _ HS.2.2.2.1).mono ?_; rintro e wz6 ⟨rfl, hz6⟩; rw [HBM.out]
      have HS : ((fun (W : World) => Bx W B 24 [.int .i64 total, .int .i64 last, .slice A n c] ∧ Bx W V1 24 [.int .i64 (total + a2), .int .i64 a1, .slice R1 n d1] ∧ Bx W V2 24 [.int .i64 total, .int .i64 last, .slice R2 m2 d2] ∧ Si W A n c l ∧ Si W R1 n d1 l ∧ Si W R2 m2 d2 (pushR l nr) ∧ Below B w W ∧ (W.cell? ⟨V1, 0, none⟩ = some (.int .i64 (total + a2)) ∧ W.cell? ⟨V1, 1, none⟩ = some (.int .i64 a1) ∧ W.cell? ⟨B, 0, none⟩ = some (.int .i64 total)))) _ := ⟨HS.1.kept hz6, HS.2.1.kept hz6, HS.2.2.1.kept hz6, HS.2.2.2.1.keep hz6, HS.2.2.2.2.1.keep hz6, HS.2.2.2.2.2.1.keep hz6, HS.2.2.2.2.2.2.1.trans (hz6.mono (Nat.le_of_lt HS.1.lt)), (HS.2.1.kept hz6).cell 0 rfl, (HS.2.1.kept hz6).cell 1 rfl, (HS.1.kept hz6).cell 0 rfl⟩
      refine hK _ _ HS ?_
      clear hK K
      try simp only [Act.put, List.setIfInBounds_toArray, List.set_cons_zero, List.set_cons_succ]
      refine wpAnyT_take (i := 7) (v := .bool false) rfl (by kernel_rfl) (fun _ _ _ h => h) (Or.inl ⟨by rfl, fun w hSw => ?_⟩) HS ?_
      · (try dsimp only at hSw); go_simp
      try simp only [Act.put, List.setIfInBounds_toArray, List.set_cons_zero, List.set_cons_succ]
      refine wpAnyT_take (i := 8) (v := .bool false) rfl (by kernel_rfl) (fun _ _ _ h => h) (Or.inl ⟨by rfl, fun w hSw => ?_⟩) HS ?_
      · (try dsimp only at hSw); go_simp
      try simp only [Act.put, List.setIfInBounds_toArray, List.set_cons_zero, List.set_cons_succ]
      refine wpAnyT_take (i := 9) (v := ?vv79) rfl (by kernel_rfl) (fun _ _ _ h => h) (Or.inl ⟨by rfl, fun w hSw => ?yy79⟩) HS ?rr79
      case yy79 =>
        (try dsimp only at hSw); go_simp
        try with_reducible rfl
      try simp only [Act.put, List.setIfInBounds_toArray, List.set_cons_zero, List.set_cons_succ]
      refine wpAnyT_take (i := 10) (v := ?vv80) rfl (by kernel_rfl) (fun _ _ _ h => h) (Or.inl ⟨by rfl, fun w hSw => ?yy80⟩) HS ?rr80
      case yy80 =>
        (try dsimp only at hSw); go_simp
        try with_reducible rfl
      try simp only [Act.put, List.setIfInBounds_toArray, List.set_cons_zero, List.set_cons_succ]
      refine wpAnyT_take (i := 11) (v := ?vv81) rfl (by kernel_rfl) (fun _ _ _ h => h) (Or.inl ⟨by rfl, fun w hSw => ?yy81⟩) HS ?rr81
      case yy81 =>
        (try dsimp only at hSw); go_simp
        try with_reducible rfl
      try simp only [Act.put, List.setIfInBounds_toArray, List.set_cons_zero, List.set_cons_succ]
      refine wpAnyT_take (i := 12) (v := ?vv82) rfl (by kernel_rfl) (fun _ _ _ h => h) (Or.inl ⟨by rfl, fun w hSw => ?yy82⟩) HS ?rr82
      case yy82 =>
        (try dsimp only at hSw); go_simp
        try with_reducible rfl
      try simp only [Act.put, List.setIfInBounds_toArray, List.set_cons_zero, List.set_cons_succ]
      refine wpAnyT_take (i := 13) (v := .int .i64 a2) rfl (by kernel_rfl) (fun _ _ _ h => h) (Or.inl ⟨by rfl, fun w hSw => ?_⟩) HS ?_
      · (try dsimp only at hSw); go_simp
      try simp only [Act.put, List.setIfInBounds_toArray, List.set_cons_zero, List.set_cons_succ]
      refine wpAnyT_take (i := 14) (v := ?vv84) rfl (by kernel_rfl) (fun _ _ _ h => h) (Or.inl ⟨by rfl, fun w hSw => ?yy84⟩) HS ?rr84
      case yy84 =>
        (try dsimp only at hSw); go_simp
        try with_reducible rfl
      try simp only [Act.put, List.setIfInBounds_toArray, List.set_cons_zero, List.set_cons_succ]
      refine wpAnyT_take (i := 15) (v := .bool false) rfl (by kernel_rfl) (fun _ _ _ h => h) (Or.inl ⟨by rfl, fun w hSw => ?_⟩) HS ?_
      · (try dsimp only at hSw); go_simp
      try simp only [Act.put, List.setIfInBounds_toArray, List.set_cons_zero, List.set_cons_succ]
      refine wpAnyT_take (i := 16) (v := .bool false) rfl (by kernel_rfl) (fun _ _ _ h => h) (Or.inl ⟨by rfl, fun w hSw => ?_⟩) HS ?_
      · (try dsimp only at hSw); go_simp
      try simp only [Act.put, List.setIfInBounds_toArray, List.set_cons_zero, List.set_cons_succ]
      refine wpAnyT_take (i := 17) (v := .bool false) rfl (by kernel_rfl) (fun _ _ _ h => h) (Or.inl ⟨by rfl, fun w hSw => ?_⟩) HS ?_
      · (try dsimp only at hSw); go_simp
      try simp only [Act.put, List.setIfInBounds_toArray, List.set_cons_zero, List.set_cons_succ]
      refine wpAnyT_take (i := 18) (v := ?vv88) rfl (by kernel_rfl) (fun _ _ _ h => h) (Or.inl ⟨by rfl, fun w hSw => ?yy88⟩) HS ?rr88
      case yy88 =>
        (try dsimp only at hSw); go_simp
        try with_reducible rfl
      try simp only [Act.put, List.setIfInBounds_toArray, List.set_cons_zero, List.set_cons_succ]
      refine wpAnyT_take (i := 19) (v := ?vv89) rfl (by kernel_rfl) (fun _ _ _ h => h) (Or.inl ⟨by rfl, fun w hSw => ?yy89⟩) HS ?rr89
      case yy89 =>
        (try dsimp only at hSw); go_simp
        try with_reducible rfl
      try simp only [Act.put, List.setIfInBounds_toArray, List.set_cons_zero, List.set_cons_succ]
      refine wpAnyT_take (i := 20) (v := ?vv90) rfl (by kernel_rfl) (fun _ _ _ h => h) (Or.inl ⟨by rfl, fun w hSw => ?yy90⟩) HS ?rr90
      case yy90 =>
        (try dsimp only at hSw); go_simp
        try with_reducible rfl
      try simp only [Act.put, List.setIfInBounds_toArray, List.set_cons_zero, List.set_cons_succ]
      refine wpAnyT_take (i := 21) (v := .bool false) rfl (by kernel_rfl) (fun _ _ _ h => h) (Or.inl ⟨by rfl, fun w hSw => ?_⟩) HS ?_
      · (try dsimp only at hSw); go_simp
      try simp only [Act.put, List.setIfInBounds_toArray, List.set_cons_zero, List.set_cons_succ]
      refine wpAnyT_take (i := 22) (v := .bool false) rfl (by kernel_rfl) (fun _ _ _ h => h) (Or.inl ⟨by rfl, fun w hSw => ?_⟩) HS ?_
      · (try dsimp only at hSw); go_simp
      try simp only [Act.put, List.setIfInBounds_toArray, List.set_cons_zero, List.set_cons_succ]
      refine wpAnyT_take (i := 23) (v := .bool false) rfl (by kernel_rfl) (fun _ _ _ h => h) (Or.inl ⟨by rfl, fun w hSw => ?_⟩) HS ?_
      · (try dsimp only at hSw); go_simp
      try simp only [Act.put, List.setIfInBounds_toArray, List.set_cons_zero, List.set_cons_succ]
      refine wpAnyT_take (i := 24) (v := .agg #[.int .i64 (total + a2), .int .i64 a1, .slice R1 n d1]) rfl (by kernel_rfl) (fun _ _ _ h => h) (ra_yields (by rfl) (.tmp 12) rfl rfl [.int .i64 (total + a2), .int .i64 a1, .slice R1 n d1] rfl 24 (fun W hW => hW.2.1)) HS ?_
      try simp only [Act.put, List.setIfInBounds_toArray, List.set_cons_zero, List.set_cons_succ]
      refine wpAnyT_one (k := 25) rfl (by kernel_rfl) (by decide) (fun K hK => ?_)
      go_simp
      refine (ratmay_any (total + a2) a1 R1 n d1 l _ HS.2.2.2.2.1).mono ?_; rintro e wz25 ⟨rfl, hz25⟩; rw [HMA.out]
      have HS : ((fun (W : World) => Bx W B 24 [.int .i64 total, .int .i64 last, .slice A n c] ∧ Bx W V1 24 [.int .i64 (total + a2), .int .i64 a1, .slice R1 n d1] ∧ Bx W V2 24 [.int .i64 total, .int .i64 last, .slice R2 m2 d2] ∧ Si W A n c l ∧ Si W R1 n d1 l ∧ Si W R2 m2 d2 (pushR l nr) ∧ Below B w W ∧ (W.cell? ⟨V1, 0, none⟩ = some (.int .i64 (total + a2)) ∧ W.cell? ⟨V1, 1, none⟩ = some (.int .i64 a1) ∧ W.cell? ⟨B, 0, none⟩ = some (.int .i64 total)))) _ := ⟨HS.1.kept hz25, HS.2.1.kept hz25, HS.2.2.1.kept hz25, HS.2.2.2.1.keep hz25, HS.2.2.2.2.1.keep hz25, HS.2.2.2.2.2.1.keep hz25, HS.2.2.2.2.2.2.1.trans (hz25.mono (Nat.le_of_lt HS.1.lt)), (HS.2.1.kept hz25).cell 0 rfl, (HS.2.1.kept hz25).cell 1 rfl, (HS.1.kept hz25).cell 0 rfl⟩
      refine hK _ _ HS ?_
      clear hK K
      try simp only [Act.put, List.setIfInBounds_toArray, List.set_cons_zero, List.set_cons_succ]
      refine wpAnyT_take (i := 26) (v := .bool false) rfl (by kernel_rfl) (fun _ _ _ h => h) (Or.inl ⟨by rfl, fun w hSw => ?_⟩) HS ?_
      · (try dsimp only at hSw); go_simp
      try simp only [Act.put, List.setIfInBounds_toArray, List.set_cons_zero, List.set_cons_succ]
      refine wpAnyT_take (i := 27) (v := .bool false) rfl (by kernel_rfl) (fun _ _ _ h => h) (Or.inl ⟨by rfl, fun w hSw => ?_⟩) HS ?_
      · (try dsimp only at hSw); go_simp
      try simp only [Act.put, List.setIfInBounds_toArray, List.set_cons_zero, List.set_cons_succ]
      refine ⟨by kernel_rfl, ?_⟩
      simp only [List.drop_succ_cons, List.drop_zero]
      have ee := HS.1; have er := HS.2.2.1; have err := HS.2.2.2.2.2.1; have eb := HS.2.2.2.2.2.2.1
      have xe0 := ee.cell 0 rfl; have xe1 := ee.cell 1 rfl; have xe2 := ee.cell 2 rfl
      have xr0 := er.cell 0 rfl; have xr1 := er.cell 1 rfl; have xr2 := er.cell 2 rfl
      go_wp2_with fail
      refine (ratmay_any total last R2 m2 d2 (pushR l nr) _ err).mono ?_
      rintro e wm ⟨rfl, hm⟩
      rw [HMY.out]
      have ee2 := ee.kept hm; have er2 := er.kept hm; have err2 := err.keep hm; have eb2 := eb.trans (hm.mono (Nat.le_of_lt ee.lt))
      have ye0 := ee2.cell 0 rfl; have ye1 := ee2.cell 1 rfl; have ye2 := ee2.cell 2 rfl
      have yr0 := er2.cell 0 rfl; have yr1 := er2.cell 1 rfl; have yr2 := er2.cell 2 rfl
      go_wp2_with fail
      refine (ratbest_any total last R2 m2 d2 (pushR l nr) _ err2).mono ?_
      rintro e wn ⟨rfl, hn2⟩
      rw [HBY.out]
      have eb3 := eb2.trans (hn2.mono (Nat.le_of_lt ee2.lt))
      go_wp2_with fail
      go_ret
      exact ⟨rfl, eb3⟩
end Go.Proofs.Ytphkenicbbcjjaa.rateMore
