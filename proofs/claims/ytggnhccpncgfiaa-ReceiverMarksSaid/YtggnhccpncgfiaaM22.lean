/- The texts RcAwake. -/
import Derived.Below
import Derived.BigQuiet
import Derived.Deep.AppendLies
import Derived.Deep.DeepCutAuto
import Derived.Deep.QuietTactic
import Derived.IntWalk
import Derived.Laws.Rows
import Derived.Laws.Tables
import Derived.Lib.Hide
import Derived.OrdersHeld
import Derived.Outline
import Derived.Test.YtggnhccpncgfiaaProg
import Derived.WalkKit
import Derived.WalkSmall
import Derived.WalkSpells
import Derived.Test.YtggnhccpncgfiaaM19
import Derived.Test.YtggnhccpncgfiaaM21
set_option linter.all false
namespace Go.Proofs.Ytggnhccpncgfiaa
open Go.RowKit
set_option maxRecDepth 100000 in
set_option maxHeartbeats 32000000 in
theorem rcawake_any (w : World) : Calls Try.prog 8 #[] w fun e w' => e = .returned (.bool true) ∧ Below w.heap.size w w' := by
  obtain ⟨B, hB⟩ : ∃ B, w.heap.size = B := ⟨_, rfl⟩
  have HB := Lib.hid hB
  rw [hB]
  clear hB
  go_enter Try.func8, Try.ntmps8
  go_wp2_with fail
  refine (rcnew_any (OffR []) 100 _ (by unfold n64; omega) (fun b _ h => by cases h)).mono ?_
  rintro e w2 ⟨s, he, f2, hb⟩
  rw [ex_new] at he f2
  dsimp only at he f2
  subst he
  have b2 : Below B w w2 := by rw [← HB.out]; exact hb
  have z2 : B ≤ w2.heap.size := by have := b2.size; have := HB.out; omega
  clear hb
  have e3 := rw1_box w2 (rcs s exR0)
  have hb := rw1_below w2 (rcs s exR0)
  have f3 := (f2.later (Nat.le_refl _)).keep hb
  have b3 := b2.trans (hb.mono z2)
  go_upto_region 2 with (refine rv_store rfl (.tmp 1) (.tmp 9) rfl rfl (rcs s exR0) rfl (rz1 w2) rfl rfl rfl ?_)
  change Code.wp _ _ _ _ (rw1 w2 (rcs s exR0))
  generalize rw1 w2 (rcs s exR0) = w3 at e3 f3 b3 hb ⊢
  obtain ⟨B1, hB1⟩ : ∃ P, w2.heap.size = P := ⟨_, rfl⟩
  rw [hB1] at e3 f3 z2 ⊢
  have zB : B ≤ B1 := z2
  clear hB1 hb f2 b2 z2
  have HW1 := Lib.hid ex_w1; have HW2 := Lib.hid ex_w2
  go_cut [3, 4] (fun s3 s4 wx => ∃ (P : Nat) (s2 : Rcs) (G : Option Addr) (m d : Nat) (A : Option Addr) (n c : Nat), s3 = .pointer (some ⟨P, 0, none⟩) ∧ s4 = .int .i64 0 ∧ Hid (Bx wx B1 32 (rcs s2 exR1) ∧ Bx wx P 36 (sgs G m d A n c exY1) ∧ RcM wx (OffR [B1]) s2 exR1 ∧ exY1.sacks.length = m ∧ Below B w wx ∧ B1 < P))
  case first =>
    refine wp_region_V [9, 10] 12 (fun (W : World) => Bx W B1 32 (rcs s exR0)) (by kernel_rfl) (by rfl) ?_
    have e_0 := e3.drew; have f_0 := f3.drew; have b_0 := b3.drew
    have HS : (fun (W : World) => Bx W B1 32 (rcs s exR0)) _ := e_0
    generalize w3.drew = wd at HS e_0 f_0 b_0 ⊢
    refine wpAnyV_take (i := 0) (v := .agg (rcs s exR0).toArray) rfl (by kernel_rfl) (fun _ _ _ h => h) (rv_yields (by rfl) (.tmp 1) rfl rfl (rcs s exR0) rfl 32 (fun W hW => hW)) HS ?_
    try simp only [Act.put, List.setIfInBounds_toArray, List.set_cons_zero, List.set_cons_succ]
    refine wpAnyV_two (k1 := 1) (k2 := 8) rfl rfl (by kernel_rfl) (fun K hK => ?_) (fun K hK => ?_)
    · have kb : (Instr.makeSlice 22 (.int .i64 5) (.int .i64 5)).run Try.prog wd = .ok (.slice (some ⟨wd.heap.size, 0, none⟩) 5 5) (wd.alloc (.cells (lvR (List.replicate 5 0)).toArray 5)) := run_makeR 5 (by omega) wd
      go_simp
      clear kb
      have E_1 := e_0.alloc (.cells (lvR (List.replicate 5 0)).toArray 5)
      have FM_1 := (f_0.later (Nat.le_refl _)).alloc (.cells (lvR (List.replicate 5 0)).toArray 5)
      have BL_1 := b_0.alloc (Nat.le_trans zB (Nat.le_of_lt e_0.lt)) (.cells (lvR (List.replicate 5 0)).toArray 5)
      have SL_1 := sl_made 5 (by omega) wd
      have HS : (fun (W : World) => Bx W B1 32 (rcs s exR0)) _ := E_1
      refine hK _ (wd.alloc (.cells (lvR (List.replicate 5 0)).toArray 5)) HS ?_
      clear hK K HS
      try simp only [Act.put, List.setIfInBounds_toArray, List.set_cons_zero, List.set_cons_succ]
      clear e_0 f_0 b_0
      obtain ⟨X, hX⟩ : ∃ P, wd.heap.size = P := ⟨_, rfl⟩
      rw [hX] at SL_1 FM_1 ⊢
      generalize wd.alloc (.cells (lvR (List.replicate 5 0)).toArray 5) = wz1 at E_1 FM_1 BL_1 SL_1 ⊢
      clear hX
      have HS : (fun (W : World) => Bx W B1 32 (rcs s exR0)) _ := E_1
      refine wpAnyV_takeU (i := 2) (v := .agg (sgs none 0 0 (some ⟨X, 0, none⟩) 5 5 exX1).toArray) rfl (by kernel_rfl) (fun _ _ _ h => h) (Or.inl ⟨by rfl, fun w _ => ?_⟩) HS ?_
      · clear HS; go_simp
        try rfl
      try simp only [Act.put, List.setIfInBounds_toArray, List.set_cons_zero, List.set_cons_succ]
      refine wpAnyV_two (k1 := 3) (k2 := 8) rfl rfl (by kernel_rfl) (fun K hK => ?_) (fun K hK => ?_)
      · go_simp
        have hXlt : X < wz1.heap.size := by
          obtain ⟨b', o', e', hlt, _⟩ := SL_1.rd.at_ (by omega)
          cases e'; exact hlt
        refine (rctake_any (OffR [X, B1]) s exR0 none 0 0 (some ⟨X, 0, none⟩) 5 5 exX1 false _ (offr_new (by intro x hx; simp only [List.mem_cons, List.mem_nil_iff, or_false] at hx; rcases hx with hx | hx <;> rw [hx] <;> first | exact hXlt | exact E_1.lt)) FM_1 ((FM_1).bnd2 (by decide)) HW1.out (Sr.none _) SL_1).mono ?_
        rintro e wt ⟨s2, G2, m2, d2, A2, n2, c2, he, hf2, hg2, hbt⟩
        rw [ex_take1] at he hf2 hg2
        dsimp only at he hf2 hg2
        subst he
        have hml := hg2.sr.rd.len
        clear hXlt hg2
        have E_2 := E_1.kept hbt
        have FM_2 := FM_1.keep hbt
        have BL_2 := BL_1.trans (hbt.mono (Nat.le_trans zB (Nat.le_of_lt E_1.lt)))
        have SL_2 := SL_1.keep hbt
        have G_2 := hf2
        have HS : (fun (W : World) => Bx W B1 32 (rcs s exR0)) _ := E_2
        refine hK _ _ HS ?_
        clear hK K
        try simp only [Act.put, List.setIfInBounds_toArray, List.set_cons_zero, List.set_cons_succ]
        clear E_1 FM_1 BL_1 SL_1 hbt
        clear hf2
        refine wpAnyV_takeU (i := 4) (v := .tuple #[.agg (rcs s2 exR1).toArray, .agg (sgs G2 m2 d2 A2 n2 c2 exY1).toArray, .int .i64 0]) rfl (by kernel_rfl) (fun _ _ _ h => h) (Or.inl ⟨by rfl, fun w _ => ?_⟩) HS ?_
        · clear HS; go_simp
          try rfl
        try simp only [Act.put, List.setIfInBounds_toArray, List.set_cons_zero, List.set_cons_succ]
        refine wpAnyV_takeU (i := 5) (v := .agg (rcs s2 exR1).toArray) rfl (by kernel_rfl) (fun _ _ _ h => h) (Or.inl ⟨by rfl, fun w _ => ?_⟩) HS ?_
        · clear HS; go_simp
          try rfl
        try simp only [Act.put, List.setIfInBounds_toArray, List.set_cons_zero, List.set_cons_succ]
        refine wpAnyV_takeU (i := 6) (v := .agg (sgs G2 m2 d2 A2 n2 c2 exY1).toArray) rfl (by kernel_rfl) (fun _ _ _ h => h) (Or.inl ⟨by rfl, fun w _ => ?_⟩) HS ?_
        · clear HS; go_simp
          try rfl
        try simp only [Act.put, List.setIfInBounds_toArray, List.set_cons_zero, List.set_cons_succ]
        refine wpAnyV_takeU (i := 7) (v := .int .i64 0) rfl (by kernel_rfl) (fun _ _ _ h => h) (Or.inl ⟨by rfl, fun w _ => ?_⟩) HS ?_
        · clear HS; go_simp
          try rfl
        try simp only [Act.put, List.setIfInBounds_toArray, List.set_cons_zero, List.set_cons_succ]
        refine wpAnyV_one (k := 8) rfl (by kernel_rfl) (fun K hK => ?_)
        go_simp
        have E_3 := E_2.alloc (.cells zsg.toArray 36)
        have FM_3 := (FM_2.later (Nat.le_refl _)).alloc (.cells zsg.toArray 36)
        have BL_3 := BL_2.alloc (Nat.le_trans zB (Nat.le_of_lt E_2.lt)) (.cells zsg.toArray 36)
        have SL_3 := SL_2.alloc (.cells zsg.toArray 36)
        have G_3 := (G_2.later (Nat.le_refl _)).alloc (.cells zsg.toArray 36)
        have N1_3 := Bx.new wt 36 zsg
        have nPe_3 := E_2.lt
        have HS : (fun (W : World) => Bx W B1 32 (rcs s exR0)) _ := E_3
        refine hK _ (wt.alloc (.cells zsg.toArray 36)) HS ?_
        clear hK K HS
        try simp only [Act.put, List.setIfInBounds_toArray, List.set_cons_zero, List.set_cons_succ]
        clear E_2 FM_2 BL_2 SL_2 G_2
        obtain ⟨P, hP⟩ : ∃ P, wt.heap.size = P := ⟨_, rfl⟩
        rw [hP] at N1_3 nPe_3 FM_3 G_3 ⊢
        generalize wt.alloc (.cells zsg.toArray 36) = wz3 at E_3 FM_3 BL_3 SL_3 G_3 N1_3 ⊢
        clear hP
        have nPe := nPe_3
        clear nPe_3
        have HS : (fun (W : World) => Bx W B1 32 (rcs s exR0)) _ := E_3
        refine wpAnyV_end (k := 9) rfl (by kernel_rfl) (fun K hK => ?_)
        rw [if_pos (by rfl)]
        refine wp_store_row 32 (.tmp 1) (.tmp 16) rfl B1 (rcs s2 exR1).toArray (by rfl) (by rfl) 32 _ E_3 (by rw [info_rv]; rfl) (by rfl) (by have h : (rcs s2 exR1).all (·.oneCell') = true := rfl; simpa using h) ?_
        refine hK _ _ ?_
        clear hK K
        try simp only [Act.put, List.setIfInBounds_toArray, List.set_cons_zero, List.set_cons_succ]
        have g1 := rv_grown wz3 B1 (rcs s2 exR1).toArray
        have E1 := rv_put E_3 (rcs s2 exR1)
        have M1 := N1_3.grown g1 (fun e => by cases e; omega)
        have G1 := G_3.grown g1 (offr_row (by simp))
        have L1 := BL_3.grown g1 (Nat.le_trans zB (Nat.le_of_lt E_3.lt)) (fun k hk => by cases hk; exact zB)
        generalize wz3.setRow B1 (rcs s2 exR1).toArray = wu at E1 M1 G1 L1 ⊢
        refine wpAnyV_end (k := 10) rfl (by kernel_rfl) (fun K hK => ?_)
        rw [if_pos (by rfl)]
        refine wp_store_row 36 (.tmp 3) (.tmp 17) rfl P (sgs G2 m2 d2 A2 n2 c2 exY1).toArray (by rfl) (by rfl) 36 _ M1 (by rw [info_sg]; rfl) (by rfl) (by have h : (sgs G2 m2 d2 A2 n2 c2 exY1).all (·.oneCell') = true := rfl; simpa using h) ?_
        refine hK _ _ ?_
        clear hK K
        try simp only [Act.put, List.setIfInBounds_toArray, List.set_cons_zero, List.set_cons_succ]
        have g2 := sg_grown wu P (sgs G2 m2 d2 A2 n2 c2 exY1).toArray
        have E2 := E1.grown g2 (fun e => by cases e; omega)
        have M2 := sg_put M1 (sgs G2 m2 d2 A2 n2 c2 exY1)
        have G2' := G1.grown g2 (offr_row (by simp))
        have L2 := L1.grown g2 (Nat.le_trans zB (Nat.le_of_lt E1.lt)) (fun k hk => by cases hk; omega)
        refine wpAnyV_takeN (i := 11) (v := .int .i64 0) rfl (by kernel_rfl) (fun _ _ _ h => h) (Or.inl ⟨by rfl, fun w _ => ?_⟩) ?_
        · go_simp
        try simp only [Act.put, List.setIfInBounds_toArray, List.set_cons_zero, List.set_cons_succ]
        refine ⟨by kernel_rfl, ?_⟩
        go_wp2_with fail
        go_meet
        case rel => exact ⟨P, s2, G2, m2, d2, A2, n2, c2, rfl, rfl, Lib.hid ⟨E2, M2, G2'.imp (OffR.imp (by simp)), hml, L2, by omega⟩⟩
      · go_simp
        have E_4 := E_1.alloc (.cells zsg.toArray 36)
        have FM_4 := (FM_1.later (Nat.le_refl _)).alloc (.cells zsg.toArray 36)
        have BL_4 := BL_1.alloc (Nat.le_trans zB (Nat.le_of_lt E_1.lt)) (.cells zsg.toArray 36)
        have SL_4 := SL_1.alloc (.cells zsg.toArray 36)
        have N1_4 := Bx.new wz1 36 zsg
        have nPe_4 := E_1.lt
        have HS : (fun (W : World) => Bx W B1 32 (rcs s exR0)) _ := E_4
        refine hK _ (wz1.alloc (.cells zsg.toArray 36)) HS ?_
        clear hK K HS
        try simp only [Act.put, List.setIfInBounds_toArray, List.set_cons_zero, List.set_cons_succ]
        clear E_1 FM_1 BL_1 SL_1
        obtain ⟨P, hP⟩ : ∃ P, wz1.heap.size = P := ⟨_, rfl⟩
        rw [hP] at N1_4 nPe_4 FM_4 ⊢
        generalize wz1.alloc (.cells zsg.toArray 36) = wz4 at E_4 FM_4 BL_4 SL_4 N1_4 ⊢
        clear hP
        have nPe := nPe_4
        clear nPe_4
        have HS : (fun (W : World) => Bx W B1 32 (rcs s exR0)) _ := E_4
        refine wpAnyV_one (k := 3) rfl (by kernel_rfl) (fun K hK => ?_)
        go_simp
        have hXlt : X < wz4.heap.size := by
          obtain ⟨b', o', e', hlt, _⟩ := SL_4.rd.at_ (by omega)
          cases e'; exact hlt
        refine (rctake_any (OffR [P, X, B1]) s exR0 none 0 0 (some ⟨X, 0, none⟩) 5 5 exX1 false _ (offr_new (by intro x hx; simp only [List.mem_cons, List.mem_nil_iff, or_false] at hx; rcases hx with hx | hx | hx <;> rw [hx] <;> first | exact N1_4.lt | exact hXlt | exact E_4.lt)) FM_4 ((FM_4).bnd2 (by decide)) HW1.out (Sr.none _) SL_4).mono ?_
        rintro e wt ⟨s2, G2, m2, d2, A2, n2, c2, he, hf2, hg2, hbt⟩
        rw [ex_take1] at he hf2 hg2
        dsimp only at he hf2 hg2
        subst he
        have hml := hg2.sr.rd.len
        clear hXlt hg2
        have E_5 := E_4.kept hbt
        have FM_5 := FM_4.keep hbt
        have BL_5 := BL_4.trans (hbt.mono (Nat.le_trans zB (Nat.le_of_lt E_4.lt)))
        have SL_5 := SL_4.keep hbt
        have N1_5 := N1_4.kept hbt
        have G_5 := hf2
        have HS : (fun (W : World) => Bx W B1 32 (rcs s exR0)) _ := E_5
        refine hK _ _ HS ?_
        clear hK K
        try simp only [Act.put, List.setIfInBounds_toArray, List.set_cons_zero, List.set_cons_succ]
        clear E_4 FM_4 BL_4 SL_4 N1_4 hbt
        clear hf2
        refine wpAnyV_takeU (i := 4) (v := .tuple #[.agg (rcs s2 exR1).toArray, .agg (sgs G2 m2 d2 A2 n2 c2 exY1).toArray, .int .i64 0]) rfl (by kernel_rfl) (fun _ _ _ h => h) (Or.inl ⟨by rfl, fun w _ => ?_⟩) HS ?_
        · clear HS; go_simp
          try rfl
        try simp only [Act.put, List.setIfInBounds_toArray, List.set_cons_zero, List.set_cons_succ]
        refine wpAnyV_takeU (i := 5) (v := .agg (rcs s2 exR1).toArray) rfl (by kernel_rfl) (fun _ _ _ h => h) (Or.inl ⟨by rfl, fun w _ => ?_⟩) HS ?_
        · clear HS; go_simp
          try rfl
        try simp only [Act.put, List.setIfInBounds_toArray, List.set_cons_zero, List.set_cons_succ]
        refine wpAnyV_takeU (i := 6) (v := .agg (sgs G2 m2 d2 A2 n2 c2 exY1).toArray) rfl (by kernel_rfl) (fun _ _ _ h => h) (Or.inl ⟨by rfl, fun w _ => ?_⟩) HS ?_
        · clear HS; go_simp
          try rfl
        try simp only [Act.put, List.setIfInBounds_toArray, List.set_cons_zero, List.set_cons_succ]
        refine wpAnyV_takeU (i := 7) (v := .int .i64 0) rfl (by kernel_rfl) (fun _ _ _ h => h) (Or.inl ⟨by rfl, fun w _ => ?_⟩) HS ?_
        · clear HS; go_simp
          try rfl
        try simp only [Act.put, List.setIfInBounds_toArray, List.set_cons_zero, List.set_cons_succ]
        refine wpAnyV_end (k := 9) rfl (by kernel_rfl) (fun K hK => ?_)
        rw [if_pos (by rfl)]
        refine wp_store_row 32 (.tmp 1) (.tmp 16) rfl B1 (rcs s2 exR1).toArray (by rfl) (by rfl) 32 _ E_5 (by rw [info_rv]; rfl) (by rfl) (by have h : (rcs s2 exR1).all (·.oneCell') = true := rfl; simpa using h) ?_
        refine hK _ _ ?_
        clear hK K
        try simp only [Act.put, List.setIfInBounds_toArray, List.set_cons_zero, List.set_cons_succ]
        have g1 := rv_grown wt B1 (rcs s2 exR1).toArray
        have E1 := rv_put E_5 (rcs s2 exR1)
        have M1 := N1_5.grown g1 (fun e => by cases e; omega)
        have G1 := G_5.grown g1 (offr_row (by simp))
        have L1 := BL_5.grown g1 (Nat.le_trans zB (Nat.le_of_lt E_5.lt)) (fun k hk => by cases hk; exact zB)
        generalize wt.setRow B1 (rcs s2 exR1).toArray = wu at E1 M1 G1 L1 ⊢
        refine wpAnyV_end (k := 10) rfl (by kernel_rfl) (fun K hK => ?_)
        rw [if_pos (by rfl)]
        refine wp_store_row 36 (.tmp 3) (.tmp 17) rfl P (sgs G2 m2 d2 A2 n2 c2 exY1).toArray (by rfl) (by rfl) 36 _ M1 (by rw [info_sg]; rfl) (by rfl) (by have h : (sgs G2 m2 d2 A2 n2 c2 exY1).all (·.oneCell') = true := rfl; simpa using h) ?_
        refine hK _ _ ?_
        clear hK K
        try simp only [Act.put, List.setIfInBounds_toArray, List.set_cons_zero, List.set_cons_succ]
        have g2 := sg_grown wu P (sgs G2 m2 d2 A2 n2 c2 exY1).toArray
        have E2 := E1.grown g2 (fun e => by cases e; omega)
        have M2 := sg_put M1 (sgs G2 m2 d2 A2 n2 c2 exY1)
        have G2' := G1.grown g2 (offr_row (by simp))
        have L2 := L1.grown g2 (Nat.le_trans zB (Nat.le_of_lt E1.lt)) (fun k hk => by cases hk; omega)
        refine wpAnyV_takeN (i := 11) (v := .int .i64 0) rfl (by kernel_rfl) (fun _ _ _ h => h) (Or.inl ⟨by rfl, fun w _ => ?_⟩) ?_
        · go_simp
        try simp only [Act.put, List.setIfInBounds_toArray, List.set_cons_zero, List.set_cons_succ]
        refine ⟨by kernel_rfl, ?_⟩
        go_wp2_with fail
        go_meet
        case rel => exact ⟨P, s2, G2, m2, d2, A2, n2, c2, rfl, rfl, Lib.hid ⟨E2, M2, G2'.imp (OffR.imp (by simp)), hml, L2, by omega⟩⟩
    · go_simp
      have E_6 := e_0.alloc (.cells zsg.toArray 36)
      have FM_6 := (f_0.later (Nat.le_refl _)).alloc (.cells zsg.toArray 36)
      have BL_6 := b_0.alloc (Nat.le_trans zB (Nat.le_of_lt e_0.lt)) (.cells zsg.toArray 36)
      have N1_6 := Bx.new wd 36 zsg
      have nPe_6 := e_0.lt
      have HS : (fun (W : World) => Bx W B1 32 (rcs s exR0)) _ := E_6
      refine hK _ (wd.alloc (.cells zsg.toArray 36)) HS ?_
      clear hK K HS
      try simp only [Act.put, List.setIfInBounds_toArray, List.set_cons_zero, List.set_cons_succ]
      clear e_0 f_0 b_0
      obtain ⟨P, hP⟩ : ∃ P, wd.heap.size = P := ⟨_, rfl⟩
      rw [hP] at N1_6 nPe_6 FM_6 ⊢
      generalize wd.alloc (.cells zsg.toArray 36) = wz6 at E_6 FM_6 BL_6 N1_6 ⊢
      clear hP
      have nPe := nPe_6
      clear nPe_6
      have HS : (fun (W : World) => Bx W B1 32 (rcs s exR0)) _ := E_6
      refine wpAnyV_one (k := 1) rfl (by kernel_rfl) (fun K hK => ?_)
      have kb : (Instr.makeSlice 22 (.int .i64 5) (.int .i64 5)).run Try.prog wz6 = .ok (.slice (some ⟨wz6.heap.size, 0, none⟩) 5 5) (wz6.alloc (.cells (lvR (List.replicate 5 0)).toArray 5)) := run_makeR 5 (by omega) wz6
      go_simp
      clear kb
      have E_7 := E_6.alloc (.cells (lvR (List.replicate 5 0)).toArray 5)
      have FM_7 := (FM_6.later (Nat.le_refl _)).alloc (.cells (lvR (List.replicate 5 0)).toArray 5)
      have BL_7 := BL_6.alloc (Nat.le_trans zB (Nat.le_of_lt E_6.lt)) (.cells (lvR (List.replicate 5 0)).toArray 5)
      have N1_7 := N1_6.alloc (.cells (lvR (List.replicate 5 0)).toArray 5)
      have SL_7 := sl_made 5 (by omega) wz6
      have HS : (fun (W : World) => Bx W B1 32 (rcs s exR0)) _ := E_7
      refine hK _ (wz6.alloc (.cells (lvR (List.replicate 5 0)).toArray 5)) HS ?_
      clear hK K HS
      try simp only [Act.put, List.setIfInBounds_toArray, List.set_cons_zero, List.set_cons_succ]
      clear E_6 FM_6 BL_6 N1_6
      obtain ⟨X, hX⟩ : ∃ P, wz6.heap.size = P := ⟨_, rfl⟩
      rw [hX] at SL_7 FM_7 ⊢
      generalize wz6.alloc (.cells (lvR (List.replicate 5 0)).toArray 5) = wz7 at E_7 FM_7 BL_7 N1_7 SL_7 ⊢
      clear hX
      have HS : (fun (W : World) => Bx W B1 32 (rcs s exR0)) _ := E_7
      refine wpAnyV_takeU (i := 2) (v := .agg (sgs none 0 0 (some ⟨X, 0, none⟩) 5 5 exX1).toArray) rfl (by kernel_rfl) (fun _ _ _ h => h) (Or.inl ⟨by rfl, fun w _ => ?_⟩) HS ?_
      · clear HS; go_simp
        try rfl
      try simp only [Act.put, List.setIfInBounds_toArray, List.set_cons_zero, List.set_cons_succ]
      refine wpAnyV_one (k := 3) rfl (by kernel_rfl) (fun K hK => ?_)
      go_simp
      have hXlt : X < wz7.heap.size := by
        obtain ⟨b', o', e', hlt, _⟩ := SL_7.rd.at_ (by omega)
        cases e'; exact hlt
      refine (rctake_any (OffR [X, P, B1]) s exR0 none 0 0 (some ⟨X, 0, none⟩) 5 5 exX1 false _ (offr_new (by intro x hx; simp only [List.mem_cons, List.mem_nil_iff, or_false] at hx; rcases hx with hx | hx | hx <;> rw [hx] <;> first | exact hXlt | exact N1_7.lt | exact E_7.lt)) FM_7 ((FM_7).bnd2 (by decide)) HW1.out (Sr.none _) SL_7).mono ?_
      rintro e wt ⟨s2, G2, m2, d2, A2, n2, c2, he, hf2, hg2, hbt⟩
      rw [ex_take1] at he hf2 hg2
      dsimp only at he hf2 hg2
      subst he
      have hml := hg2.sr.rd.len
      clear hXlt hg2
      have E_8 := E_7.kept hbt
      have FM_8 := FM_7.keep hbt
      have BL_8 := BL_7.trans (hbt.mono (Nat.le_trans zB (Nat.le_of_lt E_7.lt)))
      have N1_8 := N1_7.kept hbt
      have SL_8 := SL_7.keep hbt
      have G_8 := hf2
      have HS : (fun (W : World) => Bx W B1 32 (rcs s exR0)) _ := E_8
      refine hK _ _ HS ?_
      clear hK K
      try simp only [Act.put, List.setIfInBounds_toArray, List.set_cons_zero, List.set_cons_succ]
      clear E_7 FM_7 BL_7 N1_7 SL_7 hbt
      clear hf2
      refine wpAnyV_takeU (i := 4) (v := .tuple #[.agg (rcs s2 exR1).toArray, .agg (sgs G2 m2 d2 A2 n2 c2 exY1).toArray, .int .i64 0]) rfl (by kernel_rfl) (fun _ _ _ h => h) (Or.inl ⟨by rfl, fun w _ => ?_⟩) HS ?_
      · clear HS; go_simp
        try rfl
      try simp only [Act.put, List.setIfInBounds_toArray, List.set_cons_zero, List.set_cons_succ]
      refine wpAnyV_takeU (i := 5) (v := .agg (rcs s2 exR1).toArray) rfl (by kernel_rfl) (fun _ _ _ h => h) (Or.inl ⟨by rfl, fun w _ => ?_⟩) HS ?_
      · clear HS; go_simp
        try rfl
      try simp only [Act.put, List.setIfInBounds_toArray, List.set_cons_zero, List.set_cons_succ]
      refine wpAnyV_takeU (i := 6) (v := .agg (sgs G2 m2 d2 A2 n2 c2 exY1).toArray) rfl (by kernel_rfl) (fun _ _ _ h => h) (Or.inl ⟨by rfl, fun w _ => ?_⟩) HS ?_
      · clear HS; go_simp
        try rfl
      try simp only [Act.put, List.setIfInBounds_toArray, List.set_cons_zero, List.set_cons_succ]
      refine wpAnyV_takeU (i := 7) (v := .int .i64 0) rfl (by kernel_rfl) (fun _ _ _ h => h) (Or.inl ⟨by rfl, fun w _ => ?_⟩) HS ?_
      · clear HS; go_simp
        try rfl
      try simp only [Act.put, List.setIfInBounds_toArray, List.set_cons_zero, List.set_cons_succ]
      refine wpAnyV_end (k := 9) rfl (by kernel_rfl) (fun K hK => ?_)
      rw [if_pos (by rfl)]
      refine wp_store_row 32 (.tmp 1) (.tmp 16) rfl B1 (rcs s2 exR1).toArray (by rfl) (by rfl) 32 _ E_8 (by rw [info_rv]; rfl) (by rfl) (by have h : (rcs s2 exR1).all (·.oneCell') = true := rfl; simpa using h) ?_
      refine hK _ _ ?_
      clear hK K
      try simp only [Act.put, List.setIfInBounds_toArray, List.set_cons_zero, List.set_cons_succ]
      have g1 := rv_grown wt B1 (rcs s2 exR1).toArray
      have E1 := rv_put E_8 (rcs s2 exR1)
      have M1 := N1_8.grown g1 (fun e => by cases e; omega)
      have G1 := G_8.grown g1 (offr_row (by simp))
      have L1 := BL_8.grown g1 (Nat.le_trans zB (Nat.le_of_lt E_8.lt)) (fun k hk => by cases hk; exact zB)
      generalize wt.setRow B1 (rcs s2 exR1).toArray = wu at E1 M1 G1 L1 ⊢
      refine wpAnyV_end (k := 10) rfl (by kernel_rfl) (fun K hK => ?_)
      rw [if_pos (by rfl)]
      refine wp_store_row 36 (.tmp 3) (.tmp 17) rfl P (sgs G2 m2 d2 A2 n2 c2 exY1).toArray (by rfl) (by rfl) 36 _ M1 (by rw [info_sg]; rfl) (by rfl) (by have h : (sgs G2 m2 d2 A2 n2 c2 exY1).all (·.oneCell') = true := rfl; simpa using h) ?_
      refine hK _ _ ?_
      clear hK K
      try simp only [Act.put, List.setIfInBounds_toArray, List.set_cons_zero, List.set_cons_succ]
      have g2 := sg_grown wu P (sgs G2 m2 d2 A2 n2 c2 exY1).toArray
      have E2 := E1.grown g2 (fun e => by cases e; omega)
      have M2 := sg_put M1 (sgs G2 m2 d2 A2 n2 c2 exY1)
      have G2' := G1.grown g2 (offr_row (by simp))
      have L2 := L1.grown g2 (Nat.le_trans zB (Nat.le_of_lt E1.lt)) (fun k hk => by cases hk; omega)
      refine wpAnyV_takeN (i := 11) (v := .int .i64 0) rfl (by kernel_rfl) (fun _ _ _ h => h) (Or.inl ⟨by rfl, fun w _ => ?_⟩) ?_
      · go_simp
      try simp only [Act.put, List.setIfInBounds_toArray, List.set_cons_zero, List.set_cons_succ]
      refine ⟨by kernel_rfl, ?_⟩
      go_wp2_with fail
      go_meet
      case rel => exact ⟨P, s2, G2, m2, d2, A2, n2, c2, rfl, rfl, Lib.hid ⟨E2, M2, G2'.imp (OffR.imp (by simp)), hml, L2, by omega⟩⟩
  case rest =>
  obtain ⟨P1, s, Ga, ma, da, Aa, na, ca, rfl, rfl, HH⟩ := hcut
  obtain ⟨e4, f4', f4, hm1, b4, hB1P⟩ := HH.out
  have y4 := f4'
  clear HH e3 f3 b3 f4' HW1
  have HM1 := Lib.hid hm1; clear hm1
  have HBP := Lib.hid hB1P
  go_upto_region 3 with fail
  go_cut [5, 6] (fun s5 s6 wx => ∃ (P : Nat) (s2 : Rcs) (G : Option Addr) (m d : Nat) (A : Option Addr) (n c : Nat), s5 = .pointer (some ⟨P, 0, none⟩) ∧ s6 = .int .i64 0 ∧ Hid (Bx wx B1 32 (rcs s2 exR2) ∧ Bx wx P 36 (sgs G m d A n c exY2) ∧ RcM wx (OffR [B1]) s2 exR2 ∧ exY2.sacks.length = m ∧ Below B w wx ∧ B1 < P ∧ Bx wx P1 36 (sgs Ga ma da Aa na ca exY1) ∧ B1 < P1))
  case first =>
    refine wp_region_V [9, 10] 12 (fun (W : World) => Bx W B1 32 (rcs s exR1)) (by kernel_rfl) (by rfl) ?_
    have e_0 := e4.drew; have f_0 := f4.drew; have b_0 := b4.drew; have o_0 := y4.drew
    have HS : (fun (W : World) => Bx W B1 32 (rcs s exR1)) _ := e_0
    generalize wc.drew = wd at HS e_0 f_0 b_0 o_0 ⊢
    refine wpAnyV_take (i := 0) (v := .agg (rcs s exR1).toArray) rfl (by kernel_rfl) (fun _ _ _ h => h) (rv_yields (by rfl) (.tmp 1) rfl rfl (rcs s exR1) rfl 32 (fun W hW => hW)) HS ?_
    try simp only [Act.put, List.setIfInBounds_toArray, List.set_cons_zero, List.set_cons_succ]
    refine wpAnyV_two (k1 := 1) (k2 := 8) rfl rfl (by kernel_rfl) (fun K hK => ?_) (fun K hK => ?_)
    · have kb : (Instr.makeSlice 22 (.int .i64 10) (.int .i64 10)).run Try.prog wd = .ok (.slice (some ⟨wd.heap.size, 0, none⟩) 10 10) (wd.alloc (.cells (lvR (List.replicate 10 0)).toArray 5)) := run_makeR 10 (by omega) wd
      go_simp
      clear kb
      have E_1 := e_0.alloc (.cells (lvR (List.replicate 10 0)).toArray 5)
      have FM_1 := (f_0.later (Nat.le_refl _)).alloc (.cells (lvR (List.replicate 10 0)).toArray 5)
      have BL_1 := b_0.alloc (Nat.le_trans zB (Nat.le_of_lt e_0.lt)) (.cells (lvR (List.replicate 10 0)).toArray 5)
      have O1_1 := o_0.alloc (.cells (lvR (List.replicate 10 0)).toArray 5)
      have SL_1 := sl_made 10 (by omega) wd
      have HS : (fun (W : World) => Bx W B1 32 (rcs s exR1)) _ := E_1
      refine hK _ (wd.alloc (.cells (lvR (List.replicate 10 0)).toArray 5)) HS ?_
      clear hK K HS
      try simp only [Act.put, List.setIfInBounds_toArray, List.set_cons_zero, List.set_cons_succ]
      clear e_0 f_0 b_0 o_0
      obtain ⟨X, hX⟩ : ∃ P, wd.heap.size = P := ⟨_, rfl⟩
      rw [hX] at SL_1 FM_1 ⊢
      generalize wd.alloc (.cells (lvR (List.replicate 10 0)).toArray 5) = wz1 at E_1 FM_1 BL_1 O1_1 SL_1 ⊢
      clear hX
      have HS : (fun (W : World) => Bx W B1 32 (rcs s exR1)) _ := E_1
      refine wpAnyV_takeU (i := 2) (v := .agg (sgs none 0 0 (some ⟨X, 0, none⟩) 10 10 exX2).toArray) rfl (by kernel_rfl) (fun _ _ _ h => h) (Or.inl ⟨by rfl, fun w _ => ?_⟩) HS ?_
      · clear HS; go_simp
        try rfl
      try simp only [Act.put, List.setIfInBounds_toArray, List.set_cons_zero, List.set_cons_succ]
      refine wpAnyV_two (k1 := 3) (k2 := 8) rfl rfl (by kernel_rfl) (fun K hK => ?_) (fun K hK => ?_)
      · go_simp
        have hXlt : X < wz1.heap.size := by
          obtain ⟨b', o', e', hlt, _⟩ := SL_1.rd.at_ (by omega)
          cases e'; exact hlt
        refine (rctake_any (OffR [X, B1]) s exR1 none 0 0 (some ⟨X, 0, none⟩) 10 10 exX2 true _ (offr_new (by intro x hx; simp only [List.mem_cons, List.mem_nil_iff, or_false] at hx; rcases hx with hx | hx <;> rw [hx] <;> first | exact hXlt | exact E_1.lt)) FM_1 ((FM_1).bnd2 (by decide)) HW2.out (Sr.none _) SL_1).mono ?_
        rintro e wt ⟨s2, G2, m2, d2, A2, n2, c2, he, hf2, hg2, hbt⟩
        rw [ex_take2] at he hf2 hg2
        dsimp only at he hf2 hg2
        subst he
        have hml := hg2.sr.rd.len
        clear hXlt hg2
        have E_2 := E_1.kept hbt
        have FM_2 := FM_1.keep hbt
        have BL_2 := BL_1.trans (hbt.mono (Nat.le_trans zB (Nat.le_of_lt E_1.lt)))
        have O1_2 := O1_1.kept hbt
        have SL_2 := SL_1.keep hbt
        have G_2 := hf2
        have HS : (fun (W : World) => Bx W B1 32 (rcs s exR1)) _ := E_2
        refine hK _ _ HS ?_
        clear hK K
        try simp only [Act.put, List.setIfInBounds_toArray, List.set_cons_zero, List.set_cons_succ]
        clear E_1 FM_1 BL_1 O1_1 SL_1 hbt
        clear hf2
        refine wpAnyV_takeU (i := 4) (v := .tuple #[.agg (rcs s2 exR2).toArray, .agg (sgs G2 m2 d2 A2 n2 c2 exY2).toArray, .int .i64 0]) rfl (by kernel_rfl) (fun _ _ _ h => h) (Or.inl ⟨by rfl, fun w _ => ?_⟩) HS ?_
        · clear HS; go_simp
          try rfl
        try simp only [Act.put, List.setIfInBounds_toArray, List.set_cons_zero, List.set_cons_succ]
        refine wpAnyV_takeU (i := 5) (v := .agg (rcs s2 exR2).toArray) rfl (by kernel_rfl) (fun _ _ _ h => h) (Or.inl ⟨by rfl, fun w _ => ?_⟩) HS ?_
        · clear HS; go_simp
          try rfl
        try simp only [Act.put, List.setIfInBounds_toArray, List.set_cons_zero, List.set_cons_succ]
        refine wpAnyV_takeU (i := 6) (v := .agg (sgs G2 m2 d2 A2 n2 c2 exY2).toArray) rfl (by kernel_rfl) (fun _ _ _ h => h) (Or.inl ⟨by rfl, fun w _ => ?_⟩) HS ?_
        · clear HS; go_simp
          try rfl
        try simp only [Act.put, List.setIfInBounds_toArray, List.set_cons_zero, List.set_cons_succ]
        refine wpAnyV_takeU (i := 7) (v := .int .i64 0) rfl (by kernel_rfl) (fun _ _ _ h => h) (Or.inl ⟨by rfl, fun w _ => ?_⟩) HS ?_
        · clear HS; go_simp
          try rfl
        try simp only [Act.put, List.setIfInBounds_toArray, List.set_cons_zero, List.set_cons_succ]
        refine wpAnyV_one (k := 8) rfl (by kernel_rfl) (fun K hK => ?_)
        go_simp
        have E_3 := E_2.alloc (.cells zsg.toArray 36)
        have FM_3 := (FM_2.later (Nat.le_refl _)).alloc (.cells zsg.toArray 36)
        have BL_3 := BL_2.alloc (Nat.le_trans zB (Nat.le_of_lt E_2.lt)) (.cells zsg.toArray 36)
        have O1_3 := O1_2.alloc (.cells zsg.toArray 36)
        have SL_3 := SL_2.alloc (.cells zsg.toArray 36)
        have G_3 := (G_2.later (Nat.le_refl _)).alloc (.cells zsg.toArray 36)
        have N1_3 := Bx.new wt 36 zsg
        have nPe_3 := E_2.lt
        have nPo_3 := O1_2.lt
        have HS : (fun (W : World) => Bx W B1 32 (rcs s exR1)) _ := E_3
        refine hK _ (wt.alloc (.cells zsg.toArray 36)) HS ?_
        clear hK K HS
        try simp only [Act.put, List.setIfInBounds_toArray, List.set_cons_zero, List.set_cons_succ]
        clear E_2 FM_2 BL_2 O1_2 SL_2 G_2
        obtain ⟨P, hP⟩ : ∃ P, wt.heap.size = P := ⟨_, rfl⟩
        rw [hP] at N1_3 nPe_3 nPo_3 FM_3 G_3 ⊢
        generalize wt.alloc (.cells zsg.toArray 36) = wz3 at E_3 FM_3 BL_3 O1_3 SL_3 G_3 N1_3 ⊢
        clear hP
        have nPe := nPe_3
        clear nPe_3
        have nPo := nPo_3
        clear nPo_3
        have HS : (fun (W : World) => Bx W B1 32 (rcs s exR1)) _ := E_3
        refine wpAnyV_end (k := 9) rfl (by kernel_rfl) (fun K hK => ?_)
        rw [if_pos (by rfl)]
        refine wp_store_row 32 (.tmp 1) (.tmp 24) rfl B1 (rcs s2 exR2).toArray (by rfl) (by rfl) 32 _ E_3 (by rw [info_rv]; rfl) (by rfl) (by have h : (rcs s2 exR2).all (·.oneCell') = true := rfl; simpa using h) ?_
        refine hK _ _ ?_
        clear hK K
        try simp only [Act.put, List.setIfInBounds_toArray, List.set_cons_zero, List.set_cons_succ]
        have g1 := rv_grown wz3 B1 (rcs s2 exR2).toArray
        have E1 := rv_put E_3 (rcs s2 exR2)
        have M1 := N1_3.grown g1 (fun e => by cases e; omega)
        have G1 := G_3.grown g1 (offr_row (by simp))
        have L1 := BL_3.grown g1 (Nat.le_trans zB (Nat.le_of_lt E_3.lt)) (fun k hk => by cases hk; exact zB)
        have O1' := O1_3.grown g1 (fun e => by cases e; omega)
        generalize wz3.setRow B1 (rcs s2 exR2).toArray = wu at E1 M1 G1 L1 O1' ⊢
        refine wpAnyV_end (k := 10) rfl (by kernel_rfl) (fun K hK => ?_)
        rw [if_pos (by rfl)]
        refine wp_store_row 36 (.tmp 5) (.tmp 25) rfl P (sgs G2 m2 d2 A2 n2 c2 exY2).toArray (by rfl) (by rfl) 36 _ M1 (by rw [info_sg]; rfl) (by rfl) (by have h : (sgs G2 m2 d2 A2 n2 c2 exY2).all (·.oneCell') = true := rfl; simpa using h) ?_
        refine hK _ _ ?_
        clear hK K
        try simp only [Act.put, List.setIfInBounds_toArray, List.set_cons_zero, List.set_cons_succ]
        have g2 := sg_grown wu P (sgs G2 m2 d2 A2 n2 c2 exY2).toArray
        have E2 := E1.grown g2 (fun e => by cases e; omega)
        have M2 := sg_put M1 (sgs G2 m2 d2 A2 n2 c2 exY2)
        have G2' := G1.grown g2 (offr_row (by simp))
        have L2 := L1.grown g2 (Nat.le_trans zB (Nat.le_of_lt E1.lt)) (fun k hk => by cases hk; omega)
        have O2' := O1'.grown g2 (fun e => by cases e; omega)
        refine wpAnyV_takeN (i := 11) (v := .int .i64 0) rfl (by kernel_rfl) (fun _ _ _ h => h) (Or.inl ⟨by rfl, fun w _ => ?_⟩) ?_
        · go_simp
        try simp only [Act.put, List.setIfInBounds_toArray, List.set_cons_zero, List.set_cons_succ]
        refine ⟨by kernel_rfl, ?_⟩
        go_wp2_with fail
        go_meet
        case rel => exact ⟨P, s2, G2, m2, d2, A2, n2, c2, rfl, rfl, Lib.hid ⟨E2, M2, G2'.imp (OffR.imp (by simp)), hml, L2, by omega, O2', hB1P⟩⟩
      · go_simp
        have E_4 := E_1.alloc (.cells zsg.toArray 36)
        have FM_4 := (FM_1.later (Nat.le_refl _)).alloc (.cells zsg.toArray 36)
        have BL_4 := BL_1.alloc (Nat.le_trans zB (Nat.le_of_lt E_1.lt)) (.cells zsg.toArray 36)
        have O1_4 := O1_1.alloc (.cells zsg.toArray 36)
        have SL_4 := SL_1.alloc (.cells zsg.toArray 36)
        have N1_4 := Bx.new wz1 36 zsg
        have nPe_4 := E_1.lt
        have nPo_4 := O1_1.lt
        have HS : (fun (W : World) => Bx W B1 32 (rcs s exR1)) _ := E_4
        refine hK _ (wz1.alloc (.cells zsg.toArray 36)) HS ?_
        clear hK K HS
        try simp only [Act.put, List.setIfInBounds_toArray, List.set_cons_zero, List.set_cons_succ]
        clear E_1 FM_1 BL_1 O1_1 SL_1
        obtain ⟨P, hP⟩ : ∃ P, wz1.heap.size = P := ⟨_, rfl⟩
        rw [hP] at N1_4 nPe_4 nPo_4 FM_4 ⊢
        generalize wz1.alloc (.cells zsg.toArray 36) = wz4 at E_4 FM_4 BL_4 O1_4 SL_4 N1_4 ⊢
        clear hP
        have nPe := nPe_4
        clear nPe_4
        have nPo := nPo_4
        clear nPo_4
        have HS : (fun (W : World) => Bx W B1 32 (rcs s exR1)) _ := E_4
        refine wpAnyV_one (k := 3) rfl (by kernel_rfl) (fun K hK => ?_)
        go_simp
        have hXlt : X < wz4.heap.size := by
          obtain ⟨b', o', e', hlt, _⟩ := SL_4.rd.at_ (by omega)
          cases e'; exact hlt
        refine (rctake_any (OffR [P, X, B1]) s exR1 none 0 0 (some ⟨X, 0, none⟩) 10 10 exX2 true _ (offr_new (by intro x hx; simp only [List.mem_cons, List.mem_nil_iff, or_false] at hx; rcases hx with hx | hx | hx <;> rw [hx] <;> first | exact N1_4.lt | exact hXlt | exact E_4.lt)) FM_4 ((FM_4).bnd2 (by decide)) HW2.out (Sr.none _) SL_4).mono ?_
        rintro e wt ⟨s2, G2, m2, d2, A2, n2, c2, he, hf2, hg2, hbt⟩
        rw [ex_take2] at he hf2 hg2
        dsimp only at he hf2 hg2
        subst he
        have hml := hg2.sr.rd.len
        clear hXlt hg2
        have E_5 := E_4.kept hbt
        have FM_5 := FM_4.keep hbt
        have BL_5 := BL_4.trans (hbt.mono (Nat.le_trans zB (Nat.le_of_lt E_4.lt)))
        have O1_5 := O1_4.kept hbt
        have SL_5 := SL_4.keep hbt
        have N1_5 := N1_4.kept hbt
        have G_5 := hf2
        have HS : (fun (W : World) => Bx W B1 32 (rcs s exR1)) _ := E_5
        refine hK _ _ HS ?_
        clear hK K
        try simp only [Act.put, List.setIfInBounds_toArray, List.set_cons_zero, List.set_cons_succ]
        clear E_4 FM_4 BL_4 O1_4 SL_4 N1_4 hbt
        clear hf2
        refine wpAnyV_takeU (i := 4) (v := .tuple #[.agg (rcs s2 exR2).toArray, .agg (sgs G2 m2 d2 A2 n2 c2 exY2).toArray, .int .i64 0]) rfl (by kernel_rfl) (fun _ _ _ h => h) (Or.inl ⟨by rfl, fun w _ => ?_⟩) HS ?_
        · clear HS; go_simp
          try rfl
        try simp only [Act.put, List.setIfInBounds_toArray, List.set_cons_zero, List.set_cons_succ]
        refine wpAnyV_takeU (i := 5) (v := .agg (rcs s2 exR2).toArray) rfl (by kernel_rfl) (fun _ _ _ h => h) (Or.inl ⟨by rfl, fun w _ => ?_⟩) HS ?_
        · clear HS; go_simp
          try rfl
        try simp only [Act.put, List.setIfInBounds_toArray, List.set_cons_zero, List.set_cons_succ]
        refine wpAnyV_takeU (i := 6) (v := .agg (sgs G2 m2 d2 A2 n2 c2 exY2).toArray) rfl (by kernel_rfl) (fun _ _ _ h => h) (Or.inl ⟨by rfl, fun w _ => ?_⟩) HS ?_
        · clear HS; go_simp
          try rfl
        try simp only [Act.put, List.setIfInBounds_toArray, List.set_cons_zero, List.set_cons_succ]
        refine wpAnyV_takeU (i := 7) (v := .int .i64 0) rfl (by kernel_rfl) (fun _ _ _ h => h) (Or.inl ⟨by rfl, fun w _ => ?_⟩) HS ?_
        · clear HS; go_simp
          try rfl
        try simp only [Act.put, List.setIfInBounds_toArray, List.set_cons_zero, List.set_cons_succ]
        refine wpAnyV_end (k := 9) rfl (by kernel_rfl) (fun K hK => ?_)
        rw [if_pos (by rfl)]
        refine wp_store_row 32 (.tmp 1) (.tmp 24) rfl B1 (rcs s2 exR2).toArray (by rfl) (by rfl) 32 _ E_5 (by rw [info_rv]; rfl) (by rfl) (by have h : (rcs s2 exR2).all (·.oneCell') = true := rfl; simpa using h) ?_
        refine hK _ _ ?_
        clear hK K
        try simp only [Act.put, List.setIfInBounds_toArray, List.set_cons_zero, List.set_cons_succ]
        have g1 := rv_grown wt B1 (rcs s2 exR2).toArray
        have E1 := rv_put E_5 (rcs s2 exR2)
        have M1 := N1_5.grown g1 (fun e => by cases e; omega)
        have G1 := G_5.grown g1 (offr_row (by simp))
        have L1 := BL_5.grown g1 (Nat.le_trans zB (Nat.le_of_lt E_5.lt)) (fun k hk => by cases hk; exact zB)
        have O1' := O1_5.grown g1 (fun e => by cases e; omega)
        generalize wt.setRow B1 (rcs s2 exR2).toArray = wu at E1 M1 G1 L1 O1' ⊢
        refine wpAnyV_end (k := 10) rfl (by kernel_rfl) (fun K hK => ?_)
        rw [if_pos (by rfl)]
        refine wp_store_row 36 (.tmp 5) (.tmp 25) rfl P (sgs G2 m2 d2 A2 n2 c2 exY2).toArray (by rfl) (by rfl) 36 _ M1 (by rw [info_sg]; rfl) (by rfl) (by have h : (sgs G2 m2 d2 A2 n2 c2 exY2).all (·.oneCell') = true := rfl; simpa using h) ?_
        refine hK _ _ ?_
        clear hK K
        try simp only [Act.put, List.setIfInBounds_toArray, List.set_cons_zero, List.set_cons_succ]
        have g2 := sg_grown wu P (sgs G2 m2 d2 A2 n2 c2 exY2).toArray
        have E2 := E1.grown g2 (fun e => by cases e; omega)
        have M2 := sg_put M1 (sgs G2 m2 d2 A2 n2 c2 exY2)
        have G2' := G1.grown g2 (offr_row (by simp))
        have L2 := L1.grown g2 (Nat.le_trans zB (Nat.le_of_lt E1.lt)) (fun k hk => by cases hk; omega)
        have O2' := O1'.grown g2 (fun e => by cases e; omega)
        refine wpAnyV_takeN (i := 11) (v := .int .i64 0) rfl (by kernel_rfl) (fun _ _ _ h => h) (Or.inl ⟨by rfl, fun w _ => ?_⟩) ?_
        · go_simp
        try simp only [Act.put, List.setIfInBounds_toArray, List.set_cons_zero, List.set_cons_succ]
        refine ⟨by kernel_rfl, ?_⟩
        go_wp2_with fail
        go_meet
        case rel => exact ⟨P, s2, G2, m2, d2, A2, n2, c2, rfl, rfl, Lib.hid ⟨E2, M2, G2'.imp (OffR.imp (by simp)), hml, L2, by omega, O2', hB1P⟩⟩
    · go_simp
      have E_6 := e_0.alloc (.cells zsg.toArray 36)
      have FM_6 := (f_0.later (Nat.le_refl _)).alloc (.cells zsg.toArray 36)
      have BL_6 := b_0.alloc (Nat.le_trans zB (Nat.le_of_lt e_0.lt)) (.cells zsg.toArray 36)
      have O1_6 := o_0.alloc (.cells zsg.toArray 36)
      have N1_6 := Bx.new wd 36 zsg
      have nPe_6 := e_0.lt
      have nPo_6 := o_0.lt
      have HS : (fun (W : World) => Bx W B1 32 (rcs s exR1)) _ := E_6
      refine hK _ (wd.alloc (.cells zsg.toArray 36)) HS ?_
      clear hK K HS
      try simp only [Act.put, List.setIfInBounds_toArray, List.set_cons_zero, List.set_cons_succ]
      clear e_0 f_0 b_0 o_0
      obtain ⟨P, hP⟩ : ∃ P, wd.heap.size = P := ⟨_, rfl⟩
      rw [hP] at N1_6 nPe_6 nPo_6 FM_6 ⊢
      generalize wd.alloc (.cells zsg.toArray 36) = wz6 at E_6 FM_6 BL_6 O1_6 N1_6 ⊢
      clear hP
      have nPe := nPe_6
      clear nPe_6
      have nPo := nPo_6
      clear nPo_6
      have HS : (fun (W : World) => Bx W B1 32 (rcs s exR1)) _ := E_6
      refine wpAnyV_one (k := 1) rfl (by kernel_rfl) (fun K hK => ?_)
      have kb : (Instr.makeSlice 22 (.int .i64 10) (.int .i64 10)).run Try.prog wz6 = .ok (.slice (some ⟨wz6.heap.size, 0, none⟩) 10 10) (wz6.alloc (.cells (lvR (List.replicate 10 0)).toArray 5)) := run_makeR 10 (by omega) wz6
      go_simp
      clear kb
      have E_7 := E_6.alloc (.cells (lvR (List.replicate 10 0)).toArray 5)
      have FM_7 := (FM_6.later (Nat.le_refl _)).alloc (.cells (lvR (List.replicate 10 0)).toArray 5)
      have BL_7 := BL_6.alloc (Nat.le_trans zB (Nat.le_of_lt E_6.lt)) (.cells (lvR (List.replicate 10 0)).toArray 5)
      have O1_7 := O1_6.alloc (.cells (lvR (List.replicate 10 0)).toArray 5)
      have N1_7 := N1_6.alloc (.cells (lvR (List.replicate 10 0)).toArray 5)
      have SL_7 := sl_made 10 (by omega) wz6
      have HS : (fun (W : World) => Bx W B1 32 (rcs s exR1)) _ := E_7
      refine hK _ (wz6.alloc (.cells (lvR (List.replicate 10 0)).toArray 5)) HS ?_
      clear hK K HS
      try simp only [Act.put, List.setIfInBounds_toArray, List.set_cons_zero, List.set_cons_succ]
      clear E_6 FM_6 BL_6 O1_6 N1_6
      obtain ⟨X, hX⟩ : ∃ P, wz6.heap.size = P := ⟨_, rfl⟩
      rw [hX] at SL_7 FM_7 ⊢
      generalize wz6.alloc (.cells (lvR (List.replicate 10 0)).toArray 5) = wz7 at E_7 FM_7 BL_7 O1_7 N1_7 SL_7 ⊢
      clear hX
      have HS : (fun (W : World) => Bx W B1 32 (rcs s exR1)) _ := E_7
      refine wpAnyV_takeU (i := 2) (v := .agg (sgs none 0 0 (some ⟨X, 0, none⟩) 10 10 exX2).toArray) rfl (by kernel_rfl) (fun _ _ _ h => h) (Or.inl ⟨by rfl, fun w _ => ?_⟩) HS ?_
      · clear HS; go_simp
        try rfl
      try simp only [Act.put, List.setIfInBounds_toArray, List.set_cons_zero, List.set_cons_succ]
      refine wpAnyV_one (k := 3) rfl (by kernel_rfl) (fun K hK => ?_)
      go_simp
      have hXlt : X < wz7.heap.size := by
        obtain ⟨b', o', e', hlt, _⟩ := SL_7.rd.at_ (by omega)
        cases e'; exact hlt
      refine (rctake_any (OffR [X, P, B1]) s exR1 none 0 0 (some ⟨X, 0, none⟩) 10 10 exX2 true _ (offr_new (by intro x hx; simp only [List.mem_cons, List.mem_nil_iff, or_false] at hx; rcases hx with hx | hx | hx <;> rw [hx] <;> first | exact hXlt | exact N1_7.lt | exact E_7.lt)) FM_7 ((FM_7).bnd2 (by decide)) HW2.out (Sr.none _) SL_7).mono ?_
      rintro e wt ⟨s2, G2, m2, d2, A2, n2, c2, he, hf2, hg2, hbt⟩
      rw [ex_take2] at he hf2 hg2
      dsimp only at he hf2 hg2
      subst he
      have hml := hg2.sr.rd.len
      clear hXlt hg2
      have E_8 := E_7.kept hbt
      have FM_8 := FM_7.keep hbt
      have BL_8 := BL_7.trans (hbt.mono (Nat.le_trans zB (Nat.le_of_lt E_7.lt)))
      have O1_8 := O1_7.kept hbt
      have N1_8 := N1_7.kept hbt
      have SL_8 := SL_7.keep hbt
      have G_8 := hf2
      have HS : (fun (W : World) => Bx W B1 32 (rcs s exR1)) _ := E_8
      refine hK _ _ HS ?_
      clear hK K
      try simp only [Act.put, List.setIfInBounds_toArray, List.set_cons_zero, List.set_cons_succ]
      clear E_7 FM_7 BL_7 O1_7 N1_7 SL_7 hbt
      clear hf2
      refine wpAnyV_takeU (i := 4) (v := .tuple #[.agg (rcs s2 exR2).toArray, .agg (sgs G2 m2 d2 A2 n2 c2 exY2).toArray, .int .i64 0]) rfl (by kernel_rfl) (fun _ _ _ h => h) (Or.inl ⟨by rfl, fun w _ => ?_⟩) HS ?_
      · clear HS; go_simp
        try rfl
      try simp only [Act.put, List.setIfInBounds_toArray, List.set_cons_zero, List.set_cons_succ]
      refine wpAnyV_takeU (i := 5) (v := .agg (rcs s2 exR2).toArray) rfl (by kernel_rfl) (fun _ _ _ h => h) (Or.inl ⟨by rfl, fun w _ => ?_⟩) HS ?_
      · clear HS; go_simp
        try rfl
      try simp only [Act.put, List.setIfInBounds_toArray, List.set_cons_zero, List.set_cons_succ]
      refine wpAnyV_takeU (i := 6) (v := .agg (sgs G2 m2 d2 A2 n2 c2 exY2).toArray) rfl (by kernel_rfl) (fun _ _ _ h => h) (Or.inl ⟨by rfl, fun w _ => ?_⟩) HS ?_
      · clear HS; go_simp
        try rfl
      try simp only [Act.put, List.setIfInBounds_toArray, List.set_cons_zero, List.set_cons_succ]
      refine wpAnyV_takeU (i := 7) (v := .int .i64 0) rfl (by kernel_rfl) (fun _ _ _ h => h) (Or.inl ⟨by rfl, fun w _ => ?_⟩) HS ?_
      · clear HS; go_simp
        try rfl
      try simp only [Act.put, List.setIfInBounds_toArray, List.set_cons_zero, List.set_cons_succ]
      refine wpAnyV_end (k := 9) rfl (by kernel_rfl) (fun K hK => ?_)
      rw [if_pos (by rfl)]
      refine wp_store_row 32 (.tmp 1) (.tmp 24) rfl B1 (rcs s2 exR2).toArray (by rfl) (by rfl) 32 _ E_8 (by rw [info_rv]; rfl) (by rfl) (by have h : (rcs s2 exR2).all (·.oneCell') = true := rfl; simpa using h) ?_
      refine hK _ _ ?_
      clear hK K
      try simp only [Act.put, List.setIfInBounds_toArray, List.set_cons_zero, List.set_cons_succ]
      have g1 := rv_grown wt B1 (rcs s2 exR2).toArray
      have E1 := rv_put E_8 (rcs s2 exR2)
      have M1 := N1_8.grown g1 (fun e => by cases e; omega)
      have G1 := G_8.grown g1 (offr_row (by simp))
      have L1 := BL_8.grown g1 (Nat.le_trans zB (Nat.le_of_lt E_8.lt)) (fun k hk => by cases hk; exact zB)
      have O1' := O1_8.grown g1 (fun e => by cases e; omega)
      generalize wt.setRow B1 (rcs s2 exR2).toArray = wu at E1 M1 G1 L1 O1' ⊢
      refine wpAnyV_end (k := 10) rfl (by kernel_rfl) (fun K hK => ?_)
      rw [if_pos (by rfl)]
      refine wp_store_row 36 (.tmp 5) (.tmp 25) rfl P (sgs G2 m2 d2 A2 n2 c2 exY2).toArray (by rfl) (by rfl) 36 _ M1 (by rw [info_sg]; rfl) (by rfl) (by have h : (sgs G2 m2 d2 A2 n2 c2 exY2).all (·.oneCell') = true := rfl; simpa using h) ?_
      refine hK _ _ ?_
      clear hK K
      try simp only [Act.put, List.setIfInBounds_toArray, List.set_cons_zero, List.set_cons_succ]
      have g2 := sg_grown wu P (sgs G2 m2 d2 A2 n2 c2 exY2).toArray
      have E2 := E1.grown g2 (fun e => by cases e; omega)
      have M2 := sg_put M1 (sgs G2 m2 d2 A2 n2 c2 exY2)
      have G2' := G1.grown g2 (offr_row (by simp))
      have L2 := L1.grown g2 (Nat.le_trans zB (Nat.le_of_lt E1.lt)) (fun k hk => by cases hk; omega)
      have O2' := O1'.grown g2 (fun e => by cases e; omega)
      refine wpAnyV_takeN (i := 11) (v := .int .i64 0) rfl (by kernel_rfl) (fun _ _ _ h => h) (Or.inl ⟨by rfl, fun w _ => ?_⟩) ?_
      · go_simp
      try simp only [Act.put, List.setIfInBounds_toArray, List.set_cons_zero, List.set_cons_succ]
      refine ⟨by kernel_rfl, ?_⟩
      go_wp2_with fail
      go_meet
      case rel => exact ⟨P, s2, G2, m2, d2, A2, n2, c2, rfl, rfl, Lib.hid ⟨E2, M2, G2'.imp (OffR.imp (by simp)), hml, L2, by omega, O2', hB1P⟩⟩
  case rest =>
  obtain ⟨P2, s, Gb, mb, db, Ab, nb, cb, rfl, rfl, HH⟩ := hcut
  obtain ⟨e5, y5, f5, _, b5, hP2, o5, _⟩ := HH.out
  clear HH e4 f4 b4 y4
  have hz : B ≤ wc.heap.size := Nat.le_trans zB (Nat.le_of_lt e5.lt)
  have hm : ma = 1 := HM1.out.symm
  subst hm
  have c6 : wc.cell? ⟨P1, 6, none⟩ = some (.int .u32 0) := o5.cell 6 rfl
  have c13 : wc.cell? ⟨P1, 13, none⟩ = some (.slice Ga 1 da) := o5.cell 13 rfl
  have c8 : wc.cell? ⟨P1, 8, none⟩ = some (.int .i64 100) := o5.cell 8 rfl
  have k6 : wc.cell? ⟨P2, 6, none⟩ = some (.int .u32 15) := y5.cell 6 rfl
  have k7 : wc.cell? ⟨P2, 7, none⟩ = some (.int .u32 15) := y5.cell 7 rfl
  have k9 : wc.cell? ⟨P2, 9, none⟩ = some (.int .i64 1) := y5.cell 9 rfl
  have k8 : wc.cell? ⟨P2, 8, none⟩ = some (.int .i64 85) := y5.cell 8 rfl
  clear o5 y5 hP2 hB1P
  go_wp2_with (refine rv_loadg (by kernel_rfl) (.tmp 1) rfl rfl e5 rfl ?_)
  refine (rcmay_any (OffR [B1]) s exR2 _ f5 (f5.bnd2 (by decide))).mono ?_
  rw [ex_may]
  rintro e w6 ⟨rfl, hb⟩
  have b6 := b5.trans (hb.mono hz)
  go_wp2_with fail
  go_ret
  exact ⟨rfl, b6⟩
end Go.Proofs.Ytggnhccpncgfiaa
