/- FoAwake. -/
import Derived.Test.YtbijhkhkigdddaaGreatP37
set_option linter.all false
set_option maxRecDepth 100000
set_option maxHeartbeats 32000000
namespace Go.Proofs.YtbijhkhkigdddaaGreat
open Go.RowKit
theorem flawake_any (w : World) : Calls Tryz.prog 10 #[] w fun e w' => e = .returned (.bool true) ∧ Below w.heap.size w w' := by
 have hcw : CfW someC := cw_valid some_ok
 have HCW := Zh hcw; clear hcw
 obtain ⟨B, hB⟩ : ∃ B, w.heap.size = B := ⟨_, rfl⟩
 have HB := Zh hB
 rw [hB]
 clear hB
 go_enter Tryz.func10, Tryz.ntmps10
 go_wp2_with fail
 refine (flsome_any _).mono ?_
 rintro e w2 ⟨rfl, hb2⟩
 have b2 : Below B w w2 := by rw [← HB.out]; exact hb2
 have z2 : B ≤ w2.heap.size := by have := b2.size; have := HB.out; omega
 clear hb2
 go_wp2_with fail
 refine (flnew_any (fun _ => True) someC _ (fun _ _ => trivial) HCW.out).mono ?_
 rintro e w3 ⟨s, he, hf3, hb3⟩
 rw [ex_new2] at he hf3
 dsimp only at he hf3
 subst he
 have b3 := b2.trans (hb3.mono z2); have z3 := Zn z2 hb3.size
 clear b2 z2 hb3
 go_upto_region 2 with (refine fl_store rfl (.tmp 1) (.tmp 16) rfl rfl (fcs s (exF 0)) rfl (Bx.new w3 40 (fcs zfs zfv)) rfl rfl rfl ?_)
 have n1 : Below w3.heap.size w3 ((w3.alloc (.cells (fcs zfs zfv).toArray 40)).setRow w3.heap.size (fcs s (exF 0)).toArray) := ((Zb).alloc Zr _).grown (fl_grown _ _ _) (by simp) (fun k hk => by cases hk; exact Nat.le_refl _)
 have e4 := fl_put (Bx.new w3 40 (fcs zfs zfv)) (fcs s (exF 0))
 have f4 := (hf3.imp (q := Off []) (fun b _ h => by cases h)).later Zr |>.keep n1
 have b4 := b3.trans (n1.mono z3)
 obtain ⟨B1, hB1⟩ : ∃ P, w3.heap.size = P := ⟨_, rfl⟩
 change Bx ((w3.alloc (.cells (fcs zfs zfv).toArray 40)).setRow w3.heap.size (fcs s (exF 0)).toArray) w3.heap.size _ _ at e4
 rw [hB1] at e4 f4 b4 z3 ⊢
 change Code.wp _ _ _ _ ((w3.alloc (.cells (fcs zfs zfv).toArray 40)).setRow B1 (fcs s (exF 0)).toArray)
 generalize (w3.alloc (.cells (fcs zfs zfv).toArray 40)).setRow B1 (fcs s (exF 0)).toArray = w4 at e4 f4 b4 ⊢
 clear hB1 n1 hf3 b3
 go_wp2_with fail
 have zB : B ≤ B1 := z3
 clear z3
 go_loopw [3, 4, 5, 6] (fun i a b c wr => ∃ (k : Nat) (s : Fs), k ≤ 10 ∧ i = .int .i64 (k : Int) ∧ Bx wr B1 40 (fcs s (exF k)) ∧ FlM wr (Off [B1]) s (exF k) ∧ Below B w wr) (fun i _ _ _ _ => 10 - (intOf i).toNat)
 case atStart => exact ⟨0, s, by omega, rfl, e4, f4, b4⟩
 clear e4 f4 b4
 case round =>
  obtain ⟨k, s, hk, rfl, er, fr, br⟩ := hrel
  by_cases hlt : k < 10
  ·have dlt : decide ((k : Int) < 10) = true := Zt (by omega)
   have dlt' : decide (k < 10) = true := Zt hlt
   have hrs := ex_send2 hlt
   have HRS := Zh hrs
   have hsq := (ex_send k hlt).2
   have HSQ := Zh hsq
   have i1 : IntKind.i64.wrap (100 * (k : Int)) = 100 * (k : Int) := IntWalk.i64_in _ (by omega)
   clear hrs hsq
   go_upto_region 5 with fail
   go_cut [4, 5, 6] (fun s4 s5 s6 wx => ∃ P Q s2, s4 = .pointer (some ⟨P, 0, none⟩) ∧ s5 = .pointer (some ⟨Q, 0, none⟩) ∧ s6 = .int .i64 0 ∧ Hid (Bx wx P 40 (fcs s2 (exF (k + 1))) ∧ Bx wx Q 57 (El.cells (exP k)) ∧ Bx wx B1 40 (fcs s (exF k)) ∧ FlM wx (Off [B1]) s2 (exF (k + 1)) ∧ Below B w wx ∧ B1 < P ∧ B1 < Q))
   case first =>
    apply cutP
    ·intro hP
     refine tB 13 14 (fun (W : World) => Bx W B1 40 (fcs s (exF k))) er.drew (fun HS => ?_)
     have e_0 := er.drew; have f_0 := fr.drew; have b_0 := br.drew
     generalize wr.drew = wd at HS e_0 f_0 b_0 ⊢
     refine tS 0 rfl (fl_yields (by rfl) (.tmp 1) rfl rfl (fcs s (exF k)) rfl 40 (fun W hW => hW)) HS ?_
     refine tU 2 HS ?_
     refine tU 3 HS ?_
     refine wpAnyT_three (k1 := 1) (k2 := 9) (k3 := 10) rfl rfl rfl (by kernel_rfl) (by decide) (by decide) (by decide) (fun K hK => ?_) (fun K hK => ?_) (fun K hK => ?_)
     ·go_simp
      refine (flsome_any _).mono ?_
      rintro e ws ⟨rfl, hbs⟩
      have E_1 := e_0.kept hbs
      have FM_1 := f_0.keep hbs
      have BL_1 := b_0.trans (hbs.mono (Zn zB (Zl e_0.lt)))
      have HS := E_1
      refine kP hK HS ?_
      clear hK K
      clear e_0 f_0 b_0 hbs
      refine wpAnyT_three (k1 := 4) (k2 := 9) (k3 := 10) rfl rfl rfl (by kernel_rfl) (by decide) (by decide) (by decide) (fun K hK => ?_) (fun K hK => ?_) (fun K hK => ?_)
      ·go_simp
       refine (flsend_any (Off [B1]) s (exF k) someC (100 * (k : Int)) 100 0 _ (off_new (by intro x hx; simp only [List.mem_cons, List.mem_nil_iff, or_false] at hx; rw [hx]; exact E_1.lt)) FM_1 HCW.out (by unfold i64; omega) (by unfold i64; omega) (by unfold i64; omega)).mono ?_
       rintro e wt ⟨s2, he, hf2, hbt⟩
       rw [HRS.out] at he hf2
       dsimp only at he hf2
       subst he
       have E_2 := E_1.kept hbt
       have FM_2 := FM_1.keep hbt
       have BL_2 := BL_1.trans (hbt.mono (Zn zB (Zl E_1.lt)))
       have G_2 := hf2
       have HS := E_2
       refine kP hK HS ?_
       clear hK K
       clear E_1 FM_1 BL_1 hbt
       clear hf2
       refine tU 5 HS ?_
       refine tU 6 HS ?_
       refine tU 7 HS ?_
       refine tU 8 HS ?_
       refine wpAnyT_two (k1 := 9) (k2 := 10) rfl rfl (by kernel_rfl) (by decide) (by decide) (fun K hK => ?_) (fun K hK => ?_)
       ·go_simp
        have E_3 := E_2.alloc (.cells (fcs zfs zfv).toArray 40)
        have FM_3 := (FM_2.later Zr).alloc (.cells (fcs zfs zfv).toArray 40)
        have BL_3 := BL_2.alloc (Zn zB (Zl E_2.lt)) (.cells (fcs zfs zfv).toArray 40)
        have G_3 := (G_2.later Zr).alloc (.cells (fcs zfs zfv).toArray 40)
        have N1_3 := Bx.new wt 40 (fcs zfs zfv)
        have nPe_3 := E_2.lt
        have HS := E_3
        refine kW hK (wt.alloc (.cells (fcs zfs zfv).toArray 40)) HS ?_
        clear hK K HS
        clear E_2 FM_2 BL_2 G_2
        obtain ⟨P, hP⟩ : ∃ P, wt.heap.size = P := ⟨_, rfl⟩
        rw [hP] at N1_3 nPe_3 FM_3 G_3 ⊢
        generalize wt.alloc (.cells (fcs zfs zfv).toArray 40) = wz3 at E_3 FM_3 BL_3 G_3 N1_3 ⊢
        clear hP
        have nPe := nPe_3
        clear nPe_3
        have HS := E_3
        refine tO 10 (fun K hK => ?_)
        go_simp
        have E_4 := E_3.alloc (.cells (El.cells zprt).toArray 57)
        have FM_4 := (FM_3.later Zr).alloc (.cells (El.cells zprt).toArray 57)
        have BL_4 := BL_3.alloc (Zn zB (Zl E_3.lt)) (.cells (El.cells zprt).toArray 57)
        have G_4 := (G_3.later Zr).alloc (.cells (El.cells zprt).toArray 57)
        have N1_4 := N1_3.alloc (.cells (El.cells zprt).toArray 57)
        have N2_4 := Bx.new wz3 57 (El.cells zprt)
        have nQe_4 := E_3.lt
        have nQp_4 := N1_3.lt
        have HS := E_4
        refine kW hK (wz3.alloc (.cells (El.cells zprt).toArray 57)) HS ?_
        clear hK K HS
        clear E_3 FM_3 BL_3 G_3 N1_3
        obtain ⟨Q, hQ⟩ : ∃ P, wz3.heap.size = P := ⟨_, rfl⟩
        rw [hQ] at N2_4 nQe_4 nQp_4 FM_4 G_4 ⊢
        generalize wz3.alloc (.cells (El.cells zprt).toArray 57) = wz4 at E_4 FM_4 BL_4 G_4 N1_4 N2_4 ⊢
        clear hQ
        have nQe := nQe_4
        clear nQe_4
        have nQp := nQp_4
        clear nQp_4
        have HS := E_4
        have HN := Zh (show Bx wz4 B1 40 (fcs s (exF k)) ∧ Bx wz4 P 40 (fcs zfs zfv) ∧ Bx wz4 Q 57 (El.cells zprt) ∧ FlM wz4 (Off [P, Q, B1]) s2 (exF (k + 1)) ∧ Below B w wz4 ∧ B1 < P ∧ B1 < Q ∧ P ≠ Q from ⟨E_4, N1_4, N2_4, G_4.imp (Off.imp (by simp)), BL_4, nPe, nQe, by omega⟩)
        clear E_4 FM_4 BL_4 G_4 N1_4 N2_4
        try clear HS
        try clear nPe
        try clear nPq
        try clear nQe
        try clear nQp
        revert HN
        revert wz4
        revert P
        revert Q
        revert s2
        exact hP.out
       ·go_simp
        have E_5 := E_2.alloc (.cells (El.cells zprt).toArray 57)
        have FM_5 := (FM_2.later Zr).alloc (.cells (El.cells zprt).toArray 57)
        have BL_5 := BL_2.alloc (Zn zB (Zl E_2.lt)) (.cells (El.cells zprt).toArray 57)
        have G_5 := (G_2.later Zr).alloc (.cells (El.cells zprt).toArray 57)
        have N2_5 := Bx.new wt 57 (El.cells zprt)
        have nQe_5 := E_2.lt
        have HS := E_5
        refine kW hK (wt.alloc (.cells (El.cells zprt).toArray 57)) HS ?_
        clear hK K HS
        clear E_2 FM_2 BL_2 G_2
        obtain ⟨Q, hQ⟩ : ∃ P, wt.heap.size = P := ⟨_, rfl⟩
        rw [hQ] at N2_5 nQe_5 FM_5 G_5 ⊢
        generalize wt.alloc (.cells (El.cells zprt).toArray 57) = wz5 at E_5 FM_5 BL_5 G_5 N2_5 ⊢
        clear hQ
        have nQe := nQe_5
        clear nQe_5
        have HS := E_5
        refine tO 9 (fun K hK => ?_)
        go_simp
        have E_6 := E_5.alloc (.cells (fcs zfs zfv).toArray 40)
        have FM_6 := (FM_5.later Zr).alloc (.cells (fcs zfs zfv).toArray 40)
        have BL_6 := BL_5.alloc (Zn zB (Zl E_5.lt)) (.cells (fcs zfs zfv).toArray 40)
        have G_6 := (G_5.later Zr).alloc (.cells (fcs zfs zfv).toArray 40)
        have N2_6 := N2_5.alloc (.cells (fcs zfs zfv).toArray 40)
        have N1_6 := Bx.new wz5 40 (fcs zfs zfv)
        have nPe_6 := E_5.lt
        have nPq_6 := N2_5.lt
        have HS := E_6
        refine kW hK (wz5.alloc (.cells (fcs zfs zfv).toArray 40)) HS ?_
        clear hK K HS
        clear E_5 FM_5 BL_5 G_5 N2_5
        obtain ⟨P, hP⟩ : ∃ P, wz5.heap.size = P := ⟨_, rfl⟩
        rw [hP] at N1_6 nPe_6 nPq_6 FM_6 G_6 ⊢
        generalize wz5.alloc (.cells (fcs zfs zfv).toArray 40) = wz6 at E_6 FM_6 BL_6 G_6 N2_6 N1_6 ⊢
        clear hP
        have nPe := nPe_6
        clear nPe_6
        have nPq := nPq_6
        clear nPq_6
        have HS := E_6
        have HN := Zh (show Bx wz6 B1 40 (fcs s (exF k)) ∧ Bx wz6 P 40 (fcs zfs zfv) ∧ Bx wz6 Q 57 (El.cells zprt) ∧ FlM wz6 (Off [P, Q, B1]) s2 (exF (k + 1)) ∧ Below B w wz6 ∧ B1 < P ∧ B1 < Q ∧ P ≠ Q from ⟨E_6, N1_6, N2_6, G_6.imp (Off.imp (by simp)), BL_6, nPe, nQe, by omega⟩)
        clear E_6 FM_6 BL_6 G_6 N2_6 N1_6
        try clear HS
        try clear nPe
        try clear nPq
        try clear nQe
        try clear nQp
        revert HN
        revert wz6
        revert P
        revert Q
        revert s2
        exact hP.out
      ·go_simp
       have E_7 := E_1.alloc (.cells (fcs zfs zfv).toArray 40)
       have FM_7 := (FM_1.later Zr).alloc (.cells (fcs zfs zfv).toArray 40)
       have BL_7 := BL_1.alloc (Zn zB (Zl E_1.lt)) (.cells (fcs zfs zfv).toArray 40)
       have N1_7 := Bx.new ws 40 (fcs zfs zfv)
       have nPe_7 := E_1.lt
       have HS := E_7
       refine kW hK (ws.alloc (.cells (fcs zfs zfv).toArray 40)) HS ?_
       clear hK K HS
       clear E_1 FM_1 BL_1
       obtain ⟨P, hP⟩ : ∃ P, ws.heap.size = P := ⟨_, rfl⟩
       rw [hP] at N1_7 nPe_7 FM_7 ⊢
       generalize ws.alloc (.cells (fcs zfs zfv).toArray 40) = wz7 at E_7 FM_7 BL_7 N1_7 ⊢
       clear hP
       have nPe := nPe_7
       clear nPe_7
       have HS := E_7
       refine wpAnyT_two (k1 := 4) (k2 := 10) rfl rfl (by kernel_rfl) (by decide) (by decide) (fun K hK => ?_) (fun K hK => ?_)
       ·go_simp
        refine (flsend_any (Off [P, B1]) s (exF k) someC (100 * (k : Int)) 100 0 _ (off_new (by intro x hx; simp only [List.mem_cons, List.mem_nil_iff, or_false] at hx; rcases hx with hx | hx <;> rw [hx] <;> first | exact N1_7.lt | exact E_7.lt)) FM_7 HCW.out (by unfold i64; omega) (by unfold i64; omega) (by unfold i64; omega)).mono ?_
        rintro e wt ⟨s2, he, hf2, hbt⟩
        rw [HRS.out] at he hf2
        dsimp only at he hf2
        subst he
        have E_8 := E_7.kept hbt
        have FM_8 := FM_7.keep hbt
        have BL_8 := BL_7.trans (hbt.mono (Zn zB (Zl E_7.lt)))
        have N1_8 := N1_7.kept hbt
        have G_8 := hf2
        have HS := E_8
        refine kP hK HS ?_
        clear hK K
        clear E_7 FM_7 BL_7 N1_7 hbt
        clear hf2
        refine tU 5 HS ?_
        refine tU 6 HS ?_
        refine tU 7 HS ?_
        refine tU 8 HS ?_
        refine tO 10 (fun K hK => ?_)
        go_simp
        have E_9 := E_8.alloc (.cells (El.cells zprt).toArray 57)
        have FM_9 := (FM_8.later Zr).alloc (.cells (El.cells zprt).toArray 57)
        have BL_9 := BL_8.alloc (Zn zB (Zl E_8.lt)) (.cells (El.cells zprt).toArray 57)
        have N1_9 := N1_8.alloc (.cells (El.cells zprt).toArray 57)
        have G_9 := (G_8.later Zr).alloc (.cells (El.cells zprt).toArray 57)
        have N2_9 := Bx.new wt 57 (El.cells zprt)
        have nQe_9 := E_8.lt
        have nQp_9 := N1_8.lt
        have HS := E_9
        refine kW hK (wt.alloc (.cells (El.cells zprt).toArray 57)) HS ?_
        clear hK K HS
        clear E_8 FM_8 BL_8 N1_8 G_8
        obtain ⟨Q, hQ⟩ : ∃ P, wt.heap.size = P := ⟨_, rfl⟩
        rw [hQ] at N2_9 nQe_9 nQp_9 FM_9 G_9 ⊢
        generalize wt.alloc (.cells (El.cells zprt).toArray 57) = wz9 at E_9 FM_9 BL_9 N1_9 G_9 N2_9 ⊢
        clear hQ
        have nQe := nQe_9
        clear nQe_9
        have nQp := nQp_9
        clear nQp_9
        have HS := E_9
        have HN := Zh (show Bx wz9 B1 40 (fcs s (exF k)) ∧ Bx wz9 P 40 (fcs zfs zfv) ∧ Bx wz9 Q 57 (El.cells zprt) ∧ FlM wz9 (Off [P, Q, B1]) s2 (exF (k + 1)) ∧ Below B w wz9 ∧ B1 < P ∧ B1 < Q ∧ P ≠ Q from ⟨E_9, N1_9, N2_9, G_9.imp (Off.imp (by simp)), BL_9, nPe, nQe, by omega⟩)
        clear E_9 FM_9 BL_9 N1_9 G_9 N2_9
        try clear HS
        try clear nPe
        try clear nPq
        try clear nQe
        try clear nQp
        revert HN
        revert wz9
        revert P
        revert Q
        revert s2
        exact hP.out
       ·go_simp
        have E_10 := E_7.alloc (.cells (El.cells zprt).toArray 57)
        have FM_10 := (FM_7.later Zr).alloc (.cells (El.cells zprt).toArray 57)
        have BL_10 := BL_7.alloc (Zn zB (Zl E_7.lt)) (.cells (El.cells zprt).toArray 57)
        have N1_10 := N1_7.alloc (.cells (El.cells zprt).toArray 57)
        have N2_10 := Bx.new wz7 57 (El.cells zprt)
        have nQe_10 := E_7.lt
        have nQp_10 := N1_7.lt
        have HS := E_10
        refine kW hK (wz7.alloc (.cells (El.cells zprt).toArray 57)) HS ?_
        clear hK K HS
        clear E_7 FM_7 BL_7 N1_7
        obtain ⟨Q, hQ⟩ : ∃ P, wz7.heap.size = P := ⟨_, rfl⟩
        rw [hQ] at N2_10 nQe_10 nQp_10 FM_10 ⊢
        generalize wz7.alloc (.cells (El.cells zprt).toArray 57) = wz10 at E_10 FM_10 BL_10 N1_10 N2_10 ⊢
        clear hQ
        have nQe := nQe_10
        clear nQe_10
        have nQp := nQp_10
        clear nQp_10
        have HS := E_10
        refine tO 4 (fun K hK => ?_)
        go_simp
        refine (flsend_any (Off [Q, P, B1]) s (exF k) someC (100 * (k : Int)) 100 0 _ (off_new (by intro x hx; simp only [List.mem_cons, List.mem_nil_iff, or_false] at hx; rcases hx with hx | hx | hx <;> rw [hx] <;> first | exact N2_10.lt | exact N1_10.lt | exact E_10.lt)) FM_10 HCW.out (by unfold i64; omega) (by unfold i64; omega) (by unfold i64; omega)).mono ?_
        rintro e wt ⟨s2, he, hf2, hbt⟩
        rw [HRS.out] at he hf2
        dsimp only at he hf2
        subst he
        have E_11 := E_10.kept hbt
        have FM_11 := FM_10.keep hbt
        have BL_11 := BL_10.trans (hbt.mono (Zn zB (Zl E_10.lt)))
        have N1_11 := N1_10.kept hbt
        have N2_11 := N2_10.kept hbt
        have G_11 := hf2
        have HS := E_11
        refine kP hK HS ?_
        clear hK K
        clear E_10 FM_10 BL_10 N1_10 N2_10 hbt
        clear hf2
        refine tU 5 HS ?_
        refine tU 6 HS ?_
        refine tU 7 HS ?_
        refine tU 8 HS ?_
        have HN := Zh (show Bx wt B1 40 (fcs s (exF k)) ∧ Bx wt P 40 (fcs zfs zfv) ∧ Bx wt Q 57 (El.cells zprt) ∧ FlM wt (Off [P, Q, B1]) s2 (exF (k + 1)) ∧ Below B w wt ∧ B1 < P ∧ B1 < Q ∧ P ≠ Q from ⟨E_11, N1_11, N2_11, G_11.imp (Off.imp (by simp)), BL_11, nPe, nQe, by omega⟩)
        clear E_11 FM_11 BL_11 N1_11 N2_11 G_11
        try clear HS
        try clear nPe
        try clear nPq
        try clear nQe
        try clear nQp
        revert HN
        revert wt
        revert P
        revert Q
        revert s2
        exact hP.out
      ·go_simp
       have E_12 := E_1.alloc (.cells (El.cells zprt).toArray 57)
       have FM_12 := (FM_1.later Zr).alloc (.cells (El.cells zprt).toArray 57)
       have BL_12 := BL_1.alloc (Zn zB (Zl E_1.lt)) (.cells (El.cells zprt).toArray 57)
       have N2_12 := Bx.new ws 57 (El.cells zprt)
       have nQe_12 := E_1.lt
       have HS := E_12
       refine kW hK (ws.alloc (.cells (El.cells zprt).toArray 57)) HS ?_
       clear hK K HS
       clear E_1 FM_1 BL_1
       obtain ⟨Q, hQ⟩ : ∃ P, ws.heap.size = P := ⟨_, rfl⟩
       rw [hQ] at N2_12 nQe_12 FM_12 ⊢
       generalize ws.alloc (.cells (El.cells zprt).toArray 57) = wz12 at E_12 FM_12 BL_12 N2_12 ⊢
       clear hQ
       have nQe := nQe_12
       clear nQe_12
       have HS := E_12
       refine wpAnyT_two (k1 := 4) (k2 := 9) rfl rfl (by kernel_rfl) (by decide) (by decide) (fun K hK => ?_) (fun K hK => ?_)
       ·go_simp
        refine (flsend_any (Off [Q, B1]) s (exF k) someC (100 * (k : Int)) 100 0 _ (off_new (by intro x hx; simp only [List.mem_cons, List.mem_nil_iff, or_false] at hx; rcases hx with hx | hx <;> rw [hx] <;> first | exact N2_12.lt | exact E_12.lt)) FM_12 HCW.out (by unfold i64; omega) (by unfold i64; omega) (by unfold i64; omega)).mono ?_
        rintro e wt ⟨s2, he, hf2, hbt⟩
        rw [HRS.out] at he hf2
        dsimp only at he hf2
        subst he
        have E_13 := E_12.kept hbt
        have FM_13 := FM_12.keep hbt
        have BL_13 := BL_12.trans (hbt.mono (Zn zB (Zl E_12.lt)))
        have N2_13 := N2_12.kept hbt
        have G_13 := hf2
        have HS := E_13
        refine kP hK HS ?_
        clear hK K
        clear E_12 FM_12 BL_12 N2_12 hbt
        clear hf2
        refine tU 5 HS ?_
        refine tU 6 HS ?_
        refine tU 7 HS ?_
        refine tU 8 HS ?_
        refine tO 9 (fun K hK => ?_)
        go_simp
        have E_14 := E_13.alloc (.cells (fcs zfs zfv).toArray 40)
        have FM_14 := (FM_13.later Zr).alloc (.cells (fcs zfs zfv).toArray 40)
        have BL_14 := BL_13.alloc (Zn zB (Zl E_13.lt)) (.cells (fcs zfs zfv).toArray 40)
        have N2_14 := N2_13.alloc (.cells (fcs zfs zfv).toArray 40)
        have G_14 := (G_13.later Zr).alloc (.cells (fcs zfs zfv).toArray 40)
        have N1_14 := Bx.new wt 40 (fcs zfs zfv)
        have nPe_14 := E_13.lt
        have nPq_14 := N2_13.lt
        have HS := E_14
        refine kW hK (wt.alloc (.cells (fcs zfs zfv).toArray 40)) HS ?_
        clear hK K HS
        clear E_13 FM_13 BL_13 N2_13 G_13
        obtain ⟨P, hP⟩ : ∃ P, wt.heap.size = P := ⟨_, rfl⟩
        rw [hP] at N1_14 nPe_14 nPq_14 FM_14 G_14 ⊢
        generalize wt.alloc (.cells (fcs zfs zfv).toArray 40) = wz14 at E_14 FM_14 BL_14 N2_14 G_14 N1_14 ⊢
        clear hP
        have nPe := nPe_14
        clear nPe_14
        have nPq := nPq_14
        clear nPq_14
        have HS := E_14
        have HN := Zh (show Bx wz14 B1 40 (fcs s (exF k)) ∧ Bx wz14 P 40 (fcs zfs zfv) ∧ Bx wz14 Q 57 (El.cells zprt) ∧ FlM wz14 (Off [P, Q, B1]) s2 (exF (k + 1)) ∧ Below B w wz14 ∧ B1 < P ∧ B1 < Q ∧ P ≠ Q from ⟨E_14, N1_14, N2_14, G_14.imp (Off.imp (by simp)), BL_14, nPe, nQe, by omega⟩)
        clear E_14 FM_14 BL_14 N2_14 G_14 N1_14
        try clear HS
        try clear nPe
        try clear nPq
        try clear nQe
        try clear nQp
        revert HN
        revert wz14
        revert P
        revert Q
        revert s2
        exact hP.out
       ·go_simp
        have E_15 := E_12.alloc (.cells (fcs zfs zfv).toArray 40)
        have FM_15 := (FM_12.later Zr).alloc (.cells (fcs zfs zfv).toArray 40)
        have BL_15 := BL_12.alloc (Zn zB (Zl E_12.lt)) (.cells (fcs zfs zfv).toArray 40)
        have N2_15 := N2_12.alloc (.cells (fcs zfs zfv).toArray 40)
        have N1_15 := Bx.new wz12 40 (fcs zfs zfv)
        have nPe_15 := E_12.lt
        have nPq_15 := N2_12.lt
        have HS := E_15
        refine kW hK (wz12.alloc (.cells (fcs zfs zfv).toArray 40)) HS ?_
        clear hK K HS
        clear E_12 FM_12 BL_12 N2_12
        obtain ⟨P, hP⟩ : ∃ P, wz12.heap.size = P := ⟨_, rfl⟩
        rw [hP] at N1_15 nPe_15 nPq_15 FM_15 ⊢
        generalize wz12.alloc (.cells (fcs zfs zfv).toArray 40) = wz15 at E_15 FM_15 BL_15 N2_15 N1_15 ⊢
        clear hP
        have nPe := nPe_15
        clear nPe_15
        have nPq := nPq_15
        clear nPq_15
        have HS := E_15
        refine tO 4 (fun K hK => ?_)
        go_simp
        refine (flsend_any (Off [P, Q, B1]) s (exF k) someC (100 * (k : Int)) 100 0 _ (off_new (by intro x hx; simp only [List.mem_cons, List.mem_nil_iff, or_false] at hx; rcases hx with hx | hx | hx <;> rw [hx] <;> first | exact N1_15.lt | exact N2_15.lt | exact E_15.lt)) FM_15 HCW.out (by unfold i64; omega) (by unfold i64; omega) (by unfold i64; omega)).mono ?_
        rintro e wt ⟨s2, he, hf2, hbt⟩
        rw [HRS.out] at he hf2
        dsimp only at he hf2
        subst he
        have E_16 := E_15.kept hbt
        have FM_16 := FM_15.keep hbt
        have BL_16 := BL_15.trans (hbt.mono (Zn zB (Zl E_15.lt)))
        have N2_16 := N2_15.kept hbt
        have N1_16 := N1_15.kept hbt
        have G_16 := hf2
        have HS := E_16
        refine kP hK HS ?_
        clear hK K
        clear E_15 FM_15 BL_15 N2_15 N1_15 hbt
        clear hf2
        refine tU 5 HS ?_
        refine tU 6 HS ?_
        refine tU 7 HS ?_
        refine tU 8 HS ?_
        have HN := Zh (show Bx wt B1 40 (fcs s (exF k)) ∧ Bx wt P 40 (fcs zfs zfv) ∧ Bx wt Q 57 (El.cells zprt) ∧ FlM wt (Off [P, Q, B1]) s2 (exF (k + 1)) ∧ Below B w wt ∧ B1 < P ∧ B1 < Q ∧ P ≠ Q from ⟨E_16, N1_16, N2_16, G_16.imp (Off.imp (by simp)), BL_16, nPe, nQe, by omega⟩)
        clear E_16 FM_16 BL_16 N2_16 N1_16 G_16
        try clear HS
        try clear nPe
        try clear nPq
        try clear nQe
        try clear nQp
        revert HN
        revert wt
        revert P
        revert Q
        revert s2
        exact hP.out
     ·go_simp
      have E_17 := e_0.alloc (.cells (fcs zfs zfv).toArray 40)
      have FM_17 := (f_0.later Zr).alloc (.cells (fcs zfs zfv).toArray 40)
      have BL_17 := b_0.alloc (Zn zB (Zl e_0.lt)) (.cells (fcs zfs zfv).toArray 40)
      have N1_17 := Bx.new wd 40 (fcs zfs zfv)
      have nPe_17 := e_0.lt
      have HS := E_17
      refine kW hK (wd.alloc (.cells (fcs zfs zfv).toArray 40)) HS ?_
      clear hK K HS
      clear e_0 f_0 b_0
      obtain ⟨P, hP⟩ : ∃ P, wd.heap.size = P := ⟨_, rfl⟩
      rw [hP] at N1_17 nPe_17 FM_17 ⊢
      generalize wd.alloc (.cells (fcs zfs zfv).toArray 40) = wz17 at E_17 FM_17 BL_17 N1_17 ⊢
      clear hP
      have nPe := nPe_17
      clear nPe_17
      have HS := E_17
      refine wpAnyT_two (k1 := 1) (k2 := 10) rfl rfl (by kernel_rfl) (by decide) (by decide) (fun K hK => ?_) (fun K hK => ?_)
      ·go_simp
       refine (flsome_any _).mono ?_
       rintro e ws ⟨rfl, hbs⟩
       have E_18 := E_17.kept hbs
       have FM_18 := FM_17.keep hbs
       have BL_18 := BL_17.trans (hbs.mono (Zn zB (Zl E_17.lt)))
       have N1_18 := N1_17.kept hbs
       have HS := E_18
       refine kP hK HS ?_
       clear hK K
       clear E_17 FM_17 BL_17 N1_17 hbs
       refine wpAnyT_two (k1 := 4) (k2 := 10) rfl rfl (by kernel_rfl) (by decide) (by decide) (fun K hK => ?_) (fun K hK => ?_)
       ·go_simp
        refine (flsend_any (Off [P, B1]) s (exF k) someC (100 * (k : Int)) 100 0 _ (off_new (by intro x hx; simp only [List.mem_cons, List.mem_nil_iff, or_false] at hx; rcases hx with hx | hx <;> rw [hx] <;> first | exact N1_18.lt | exact E_18.lt)) FM_18 HCW.out (by unfold i64; omega) (by unfold i64; omega) (by unfold i64; omega)).mono ?_
        rintro e wt ⟨s2, he, hf2, hbt⟩
        rw [HRS.out] at he hf2
        dsimp only at he hf2
        subst he
        have E_19 := E_18.kept hbt
        have FM_19 := FM_18.keep hbt
        have BL_19 := BL_18.trans (hbt.mono (Zn zB (Zl E_18.lt)))
        have N1_19 := N1_18.kept hbt
        have G_19 := hf2
        have HS := E_19
        refine kP hK HS ?_
        clear hK K
        clear E_18 FM_18 BL_18 N1_18 hbt
        clear hf2
        refine tU 5 HS ?_
        refine tU 6 HS ?_
        refine tU 7 HS ?_
        refine tU 8 HS ?_
        refine tO 10 (fun K hK => ?_)
        go_simp
        have E_20 := E_19.alloc (.cells (El.cells zprt).toArray 57)
        have FM_20 := (FM_19.later Zr).alloc (.cells (El.cells zprt).toArray 57)
        have BL_20 := BL_19.alloc (Zn zB (Zl E_19.lt)) (.cells (El.cells zprt).toArray 57)
        have N1_20 := N1_19.alloc (.cells (El.cells zprt).toArray 57)
        have G_20 := (G_19.later Zr).alloc (.cells (El.cells zprt).toArray 57)
        have N2_20 := Bx.new wt 57 (El.cells zprt)
        have nQe_20 := E_19.lt
        have nQp_20 := N1_19.lt
        have HS := E_20
        refine kW hK (wt.alloc (.cells (El.cells zprt).toArray 57)) HS ?_
        clear hK K HS
        clear E_19 FM_19 BL_19 N1_19 G_19
        obtain ⟨Q, hQ⟩ : ∃ P, wt.heap.size = P := ⟨_, rfl⟩
        rw [hQ] at N2_20 nQe_20 nQp_20 FM_20 G_20 ⊢
        generalize wt.alloc (.cells (El.cells zprt).toArray 57) = wz20 at E_20 FM_20 BL_20 N1_20 G_20 N2_20 ⊢
        clear hQ
        have nQe := nQe_20
        clear nQe_20
        have nQp := nQp_20
        clear nQp_20
        have HS := E_20
        have HN := Zh (show Bx wz20 B1 40 (fcs s (exF k)) ∧ Bx wz20 P 40 (fcs zfs zfv) ∧ Bx wz20 Q 57 (El.cells zprt) ∧ FlM wz20 (Off [P, Q, B1]) s2 (exF (k + 1)) ∧ Below B w wz20 ∧ B1 < P ∧ B1 < Q ∧ P ≠ Q from ⟨E_20, N1_20, N2_20, G_20.imp (Off.imp (by simp)), BL_20, nPe, nQe, by omega⟩)
        clear E_20 FM_20 BL_20 N1_20 G_20 N2_20
        try clear HS
        try clear nPe
        try clear nPq
        try clear nQe
        try clear nQp
        revert HN
        revert wz20
        revert P
        revert Q
        revert s2
        exact hP.out
       ·go_simp
        have E_21 := E_18.alloc (.cells (El.cells zprt).toArray 57)
        have FM_21 := (FM_18.later Zr).alloc (.cells (El.cells zprt).toArray 57)
        have BL_21 := BL_18.alloc (Zn zB (Zl E_18.lt)) (.cells (El.cells zprt).toArray 57)
        have N1_21 := N1_18.alloc (.cells (El.cells zprt).toArray 57)
        have N2_21 := Bx.new ws 57 (El.cells zprt)
        have nQe_21 := E_18.lt
        have nQp_21 := N1_18.lt
        have HS := E_21
        refine kW hK (ws.alloc (.cells (El.cells zprt).toArray 57)) HS ?_
        clear hK K HS
        clear E_18 FM_18 BL_18 N1_18
        obtain ⟨Q, hQ⟩ : ∃ P, ws.heap.size = P := ⟨_, rfl⟩
        rw [hQ] at N2_21 nQe_21 nQp_21 FM_21 ⊢
        generalize ws.alloc (.cells (El.cells zprt).toArray 57) = wz21 at E_21 FM_21 BL_21 N1_21 N2_21 ⊢
        clear hQ
        have nQe := nQe_21
        clear nQe_21
        have nQp := nQp_21
        clear nQp_21
        have HS := E_21
        refine tO 4 (fun K hK => ?_)
        go_simp
        refine (flsend_any (Off [Q, P, B1]) s (exF k) someC (100 * (k : Int)) 100 0 _ (off_new (by intro x hx; simp only [List.mem_cons, List.mem_nil_iff, or_false] at hx; rcases hx with hx | hx | hx <;> rw [hx] <;> first | exact N2_21.lt | exact N1_21.lt | exact E_21.lt)) FM_21 HCW.out (by unfold i64; omega) (by unfold i64; omega) (by unfold i64; omega)).mono ?_
        rintro e wt ⟨s2, he, hf2, hbt⟩
        rw [HRS.out] at he hf2
        dsimp only at he hf2
        subst he
        have E_22 := E_21.kept hbt
        have FM_22 := FM_21.keep hbt
        have BL_22 := BL_21.trans (hbt.mono (Zn zB (Zl E_21.lt)))
        have N1_22 := N1_21.kept hbt
        have N2_22 := N2_21.kept hbt
        have G_22 := hf2
        have HS := E_22
        refine kP hK HS ?_
        clear hK K
        clear E_21 FM_21 BL_21 N1_21 N2_21 hbt
        clear hf2
        refine tU 5 HS ?_
        refine tU 6 HS ?_
        refine tU 7 HS ?_
        refine tU 8 HS ?_
        have HN := Zh (show Bx wt B1 40 (fcs s (exF k)) ∧ Bx wt P 40 (fcs zfs zfv) ∧ Bx wt Q 57 (El.cells zprt) ∧ FlM wt (Off [P, Q, B1]) s2 (exF (k + 1)) ∧ Below B w wt ∧ B1 < P ∧ B1 < Q ∧ P ≠ Q from ⟨E_22, N1_22, N2_22, G_22.imp (Off.imp (by simp)), BL_22, nPe, nQe, by omega⟩)
        clear E_22 FM_22 BL_22 N1_22 N2_22 G_22
        try clear HS
        try clear nPe
        try clear nPq
        try clear nQe
        try clear nQp
        revert HN
        revert wt
        revert P
        revert Q
        revert s2
        exact hP.out
      ·go_simp
       have E_23 := E_17.alloc (.cells (El.cells zprt).toArray 57)
       have FM_23 := (FM_17.later Zr).alloc (.cells (El.cells zprt).toArray 57)
       have BL_23 := BL_17.alloc (Zn zB (Zl E_17.lt)) (.cells (El.cells zprt).toArray 57)
       have N1_23 := N1_17.alloc (.cells (El.cells zprt).toArray 57)
       have N2_23 := Bx.new wz17 57 (El.cells zprt)
       have nQe_23 := E_17.lt
       have nQp_23 := N1_17.lt
       have HS := E_23
       refine kW hK (wz17.alloc (.cells (El.cells zprt).toArray 57)) HS ?_
       clear hK K HS
       clear E_17 FM_17 BL_17 N1_17
       obtain ⟨Q, hQ⟩ : ∃ P, wz17.heap.size = P := ⟨_, rfl⟩
       rw [hQ] at N2_23 nQe_23 nQp_23 FM_23 ⊢
       generalize wz17.alloc (.cells (El.cells zprt).toArray 57) = wz23 at E_23 FM_23 BL_23 N1_23 N2_23 ⊢
       clear hQ
       have nQe := nQe_23
       clear nQe_23
       have nQp := nQp_23
       clear nQp_23
       have HS := E_23
       refine tO 1 (fun K hK => ?_)
       go_simp
       refine (flsome_any _).mono ?_
       rintro e ws ⟨rfl, hbs⟩
       have E_24 := E_23.kept hbs
       have FM_24 := FM_23.keep hbs
       have BL_24 := BL_23.trans (hbs.mono (Zn zB (Zl E_23.lt)))
       have N1_24 := N1_23.kept hbs
       have N2_24 := N2_23.kept hbs
       have HS := E_24
       refine kP hK HS ?_
       clear hK K
       clear E_23 FM_23 BL_23 N1_23 N2_23 hbs
       refine tO 4 (fun K hK => ?_)
       go_simp
       refine (flsend_any (Off [Q, P, B1]) s (exF k) someC (100 * (k : Int)) 100 0 _ (off_new (by intro x hx; simp only [List.mem_cons, List.mem_nil_iff, or_false] at hx; rcases hx with hx | hx | hx <;> rw [hx] <;> first | exact N2_24.lt | exact N1_24.lt | exact E_24.lt)) FM_24 HCW.out (by unfold i64; omega) (by unfold i64; omega) (by unfold i64; omega)).mono ?_
       rintro e wt ⟨s2, he, hf2, hbt⟩
       rw [HRS.out] at he hf2
       dsimp only at he hf2
       subst he
       have E_25 := E_24.kept hbt
       have FM_25 := FM_24.keep hbt
       have BL_25 := BL_24.trans (hbt.mono (Zn zB (Zl E_24.lt)))
       have N1_25 := N1_24.kept hbt
       have N2_25 := N2_24.kept hbt
       have G_25 := hf2
       have HS := E_25
       refine kP hK HS ?_
       clear hK K
       clear E_24 FM_24 BL_24 N1_24 N2_24 hbt
       clear hf2
       refine tU 5 HS ?_
       refine tU 6 HS ?_
       refine tU 7 HS ?_
       refine tU 8 HS ?_
       have HN := Zh (show Bx wt B1 40 (fcs s (exF k)) ∧ Bx wt P 40 (fcs zfs zfv) ∧ Bx wt Q 57 (El.cells zprt) ∧ FlM wt (Off [P, Q, B1]) s2 (exF (k + 1)) ∧ Below B w wt ∧ B1 < P ∧ B1 < Q ∧ P ≠ Q from ⟨E_25, N1_25, N2_25, G_25.imp (Off.imp (by simp)), BL_25, nPe, nQe, by omega⟩)
       clear E_25 FM_25 BL_25 N1_25 N2_25 G_25
       try clear HS
       try clear nPe
       try clear nPq
       try clear nQe
       try clear nQp
       revert HN
       revert wt
       revert P
       revert Q
       revert s2
       exact hP.out
     ·go_simp
      have E_26 := e_0.alloc (.cells (El.cells zprt).toArray 57)
      have FM_26 := (f_0.later Zr).alloc (.cells (El.cells zprt).toArray 57)
      have BL_26 := b_0.alloc (Zn zB (Zl e_0.lt)) (.cells (El.cells zprt).toArray 57)
      have N2_26 := Bx.new wd 57 (El.cells zprt)
      have nQe_26 := e_0.lt
      have HS := E_26
      refine kW hK (wd.alloc (.cells (El.cells zprt).toArray 57)) HS ?_
      clear hK K HS
      clear e_0 f_0 b_0
      obtain ⟨Q, hQ⟩ : ∃ P, wd.heap.size = P := ⟨_, rfl⟩
      rw [hQ] at N2_26 nQe_26 FM_26 ⊢
      generalize wd.alloc (.cells (El.cells zprt).toArray 57) = wz26 at E_26 FM_26 BL_26 N2_26 ⊢
      clear hQ
      have nQe := nQe_26
      clear nQe_26
      have HS := E_26
      refine wpAnyT_two (k1 := 1) (k2 := 9) rfl rfl (by kernel_rfl) (by decide) (by decide) (fun K hK => ?_) (fun K hK => ?_)
      ·go_simp
       refine (flsome_any _).mono ?_
       rintro e ws ⟨rfl, hbs⟩
       have E_27 := E_26.kept hbs
       have FM_27 := FM_26.keep hbs
       have BL_27 := BL_26.trans (hbs.mono (Zn zB (Zl E_26.lt)))
       have N2_27 := N2_26.kept hbs
       have HS := E_27
       refine kP hK HS ?_
       clear hK K
       clear E_26 FM_26 BL_26 N2_26 hbs
       refine wpAnyT_two (k1 := 4) (k2 := 9) rfl rfl (by kernel_rfl) (by decide) (by decide) (fun K hK => ?_) (fun K hK => ?_)
       ·go_simp
        refine (flsend_any (Off [Q, B1]) s (exF k) someC (100 * (k : Int)) 100 0 _ (off_new (by intro x hx; simp only [List.mem_cons, List.mem_nil_iff, or_false] at hx; rcases hx with hx | hx <;> rw [hx] <;> first | exact N2_27.lt | exact E_27.lt)) FM_27 HCW.out (by unfold i64; omega) (by unfold i64; omega) (by unfold i64; omega)).mono ?_
        rintro e wt ⟨s2, he, hf2, hbt⟩
        rw [HRS.out] at he hf2
        dsimp only at he hf2
        subst he
        have E_28 := E_27.kept hbt
        have FM_28 := FM_27.keep hbt
        have BL_28 := BL_27.trans (hbt.mono (Zn zB (Zl E_27.lt)))
        have N2_28 := N2_27.kept hbt
        have G_28 := hf2
        have HS := E_28
        refine kP hK HS ?_
        clear hK K
        clear E_27 FM_27 BL_27 N2_27 hbt
        clear hf2
        refine tU 5 HS ?_
        refine tU 6 HS ?_
        refine tU 7 HS ?_
        refine tU 8 HS ?_
        refine tO 9 (fun K hK => ?_)
        go_simp
        have E_29 := E_28.alloc (.cells (fcs zfs zfv).toArray 40)
        have FM_29 := (FM_28.later Zr).alloc (.cells (fcs zfs zfv).toArray 40)
        have BL_29 := BL_28.alloc (Zn zB (Zl E_28.lt)) (.cells (fcs zfs zfv).toArray 40)
        have N2_29 := N2_28.alloc (.cells (fcs zfs zfv).toArray 40)
        have G_29 := (G_28.later Zr).alloc (.cells (fcs zfs zfv).toArray 40)
        have N1_29 := Bx.new wt 40 (fcs zfs zfv)
        have nPe_29 := E_28.lt
        have nPq_29 := N2_28.lt
        have HS := E_29
        refine kW hK (wt.alloc (.cells (fcs zfs zfv).toArray 40)) HS ?_
        clear hK K HS
        clear E_28 FM_28 BL_28 N2_28 G_28
        obtain ⟨P, hP⟩ : ∃ P, wt.heap.size = P := ⟨_, rfl⟩
        rw [hP] at N1_29 nPe_29 nPq_29 FM_29 G_29 ⊢
        generalize wt.alloc (.cells (fcs zfs zfv).toArray 40) = wz29 at E_29 FM_29 BL_29 N2_29 G_29 N1_29 ⊢
        clear hP
        have nPe := nPe_29
        clear nPe_29
        have nPq := nPq_29
        clear nPq_29
        have HS := E_29
        have HN := Zh (show Bx wz29 B1 40 (fcs s (exF k)) ∧ Bx wz29 P 40 (fcs zfs zfv) ∧ Bx wz29 Q 57 (El.cells zprt) ∧ FlM wz29 (Off [P, Q, B1]) s2 (exF (k + 1)) ∧ Below B w wz29 ∧ B1 < P ∧ B1 < Q ∧ P ≠ Q from ⟨E_29, N1_29, N2_29, G_29.imp (Off.imp (by simp)), BL_29, nPe, nQe, by omega⟩)
        clear E_29 FM_29 BL_29 N2_29 G_29 N1_29
        try clear HS
        try clear nPe
        try clear nPq
        try clear nQe
        try clear nQp
        revert HN
        revert wz29
        revert P
        revert Q
        revert s2
        exact hP.out
       ·go_simp
        have E_30 := E_27.alloc (.cells (fcs zfs zfv).toArray 40)
        have FM_30 := (FM_27.later Zr).alloc (.cells (fcs zfs zfv).toArray 40)
        have BL_30 := BL_27.alloc (Zn zB (Zl E_27.lt)) (.cells (fcs zfs zfv).toArray 40)
        have N2_30 := N2_27.alloc (.cells (fcs zfs zfv).toArray 40)
        have N1_30 := Bx.new ws 40 (fcs zfs zfv)
        have nPe_30 := E_27.lt
        have nPq_30 := N2_27.lt
        have HS := E_30
        refine kW hK (ws.alloc (.cells (fcs zfs zfv).toArray 40)) HS ?_
        clear hK K HS
        clear E_27 FM_27 BL_27 N2_27
        obtain ⟨P, hP⟩ : ∃ P, ws.heap.size = P := ⟨_, rfl⟩
        rw [hP] at N1_30 nPe_30 nPq_30 FM_30 ⊢
        generalize ws.alloc (.cells (fcs zfs zfv).toArray 40) = wz30 at E_30 FM_30 BL_30 N2_30 N1_30 ⊢
        clear hP
        have nPe := nPe_30
        clear nPe_30
        have nPq := nPq_30
        clear nPq_30
        have HS := E_30
        refine tO 4 (fun K hK => ?_)
        go_simp
        refine (flsend_any (Off [P, Q, B1]) s (exF k) someC (100 * (k : Int)) 100 0 _ (off_new (by intro x hx; simp only [List.mem_cons, List.mem_nil_iff, or_false] at hx; rcases hx with hx | hx | hx <;> rw [hx] <;> first | exact N1_30.lt | exact N2_30.lt | exact E_30.lt)) FM_30 HCW.out (by unfold i64; omega) (by unfold i64; omega) (by unfold i64; omega)).mono ?_
        rintro e wt ⟨s2, he, hf2, hbt⟩
        rw [HRS.out] at he hf2
        dsimp only at he hf2
        subst he
        have E_31 := E_30.kept hbt
        have FM_31 := FM_30.keep hbt
        have BL_31 := BL_30.trans (hbt.mono (Zn zB (Zl E_30.lt)))
        have N2_31 := N2_30.kept hbt
        have N1_31 := N1_30.kept hbt
        have G_31 := hf2
        have HS := E_31
        refine kP hK HS ?_
        clear hK K
        clear E_30 FM_30 BL_30 N2_30 N1_30 hbt
        clear hf2
        refine tU 5 HS ?_
        refine tU 6 HS ?_
        refine tU 7 HS ?_
        refine tU 8 HS ?_
        have HN := Zh (show Bx wt B1 40 (fcs s (exF k)) ∧ Bx wt P 40 (fcs zfs zfv) ∧ Bx wt Q 57 (El.cells zprt) ∧ FlM wt (Off [P, Q, B1]) s2 (exF (k + 1)) ∧ Below B w wt ∧ B1 < P ∧ B1 < Q ∧ P ≠ Q from ⟨E_31, N1_31, N2_31, G_31.imp (Off.imp (by simp)), BL_31, nPe, nQe, by omega⟩)
        clear E_31 FM_31 BL_31 N2_31 N1_31 G_31
        try clear HS
        try clear nPe
        try clear nPq
        try clear nQe
        try clear nQp
        revert HN
        revert wt
        revert P
        revert Q
        revert s2
        exact hP.out
      ·go_simp
       have E_32 := E_26.alloc (.cells (fcs zfs zfv).toArray 40)
       have FM_32 := (FM_26.later Zr).alloc (.cells (fcs zfs zfv).toArray 40)
       have BL_32 := BL_26.alloc (Zn zB (Zl E_26.lt)) (.cells (fcs zfs zfv).toArray 40)
       have N2_32 := N2_26.alloc (.cells (fcs zfs zfv).toArray 40)
       have N1_32 := Bx.new wz26 40 (fcs zfs zfv)
       have nPe_32 := E_26.lt
       have nPq_32 := N2_26.lt
       have HS := E_32
       refine kW hK (wz26.alloc (.cells (fcs zfs zfv).toArray 40)) HS ?_
       clear hK K HS
       clear E_26 FM_26 BL_26 N2_26
       obtain ⟨P, hP⟩ : ∃ P, wz26.heap.size = P := ⟨_, rfl⟩
       rw [hP] at N1_32 nPe_32 nPq_32 FM_32 ⊢
       generalize wz26.alloc (.cells (fcs zfs zfv).toArray 40) = wz32 at E_32 FM_32 BL_32 N2_32 N1_32 ⊢
       clear hP
       have nPe := nPe_32
       clear nPe_32
       have nPq := nPq_32
       clear nPq_32
       have HS := E_32
       refine tO 1 (fun K hK => ?_)
       go_simp
       refine (flsome_any _).mono ?_
       rintro e ws ⟨rfl, hbs⟩
       have E_33 := E_32.kept hbs
       have FM_33 := FM_32.keep hbs
       have BL_33 := BL_32.trans (hbs.mono (Zn zB (Zl E_32.lt)))
       have N2_33 := N2_32.kept hbs
       have N1_33 := N1_32.kept hbs
       have HS := E_33
       refine kP hK HS ?_
       clear hK K
       clear E_32 FM_32 BL_32 N2_32 N1_32 hbs
       refine tO 4 (fun K hK => ?_)
       go_simp
       refine (flsend_any (Off [P, Q, B1]) s (exF k) someC (100 * (k : Int)) 100 0 _ (off_new (by intro x hx; simp only [List.mem_cons, List.mem_nil_iff, or_false] at hx; rcases hx with hx | hx | hx <;> rw [hx] <;> first | exact N1_33.lt | exact N2_33.lt | exact E_33.lt)) FM_33 HCW.out (by unfold i64; omega) (by unfold i64; omega) (by unfold i64; omega)).mono ?_
       rintro e wt ⟨s2, he, hf2, hbt⟩
       rw [HRS.out] at he hf2
       dsimp only at he hf2
       subst he
       have E_34 := E_33.kept hbt
       have FM_34 := FM_33.keep hbt
       have BL_34 := BL_33.trans (hbt.mono (Zn zB (Zl E_33.lt)))
       have N2_34 := N2_33.kept hbt
       have N1_34 := N1_33.kept hbt
       have G_34 := hf2
       have HS := E_34
       refine kP hK HS ?_
       clear hK K
       clear E_33 FM_33 BL_33 N2_33 N1_33 hbt
       clear hf2
       refine tU 5 HS ?_
       refine tU 6 HS ?_
       refine tU 7 HS ?_
       refine tU 8 HS ?_
       have HN := Zh (show Bx wt B1 40 (fcs s (exF k)) ∧ Bx wt P 40 (fcs zfs zfv) ∧ Bx wt Q 57 (El.cells zprt) ∧ FlM wt (Off [P, Q, B1]) s2 (exF (k + 1)) ∧ Below B w wt ∧ B1 < P ∧ B1 < Q ∧ P ≠ Q from ⟨E_34, N1_34, N2_34, G_34.imp (Off.imp (by simp)), BL_34, nPe, nQe, by omega⟩)
       clear E_34 FM_34 BL_34 N2_34 N1_34 G_34
       try clear HS
       try clear nPe
       try clear nPq
       try clear nQe
       try clear nQp
       revert HN
       revert wt
       revert P
       revert Q
       revert s2
       exact hP.out
    intro s2 Q P wz HN
    obtain ⟨E_, N1_, N2_, G_, BL_, nPe, nQe, nPQ⟩ := HN.out
    clear HN
    have HS := E_
    refine tO 11 (fun K hK => ?_)
    rw [if_pos (by rfl)]
    refine wp_store_row 40 (.tmp 4) (.tmp 28) rfl P (fcs s2 (exF (k + 1))).toArray (by rfl) (by rfl) 40 _ N1_ (by rw [info_fl]; rfl) (by rfl) (by have h : (fcs s2 (exF (k + 1))).all (·.oneCell') = true := rfl; simpa using h) ?_
    have g1 := fl_grown wz P (fcs s2 (exF (k + 1))).toArray
    have E1 := E_.grown g1 (fun e => by cases e; omega)
    have M1 := fl_put N1_ (fcs s2 (exF (k + 1)))
    have Q1 := N2_.grown g1 (fun e => by cases e; omega)
    have G1 := G_.grown g1 (off_row (by simp))
    have L1 := BL_.grown g1 (Zn zB (Zl E_.lt)) (fun k hk => by cases hk; omega)
    have HS := E1
    refine kP hK HS ?_
    clear hK K
    generalize wz.setRow P (fcs s2 (exF (k + 1))).toArray = wu at E1 M1 Q1 G1 L1 HS ⊢
    refine tO 12 (fun K hK => ?_)
    rw [if_pos (by rfl)]
    refine wp_store_row 57 (.tmp 5) (.tmp 29) rfl Q (El.cells (exP k)).toArray (by rfl) (by rfl) 57 _ Q1 (by rw [info_fp]; rfl) (by rfl) (by have h : (El.cells (exP k)).all (·.oneCell') = true := rfl; simpa using h) ?_
    have g2 := fp_grown wu Q (El.cells (exP k)).toArray
    have E2 := E1.grown g2 (fun e => by cases e; omega)
    have M2 := M1.grown g2 (fun e => by cases e; omega)
    have Q2 := fp_put Q1 (El.cells (exP k))
    have G2 := G1.grown g2 (off_row (by simp))
    have L2 := L1.grown g2 (Zn zB (Zl E1.lt)) (fun k hk => by cases hk; omega)
    have HS := E2
    refine kP hK HS ?_
    clear hK K HS
    generalize wu.setRow Q (El.cells (exP k)).toArray = wv at E2 M2 Q2 G2 L2 ⊢
    refine ⟨by kernel_rfl, ?_⟩
    simp only [List.drop_succ_cons, List.drop_zero]
    go_wp2_with fail
    go_meet
    case rel => exact ⟨P, Q, s2, rfl, rfl, rfl, Zh ⟨M2, Q2, E2, G2.imp (Off.imp (by simp)), L2, nPe, nQe⟩⟩
   case rest =>
    obtain ⟨P, Q, s2, rfl, rfl, rfl, HH⟩ := hcut
    obtain ⟨M, N, E, G, BB, hP, hQ⟩ := HH.out
    have c0 := N.cell 0 rfl
    have c0' : wc.cell? ⟨Q, 0, none⟩ = some (.int .i64 (100 * (k : Int))) := by rw [c0]; show some (Value.int .i64 (exP k).seq) = _; rw [HSQ.out]
    have q1 : (100 * (k : Int) != 100 * (k : Int)) = false := by simp
    clear c0 HH
    go_upto_region 8 with fail
    go_wp2_with (first | (refine fl_load rfl (.tmp 4) rfl rfl M rfl ?_) | (refine fl_store rfl (.tmp 1) (.tmp 40) rfl rfl (fcs s2 (exF (k + 1))) rfl E rfl rfl rfl ?_))
    go_roundw
    case rel => exact ⟨k + 1, s2, by omega, by go_num, fl_put E _, G.grown (fl_grown _ _ _) (off_row (by simp)), BB.grown (fl_grown _ _ _) (Zn zB (Zl E.lt)) (fun k hk => by cases hk; exact zB)⟩
    case measure => simp [intOf]; omega
  ·obtain rfl : k = 10 := by omega
   have dlt : decide (((10 : Nat) : Int) < 10) = false := by decide
   go_upto_region 9 with fail
   have HRS := Zh ex_full2
   go_cut [7, 8, 9] (fun s7 s8 s9 wx => ∃ P Q : Nat, ∃ s2 : Fs, s7 = .pointer (some ⟨P, 0, none⟩) ∧ s8 = .pointer (some ⟨Q, 0, none⟩) ∧ s9 = .int .i64 4 ∧ Hid (Bx wx B1 40 (fcs s (exF 10)) ∧ FlM wx (Off [B1]) s (exF 10) ∧ Below B w wx))
   case first =>
    apply cutP
    ·intro hP
     refine tB 11 12 (fun (W : World) => Bx W B1 40 (fcs s (exF 10))) er.drew (fun HS => ?_)
     have e_0 := er.drew; have f_0 := fr.drew; have b_0 := br.drew
     generalize wr.drew = wd at HS e_0 f_0 b_0 ⊢
     refine tS 0 rfl (fl_yields (by rfl) (.tmp 1) rfl rfl (fcs s (exF 10)) rfl 40 (fun W hW => hW)) HS ?_
     refine wpAnyT_three (k1 := 1) (k2 := 7) (k3 := 8) rfl rfl rfl (by kernel_rfl) (by decide) (by decide) (by decide) (fun K hK => ?_) (fun K hK => ?_) (fun K hK => ?_)
     ·go_simp
      refine (flsome_any _).mono ?_
      rintro e ws ⟨rfl, hbs⟩
      have E_1 := e_0.kept hbs
      have FM_1 := f_0.keep hbs
      have BL_1 := b_0.trans (hbs.mono (Zn zB (Zl e_0.lt)))
      have HS := E_1
      refine kP hK HS ?_
      clear hK K
      clear e_0 f_0 b_0 hbs
      refine wpAnyT_three (k1 := 2) (k2 := 7) (k3 := 8) rfl rfl rfl (by kernel_rfl) (by decide) (by decide) (by decide) (fun K hK => ?_) (fun K hK => ?_) (fun K hK => ?_)
      ·go_simp
       refine (flsend_any (Off [B1]) s (exF 10) someC 1000 100 0 _ (off_new (by intro x hx; simp only [List.mem_cons, List.mem_nil_iff, or_false] at hx; rw [hx]; exact E_1.lt)) FM_1 HCW.out (by unfold i64; omega) (by unfold i64; omega) (by unfold i64; omega)).mono ?_
       rintro e wt ⟨s2, he, hf2, hbt⟩
       rw [HRS.out] at he hf2
       dsimp only at he hf2
       subst he
       have E_2 := E_1.kept hbt
       have FM_2 := FM_1.keep hbt
       have BL_2 := BL_1.trans (hbt.mono (Zn zB (Zl E_1.lt)))
       have G_2 := hf2
       have HS := E_2
       refine kP hK HS ?_
       clear hK K
       clear E_1 FM_1 BL_1 hbt
       clear hf2
       refine tU 3 HS ?_
       refine tU 4 HS ?_
       refine tU 5 HS ?_
       refine tU 6 HS ?_
       refine wpAnyT_two (k1 := 7) (k2 := 8) rfl rfl (by kernel_rfl) (by decide) (by decide) (fun K hK => ?_) (fun K hK => ?_)
       ·go_simp
        have E_3 := E_2.alloc (.cells (fcs zfs zfv).toArray 40)
        have FM_3 := (FM_2.later Zr).alloc (.cells (fcs zfs zfv).toArray 40)
        have BL_3 := BL_2.alloc (Zn zB (Zl E_2.lt)) (.cells (fcs zfs zfv).toArray 40)
        have G_3 := (G_2.later Zr).alloc (.cells (fcs zfs zfv).toArray 40)
        have N1_3 := Bx.new wt 40 (fcs zfs zfv)
        have nPe_3 := E_2.lt
        have HS := E_3
        refine kW hK (wt.alloc (.cells (fcs zfs zfv).toArray 40)) HS ?_
        clear hK K HS
        clear E_2 FM_2 BL_2 G_2
        obtain ⟨P, hP⟩ : ∃ P, wt.heap.size = P := ⟨_, rfl⟩
        rw [hP] at N1_3 nPe_3 FM_3 G_3 ⊢
        generalize wt.alloc (.cells (fcs zfs zfv).toArray 40) = wz3 at E_3 FM_3 BL_3 G_3 N1_3 ⊢
        clear hP
        have nPe := nPe_3
        clear nPe_3
        have HS := E_3
        refine tO 8 (fun K hK => ?_)
        go_simp
        have E_4 := E_3.alloc (.cells (El.cells zprt).toArray 57)
        have FM_4 := (FM_3.later Zr).alloc (.cells (El.cells zprt).toArray 57)
        have BL_4 := BL_3.alloc (Zn zB (Zl E_3.lt)) (.cells (El.cells zprt).toArray 57)
        have G_4 := (G_3.later Zr).alloc (.cells (El.cells zprt).toArray 57)
        have N1_4 := N1_3.alloc (.cells (El.cells zprt).toArray 57)
        have N2_4 := Bx.new wz3 57 (El.cells zprt)
        have nQe_4 := E_3.lt
        have nQp_4 := N1_3.lt
        have HS := E_4
        refine kW hK (wz3.alloc (.cells (El.cells zprt).toArray 57)) HS ?_
        clear hK K HS
        clear E_3 FM_3 BL_3 G_3 N1_3
        obtain ⟨Q, hQ⟩ : ∃ P, wz3.heap.size = P := ⟨_, rfl⟩
        rw [hQ] at N2_4 nQe_4 nQp_4 FM_4 G_4 ⊢
        generalize wz3.alloc (.cells (El.cells zprt).toArray 57) = wz4 at E_4 FM_4 BL_4 G_4 N1_4 N2_4 ⊢
        clear hQ
        have nQe := nQe_4
        clear nQe_4
        have nQp := nQp_4
        clear nQp_4
        have HS := E_4
        have HN := Zh (show Bx wz4 B1 40 (fcs s (exF 10)) ∧ Bx wz4 P 40 (fcs zfs zfv) ∧ Bx wz4 Q 57 (El.cells zprt) ∧ FlM wz4 (Off [P, Q, B1]) s2 zfv ∧ Below B w wz4 ∧ B1 < P ∧ B1 < Q ∧ P ≠ Q ∧ FlM wz4 (Off [P, Q, B1]) s (exF 10) from ⟨E_4, N1_4, N2_4, G_4.imp (Off.imp (by simp)), BL_4, nPe, nQe, by omega, FM_4.imp (Off.imp (by simp))⟩)
        clear E_4 FM_4 BL_4 G_4 N1_4 N2_4
        try clear HS
        try clear nPe
        try clear nPq
        try clear nQe
        try clear nQp
        revert HN
        revert wz4
        revert P
        revert Q
        revert s2
        exact hP.out
       ·go_simp
        have E_5 := E_2.alloc (.cells (El.cells zprt).toArray 57)
        have FM_5 := (FM_2.later Zr).alloc (.cells (El.cells zprt).toArray 57)
        have BL_5 := BL_2.alloc (Zn zB (Zl E_2.lt)) (.cells (El.cells zprt).toArray 57)
        have G_5 := (G_2.later Zr).alloc (.cells (El.cells zprt).toArray 57)
        have N2_5 := Bx.new wt 57 (El.cells zprt)
        have nQe_5 := E_2.lt
        have HS := E_5
        refine kW hK (wt.alloc (.cells (El.cells zprt).toArray 57)) HS ?_
        clear hK K HS
        clear E_2 FM_2 BL_2 G_2
        obtain ⟨Q, hQ⟩ : ∃ P, wt.heap.size = P := ⟨_, rfl⟩
        rw [hQ] at N2_5 nQe_5 FM_5 G_5 ⊢
        generalize wt.alloc (.cells (El.cells zprt).toArray 57) = wz5 at E_5 FM_5 BL_5 G_5 N2_5 ⊢
        clear hQ
        have nQe := nQe_5
        clear nQe_5
        have HS := E_5
        refine tO 7 (fun K hK => ?_)
        go_simp
        have E_6 := E_5.alloc (.cells (fcs zfs zfv).toArray 40)
        have FM_6 := (FM_5.later Zr).alloc (.cells (fcs zfs zfv).toArray 40)
        have BL_6 := BL_5.alloc (Zn zB (Zl E_5.lt)) (.cells (fcs zfs zfv).toArray 40)
        have G_6 := (G_5.later Zr).alloc (.cells (fcs zfs zfv).toArray 40)
        have N2_6 := N2_5.alloc (.cells (fcs zfs zfv).toArray 40)
        have N1_6 := Bx.new wz5 40 (fcs zfs zfv)
        have nPe_6 := E_5.lt
        have nPq_6 := N2_5.lt
        have HS := E_6
        refine kW hK (wz5.alloc (.cells (fcs zfs zfv).toArray 40)) HS ?_
        clear hK K HS
        clear E_5 FM_5 BL_5 G_5 N2_5
        obtain ⟨P, hP⟩ : ∃ P, wz5.heap.size = P := ⟨_, rfl⟩
        rw [hP] at N1_6 nPe_6 nPq_6 FM_6 G_6 ⊢
        generalize wz5.alloc (.cells (fcs zfs zfv).toArray 40) = wz6 at E_6 FM_6 BL_6 G_6 N2_6 N1_6 ⊢
        clear hP
        have nPe := nPe_6
        clear nPe_6
        have nPq := nPq_6
        clear nPq_6
        have HS := E_6
        have HN := Zh (show Bx wz6 B1 40 (fcs s (exF 10)) ∧ Bx wz6 P 40 (fcs zfs zfv) ∧ Bx wz6 Q 57 (El.cells zprt) ∧ FlM wz6 (Off [P, Q, B1]) s2 zfv ∧ Below B w wz6 ∧ B1 < P ∧ B1 < Q ∧ P ≠ Q ∧ FlM wz6 (Off [P, Q, B1]) s (exF 10) from ⟨E_6, N1_6, N2_6, G_6.imp (Off.imp (by simp)), BL_6, nPe, nQe, by omega, FM_6.imp (Off.imp (by simp))⟩)
        clear E_6 FM_6 BL_6 G_6 N2_6 N1_6
        try clear HS
        try clear nPe
        try clear nPq
        try clear nQe
        try clear nQp
        revert HN
        revert wz6
        revert P
        revert Q
        revert s2
        exact hP.out
      ·go_simp
       have E_7 := E_1.alloc (.cells (fcs zfs zfv).toArray 40)
       have FM_7 := (FM_1.later Zr).alloc (.cells (fcs zfs zfv).toArray 40)
       have BL_7 := BL_1.alloc (Zn zB (Zl E_1.lt)) (.cells (fcs zfs zfv).toArray 40)
       have N1_7 := Bx.new ws 40 (fcs zfs zfv)
       have nPe_7 := E_1.lt
       have HS := E_7
       refine kW hK (ws.alloc (.cells (fcs zfs zfv).toArray 40)) HS ?_
       clear hK K HS
       clear E_1 FM_1 BL_1
       obtain ⟨P, hP⟩ : ∃ P, ws.heap.size = P := ⟨_, rfl⟩
       rw [hP] at N1_7 nPe_7 FM_7 ⊢
       generalize ws.alloc (.cells (fcs zfs zfv).toArray 40) = wz7 at E_7 FM_7 BL_7 N1_7 ⊢
       clear hP
       have nPe := nPe_7
       clear nPe_7
       have HS := E_7
       refine wpAnyT_two (k1 := 2) (k2 := 8) rfl rfl (by kernel_rfl) (by decide) (by decide) (fun K hK => ?_) (fun K hK => ?_)
       ·go_simp
        refine (flsend_any (Off [P, B1]) s (exF 10) someC 1000 100 0 _ (off_new (by intro x hx; simp only [List.mem_cons, List.mem_nil_iff, or_false] at hx; rcases hx with hx | hx <;> rw [hx] <;> first | exact N1_7.lt | exact E_7.lt)) FM_7 HCW.out (by unfold i64; omega) (by unfold i64; omega) (by unfold i64; omega)).mono ?_
        rintro e wt ⟨s2, he, hf2, hbt⟩
        rw [HRS.out] at he hf2
        dsimp only at he hf2
        subst he
        have E_8 := E_7.kept hbt
        have FM_8 := FM_7.keep hbt
        have BL_8 := BL_7.trans (hbt.mono (Zn zB (Zl E_7.lt)))
        have N1_8 := N1_7.kept hbt
        have G_8 := hf2
        have HS := E_8
        refine kP hK HS ?_
        clear hK K
        clear E_7 FM_7 BL_7 N1_7 hbt
        clear hf2
        refine tU 3 HS ?_
        refine tU 4 HS ?_
        refine tU 5 HS ?_
        refine tU 6 HS ?_
        refine tO 8 (fun K hK => ?_)
        go_simp
        have E_9 := E_8.alloc (.cells (El.cells zprt).toArray 57)
        have FM_9 := (FM_8.later Zr).alloc (.cells (El.cells zprt).toArray 57)
        have BL_9 := BL_8.alloc (Zn zB (Zl E_8.lt)) (.cells (El.cells zprt).toArray 57)
        have N1_9 := N1_8.alloc (.cells (El.cells zprt).toArray 57)
        have G_9 := (G_8.later Zr).alloc (.cells (El.cells zprt).toArray 57)
        have N2_9 := Bx.new wt 57 (El.cells zprt)
        have nQe_9 := E_8.lt
        have nQp_9 := N1_8.lt
        have HS := E_9
        refine kW hK (wt.alloc (.cells (El.cells zprt).toArray 57)) HS ?_
        clear hK K HS
        clear E_8 FM_8 BL_8 N1_8 G_8
        obtain ⟨Q, hQ⟩ : ∃ P, wt.heap.size = P := ⟨_, rfl⟩
        rw [hQ] at N2_9 nQe_9 nQp_9 FM_9 G_9 ⊢
        generalize wt.alloc (.cells (El.cells zprt).toArray 57) = wz9 at E_9 FM_9 BL_9 N1_9 G_9 N2_9 ⊢
        clear hQ
        have nQe := nQe_9
        clear nQe_9
        have nQp := nQp_9
        clear nQp_9
        have HS := E_9
        have HN := Zh (show Bx wz9 B1 40 (fcs s (exF 10)) ∧ Bx wz9 P 40 (fcs zfs zfv) ∧ Bx wz9 Q 57 (El.cells zprt) ∧ FlM wz9 (Off [P, Q, B1]) s2 zfv ∧ Below B w wz9 ∧ B1 < P ∧ B1 < Q ∧ P ≠ Q ∧ FlM wz9 (Off [P, Q, B1]) s (exF 10) from ⟨E_9, N1_9, N2_9, G_9.imp (Off.imp (by simp)), BL_9, nPe, nQe, by omega, FM_9.imp (Off.imp (by simp))⟩)
        clear E_9 FM_9 BL_9 N1_9 G_9 N2_9
        try clear HS
        try clear nPe
        try clear nPq
        try clear nQe
        try clear nQp
        revert HN
        revert wz9
        revert P
        revert Q
        revert s2
        exact hP.out
       ·go_simp
        have E_10 := E_7.alloc (.cells (El.cells zprt).toArray 57)
        have FM_10 := (FM_7.later Zr).alloc (.cells (El.cells zprt).toArray 57)
        have BL_10 := BL_7.alloc (Zn zB (Zl E_7.lt)) (.cells (El.cells zprt).toArray 57)
        have N1_10 := N1_7.alloc (.cells (El.cells zprt).toArray 57)
        have N2_10 := Bx.new wz7 57 (El.cells zprt)
        have nQe_10 := E_7.lt
        have nQp_10 := N1_7.lt
        have HS := E_10
        refine kW hK (wz7.alloc (.cells (El.cells zprt).toArray 57)) HS ?_
        clear hK K HS
        clear E_7 FM_7 BL_7 N1_7
        obtain ⟨Q, hQ⟩ : ∃ P, wz7.heap.size = P := ⟨_, rfl⟩
        rw [hQ] at N2_10 nQe_10 nQp_10 FM_10 ⊢
        generalize wz7.alloc (.cells (El.cells zprt).toArray 57) = wz10 at E_10 FM_10 BL_10 N1_10 N2_10 ⊢
        clear hQ
        have nQe := nQe_10
        clear nQe_10
        have nQp := nQp_10
        clear nQp_10
        have HS := E_10
        refine tO 2 (fun K hK => ?_)
        go_simp
        refine (flsend_any (Off [Q, P, B1]) s (exF 10) someC 1000 100 0 _ (off_new (by intro x hx; simp only [List.mem_cons, List.mem_nil_iff, or_false] at hx; rcases hx with hx | hx | hx <;> rw [hx] <;> first | exact N2_10.lt | exact N1_10.lt | exact E_10.lt)) FM_10 HCW.out (by unfold i64; omega) (by unfold i64; omega) (by unfold i64; omega)).mono ?_
        rintro e wt ⟨s2, he, hf2, hbt⟩
        rw [HRS.out] at he hf2
        dsimp only at he hf2
        subst he
        have E_11 := E_10.kept hbt
        have FM_11 := FM_10.keep hbt
        have BL_11 := BL_10.trans (hbt.mono (Zn zB (Zl E_10.lt)))
        have N1_11 := N1_10.kept hbt
        have N2_11 := N2_10.kept hbt
        have G_11 := hf2
        have HS := E_11
        refine kP hK HS ?_
        clear hK K
        clear E_10 FM_10 BL_10 N1_10 N2_10 hbt
        clear hf2
        refine tU 3 HS ?_
        refine tU 4 HS ?_
        refine tU 5 HS ?_
        refine tU 6 HS ?_
        have HN := Zh (show Bx wt B1 40 (fcs s (exF 10)) ∧ Bx wt P 40 (fcs zfs zfv) ∧ Bx wt Q 57 (El.cells zprt) ∧ FlM wt (Off [P, Q, B1]) s2 zfv ∧ Below B w wt ∧ B1 < P ∧ B1 < Q ∧ P ≠ Q ∧ FlM wt (Off [P, Q, B1]) s (exF 10) from ⟨E_11, N1_11, N2_11, G_11.imp (Off.imp (by simp)), BL_11, nPe, nQe, by omega, FM_11.imp (Off.imp (by simp))⟩)
        clear E_11 FM_11 BL_11 N1_11 N2_11 G_11
        try clear HS
        try clear nPe
        try clear nPq
        try clear nQe
        try clear nQp
        revert HN
        revert wt
        revert P
        revert Q
        revert s2
        exact hP.out
      ·go_simp
       have E_12 := E_1.alloc (.cells (El.cells zprt).toArray 57)
       have FM_12 := (FM_1.later Zr).alloc (.cells (El.cells zprt).toArray 57)
       have BL_12 := BL_1.alloc (Zn zB (Zl E_1.lt)) (.cells (El.cells zprt).toArray 57)
       have N2_12 := Bx.new ws 57 (El.cells zprt)
       have nQe_12 := E_1.lt
       have HS := E_12
       refine kW hK (ws.alloc (.cells (El.cells zprt).toArray 57)) HS ?_
       clear hK K HS
       clear E_1 FM_1 BL_1
       obtain ⟨Q, hQ⟩ : ∃ P, ws.heap.size = P := ⟨_, rfl⟩
       rw [hQ] at N2_12 nQe_12 FM_12 ⊢
       generalize ws.alloc (.cells (El.cells zprt).toArray 57) = wz12 at E_12 FM_12 BL_12 N2_12 ⊢
       clear hQ
       have nQe := nQe_12
       clear nQe_12
       have HS := E_12
       refine wpAnyT_two (k1 := 2) (k2 := 7) rfl rfl (by kernel_rfl) (by decide) (by decide) (fun K hK => ?_) (fun K hK => ?_)
       ·go_simp
        refine (flsend_any (Off [Q, B1]) s (exF 10) someC 1000 100 0 _ (off_new (by intro x hx; simp only [List.mem_cons, List.mem_nil_iff, or_false] at hx; rcases hx with hx | hx <;> rw [hx] <;> first | exact N2_12.lt | exact E_12.lt)) FM_12 HCW.out (by unfold i64; omega) (by unfold i64; omega) (by unfold i64; omega)).mono ?_
        rintro e wt ⟨s2, he, hf2, hbt⟩
        rw [HRS.out] at he hf2
        dsimp only at he hf2
        subst he
        have E_13 := E_12.kept hbt
        have FM_13 := FM_12.keep hbt
        have BL_13 := BL_12.trans (hbt.mono (Zn zB (Zl E_12.lt)))
        have N2_13 := N2_12.kept hbt
        have G_13 := hf2
        have HS := E_13
        refine kP hK HS ?_
        clear hK K
        clear E_12 FM_12 BL_12 N2_12 hbt
        clear hf2
        refine tU 3 HS ?_
        refine tU 4 HS ?_
        refine tU 5 HS ?_
        refine tU 6 HS ?_
        refine tO 7 (fun K hK => ?_)
        go_simp
        have E_14 := E_13.alloc (.cells (fcs zfs zfv).toArray 40)
        have FM_14 := (FM_13.later Zr).alloc (.cells (fcs zfs zfv).toArray 40)
        have BL_14 := BL_13.alloc (Zn zB (Zl E_13.lt)) (.cells (fcs zfs zfv).toArray 40)
        have N2_14 := N2_13.alloc (.cells (fcs zfs zfv).toArray 40)
        have G_14 := (G_13.later Zr).alloc (.cells (fcs zfs zfv).toArray 40)
        have N1_14 := Bx.new wt 40 (fcs zfs zfv)
        have nPe_14 := E_13.lt
        have nPq_14 := N2_13.lt
        have HS := E_14
        refine kW hK (wt.alloc (.cells (fcs zfs zfv).toArray 40)) HS ?_
        clear hK K HS
        clear E_13 FM_13 BL_13 N2_13 G_13
        obtain ⟨P, hP⟩ : ∃ P, wt.heap.size = P := ⟨_, rfl⟩
        rw [hP] at N1_14 nPe_14 nPq_14 FM_14 G_14 ⊢
        generalize wt.alloc (.cells (fcs zfs zfv).toArray 40) = wz14 at E_14 FM_14 BL_14 N2_14 G_14 N1_14 ⊢
        clear hP
        have nPe := nPe_14
        clear nPe_14
        have nPq := nPq_14
        clear nPq_14
        have HS := E_14
        have HN := Zh (show Bx wz14 B1 40 (fcs s (exF 10)) ∧ Bx wz14 P 40 (fcs zfs zfv) ∧ Bx wz14 Q 57 (El.cells zprt) ∧ FlM wz14 (Off [P, Q, B1]) s2 zfv ∧ Below B w wz14 ∧ B1 < P ∧ B1 < Q ∧ P ≠ Q ∧ FlM wz14 (Off [P, Q, B1]) s (exF 10) from ⟨E_14, N1_14, N2_14, G_14.imp (Off.imp (by simp)), BL_14, nPe, nQe, by omega, FM_14.imp (Off.imp (by simp))⟩)
        clear E_14 FM_14 BL_14 N2_14 G_14 N1_14
        try clear HS
        try clear nPe
        try clear nPq
        try clear nQe
        try clear nQp
        revert HN
        revert wz14
        revert P
        revert Q
        revert s2
        exact hP.out
       ·go_simp
        have E_15 := E_12.alloc (.cells (fcs zfs zfv).toArray 40)
        have FM_15 := (FM_12.later Zr).alloc (.cells (fcs zfs zfv).toArray 40)
        have BL_15 := BL_12.alloc (Zn zB (Zl E_12.lt)) (.cells (fcs zfs zfv).toArray 40)
        have N2_15 := N2_12.alloc (.cells (fcs zfs zfv).toArray 40)
        have N1_15 := Bx.new wz12 40 (fcs zfs zfv)
        have nPe_15 := E_12.lt
        have nPq_15 := N2_12.lt
        have HS := E_15
        refine kW hK (wz12.alloc (.cells (fcs zfs zfv).toArray 40)) HS ?_
        clear hK K HS
        clear E_12 FM_12 BL_12 N2_12
        obtain ⟨P, hP⟩ : ∃ P, wz12.heap.size = P := ⟨_, rfl⟩
        rw [hP] at N1_15 nPe_15 nPq_15 FM_15 ⊢
        generalize wz12.alloc (.cells (fcs zfs zfv).toArray 40) = wz15 at E_15 FM_15 BL_15 N2_15 N1_15 ⊢
        clear hP
        have nPe := nPe_15
        clear nPe_15
        have nPq := nPq_15
        clear nPq_15
        have HS := E_15
        refine tO 2 (fun K hK => ?_)
        go_simp
        refine (flsend_any (Off [P, Q, B1]) s (exF 10) someC 1000 100 0 _ (off_new (by intro x hx; simp only [List.mem_cons, List.mem_nil_iff, or_false] at hx; rcases hx with hx | hx | hx <;> rw [hx] <;> first | exact N1_15.lt | exact N2_15.lt | exact E_15.lt)) FM_15 HCW.out (by unfold i64; omega) (by unfold i64; omega) (by unfold i64; omega)).mono ?_
        rintro e wt ⟨s2, he, hf2, hbt⟩
        rw [HRS.out] at he hf2
        dsimp only at he hf2
        subst he
        have E_16 := E_15.kept hbt
        have FM_16 := FM_15.keep hbt
        have BL_16 := BL_15.trans (hbt.mono (Zn zB (Zl E_15.lt)))
        have N2_16 := N2_15.kept hbt
        have N1_16 := N1_15.kept hbt
        have G_16 := hf2
        have HS := E_16
        refine kP hK HS ?_
        clear hK K
        clear E_15 FM_15 BL_15 N2_15 N1_15 hbt
        clear hf2
        refine tU 3 HS ?_
        refine tU 4 HS ?_
        refine tU 5 HS ?_
        refine tU 6 HS ?_
        have HN := Zh (show Bx wt B1 40 (fcs s (exF 10)) ∧ Bx wt P 40 (fcs zfs zfv) ∧ Bx wt Q 57 (El.cells zprt) ∧ FlM wt (Off [P, Q, B1]) s2 zfv ∧ Below B w wt ∧ B1 < P ∧ B1 < Q ∧ P ≠ Q ∧ FlM wt (Off [P, Q, B1]) s (exF 10) from ⟨E_16, N1_16, N2_16, G_16.imp (Off.imp (by simp)), BL_16, nPe, nQe, by omega, FM_16.imp (Off.imp (by simp))⟩)
        clear E_16 FM_16 BL_16 N2_16 N1_16 G_16
        try clear HS
        try clear nPe
        try clear nPq
        try clear nQe
        try clear nQp
        revert HN
        revert wt
        revert P
        revert Q
        revert s2
        exact hP.out
     ·go_simp
      have E_17 := e_0.alloc (.cells (fcs zfs zfv).toArray 40)
      have FM_17 := (f_0.later Zr).alloc (.cells (fcs zfs zfv).toArray 40)
      have BL_17 := b_0.alloc (Zn zB (Zl e_0.lt)) (.cells (fcs zfs zfv).toArray 40)
      have N1_17 := Bx.new wd 40 (fcs zfs zfv)
      have nPe_17 := e_0.lt
      have HS := E_17
      refine kW hK (wd.alloc (.cells (fcs zfs zfv).toArray 40)) HS ?_
      clear hK K HS
      clear e_0 f_0 b_0
      obtain ⟨P, hP⟩ : ∃ P, wd.heap.size = P := ⟨_, rfl⟩
      rw [hP] at N1_17 nPe_17 FM_17 ⊢
      generalize wd.alloc (.cells (fcs zfs zfv).toArray 40) = wz17 at E_17 FM_17 BL_17 N1_17 ⊢
      clear hP
      have nPe := nPe_17
      clear nPe_17
      have HS := E_17
      refine wpAnyT_two (k1 := 1) (k2 := 8) rfl rfl (by kernel_rfl) (by decide) (by decide) (fun K hK => ?_) (fun K hK => ?_)
      ·go_simp
       refine (flsome_any _).mono ?_
       rintro e ws ⟨rfl, hbs⟩
       have E_18 := E_17.kept hbs
       have FM_18 := FM_17.keep hbs
       have BL_18 := BL_17.trans (hbs.mono (Zn zB (Zl E_17.lt)))
       have N1_18 := N1_17.kept hbs
       have HS := E_18
       refine kP hK HS ?_
       clear hK K
       clear E_17 FM_17 BL_17 N1_17 hbs
       refine wpAnyT_two (k1 := 2) (k2 := 8) rfl rfl (by kernel_rfl) (by decide) (by decide) (fun K hK => ?_) (fun K hK => ?_)
       ·go_simp
        refine (flsend_any (Off [P, B1]) s (exF 10) someC 1000 100 0 _ (off_new (by intro x hx; simp only [List.mem_cons, List.mem_nil_iff, or_false] at hx; rcases hx with hx | hx <;> rw [hx] <;> first | exact N1_18.lt | exact E_18.lt)) FM_18 HCW.out (by unfold i64; omega) (by unfold i64; omega) (by unfold i64; omega)).mono ?_
        rintro e wt ⟨s2, he, hf2, hbt⟩
        rw [HRS.out] at he hf2
        dsimp only at he hf2
        subst he
        have E_19 := E_18.kept hbt
        have FM_19 := FM_18.keep hbt
        have BL_19 := BL_18.trans (hbt.mono (Zn zB (Zl E_18.lt)))
        have N1_19 := N1_18.kept hbt
        have G_19 := hf2
        have HS := E_19
        refine kP hK HS ?_
        clear hK K
        clear E_18 FM_18 BL_18 N1_18 hbt
        clear hf2
        refine tU 3 HS ?_
        refine tU 4 HS ?_
        refine tU 5 HS ?_
        refine tU 6 HS ?_
        refine tO 8 (fun K hK => ?_)
        go_simp
        have E_20 := E_19.alloc (.cells (El.cells zprt).toArray 57)
        have FM_20 := (FM_19.later Zr).alloc (.cells (El.cells zprt).toArray 57)
        have BL_20 := BL_19.alloc (Zn zB (Zl E_19.lt)) (.cells (El.cells zprt).toArray 57)
        have N1_20 := N1_19.alloc (.cells (El.cells zprt).toArray 57)
        have G_20 := (G_19.later Zr).alloc (.cells (El.cells zprt).toArray 57)
        have N2_20 := Bx.new wt 57 (El.cells zprt)
        have nQe_20 := E_19.lt
        have nQp_20 := N1_19.lt
        have HS := E_20
        refine kW hK (wt.alloc (.cells (El.cells zprt).toArray 57)) HS ?_
        clear hK K HS
        clear E_19 FM_19 BL_19 N1_19 G_19
        obtain ⟨Q, hQ⟩ : ∃ P, wt.heap.size = P := ⟨_, rfl⟩
        rw [hQ] at N2_20 nQe_20 nQp_20 FM_20 G_20 ⊢
        generalize wt.alloc (.cells (El.cells zprt).toArray 57) = wz20 at E_20 FM_20 BL_20 N1_20 G_20 N2_20 ⊢
        clear hQ
        have nQe := nQe_20
        clear nQe_20
        have nQp := nQp_20
        clear nQp_20
        have HS := E_20
        have HN := Zh (show Bx wz20 B1 40 (fcs s (exF 10)) ∧ Bx wz20 P 40 (fcs zfs zfv) ∧ Bx wz20 Q 57 (El.cells zprt) ∧ FlM wz20 (Off [P, Q, B1]) s2 zfv ∧ Below B w wz20 ∧ B1 < P ∧ B1 < Q ∧ P ≠ Q ∧ FlM wz20 (Off [P, Q, B1]) s (exF 10) from ⟨E_20, N1_20, N2_20, G_20.imp (Off.imp (by simp)), BL_20, nPe, nQe, by omega, FM_20.imp (Off.imp (by simp))⟩)
        clear E_20 FM_20 BL_20 N1_20 G_20 N2_20
        try clear HS
        try clear nPe
        try clear nPq
        try clear nQe
        try clear nQp
        revert HN
        revert wz20
        revert P
        revert Q
        revert s2
        exact hP.out
       ·go_simp
        have E_21 := E_18.alloc (.cells (El.cells zprt).toArray 57)
        have FM_21 := (FM_18.later Zr).alloc (.cells (El.cells zprt).toArray 57)
        have BL_21 := BL_18.alloc (Zn zB (Zl E_18.lt)) (.cells (El.cells zprt).toArray 57)
        have N1_21 := N1_18.alloc (.cells (El.cells zprt).toArray 57)
        have N2_21 := Bx.new ws 57 (El.cells zprt)
        have nQe_21 := E_18.lt
        have nQp_21 := N1_18.lt
        have HS := E_21
        refine kW hK (ws.alloc (.cells (El.cells zprt).toArray 57)) HS ?_
        clear hK K HS
        clear E_18 FM_18 BL_18 N1_18
        obtain ⟨Q, hQ⟩ : ∃ P, ws.heap.size = P := ⟨_, rfl⟩
        rw [hQ] at N2_21 nQe_21 nQp_21 FM_21 ⊢
        generalize ws.alloc (.cells (El.cells zprt).toArray 57) = wz21 at E_21 FM_21 BL_21 N1_21 N2_21 ⊢
        clear hQ
        have nQe := nQe_21
        clear nQe_21
        have nQp := nQp_21
        clear nQp_21
        have HS := E_21
        refine tO 2 (fun K hK => ?_)
        go_simp
        refine (flsend_any (Off [Q, P, B1]) s (exF 10) someC 1000 100 0 _ (off_new (by intro x hx; simp only [List.mem_cons, List.mem_nil_iff, or_false] at hx; rcases hx with hx | hx | hx <;> rw [hx] <;> first | exact N2_21.lt | exact N1_21.lt | exact E_21.lt)) FM_21 HCW.out (by unfold i64; omega) (by unfold i64; omega) (by unfold i64; omega)).mono ?_
        rintro e wt ⟨s2, he, hf2, hbt⟩
        rw [HRS.out] at he hf2
        dsimp only at he hf2
        subst he
        have E_22 := E_21.kept hbt
        have FM_22 := FM_21.keep hbt
        have BL_22 := BL_21.trans (hbt.mono (Zn zB (Zl E_21.lt)))
        have N1_22 := N1_21.kept hbt
        have N2_22 := N2_21.kept hbt
        have G_22 := hf2
        have HS := E_22
        refine kP hK HS ?_
        clear hK K
        clear E_21 FM_21 BL_21 N1_21 N2_21 hbt
        clear hf2
        refine tU 3 HS ?_
        refine tU 4 HS ?_
        refine tU 5 HS ?_
        refine tU 6 HS ?_
        have HN := Zh (show Bx wt B1 40 (fcs s (exF 10)) ∧ Bx wt P 40 (fcs zfs zfv) ∧ Bx wt Q 57 (El.cells zprt) ∧ FlM wt (Off [P, Q, B1]) s2 zfv ∧ Below B w wt ∧ B1 < P ∧ B1 < Q ∧ P ≠ Q ∧ FlM wt (Off [P, Q, B1]) s (exF 10) from ⟨E_22, N1_22, N2_22, G_22.imp (Off.imp (by simp)), BL_22, nPe, nQe, by omega, FM_22.imp (Off.imp (by simp))⟩)
        clear E_22 FM_22 BL_22 N1_22 N2_22 G_22
        try clear HS
        try clear nPe
        try clear nPq
        try clear nQe
        try clear nQp
        revert HN
        revert wt
        revert P
        revert Q
        revert s2
        exact hP.out
      ·go_simp
       have E_23 := E_17.alloc (.cells (El.cells zprt).toArray 57)
       have FM_23 := (FM_17.later Zr).alloc (.cells (El.cells zprt).toArray 57)
       have BL_23 := BL_17.alloc (Zn zB (Zl E_17.lt)) (.cells (El.cells zprt).toArray 57)
       have N1_23 := N1_17.alloc (.cells (El.cells zprt).toArray 57)
       have N2_23 := Bx.new wz17 57 (El.cells zprt)
       have nQe_23 := E_17.lt
       have nQp_23 := N1_17.lt
       have HS := E_23
       refine kW hK (wz17.alloc (.cells (El.cells zprt).toArray 57)) HS ?_
       clear hK K HS
       clear E_17 FM_17 BL_17 N1_17
       obtain ⟨Q, hQ⟩ : ∃ P, wz17.heap.size = P := ⟨_, rfl⟩
       rw [hQ] at N2_23 nQe_23 nQp_23 FM_23 ⊢
       generalize wz17.alloc (.cells (El.cells zprt).toArray 57) = wz23 at E_23 FM_23 BL_23 N1_23 N2_23 ⊢
       clear hQ
       have nQe := nQe_23
       clear nQe_23
       have nQp := nQp_23
       clear nQp_23
       have HS := E_23
       refine tO 1 (fun K hK => ?_)
       go_simp
       refine (flsome_any _).mono ?_
       rintro e ws ⟨rfl, hbs⟩
       have E_24 := E_23.kept hbs
       have FM_24 := FM_23.keep hbs
       have BL_24 := BL_23.trans (hbs.mono (Zn zB (Zl E_23.lt)))
       have N1_24 := N1_23.kept hbs
       have N2_24 := N2_23.kept hbs
       have HS := E_24
       refine kP hK HS ?_
       clear hK K
       clear E_23 FM_23 BL_23 N1_23 N2_23 hbs
       refine tO 2 (fun K hK => ?_)
       go_simp
       refine (flsend_any (Off [Q, P, B1]) s (exF 10) someC 1000 100 0 _ (off_new (by intro x hx; simp only [List.mem_cons, List.mem_nil_iff, or_false] at hx; rcases hx with hx | hx | hx <;> rw [hx] <;> first | exact N2_24.lt | exact N1_24.lt | exact E_24.lt)) FM_24 HCW.out (by unfold i64; omega) (by unfold i64; omega) (by unfold i64; omega)).mono ?_
       rintro e wt ⟨s2, he, hf2, hbt⟩
       rw [HRS.out] at he hf2
       dsimp only at he hf2
       subst he
       have E_25 := E_24.kept hbt
       have FM_25 := FM_24.keep hbt
       have BL_25 := BL_24.trans (hbt.mono (Zn zB (Zl E_24.lt)))
       have N1_25 := N1_24.kept hbt
       have N2_25 := N2_24.kept hbt
       have G_25 := hf2
       have HS := E_25
       refine kP hK HS ?_
       clear hK K
       clear E_24 FM_24 BL_24 N1_24 N2_24 hbt
       clear hf2
       refine tU 3 HS ?_
       refine tU 4 HS ?_
       refine tU 5 HS ?_
       refine tU 6 HS ?_
       have HN := Zh (show Bx wt B1 40 (fcs s (exF 10)) ∧ Bx wt P 40 (fcs zfs zfv) ∧ Bx wt Q 57 (El.cells zprt) ∧ FlM wt (Off [P, Q, B1]) s2 zfv ∧ Below B w wt ∧ B1 < P ∧ B1 < Q ∧ P ≠ Q ∧ FlM wt (Off [P, Q, B1]) s (exF 10) from ⟨E_25, N1_25, N2_25, G_25.imp (Off.imp (by simp)), BL_25, nPe, nQe, by omega, FM_25.imp (Off.imp (by simp))⟩)
       clear E_25 FM_25 BL_25 N1_25 N2_25 G_25
       try clear HS
       try clear nPe
       try clear nPq
       try clear nQe
       try clear nQp
       revert HN
       revert wt
       revert P
       revert Q
       revert s2
       exact hP.out
     ·go_simp
      have E_26 := e_0.alloc (.cells (El.cells zprt).toArray 57)
      have FM_26 := (f_0.later Zr).alloc (.cells (El.cells zprt).toArray 57)
      have BL_26 := b_0.alloc (Zn zB (Zl e_0.lt)) (.cells (El.cells zprt).toArray 57)
      have N2_26 := Bx.new wd 57 (El.cells zprt)
      have nQe_26 := e_0.lt
      have HS := E_26
      refine kW hK (wd.alloc (.cells (El.cells zprt).toArray 57)) HS ?_
      clear hK K HS
      clear e_0 f_0 b_0
      obtain ⟨Q, hQ⟩ : ∃ P, wd.heap.size = P := ⟨_, rfl⟩
      rw [hQ] at N2_26 nQe_26 FM_26 ⊢
      generalize wd.alloc (.cells (El.cells zprt).toArray 57) = wz26 at E_26 FM_26 BL_26 N2_26 ⊢
      clear hQ
      have nQe := nQe_26
      clear nQe_26
      have HS := E_26
      refine wpAnyT_two (k1 := 1) (k2 := 7) rfl rfl (by kernel_rfl) (by decide) (by decide) (fun K hK => ?_) (fun K hK => ?_)
      ·go_simp
       refine (flsome_any _).mono ?_
       rintro e ws ⟨rfl, hbs⟩
       have E_27 := E_26.kept hbs
       have FM_27 := FM_26.keep hbs
       have BL_27 := BL_26.trans (hbs.mono (Zn zB (Zl E_26.lt)))
       have N2_27 := N2_26.kept hbs
       have HS := E_27
       refine kP hK HS ?_
       clear hK K
       clear E_26 FM_26 BL_26 N2_26 hbs
       refine wpAnyT_two (k1 := 2) (k2 := 7) rfl rfl (by kernel_rfl) (by decide) (by decide) (fun K hK => ?_) (fun K hK => ?_)
       ·go_simp
        refine (flsend_any (Off [Q, B1]) s (exF 10) someC 1000 100 0 _ (off_new (by intro x hx; simp only [List.mem_cons, List.mem_nil_iff, or_false] at hx; rcases hx with hx | hx <;> rw [hx] <;> first | exact N2_27.lt | exact E_27.lt)) FM_27 HCW.out (by unfold i64; omega) (by unfold i64; omega) (by unfold i64; omega)).mono ?_
        rintro e wt ⟨s2, he, hf2, hbt⟩
        rw [HRS.out] at he hf2
        dsimp only at he hf2
        subst he
        have E_28 := E_27.kept hbt
        have FM_28 := FM_27.keep hbt
        have BL_28 := BL_27.trans (hbt.mono (Zn zB (Zl E_27.lt)))
        have N2_28 := N2_27.kept hbt
        have G_28 := hf2
        have HS := E_28
        refine kP hK HS ?_
        clear hK K
        clear E_27 FM_27 BL_27 N2_27 hbt
        clear hf2
        refine tU 3 HS ?_
        refine tU 4 HS ?_
        refine tU 5 HS ?_
        refine tU 6 HS ?_
        refine tO 7 (fun K hK => ?_)
        go_simp
        have E_29 := E_28.alloc (.cells (fcs zfs zfv).toArray 40)
        have FM_29 := (FM_28.later Zr).alloc (.cells (fcs zfs zfv).toArray 40)
        have BL_29 := BL_28.alloc (Zn zB (Zl E_28.lt)) (.cells (fcs zfs zfv).toArray 40)
        have N2_29 := N2_28.alloc (.cells (fcs zfs zfv).toArray 40)
        have G_29 := (G_28.later Zr).alloc (.cells (fcs zfs zfv).toArray 40)
        have N1_29 := Bx.new wt 40 (fcs zfs zfv)
        have nPe_29 := E_28.lt
        have nPq_29 := N2_28.lt
        have HS := E_29
        refine kW hK (wt.alloc (.cells (fcs zfs zfv).toArray 40)) HS ?_
        clear hK K HS
        clear E_28 FM_28 BL_28 N2_28 G_28
        obtain ⟨P, hP⟩ : ∃ P, wt.heap.size = P := ⟨_, rfl⟩
        rw [hP] at N1_29 nPe_29 nPq_29 FM_29 G_29 ⊢
        generalize wt.alloc (.cells (fcs zfs zfv).toArray 40) = wz29 at E_29 FM_29 BL_29 N2_29 G_29 N1_29 ⊢
        clear hP
        have nPe := nPe_29
        clear nPe_29
        have nPq := nPq_29
        clear nPq_29
        have HS := E_29
        have HN := Zh (show Bx wz29 B1 40 (fcs s (exF 10)) ∧ Bx wz29 P 40 (fcs zfs zfv) ∧ Bx wz29 Q 57 (El.cells zprt) ∧ FlM wz29 (Off [P, Q, B1]) s2 zfv ∧ Below B w wz29 ∧ B1 < P ∧ B1 < Q ∧ P ≠ Q ∧ FlM wz29 (Off [P, Q, B1]) s (exF 10) from ⟨E_29, N1_29, N2_29, G_29.imp (Off.imp (by simp)), BL_29, nPe, nQe, by omega, FM_29.imp (Off.imp (by simp))⟩)
        clear E_29 FM_29 BL_29 N2_29 G_29 N1_29
        try clear HS
        try clear nPe
        try clear nPq
        try clear nQe
        try clear nQp
        revert HN
        revert wz29
        revert P
        revert Q
        revert s2
        exact hP.out
       ·go_simp
        have E_30 := E_27.alloc (.cells (fcs zfs zfv).toArray 40)
        have FM_30 := (FM_27.later Zr).alloc (.cells (fcs zfs zfv).toArray 40)
        have BL_30 := BL_27.alloc (Zn zB (Zl E_27.lt)) (.cells (fcs zfs zfv).toArray 40)
        have N2_30 := N2_27.alloc (.cells (fcs zfs zfv).toArray 40)
        have N1_30 := Bx.new ws 40 (fcs zfs zfv)
        have nPe_30 := E_27.lt
        have nPq_30 := N2_27.lt
        have HS := E_30
        refine kW hK (ws.alloc (.cells (fcs zfs zfv).toArray 40)) HS ?_
        clear hK K HS
        clear E_27 FM_27 BL_27 N2_27
        obtain ⟨P, hP⟩ : ∃ P, ws.heap.size = P := ⟨_, rfl⟩
        rw [hP] at N1_30 nPe_30 nPq_30 FM_30 ⊢
        generalize ws.alloc (.cells (fcs zfs zfv).toArray 40) = wz30 at E_30 FM_30 BL_30 N2_30 N1_30 ⊢
        clear hP
        have nPe := nPe_30
        clear nPe_30
        have nPq := nPq_30
        clear nPq_30
        have HS := E_30
        refine tO 2 (fun K hK => ?_)
        go_simp
        refine (flsend_any (Off [P, Q, B1]) s (exF 10) someC 1000 100 0 _ (off_new (by intro x hx; simp only [List.mem_cons, List.mem_nil_iff, or_false] at hx; rcases hx with hx | hx | hx <;> rw [hx] <;> first | exact N1_30.lt | exact N2_30.lt | exact E_30.lt)) FM_30 HCW.out (by unfold i64; omega) (by unfold i64; omega) (by unfold i64; omega)).mono ?_
        rintro e wt ⟨s2, he, hf2, hbt⟩
        rw [HRS.out] at he hf2
        dsimp only at he hf2
        subst he
        have E_31 := E_30.kept hbt
        have FM_31 := FM_30.keep hbt
        have BL_31 := BL_30.trans (hbt.mono (Zn zB (Zl E_30.lt)))
        have N2_31 := N2_30.kept hbt
        have N1_31 := N1_30.kept hbt
        have G_31 := hf2
        have HS := E_31
        refine kP hK HS ?_
        clear hK K
        clear E_30 FM_30 BL_30 N2_30 N1_30 hbt
        clear hf2
        refine tU 3 HS ?_
        refine tU 4 HS ?_
        refine tU 5 HS ?_
        refine tU 6 HS ?_
        have HN := Zh (show Bx wt B1 40 (fcs s (exF 10)) ∧ Bx wt P 40 (fcs zfs zfv) ∧ Bx wt Q 57 (El.cells zprt) ∧ FlM wt (Off [P, Q, B1]) s2 zfv ∧ Below B w wt ∧ B1 < P ∧ B1 < Q ∧ P ≠ Q ∧ FlM wt (Off [P, Q, B1]) s (exF 10) from ⟨E_31, N1_31, N2_31, G_31.imp (Off.imp (by simp)), BL_31, nPe, nQe, by omega, FM_31.imp (Off.imp (by simp))⟩)
        clear E_31 FM_31 BL_31 N2_31 N1_31 G_31
        try clear HS
        try clear nPe
        try clear nPq
        try clear nQe
        try clear nQp
        revert HN
        revert wt
        revert P
        revert Q
        revert s2
        exact hP.out
      ·go_simp
       have E_32 := E_26.alloc (.cells (fcs zfs zfv).toArray 40)
       have FM_32 := (FM_26.later Zr).alloc (.cells (fcs zfs zfv).toArray 40)
       have BL_32 := BL_26.alloc (Zn zB (Zl E_26.lt)) (.cells (fcs zfs zfv).toArray 40)
       have N2_32 := N2_26.alloc (.cells (fcs zfs zfv).toArray 40)
       have N1_32 := Bx.new wz26 40 (fcs zfs zfv)
       have nPe_32 := E_26.lt
       have nPq_32 := N2_26.lt
       have HS := E_32
       refine kW hK (wz26.alloc (.cells (fcs zfs zfv).toArray 40)) HS ?_
       clear hK K HS
       clear E_26 FM_26 BL_26 N2_26
       obtain ⟨P, hP⟩ : ∃ P, wz26.heap.size = P := ⟨_, rfl⟩
       rw [hP] at N1_32 nPe_32 nPq_32 FM_32 ⊢
       generalize wz26.alloc (.cells (fcs zfs zfv).toArray 40) = wz32 at E_32 FM_32 BL_32 N2_32 N1_32 ⊢
       clear hP
       have nPe := nPe_32
       clear nPe_32
       have nPq := nPq_32
       clear nPq_32
       have HS := E_32
       refine tO 1 (fun K hK => ?_)
       go_simp
       refine (flsome_any _).mono ?_
       rintro e ws ⟨rfl, hbs⟩
       have E_33 := E_32.kept hbs
       have FM_33 := FM_32.keep hbs
       have BL_33 := BL_32.trans (hbs.mono (Zn zB (Zl E_32.lt)))
       have N2_33 := N2_32.kept hbs
       have N1_33 := N1_32.kept hbs
       have HS := E_33
       refine kP hK HS ?_
       clear hK K
       clear E_32 FM_32 BL_32 N2_32 N1_32 hbs
       refine tO 2 (fun K hK => ?_)
       go_simp
       refine (flsend_any (Off [P, Q, B1]) s (exF 10) someC 1000 100 0 _ (off_new (by intro x hx; simp only [List.mem_cons, List.mem_nil_iff, or_false] at hx; rcases hx with hx | hx | hx <;> rw [hx] <;> first | exact N1_33.lt | exact N2_33.lt | exact E_33.lt)) FM_33 HCW.out (by unfold i64; omega) (by unfold i64; omega) (by unfold i64; omega)).mono ?_
       rintro e wt ⟨s2, he, hf2, hbt⟩
       rw [HRS.out] at he hf2
       dsimp only at he hf2
       subst he
       have E_34 := E_33.kept hbt
       have FM_34 := FM_33.keep hbt
       have BL_34 := BL_33.trans (hbt.mono (Zn zB (Zl E_33.lt)))
       have N2_34 := N2_33.kept hbt
       have N1_34 := N1_33.kept hbt
       have G_34 := hf2
       have HS := E_34
       refine kP hK HS ?_
       clear hK K
       clear E_33 FM_33 BL_33 N2_33 N1_33 hbt
       clear hf2
       refine tU 3 HS ?_
       refine tU 4 HS ?_
       refine tU 5 HS ?_
       refine tU 6 HS ?_
       have HN := Zh (show Bx wt B1 40 (fcs s (exF 10)) ∧ Bx wt P 40 (fcs zfs zfv) ∧ Bx wt Q 57 (El.cells zprt) ∧ FlM wt (Off [P, Q, B1]) s2 zfv ∧ Below B w wt ∧ B1 < P ∧ B1 < Q ∧ P ≠ Q ∧ FlM wt (Off [P, Q, B1]) s (exF 10) from ⟨E_34, N1_34, N2_34, G_34.imp (Off.imp (by simp)), BL_34, nPe, nQe, by omega, FM_34.imp (Off.imp (by simp))⟩)
       clear E_34 FM_34 BL_34 N2_34 N1_34 G_34
       try clear HS
       try clear nPe
       try clear nPq
       try clear nQe
       try clear nQp
       revert HN
       revert wt
       revert P
       revert Q
       revert s2
       exact hP.out
    intro s2 Q P wz HN
    obtain ⟨E_, N1_, N2_, G_, BL_, nPe, nQe, nPQ, FM_⟩ := HN.out
    clear HN
    have HS := E_
    refine tO 9 (fun K hK => ?_)
    rw [if_pos (by rfl)]
    refine wp_store_row 40 (.tmp 7) (.tmp 45) rfl P (fcs s2 zfv).toArray (by rfl) (by rfl) 40 _ N1_ (by rw [info_fl]; rfl) (by rfl) (by have h : (fcs s2 zfv).all (·.oneCell') = true := rfl; simpa using h) ?_
    have g1 := fl_grown wz P (fcs s2 zfv).toArray
    have E1 := E_.grown g1 (fun e => by cases e; omega)
    have M1 := fl_put N1_ (fcs s2 zfv)
    have Q1 := N2_.grown g1 (fun e => by cases e; omega)
    have F1 := FM_.grown g1 (off_row (by simp))
    have G1 := G_.grown g1 (off_row (by simp))
    have L1 := BL_.grown g1 (Zn zB (Zl E_.lt)) (fun k hk => by cases hk; omega)
    have HS := E1
    refine kP hK HS ?_
    clear hK K
    generalize wz.setRow P (fcs s2 zfv).toArray = wu at E1 M1 Q1 F1 G1 L1 HS ⊢
    refine tO 10 (fun K hK => ?_)
    rw [if_pos (by rfl)]
    refine wp_store_row 57 (.tmp 8) (.tmp 46) rfl Q (El.cells zprt).toArray (by rfl) (by rfl) 57 _ Q1 (by rw [info_fp]; rfl) (by rfl) (by have h : (El.cells zprt).all (·.oneCell') = true := rfl; simpa using h) ?_
    have g2 := fp_grown wu Q (El.cells zprt).toArray
    have E2 := E1.grown g2 (fun e => by cases e; omega)
    have M2 := M1.grown g2 (fun e => by cases e; omega)
    have Q2 := fp_put Q1 (El.cells zprt)
    have F2 := F1.grown g2 (off_row (by simp))
    have G2 := G1.grown g2 (off_row (by simp))
    have L2 := L1.grown g2 (Zn zB (Zl E1.lt)) (fun k hk => by cases hk; omega)
    have HS := E2
    refine kP hK HS ?_
    clear hK K HS
    generalize wu.setRow Q (El.cells zprt).toArray = wv at E2 M2 Q2 F2 G2 L2 ⊢
    refine ⟨by kernel_rfl, ?_⟩
    simp only [List.drop_succ_cons, List.drop_zero]
    go_wp2_with fail
    go_meet
    case rel => exact ⟨P, Q, s2, rfl, rfl, rfl, Zh ⟨E2, F2.imp (Off.imp (by simp)), L2⟩⟩
   case rest =>
    obtain ⟨P, Q, s2, rfl, rfl, rfl, HH⟩ := hcut
    obtain ⟨E, FM, BB⟩ := HH.out
    clear HH er fr br HRS
    have HRS := Zh ex_heard2
    have htw : TvW exT := ⟨by unfold i64; show _ ∧ _; decide, by unfold i64; show _ ∧ _; decide, by decide, by decide, by unfold i64; show _ ∧ _; decide, by unfold i64; show _ ∧ _; decide⟩
    have HTW := Zh htw; clear htw
    go_upto_region 10 with fail
    go_cut [10, 11, 12] (fun s10 s11 s12 wx => ∃ (P : Nat) (s2 : Fs) (RA : Option Addr) (rn rc : Nat), s10 = .pointer (some ⟨P, 0, none⟩) ∧ s11 = .slice RA rn rc ∧ s12 = .int .i64 0 ∧ Hid (rn = 3 ∧ Bx wx P 40 (fcs s2 exG) ∧ FlM wx (Off []) s2 exG ∧ Below B w wx ∧ B ≤ P))
    case first =>
     refine tB 11 12 (fun (W : World) => Bx W B1 40 (fcs s (exF 10))) E.drew (fun HS => ?_)
     have e_0 := E.drew; have f_0 := FM.drew; have b_0 := BB.drew
     generalize wc.drew = wd at HS e_0 f_0 b_0 ⊢
     refine tS 0 rfl (fl_yields (by rfl) (.tmp 1) rfl rfl (fcs s (exF 10)) rfl 40 (fun W hW => hW)) HS ?_
     refine wpAnyT_take (i := 2) (v := .agg (tcs none 0 0 exT).toArray) rfl (by kernel_rfl) (fun _ _ _ h => h) (Or.inl ⟨by rfl, fun w hSw => by go_simp; rfl⟩) HS ?_
     try simp only [Act.put, List.setIfInBounds_toArray, List.set_cons_zero, List.set_cons_succ]
     refine wpAnyT_two (k1 := 1) (k2 := 8) rfl rfl (by kernel_rfl) (by decide) (by decide) (fun K hK => ?_) (fun K hK => ?_)
     ·go_simp
      refine (flsome_any _).mono ?_
      rintro e ws ⟨rfl, hbs⟩
      have E_1 := e_0.kept hbs
      have FM_1 := f_0.keep hbs
      have BL_1 := b_0.trans (hbs.mono (Zn zB (Zl e_0.lt)))
      have HS := E_1
      refine kP hK HS ?_
      clear hK K
      clear e_0 f_0 b_0 hbs
      refine wpAnyT_two (k1 := 3) (k2 := 8) rfl rfl (by kernel_rfl) (by decide) (by decide) (fun K hK => ?_) (fun K hK => ?_)
      ·go_simp
       refine (flheard_any (Off [B1]) s (exF 10) someC none 0 0 exT _ (off_new (by intro x hx; simp only [List.mem_cons, List.mem_nil_iff, or_false] at hx; rw [hx]; exact E_1.lt)) FM_1 HCW.out HTW.out (Ss.none _) (by omega)).mono ?_
       rintro e wt ⟨s2, RA, rn, rc, he, hf2, hts, hti, hbt⟩
       rw [HRS.out] at he hf2 hts
       dsimp only at he hf2 hts
       subst he
       have E_2 := E_1.kept hbt
       have FM_2 := FM_1.keep hbt
       have BL_2 := BL_1.trans (hbt.mono (Zn zB (Zl E_1.lt)))
       have G_2 := hf2
       have TS_2 := hts
       have HS := E_2
       refine kP hK HS ?_
       clear hK K
       clear E_1 FM_1 BL_1 hbt
       clear hf2
       clear hts
       refine tU 4 HS ?_
       refine tU 5 HS ?_
       refine tU 6 HS ?_
       refine tU 7 HS ?_
       refine tO 8 (fun K hK => ?_)
       go_simp
       have E_3 := E_2.alloc (.cells (fcs zfs zfv).toArray 40)
       have FM_3 := (FM_2.later Zr).alloc (.cells (fcs zfs zfv).toArray 40)
       have BL_3 := BL_2.alloc (Zn zB (Zl E_2.lt)) (.cells (fcs zfs zfv).toArray 40)
       have G_3 := (G_2.later Zr).alloc (.cells (fcs zfs zfv).toArray 40)
       have TS_3 := TS_2.alloc (.cells (fcs zfs zfv).toArray 40)
       have N1_3 := Bx.new wt 40 (fcs zfs zfv)
       have nPe_3 := E_2.lt
       have HS := E_3
       refine kW hK (wt.alloc (.cells (fcs zfs zfv).toArray 40)) HS ?_
       clear hK K HS
       clear E_2 FM_2 BL_2 G_2 TS_2
       obtain ⟨P, hP⟩ : ∃ P, wt.heap.size = P := ⟨_, rfl⟩
       rw [hP] at N1_3 nPe_3 FM_3 G_3 ⊢
       generalize wt.alloc (.cells (fcs zfs zfv).toArray 40) = wz3 at E_3 FM_3 BL_3 G_3 TS_3 N1_3 ⊢
       clear hP
       have nPe := nPe_3
       clear nPe_3
       have HS := E_3
       refine tO 9 (fun K hK => ?_)
       rw [if_pos (by rfl)]
       refine wp_store_row 40 (.tmp 10) (.tmp 53) rfl P (fcs s2 exG).toArray (by rfl) (by rfl) 40 _ N1_3 (by rw [info_fl]; rfl) (by rfl) (by have h : (fcs s2 exG).all (·.oneCell') = true := rfl; simpa using h) ?_
       have g1 := fl_grown wz3 P (fcs s2 exG).toArray
       have E1 := E_3.grown g1 (fun e => by cases e; omega)
       have M1 := fl_put N1_3 (fcs s2 exG)
       have T1 := TS_3.rd.len
       have G1 := G_3.grown g1 (off_row (by simp))
       have L1 := BL_3.grown g1 (Zn zB (Zl E_3.lt)) (fun k hk => by cases hk; omega)
       have HS := E1
       refine kP hK HS ?_
       clear hK K
       generalize wz3.setRow P (fcs s2 exG).toArray = wu at E1 M1 G1 L1 HS ⊢
       refine tO 10 (fun K hK => ?_)
       go_simp
       refine kP hK HS ?_
       clear hK K HS
       refine ⟨by kernel_rfl, ?_⟩
       simp only [List.drop_succ_cons, List.drop_zero]
       go_wp2_with fail
       go_meet
       case rel => exact ⟨P, s2, RA, rn, rc, rfl, rfl, rfl, Zh ⟨by rw [← T1]; exact ex_heard.2, M1, G1.imp (Off.imp (by simp)), L1, by omega⟩⟩
      ·go_simp
       have E_4 := E_1.alloc (.cells (fcs zfs zfv).toArray 40)
       have FM_4 := (FM_1.later Zr).alloc (.cells (fcs zfs zfv).toArray 40)
       have BL_4 := BL_1.alloc (Zn zB (Zl E_1.lt)) (.cells (fcs zfs zfv).toArray 40)
       have N1_4 := Bx.new ws 40 (fcs zfs zfv)
       have nPe_4 := E_1.lt
       have HS := E_4
       refine kW hK (ws.alloc (.cells (fcs zfs zfv).toArray 40)) HS ?_
       clear hK K HS
       clear E_1 FM_1 BL_1
       obtain ⟨P, hP⟩ : ∃ P, ws.heap.size = P := ⟨_, rfl⟩
       rw [hP] at N1_4 nPe_4 FM_4 ⊢
       generalize ws.alloc (.cells (fcs zfs zfv).toArray 40) = wz4 at E_4 FM_4 BL_4 N1_4 ⊢
       clear hP
       have nPe := nPe_4
       clear nPe_4
       have HS := E_4
       refine tO 3 (fun K hK => ?_)
       go_simp
       refine (flheard_any (Off [P, B1]) s (exF 10) someC none 0 0 exT _ (off_new (by intro x hx; simp only [List.mem_cons, List.mem_nil_iff, or_false] at hx; rcases hx with hx | hx <;> rw [hx] <;> first | exact N1_4.lt | exact E_4.lt)) FM_4 HCW.out HTW.out (Ss.none _) (by omega)).mono ?_
       rintro e wt ⟨s2, RA, rn, rc, he, hf2, hts, hti, hbt⟩
       rw [HRS.out] at he hf2 hts
       dsimp only at he hf2 hts
       subst he
       have E_5 := E_4.kept hbt
       have FM_5 := FM_4.keep hbt
       have BL_5 := BL_4.trans (hbt.mono (Zn zB (Zl E_4.lt)))
       have N1_5 := N1_4.kept hbt
       have G_5 := hf2
       have TS_5 := hts
       have HS := E_5
       refine kP hK HS ?_
       clear hK K
       clear E_4 FM_4 BL_4 N1_4 hbt
       clear hf2
       clear hts
       refine tU 4 HS ?_
       refine tU 5 HS ?_
       refine tU 6 HS ?_
       refine tU 7 HS ?_
       refine tO 9 (fun K hK => ?_)
       rw [if_pos (by rfl)]
       refine wp_store_row 40 (.tmp 10) (.tmp 53) rfl P (fcs s2 exG).toArray (by rfl) (by rfl) 40 _ N1_5 (by rw [info_fl]; rfl) (by rfl) (by have h : (fcs s2 exG).all (·.oneCell') = true := rfl; simpa using h) ?_
       have g1 := fl_grown wt P (fcs s2 exG).toArray
       have E1 := E_5.grown g1 (fun e => by cases e; omega)
       have M1 := fl_put N1_5 (fcs s2 exG)
       have T1 := TS_5.rd.len
       have G1 := G_5.grown g1 (off_row (by simp))
       have L1 := BL_5.grown g1 (Zn zB (Zl E_5.lt)) (fun k hk => by cases hk; omega)
       have HS := E1
       refine kP hK HS ?_
       clear hK K
       generalize wt.setRow P (fcs s2 exG).toArray = wu at E1 M1 G1 L1 HS ⊢
       refine tO 10 (fun K hK => ?_)
       go_simp
       refine kP hK HS ?_
       clear hK K HS
       refine ⟨by kernel_rfl, ?_⟩
       simp only [List.drop_succ_cons, List.drop_zero]
       go_wp2_with fail
       go_meet
       case rel => exact ⟨P, s2, RA, rn, rc, rfl, rfl, rfl, Zh ⟨by rw [← T1]; exact ex_heard.2, M1, G1.imp (Off.imp (by simp)), L1, by omega⟩⟩
     ·go_simp
      have E_6 := e_0.alloc (.cells (fcs zfs zfv).toArray 40)
      have FM_6 := (f_0.later Zr).alloc (.cells (fcs zfs zfv).toArray 40)
      have BL_6 := b_0.alloc (Zn zB (Zl e_0.lt)) (.cells (fcs zfs zfv).toArray 40)
      have N1_6 := Bx.new wd 40 (fcs zfs zfv)
      have nPe_6 := e_0.lt
      have HS := E_6
      refine kW hK (wd.alloc (.cells (fcs zfs zfv).toArray 40)) HS ?_
      clear hK K HS
      clear e_0 f_0 b_0
      obtain ⟨P, hP⟩ : ∃ P, wd.heap.size = P := ⟨_, rfl⟩
      rw [hP] at N1_6 nPe_6 FM_6 ⊢
      generalize wd.alloc (.cells (fcs zfs zfv).toArray 40) = wz6 at E_6 FM_6 BL_6 N1_6 ⊢
      clear hP
      have nPe := nPe_6
      clear nPe_6
      have HS := E_6
      refine tO 1 (fun K hK => ?_)
      go_simp
      refine (flsome_any _).mono ?_
      rintro e ws ⟨rfl, hbs⟩
      have E_7 := E_6.kept hbs
      have FM_7 := FM_6.keep hbs
      have BL_7 := BL_6.trans (hbs.mono (Zn zB (Zl E_6.lt)))
      have N1_7 := N1_6.kept hbs
      have HS := E_7
      refine kP hK HS ?_
      clear hK K
      clear E_6 FM_6 BL_6 N1_6 hbs
      refine tO 3 (fun K hK => ?_)
      go_simp
      refine (flheard_any (Off [P, B1]) s (exF 10) someC none 0 0 exT _ (off_new (by intro x hx; simp only [List.mem_cons, List.mem_nil_iff, or_false] at hx; rcases hx with hx | hx <;> rw [hx] <;> first | exact N1_7.lt | exact E_7.lt)) FM_7 HCW.out HTW.out (Ss.none _) (by omega)).mono ?_
      rintro e wt ⟨s2, RA, rn, rc, he, hf2, hts, hti, hbt⟩
      rw [HRS.out] at he hf2 hts
      dsimp only at he hf2 hts
      subst he
      have E_8 := E_7.kept hbt
      have FM_8 := FM_7.keep hbt
      have BL_8 := BL_7.trans (hbt.mono (Zn zB (Zl E_7.lt)))
      have N1_8 := N1_7.kept hbt
      have G_8 := hf2
      have TS_8 := hts
      have HS := E_8
      refine kP hK HS ?_
      clear hK K
      clear E_7 FM_7 BL_7 N1_7 hbt
      clear hf2
      clear hts
      refine tU 4 HS ?_
      refine tU 5 HS ?_
      refine tU 6 HS ?_
      refine tU 7 HS ?_
      refine tO 9 (fun K hK => ?_)
      rw [if_pos (by rfl)]
      refine wp_store_row 40 (.tmp 10) (.tmp 53) rfl P (fcs s2 exG).toArray (by rfl) (by rfl) 40 _ N1_8 (by rw [info_fl]; rfl) (by rfl) (by have h : (fcs s2 exG).all (·.oneCell') = true := rfl; simpa using h) ?_
      have g1 := fl_grown wt P (fcs s2 exG).toArray
      have E1 := E_8.grown g1 (fun e => by cases e; omega)
      have M1 := fl_put N1_8 (fcs s2 exG)
      have T1 := TS_8.rd.len
      have G1 := G_8.grown g1 (off_row (by simp))
      have L1 := BL_8.grown g1 (Zn zB (Zl E_8.lt)) (fun k hk => by cases hk; omega)
      have HS := E1
      refine kP hK HS ?_
      clear hK K
      generalize wt.setRow P (fcs s2 exG).toArray = wu at E1 M1 G1 L1 HS ⊢
      refine tO 10 (fun K hK => ?_)
      go_simp
      refine kP hK HS ?_
      clear hK K HS
      refine ⟨by kernel_rfl, ?_⟩
      simp only [List.drop_succ_cons, List.drop_zero]
      go_wp2_with fail
      go_meet
      case rel => exact ⟨P, s2, RA, rn, rc, rfl, rfl, rfl, Zh ⟨by rw [← T1]; exact ex_heard.2, M1, G1.imp (Off.imp (by simp)), L1, by omega⟩⟩
    case rest =>
     obtain ⟨P, s2, RA, rn, rc, rfl, rfl, rfl, HH⟩ := hcut
     obtain ⟨hrn, M, G, BL, hBP⟩ := HH.out
     subst hrn
     clear HH E FM BB
     have hend := ex_end
     have HEND := Zh hend; clear hend
     go_upto_region 11 with fail
     refine tB 32 33 (fun (W : World) => Bx W P 40 (fcs s2 exG) ∧ FlM W (Off []) s2 exG ∧ Below B w W ∧ W.cell? ⟨P, 1, none⟩ = some (.slice s2.a1 s2.n1 s2.c1) ∧ W.cell? ⟨P, 4, none⟩ = some (.int .i64 5000)) ⟨M.drew, G.drew, BL.drew, M.drew.cell 1 rfl, (M.drew.cell 4 rfl).trans (by show some (Value.int .i64 exG.r.srtt) = _; rw [HEND.out.2.1])⟩ (fun HS => ?_)
     refine tU 0 HS ?_
     refine tU 1 HS ?_
     refine tU 2 HS ?_
     refine tU 3 HS ?_
     refine tU 4 HS ?_
     refine tU 5 HS ?_
     refine tU 6 HS ?_
     refine tU 7 HS ?_
     refine tU 8 HS ?_
     refine tU 9 HS ?_
     refine tU 10 HS ?_
     refine tU 11 HS ?_
     refine tU 12 HS ?_
     refine tU 13 HS ?_
     refine tU 14 HS ?_
     refine tU 15 HS ?_
     refine tU 16 HS ?_
     refine tU 17 HS ?_
     refine tO 18 (fun K hK => ?_)
     go_simp
     refine (stflight_any s2.a1 s2.n1 s2.c1 exG.l _ HS.2.1.l).mono ?_
     rw [HEND.out.1]
     rintro e wv ⟨rfl, hbv⟩
     have HS : (fun (W : World) => Bx W P 40 (fcs s2 exG) ∧ FlM W (Off []) s2 exG ∧ Below B w W ∧ W.cell? ⟨P, 1, none⟩ = some (.slice s2.a1 s2.n1 s2.c1) ∧ W.cell? ⟨P, 4, none⟩ = some (.int .i64 5000)) _ := ⟨(HS.1.kept hbv), (HS.2.1.keep hbv), (HS.2.2.1.trans (hbv.mono (Zl (Nat.lt_of_le_of_lt hBP HS.1.lt)))), (HS.1.kept hbv).cell 1 rfl, ((HS.1.kept hbv).cell 4 rfl).trans (by show some (Value.int .i64 exG.r.srtt) = _; rw [HEND.out.2.1])⟩
     refine kP hK HS ?_
     clear hK K hbv
     refine tU 19 HS ?_
     refine tU 20 HS ?_
     refine tU 21 HS ?_
     refine tU 22 HS ?_
     refine tU 23 HS ?_
     refine tU 24 HS ?_
     refine tU 25 HS ?_
     refine tU 26 HS ?_
     refine tU 27 HS ?_
     refine tS 28 rfl (fl_yields (by rfl) (.tmp 10) rfl rfl (fcs s2 exG) rfl 40 (fun W hW => hW.1)) HS ?_
     refine tO 29 (fun K hK => ?_)
     go_simp
     refine (flsome_any _).mono ?_
     rintro e wv2 ⟨rfl, hbv⟩
     have HS : (fun (W : World) => Bx W P 40 (fcs s2 exG) ∧ FlM W (Off []) s2 exG ∧ Below B w W ∧ W.cell? ⟨P, 1, none⟩ = some (.slice s2.a1 s2.n1 s2.c1) ∧ W.cell? ⟨P, 4, none⟩ = some (.int .i64 5000)) _ := ⟨(HS.1.kept hbv), (HS.2.1.keep hbv), (HS.2.2.1.trans (hbv.mono (Zl (Nat.lt_of_le_of_lt hBP HS.1.lt)))), (HS.1.kept hbv).cell 1 rfl, ((HS.1.kept hbv).cell 4 rfl).trans (by show some (Value.int .i64 exG.r.srtt) = _; rw [HEND.out.2.1])⟩
     refine kP hK HS ?_
     clear hK K hbv
     refine tO 30 (fun K hK => ?_)
     go_simp
     refine (flmay_any (Off []) s2 exG someC _ HS.2.1 HCW.out).mono ?_
     rw [HEND.out.2.2]
     rintro e wv3 ⟨rfl, hbv⟩
     have HS : (fun (W : World) => Bx W P 40 (fcs s2 exG) ∧ FlM W (Off []) s2 exG ∧ Below B w W ∧ W.cell? ⟨P, 1, none⟩ = some (.slice s2.a1 s2.n1 s2.c1) ∧ W.cell? ⟨P, 4, none⟩ = some (.int .i64 5000)) _ := ⟨(HS.1.kept hbv), (HS.2.1.keep hbv), (HS.2.2.1.trans (hbv.mono (Zl (Nat.lt_of_le_of_lt hBP HS.1.lt)))), (HS.1.kept hbv).cell 1 rfl, ((HS.1.kept hbv).cell 4 rfl).trans (by show some (Value.int .i64 exG.r.srtt) = _; rw [HEND.out.2.1])⟩
     refine kP hK HS ?_
     clear hK K hbv
     refine tU 31 HS ?_
     refine ⟨by kernel_rfl, ?_⟩
     simp only [List.drop_succ_cons, List.drop_zero]
     have bx := HS.2.2.1
     go_wp2_with fail
     go_ret
     exact ⟨rfl, bx⟩
end Go.Proofs.YtbijhkhkigdddaaGreat
