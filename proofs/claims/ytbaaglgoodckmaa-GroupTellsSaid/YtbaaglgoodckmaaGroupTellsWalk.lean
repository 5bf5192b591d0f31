/- GroupTells: the walk. -/
import Derived.Test.YtbaaglgoodckmaaGrAwake
import Derived.Test.YtbaaglgoodckmaaTail2
import Derived.Deep.QuietTactic
import Derived.BigQuiet
import Derived.IntWalk
import Derived.Deep.AppendLies
import Derived.OrdersHeld
import Derived.Deep.DeepCutAuto
namespace Go.Proofs.Ytbaaglgoodckmaa.groupTells
open Go.RowKit
set_option linter.unusedVariables false
set_option linter.unusedSimpArgs false

set_option maxRecDepth 100000 in
set_option maxHeartbeats 16000000 in
theorem walk (A : Option Addr) (n c : Nat) (Ls : List (List Int)) (dl : Int) (w : World) (hs : Ll w A n c Ls) :
    Calls Try.prog 3 #[.slice A n c, .int .i64 dl] w fun e w' => e = .returned (.bool true) ∧ Below w.heap.size w w' := by
  obtain ⟨B, hB⟩ : ∃ B, w.heap.size = B := ⟨_, rfl⟩
  rw [hB]
  have HB := Lib.hid hB
  have m3 := hs.n9
  have HS := Lib.hid hs
  clear hs hB
  go_enter Try.func3, Try.ntmps3
  go_wp2_with fail
  refine (grawake_any _).mono ?_
  rintro e w2 ⟨rfl, b2⟩
  rw [HB.out] at b2
  have z2 : B ≤ w2.heap.size := by have := b2.size; rw [HB.out] at this; exact this
  have s2 : Ll w2 A n c Ls := HS.out.keep (by rw [HB.out]; exact b2)
  go_wp2_with fail
  refine (few_any A n c Ls _ s2).mono ?_
  rintro e w3 ⟨⟨sm, rfl, hsm⟩, rfl⟩
  have HSM := Lib.hid hsm; clear hsm
  cases sm with
  | false =>
    go_wp2_with fail
    go_ret
    exact ⟨rfl, b2⟩
  | true =>
  obtain ⟨hn20, hn40⟩ := HSM.out rfl
  have HN40 := Lib.hid hn40
  clear hn40 HSM
  go_wp2_with fail
  go_loopw [7] (fun i wr => ∃ k : Nat, k ≤ n ∧ i = .int .i64 (k : Int) ∧ Below B w wr) (fun i _ => n - (intOf i).toNat)
  case atStart => exact ⟨0, Nat.zero_le _, rfl, b2⟩
  case round =>
    obtain ⟨i, hi, rfl, br⟩ := hrel
    clear s2 b2 z2
    have zr : B ≤ wr.heap.size := by have := br.size; have := HB.out; omega
    have sr : Ll wr A n c Ls := HS.out.keep (by rw [HB.out]; exact br)
    by_cases hlt : i < n
    · have dlt : decide (i < n) = true := decide_eq_true hlt
      obtain ⟨bb, o, hA, hbl0, hc0⟩ := HS.out.at_ (by omega)
      have hbB : bb < B := by have := HB.out; omega
      subst hA
      have HS0 := Lib.hid HS.out
      obtain ⟨bb', o', hA', hbl, hc⟩ := sr.at_ (by omega)
      cases hA'
      obtain ⟨R1, m1, d1, c110, s110⟩ := hc i hlt
      have b10 := br; have z10 := zr
      obtain ⟨ad, had⟩ : ∃ a, addG (li Ls i) dl = a := ⟨_, rfl⟩
      obtain ⟨al, ae⟩ := ad
      have HAD := Lib.hid had
      clear had hc hc0 br sr zr hbl hbl0
      go_wp2_with fail
      refine (ggadd_any R1 m1 d1 (li Ls i) dl _ s110).mono ?_
      rintro e w11 ⟨R2, m2, d2, rfl, x11, hb11⟩
      have b11 := b10.trans (hb11.mono z10); have z11 : B ≤ w11.heap.size := Nat.le_trans z10 hb11.size
      have c111 := (hb11.cell (p := ⟨bb, o + i, none⟩) (Nat.lt_of_lt_of_le hbB z10)).trans c110
      have s111 := s110.keep hb11
      clear c110 s110 b10 hb11
      rw [HAD.out] at x11
      have dsm : True := trivial
      rw [HAD.out]
      go_wp2_with fail
      refine (rgadd_any R1 m1 d1 (li Ls i) dl _ s111).mono ?_
      rintro e w12 ⟨R3, m3', d3, rfl, hy12, hb12⟩
      have b12 := b11.trans (hb12.mono z11); have z12 : B ≤ w12.heap.size := Nat.le_trans z11 hb12.size
      have c112 := (hb12.cell (p := ⟨bb, o + i, none⟩) (Nat.lt_of_lt_of_le hbB z11)).trans c111
      have s112 := s111.keep hb12
      have x12 := x11.keep hb12
      clear c111 s111 x11 b11 hb12
      rw [HAD.out] at hy12
      rw [HAD.out]
      have y12 := hy12.si
      clear hy12
      go_wp2_with fail
      refine (ints_any _ _ _ _ _ _ _ _ _ x12 y12).mono ?_
      rintro e w13 ⟨rfl, hb13⟩
      have b13 := b12.trans (hb13.mono z12); have z13 : B ≤ w13.heap.size := Nat.le_trans z12 hb13.size
      have c113 := (hb13.cell (p := ⟨bb, o + i, none⟩) (Nat.lt_of_lt_of_le hbB z12)).trans c112
      have s113 := s112.keep hb13
      have x13 := x12.keep hb13
      have y13 := y12.keep hb13
      clear c112 s112 x12 y12 b12 hb13
      rw [decide_eq_true rfl]
      clear x13 y13
      obtain ⟨mv, hmv⟩ : ∃ v, mayG (li Ls i) = v := ⟨_, rfl⟩
      have HMV := Lib.hid hmv; clear hmv
      have hbJ : bb < w13.heap.size := Nat.lt_of_lt_of_le hbB z13
      have KS : ∀ W W', (fun (W : World) => Below w13.heap.size w13 W ∧ (W.cell? ⟨bb, o + i, none⟩ = some (.slice R1 m1 d1))) W → Below W.heap.size W W' → (fun (W : World) => Below w13.heap.size w13 W ∧ (W.cell? ⟨bb, o + i, none⟩ = some (.slice R1 m1 d1))) W' := fun W W' h hb => ⟨h.1.trans (hb.mono h.1.size), (hb.cell (p := ⟨bb, o + i, none⟩) (Nat.lt_of_lt_of_le hbJ h.1.size)).trans h.2⟩
      have dd : Below w13.heap.size w13 w13.drew := (Below.refl _ _).drew
      go_upto_region 11 with fail
      refine wp_region_tail 19 20 (fun (W : World) => Below w13.heap.size w13 W ∧ (W.cell? ⟨bb, o + i, none⟩ = some (.slice R1 m1 d1))) (by kernel_rfl) (by rfl) (by decide) ?_
      have HS : ((fun (W : World) => Below w13.heap.size w13 W ∧ (W.cell? ⟨bb, o + i, none⟩ = some (.slice R1 m1 d1)))) _ := ⟨dd, (dd.cell (p := ⟨bb, o + i, none⟩) hbJ).trans c113⟩
      refine wpAnyT_take (i := 0) (v := ?vv1) rfl (by kernel_rfl) (fun _ _ _ h => h) (Or.inl ⟨by rfl, fun w hSw => ?yy1⟩) HS ?rr1
      case yy1 =>
        (try dsimp only at hSw); go_simp
        try with_reducible rfl
      try simp only [Act.put, List.setIfInBounds_toArray, List.set_cons_zero, List.set_cons_succ]
      refine wpAnyT_take (i := 1) (v := .bool false) rfl (by kernel_rfl) (fun _ _ _ h => h) (Or.inl ⟨by rfl, fun w hSw => ?_⟩) HS ?_
      · (try dsimp only at hSw); go_simp
      try simp only [Act.put, List.setIfInBounds_toArray, List.set_cons_zero, List.set_cons_succ]
      refine wpAnyT_take (i := 2) (v := ?vv2) rfl (by kernel_rfl) (fun _ _ _ h => h) (Or.inl ⟨by rfl, fun w hSw => ?yy2⟩) HS ?rr2
      case yy2 =>
        (try dsimp only at hSw); go_simp
        try with_reducible rfl
      try simp only [Act.put, List.setIfInBounds_toArray, List.set_cons_zero, List.set_cons_succ]
      refine wpAnyT_take (i := 3) (v := ?vv3) rfl (by kernel_rfl) (fun _ _ _ h => h) (Or.inl ⟨by rfl, fun w hSw => ?yy3⟩) HS ?rr3
      case yy3 =>
        (try dsimp only at hSw); go_simp
        try with_reducible rfl
      try simp only [Act.put, List.setIfInBounds_toArray, List.set_cons_zero, List.set_cons_succ]
      refine wpAnyT_take (i := 4) (v := ?vv4) rfl (by kernel_rfl) (fun _ _ _ h => h) (Or.inl ⟨by rfl, fun w hSw => ?yy4⟩) HS ?rr4
      case yy4 =>
        (try dsimp only at hSw); go_simp
        try with_reducible rfl
      try simp only [Act.put, List.setIfInBounds_toArray, List.set_cons_zero, List.set_cons_succ]
      refine wpAnyT_take (i := 5) (v := .bool false) rfl (by kernel_rfl) (fun _ _ _ h => h) (Or.inl ⟨by rfl, fun w hSw => ?_⟩) HS ?_
      · (try dsimp only at hSw); go_simp
      try simp only [Act.put, List.setIfInBounds_toArray, List.set_cons_zero, List.set_cons_succ]
      refine wpAnyT_take (i := 6) (v := .bool false) rfl (by kernel_rfl) (fun _ _ _ h => h) (Or.inl ⟨by rfl, fun w hSw => ?_⟩) HS ?_
      · (try dsimp only at hSw); go_simp
      try simp only [Act.put, List.setIfInBounds_toArray, List.set_cons_zero, List.set_cons_succ]
      refine wpAnyT_take (i := 7) (v := ?vv5) rfl (by kernel_rfl) (fun _ _ _ h => h) (Or.inl ⟨by rfl, fun w hSw => ?yy5⟩) HS ?rr5
      case yy5 =>
        (try dsimp only at hSw); go_simp
        try with_reducible rfl
      try simp only [Act.put, List.setIfInBounds_toArray, List.set_cons_zero, List.set_cons_succ]
      refine wpAnyT_take (i := 8) (v := ?vv6) rfl (by kernel_rfl) (fun _ _ _ h => h) (Or.inl ⟨by rfl, fun w hSw => ?yy6⟩) HS ?rr6
      case yy6 =>
        (try dsimp only at hSw); go_simp
        try with_reducible rfl
      try simp only [Act.put, List.setIfInBounds_toArray, List.set_cons_zero, List.set_cons_succ]
      refine wpAnyT_take (i := 9) (v := ?vv7) rfl (by kernel_rfl) (fun _ _ _ h => h) (Or.inl ⟨by rfl, fun w hSw => ?yy7⟩) HS ?rr7
      case yy7 =>
        (try dsimp only at hSw); go_simp
        try with_reducible rfl
      try simp only [Act.put, List.setIfInBounds_toArray, List.set_cons_zero, List.set_cons_succ]
      refine wpAnyT_take (i := 10) (v := ?vv8) rfl (by kernel_rfl) (fun _ _ _ h => h) (Or.inl ⟨by rfl, fun w hSw => ?yy8⟩) HS ?rr8
      case yy8 =>
        (try dsimp only at hSw); go_simp
        try with_reducible rfl
      try simp only [Act.put, List.setIfInBounds_toArray, List.set_cons_zero, List.set_cons_succ]
      refine wpAnyT_take (i := 11) (v := ?vv9) rfl (by kernel_rfl) (fun _ _ _ h => h) (Or.inl ⟨by rfl, fun w hSw => ?yy9⟩) HS ?rr9
      case yy9 =>
        (try dsimp only at hSw); go_simp
        try with_reducible rfl
      try simp only [Act.put, List.setIfInBounds_toArray, List.set_cons_zero, List.set_cons_succ]
      refine wpAnyT_take (i := 13) (v := ?vv10) rfl (by kernel_rfl) (fun _ _ _ h => h) (Or.inl ⟨by rfl, fun w hSw => ?yy10⟩) HS ?rr10
      case yy10 =>
        (try dsimp only at hSw); go_simp
        try with_reducible rfl
      try simp only [Act.put, List.setIfInBounds_toArray, List.set_cons_zero, List.set_cons_succ]
      refine wpAnyT_take (i := 14) (v := ?vv11) rfl (by kernel_rfl) (fun _ _ _ h => h) (Or.inl ⟨by rfl, fun w hSw => ?yy11⟩) HS ?rr11
      case yy11 =>
        (try dsimp only at hSw); go_simp
        try with_reducible rfl
      try simp only [Act.put, List.setIfInBounds_toArray, List.set_cons_zero, List.set_cons_succ]
      refine wpAnyT_take (i := 15) (v := ?vv12) rfl (by kernel_rfl) (fun _ _ _ h => h) (Or.inl ⟨by rfl, fun w hSw => ?yy12⟩) HS ?rr12
      case yy12 =>
        (try dsimp only at hSw); go_simp
        try with_reducible rfl
      try simp only [Act.put, List.setIfInBounds_toArray, List.set_cons_zero, List.set_cons_succ]
      refine wpAnyT_take (i := 16) (v := ?vv13) rfl (by kernel_rfl) (fun _ _ _ h => h) (Or.inl ⟨by rfl, fun w hSw => ?yy13⟩) HS ?rr13
      case yy13 =>
        (try dsimp only at hSw); go_simp
        try with_reducible rfl
      try simp only [Act.put, List.setIfInBounds_toArray, List.set_cons_zero, List.set_cons_succ]
      refine wpAnyT_one (k := 12) rfl (by kernel_rfl) (by decide) (fun K hK => ?_)
      go_simp
      refine (ggmay_any R1 m1 d1 (li Ls i) _ (s113.keep HS.1)).mono ?_
      rintro e y1 ⟨rfl, hy1⟩
      rw [HMV.out]
      have HS : ((fun (W : World) => Below w13.heap.size w13 W ∧ (W.cell? ⟨bb, o + i, none⟩ = some (.slice R1 m1 d1)))) _ := KS _ _ HS hy1
      refine hK _ _ HS ?_
      clear hK K
      try simp only [Act.put, List.setIfInBounds_toArray, List.set_cons_zero, List.set_cons_succ]
      refine wpAnyT_one (k := 17) rfl (by kernel_rfl) (by decide) (fun K hK => ?_)
      go_simp
      refine (rgmay_any R1 m1 d1 (li Ls i) _ (s113.keep HS.1)).mono ?_
      rintro e y2 ⟨rfl, rfl⟩
      rw [HMV.out]
      have HS : ((fun (W : World) => Below w13.heap.size w13 W ∧ (W.cell? ⟨bb, o + i, none⟩ = some (.slice R1 m1 d1)))) _ := HS
      refine hK _ _ HS ?_
      clear hK K
      try simp only [Act.put, List.setIfInBounds_toArray, List.set_cons_zero, List.set_cons_succ]
      refine wpAnyT_take (i := 18) (v := .bool false) rfl (by kernel_rfl) (fun _ _ _ h => h) (Or.inl ⟨by rfl, fun w hSw => ?_⟩) HS ?_
      · (try dsimp only at hSw); go_simp
      try simp only [Act.put, List.setIfInBounds_toArray, List.set_cons_zero, List.set_cons_succ]
      refine ⟨by kernel_rfl, ?_⟩
      simp only [List.drop_succ_cons, List.drop_zero]
      have bz0 := b13.trans (HS.1.mono z13); have zz0 : B ≤ y1.heap.size := Nat.le_trans z13 HS.1.size
      clear HS KS dd c113 s113 b13 hbJ
      have sz0 : Ll y1 (some ⟨bb, o, none⟩) n c Ls := HS0.out.keep (by rw [HB.out]; exact bz0)
      go_wp2_with fail
      go_loopw [13] (fun i wr => ∃ k : Nat, k ≤ n ∧ i = .int .i64 (k : Int) ∧ Below B w wr) (fun i _ => n - (intOf i).toNat)
      case atStart => exact ⟨0, Nat.zero_le _, rfl, bz0⟩
      case round =>
        obtain ⟨k, hk, rfl, br⟩ := hrel
        clear bz0 zz0 sz0
        have zr : B ≤ wr.heap.size := by have := br.size; have := HB.out; omega
        have sr : Ll wr (some ⟨bb, o, none⟩) n c Ls := HS0.out.keep (by rw [HB.out]; exact br)
        by_cases hlk : k < n
        · have dlk : decide (k < n) = true := decide_eq_true hlk
          obtain ⟨bb', o', hA', hbl, hc⟩ := sr.at_ (by omega)
          cases hA'
          obtain ⟨R4, m4, d4, c4, s4⟩ := hc i hlt
          obtain ⟨R5, m5, d5, c5, s5⟩ := hc k hlk
          obtain ⟨av, hav⟩ : ∃ v, alikeG (li Ls i) (li Ls k) = v := ⟨_, rfl⟩
          have HAV := Lib.hid hav; clear hav hc
          have KS : ∀ W W', (fun (W : World) => Below wr.heap.size wr W ∧ (W.cell? ⟨bb, o + i, none⟩ = some (.slice R4 m4 d4) ∧ W.cell? ⟨bb, o + k, none⟩ = some (.slice R5 m5 d5))) W → Below W.heap.size W W' → (fun (W : World) => Below wr.heap.size wr W ∧ (W.cell? ⟨bb, o + i, none⟩ = some (.slice R4 m4 d4) ∧ W.cell? ⟨bb, o + k, none⟩ = some (.slice R5 m5 d5))) W' := fun W W' h hb => ⟨h.1.trans (hb.mono h.1.size), (hb.cell (p := ⟨bb, o + i, none⟩) (Nat.lt_of_lt_of_le hbl h.1.size)).trans h.2.1, (hb.cell (p := ⟨bb, o + k, none⟩) (Nat.lt_of_lt_of_le hbl h.1.size)).trans h.2.2⟩
          have dd : Below wr.heap.size wr wr.drew := (Below.refl _ _).drew
          have HS4 := Lib.hid s4; have HS5 := Lib.hid s5
          clear s4 s5
          go_upto_region 16 with fail
          refine wp_region_tail 18 19 (fun (W : World) => Below wr.heap.size wr W ∧ (W.cell? ⟨bb, o + i, none⟩ = some (.slice R4 m4 d4) ∧ W.cell? ⟨bb, o + k, none⟩ = some (.slice R5 m5 d5))) (by kernel_rfl) (by rfl) (by decide) ?_
          have HS : ((fun (W : World) => Below wr.heap.size wr W ∧ (W.cell? ⟨bb, o + i, none⟩ = some (.slice R4 m4 d4) ∧ W.cell? ⟨bb, o + k, none⟩ = some (.slice R5 m5 d5)))) _ := ⟨dd, (dd.cell (p := ⟨bb, o + i, none⟩) hbl).trans c4, (dd.cell (p := ⟨bb, o + k, none⟩) hbl).trans c5⟩
          refine wpAnyT_take (i := 0) (v := ?vv14) rfl (by kernel_rfl) (fun _ _ _ h => h) (Or.inl ⟨by rfl, fun w hSw => ?yy14⟩) HS ?rr14
          case yy14 =>
            (try dsimp only at hSw); go_simp
            try with_reducible rfl
          try simp only [Act.put, List.setIfInBounds_toArray, List.set_cons_zero, List.set_cons_succ]
          refine wpAnyT_take (i := 1) (v := ?vv15) rfl (by kernel_rfl) (fun _ _ _ h => h) (Or.inl ⟨by rfl, fun w hSw => ?yy15⟩) HS ?rr15
          case yy15 =>
            (try dsimp only at hSw); go_simp
            try with_reducible rfl
          try simp only [Act.put, List.setIfInBounds_toArray, List.set_cons_zero, List.set_cons_succ]
          refine wpAnyT_take (i := 2) (v := ?vv16) rfl (by kernel_rfl) (fun _ _ _ h => h) (Or.inl ⟨by rfl, fun w hSw => ?yy16⟩) HS ?rr16
          case yy16 =>
            (try dsimp only at hSw); go_simp
            try with_reducible rfl
          try simp only [Act.put, List.setIfInBounds_toArray, List.set_cons_zero, List.set_cons_succ]
          refine wpAnyT_take (i := 3) (v := ?vv17) rfl (by kernel_rfl) (fun _ _ _ h => h) (Or.inl ⟨by rfl, fun w hSw => ?yy17⟩) HS ?rr17
          case yy17 =>
            (try dsimp only at hSw); go_simp
            try with_reducible rfl
          try simp only [Act.put, List.setIfInBounds_toArray, List.set_cons_zero, List.set_cons_succ]
          refine wpAnyT_take (i := 4) (v := ?vv18) rfl (by kernel_rfl) (fun _ _ _ h => h) (Or.inl ⟨by rfl, fun w hSw => ?yy18⟩) HS ?rr18
          case yy18 =>
            (try dsimp only at hSw); go_simp
            try with_reducible rfl
          try simp only [Act.put, List.setIfInBounds_toArray, List.set_cons_zero, List.set_cons_succ]
          refine wpAnyT_take (i := 5) (v := ?vv19) rfl (by kernel_rfl) (fun _ _ _ h => h) (Or.inl ⟨by rfl, fun w hSw => ?yy19⟩) HS ?rr19
          case yy19 =>
            (try dsimp only at hSw); go_simp
            try with_reducible rfl
          try simp only [Act.put, List.setIfInBounds_toArray, List.set_cons_zero, List.set_cons_succ]
          refine wpAnyT_take (i := 6) (v := ?vv20) rfl (by kernel_rfl) (fun _ _ _ h => h) (Or.inl ⟨by rfl, fun w hSw => ?yy20⟩) HS ?rr20
          case yy20 =>
            (try dsimp only at hSw); go_simp
            try with_reducible rfl
          try simp only [Act.put, List.setIfInBounds_toArray, List.set_cons_zero, List.set_cons_succ]
          refine wpAnyT_take (i := 7) (v := ?vv21) rfl (by kernel_rfl) (fun _ _ _ h => h) (Or.inl ⟨by rfl, fun w hSw => ?yy21⟩) HS ?rr21
          case yy21 =>
            (try dsimp only at hSw); go_simp
            try with_reducible rfl
          try simp only [Act.put, List.setIfInBounds_toArray, List.set_cons_zero, List.set_cons_succ]
          refine wpAnyT_take (i := 9) (v := ?vv22) rfl (by kernel_rfl) (fun _ _ _ h => h) (Or.inl ⟨by rfl, fun w hSw => ?yy22⟩) HS ?rr22
          case yy22 =>
            (try dsimp only at hSw); go_simp
            try with_reducible rfl
          try simp only [Act.put, List.setIfInBounds_toArray, List.set_cons_zero, List.set_cons_succ]
          refine wpAnyT_take (i := 10) (v := ?vv23) rfl (by kernel_rfl) (fun _ _ _ h => h) (Or.inl ⟨by rfl, fun w hSw => ?yy23⟩) HS ?rr23
          case yy23 =>
            (try dsimp only at hSw); go_simp
            try with_reducible rfl
          try simp only [Act.put, List.setIfInBounds_toArray, List.set_cons_zero, List.set_cons_succ]
          refine wpAnyT_take (i := 11) (v := ?vv24) rfl (by kernel_rfl) (fun _ _ _ h => h) (Or.inl ⟨by rfl, fun w hSw => ?yy24⟩) HS ?rr24
          case yy24 =>
            (try dsimp only at hSw); go_simp
            try with_reducible rfl
          try simp only [Act.put, List.setIfInBounds_toArray, List.set_cons_zero, List.set_cons_succ]
          refine wpAnyT_take (i := 12) (v := ?vv25) rfl (by kernel_rfl) (fun _ _ _ h => h) (Or.inl ⟨by rfl, fun w hSw => ?yy25⟩) HS ?rr25
          case yy25 =>
            (try dsimp only at hSw); go_simp
            try with_reducible rfl
          try simp only [Act.put, List.setIfInBounds_toArray, List.set_cons_zero, List.set_cons_succ]
          refine wpAnyT_take (i := 13) (v := ?vv26) rfl (by kernel_rfl) (fun _ _ _ h => h) (Or.inl ⟨by rfl, fun w hSw => ?yy26⟩) HS ?rr26
          case yy26 =>
            (try dsimp only at hSw); go_simp
            try with_reducible rfl
          try simp only [Act.put, List.setIfInBounds_toArray, List.set_cons_zero, List.set_cons_succ]
          refine wpAnyT_take (i := 14) (v := ?vv27) rfl (by kernel_rfl) (fun _ _ _ h => h) (Or.inl ⟨by rfl, fun w hSw => ?yy27⟩) HS ?rr27
          case yy27 =>
            (try dsimp only at hSw); go_simp
            try with_reducible rfl
          try simp only [Act.put, List.setIfInBounds_toArray, List.set_cons_zero, List.set_cons_succ]
          refine wpAnyT_take (i := 15) (v := ?vv28) rfl (by kernel_rfl) (fun _ _ _ h => h) (Or.inl ⟨by rfl, fun w hSw => ?yy28⟩) HS ?rr28
          case yy28 =>
            (try dsimp only at hSw); go_simp
            try with_reducible rfl
          try simp only [Act.put, List.setIfInBounds_toArray, List.set_cons_zero, List.set_cons_succ]
          refine wpAnyT_take (i := 16) (v := ?vv29) rfl (by kernel_rfl) (fun _ _ _ h => h) (Or.inl ⟨by rfl, fun w hSw => ?yy29⟩) HS ?rr29
          case yy29 =>
            (try dsimp only at hSw); go_simp
            try with_reducible rfl
          try simp only [Act.put, List.setIfInBounds_toArray, List.set_cons_zero, List.set_cons_succ]
          refine wpAnyT_one (k := 8) rfl (by kernel_rfl) (by decide) (fun K hK => ?_)
          go_simp
          refine (ggalike_any R4 m4 d4 (li Ls i) R5 m5 d5 (li Ls k) _ (HS4.out.keep HS.1) (HS5.out.keep HS.1)).mono ?_
          rintro e y1 ⟨rfl, hy1⟩
          rw [HAV.out]
          have HS : ((fun (W : World) => Below wr.heap.size wr W ∧ (W.cell? ⟨bb, o + i, none⟩ = some (.slice R4 m4 d4) ∧ W.cell? ⟨bb, o + k, none⟩ = some (.slice R5 m5 d5)))) _ := KS _ _ HS hy1
          refine hK _ _ HS ?_
          clear hK K
          try simp only [Act.put, List.setIfInBounds_toArray, List.set_cons_zero, List.set_cons_succ]
          refine wpAnyT_one (k := 17) rfl (by kernel_rfl) (by decide) (fun K hK => ?_)
          go_simp
          refine (rgalike_any R4 m4 d4 (li Ls i) R5 m5 d5 (li Ls k) _ (HS4.out.keep HS.1) (HS5.out.keep HS.1)).mono ?_
          rintro e y2 ⟨rfl, hy2⟩
          rw [HAV.out]
          have HS : ((fun (W : World) => Below wr.heap.size wr W ∧ (W.cell? ⟨bb, o + i, none⟩ = some (.slice R4 m4 d4) ∧ W.cell? ⟨bb, o + k, none⟩ = some (.slice R5 m5 d5)))) _ := KS _ _ HS hy2
          refine hK _ _ HS ?_
          clear hK K
          try simp only [Act.put, List.setIfInBounds_toArray, List.set_cons_zero, List.set_cons_succ]
          refine ⟨by kernel_rfl, ?_⟩
          simp only [List.drop_succ_cons, List.drop_zero]
          have bq := br.trans (HS.1.mono zr)
          clear HS KS dd
          go_wp2_with fail
          go_roundw
          case rel => exact ⟨k + 1, by omega, by go_num, bq⟩
          case measure => simp [intOf]; omega
        · obtain rfl : k = n := by omega
          have dlk : decide (k < k) = false := decide_eq_false (by omega)
          go_wp2_with fail
          go_roundw
          case rel => exact ⟨i + 1, by omega, by go_num, br⟩
          case measure => simp [intOf]; omega
    · obtain rfl : i = n := by omega
      have dlt : decide (i < i) = false := decide_eq_false (by omega)
      obtain ⟨gr, hgr⟩ : ∃ v, groupsG Ls = v := ⟨_, rfl⟩
      have HGR := Lib.hid hgr; clear hgr
      go_wp2_with fail
      refine (ggof_any A i c Ls _ sr).mono ?_
      rintro e w3 ⟨R2, m2, d2, rfl, x3, hb3⟩
      rw [HGR.out] at x3
      have b3 := br.trans (hb3.mono zr); have z3 : B ≤ w3.heap.size := Nat.le_trans zr hb3.size
      have s3 := sr.keep hb3
      clear hb3 sr br
      go_wp2_with fail
      refine (rgof_any A i c Ls _ s3).mono ?_
      rintro e w4 ⟨R3, m3', d3, rfl, y4, hb4⟩
      rw [HGR.out] at y4
      have b4 := b3.trans (hb4.mono z3); have z4 : B ≤ w4.heap.size := Nat.le_trans z3 hb4.size
      have x4 := x3.keep hb4
      obtain ⟨R3', c3', hv, y5⟩ := y4.si
      cases hv
      clear hb4 s3 b3 x3 y4
      go_wp2_with fail
      refine (ints_any _ _ _ _ _ _ _ _ _ x4 y5).mono ?_
      rintro e w5 ⟨rfl, hb5⟩
      rw [decide_eq_true rfl]
      have b5 := b4.trans (hb5.mono z4)
      go_wp2_with fail
      go_ret
      exact ⟨rfl, b5⟩
end Go.Proofs.Ytbaaglgoodckmaa.groupTells
