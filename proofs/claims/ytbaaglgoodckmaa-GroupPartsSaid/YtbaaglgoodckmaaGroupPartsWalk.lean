/- GroupParts: the walk. -/
import Derived.Test.YtbaaglgoodckmaaGrAwake
import Derived.Test.YtbaaglgoodckmaaTail2
import Derived.Deep.QuietTactic
import Derived.BigQuiet
import Derived.IntWalk
import Derived.Deep.AppendLies
import Derived.OrdersHeld
import Derived.Deep.DeepCutAuto
namespace Go.Proofs.Ytbaaglgoodckmaa.groupParts
open Go.RowKit
set_option linter.unusedVariables false
set_option linter.unusedSimpArgs false

structure HidEq (a b : Nat) : Prop where
  e : a = b

set_option maxRecDepth 100000 in
set_option maxHeartbeats 16000000 in
theorem walk (A : Option Addr) (n c : Nat) (Ls : List (List Int)) (w : World) (hs : Ll w A n c Ls) :
    Calls Try.prog 4 #[.slice A n c] w fun e w' => e = .returned (.bool true) ∧ Below w.heap.size w w' := by
  obtain ⟨B, hB⟩ : ∃ B, w.heap.size = B := ⟨_, rfl⟩
  rw [hB]
  have HB := Lib.hid hB
  have m3 := hs.n9
  have HS := Lib.hid hs
  clear hs hB
  go_enter Try.func4, Try.ntmps4
  go_wp2_with fail
  refine (grawake_any _).mono ?_
  rintro e w2 ⟨rfl, b2⟩
  rw [HB.out] at b2
  have z2 : B ≤ w2.heap.size := by have := b2.size; rw [HB.out] at this; exact this
  have s2 : Ll w2 A n c Ls := HS.out.keep (by rw [HB.out]; exact b2)
  go_wp2_with fail
  refine (few_any A n c Ls _ s2).mono ?_
  rintro e w3 ⟨⟨sm, rfl, hsm⟩, rfl⟩
  have HSM := Lib.hid hsm; clear hsm
  cases sm with
  | false =>
    go_wp2_with fail
    go_ret
    exact ⟨rfl, b2⟩
  | true =>
  obtain ⟨hn20, hn40⟩ := HSM.out rfl
  have HN40 := Lib.hid hn40
  clear hn40 HSM
  by_cases c4 : 4 < n
  case pos =>
    have d4 : decide (4 < n) = true := decide_eq_true c4
    have d4' : decide ((4 : Int) < (n : Int)) = true := decide_eq_true (by omega)
    go_wp2_with fail
    go_ret
    exact ⟨rfl, b2⟩
  case neg =>
  have d4 : decide (4 < n) = false := decide_eq_false c4
  have d4' : decide ((4 : Int) < (n : Int)) = false := decide_eq_false (by omega)
  have hn4 : n ≤ 4 := by omega
  clear c4
  go_wp2_with fail
  refine (ggof_any A n c Ls _ s2).mono ?_
  rintro e w4 ⟨G, m, f, rfl, x4, hb4⟩
  have b4 := b2.trans (hb4.mono z2); have z4 : B ≤ w4.heap.size := Nat.le_trans z2 hb4.size
  clear b2 z2 s2 hb4
  have hLn : Ls.length = n := HS.out.len
  have hgl := groups_len (L := Ls) (by omega)
  have hge := groups_eq (L := Ls) (by omega)
  obtain rfl : m = n := by rw [← x4.rd.len, hgl, hLn]
  rw [hge, hLn] at x4
  have hok : ∀ i, i < m → OfOk (matG Ls) m i := fun i hi => of_ok hn4 (matG_comm Ls) hi
  have HOK := Lib.hid hok
  obtain ⟨O, hO⟩ : ∃ O, ofG (matG Ls) m = O := ⟨_, rfl⟩
  rw [hO] at x4
  have HO := Lib.hid hO
  clear hLn hgl hge hok hO
  go_wp2_with fail
  go_loopw [6] (fun i wr => ∃ k : Nat, k ≤ m ∧ i = .int .i64 (k : Int) ∧ Si wr G m f O ∧ Below B w wr) (fun i _ => m - (intOf i).toNat)
  case atStart => exact ⟨0, Nat.zero_le _, rfl, x4, b4⟩
  case round =>
    obtain ⟨i, hi, rfl, xr, br⟩ := hrel
    clear x4 b4 z4
    have zr : B ≤ wr.heap.size := by have := br.size; have := HB.out; omega
    by_cases hlt : i < m
    · have dlt : decide (i < m) = true := decide_eq_true hlt
      have ok := HOK.out i hlt
      obtain ⟨lo, hi', rep, same, join, alone⟩ := ok
      rw [HO.out] at lo hi' rep same join
      obtain ⟨u, hu⟩ : ∃ u : Nat, it O i = (u : Int) := ⟨(it O i).toNat, by omega⟩
      rw [hu] at lo hi' rep join
      rw [Int.toNat_natCast] at rep
      have hui : u ≤ i := by omega
      have HU := Lib.hid hu; have HSAME := Lib.hid same; have HJOIN := Lib.hid join; have HREP := Lib.hid rep
      obtain ⟨bo, oo, hG, hbo, hco⟩ := xr.rd.at_ (by omega)
      subst hG
      have y1 := hco i hlt
      have y2 := hco u (by omega)
      rw [hu] at y1
      rw [rep] at y2
      have e0 : decide ((u : Int) < 0) = false := decide_eq_false (by omega)
      have e1 : decide ((i : Int) < (u : Int)) = false := decide_eq_false (by omega)
      have e2 : decide (i < u) = false := decide_eq_false (by omega)
      have e3 : u < m := by omega
      clear hco lo hi' rep same join alone hu
      go_upto_region 11 with fail
      go_quiet (fail)
      have bq := below_drewN br nq
      have xq := xr.keep (below_drewN (Below.refl _ _) nq)
      clear y1 y2 br xr zr
      generalize wr.drewN nq = wq at bq xq ⊢
      obtain ⟨bo', oo', hG, _, hcq⟩ := xq.rd.at_ (by omega)
      cases hG
      have y1 := hcq i hlt
      rw [HU.out] at y1
      clear hcq
      go_wp2_with fail
      go_loopw [7, 8] (fun jn i2 wr => ∃ (k : Nat) (x : Bool), k ≤ m ∧ i2 = .int .i64 (k : Int) ∧ jn = .bool x ∧ Hid (((u : Int) = (i : Int) ∨ ∃ j, j < k ∧ j ≠ i ∧ matG Ls i j = true) → x = true) ∧ Si wr (some ⟨bo, oo, none⟩) m f O ∧ Below B w wr) (fun _ i2 _ => m - (intOf i2).toNat)
      case atStart =>
        refine ⟨0, _, Nat.zero_le _, rfl, rfl, Lib.hid (fun h => ?_), xq, bq⟩
        rcases h with h | ⟨j, hj, _⟩
        · first | (simp only [decide_eq_true_eq]; omega) | (simp; omega)
        · omega
      case round =>
        obtain ⟨k, x, hk, rfl, rfl, HX, xr, br⟩ := hrel
        clear xq bq
        have zr : B ≤ wr.heap.size := by have := br.size; have := HB.out; omega
        by_cases hlk : k < m
        · have dlk : decide (k < m) = true := decide_eq_true hlk
          have sr : Ll wr A m c Ls := HS.out.keep (by rw [HB.out]; exact br)
          obtain ⟨bb, o, hA, hbb, hc⟩ := sr.at_ (by omega)
          subst hA
          obtain ⟨R1, m1, d1, c1, s1⟩ := hc i hlt
          obtain ⟨R2, m2, d2, c2, s2⟩ := hc k hlk
          obtain ⟨bo', oo', hG, hbo', hco⟩ := xr.rd.at_ (by omega)
          cases hG
          have y1 := hco i hlt
          have y2 := hco k hlk
          rw [HU.out] at y1
          obtain ⟨vk, hvk⟩ : ∃ v, it O k = v := ⟨_, rfl⟩
          rw [hvk] at y2
          obtain ⟨av, hav⟩ : ∃ v, alikeG (li Ls i) (li Ls k) = v := ⟨_, rfl⟩
          have hav2 : alikeG (li Ls k) (li Ls i) = av := by rw [alike_comm]; exact hav
          have hsame : av = true → i ≠ k → vk = (u : Int) := fun h hne => by
            have := HSAME.out k hlk hne (by unfold matG; rw [hav]; exact h)
            rw [← hvk, ← this, HU.out]
          have heq : i = k → vk = (u : Int) := fun e => by subst e; rw [← hvk, HU.out]
          have HAV := Lib.hid hav; have HAV2 := Lib.hid hav2; have HVK : Hid (av = true → vk = (u : Int)) := Lib.hid (fun h => by
            by_cases e : i = k
            · exact heq e
            · exact hsame h e)
          have HS1 := Lib.hid s1; have HS2 := Lib.hid s2
          have XR := Lib.hid xr
          clear hc hco s1 s2 hav hav2 hsame heq hvk xr sr
          have KS : ∀ W W', (fun (W : World) => Below wr.heap.size wr W ∧ (W.cell? ⟨bb, o + i, none⟩ = some (.slice R1 m1 d1) ∧ W.cell? ⟨bb, o + k, none⟩ = some (.slice R2 m2 d2) ∧ W.cell? ⟨bo, oo + i, none⟩ = some (.int .i64 (u : Int)) ∧ W.cell? ⟨bo, oo + k, none⟩ = some (.int .i64 vk))) W → Below W.heap.size W W' → (fun (W : World) => Below wr.heap.size wr W ∧ (W.cell? ⟨bb, o + i, none⟩ = some (.slice R1 m1 d1) ∧ W.cell? ⟨bb, o + k, none⟩ = some (.slice R2 m2 d2) ∧ W.cell? ⟨bo, oo + i, none⟩ = some (.int .i64 (u : Int)) ∧ W.cell? ⟨bo, oo + k, none⟩ = some (.int .i64 vk))) W' := fun W W' h hb => ⟨h.1.trans (hb.mono h.1.size), (hb.cell (p := ⟨bb, o + i, none⟩) (Nat.lt_of_lt_of_le hbb h.1.size)).trans h.2.1, (hb.cell (p := ⟨bb, o + k, none⟩) (Nat.lt_of_lt_of_le hbb h.1.size)).trans h.2.2.1, (hb.cell (p := ⟨bo, oo + i, none⟩) (Nat.lt_of_lt_of_le hbo' h.1.size)).trans h.2.2.2.1, (hb.cell (p := ⟨bo, oo + k, none⟩) (Nat.lt_of_lt_of_le hbo' h.1.size)).trans h.2.2.2.2⟩
          have dd : Below wr.heap.size wr wr.drew := (Below.refl _ _).drew
          go_upto_region 17 with fail
          refine wp_region_tail 9 10 (fun (W : World) => Below wr.heap.size wr W ∧ (W.cell? ⟨bb, o + i, none⟩ = some (.slice R1 m1 d1) ∧ W.cell? ⟨bb, o + k, none⟩ = some (.slice R2 m2 d2) ∧ W.cell? ⟨bo, oo + i, none⟩ = some (.int .i64 (u : Int)) ∧ W.cell? ⟨bo, oo + k, none⟩ = some (.int .i64 vk))) (by kernel_rfl) (by rfl) (by decide) ?_
          have HS : ((fun (W : World) => Below wr.heap.size wr W ∧ (W.cell? ⟨bb, o + i, none⟩ = some (.slice R1 m1 d1) ∧ W.cell? ⟨bb, o + k, none⟩ = some (.slice R2 m2 d2) ∧ W.cell? ⟨bo, oo + i, none⟩ = some (.int .i64 (u : Int)) ∧ W.cell? ⟨bo, oo + k, none⟩ = some (.int .i64 vk)))) _ := ⟨dd, (dd.cell (p := ⟨bb, o + i, none⟩) hbb).trans c1, (dd.cell (p := ⟨bb, o + k, none⟩) hbb).trans c2, (dd.cell (p := ⟨bo, oo + i, none⟩) hbo').trans y1, (dd.cell (p := ⟨bo, oo + k, none⟩) hbo').trans y2⟩
          refine wpAnyT_take (i := 0) (v := ?vv33) rfl (by kernel_rfl) (fun _ _ _ h => h) (Or.inl ⟨by rfl, fun w hSw => ?yy33⟩) HS ?rr33
          case yy33 =>
            (try dsimp only at hSw); go_simp
            try with_reducible rfl
          try simp only [Act.put, List.setIfInBounds_toArray, List.set_cons_zero, List.set_cons_succ]
          refine wpAnyT_take (i := 1) (v := ?vv34) rfl (by kernel_rfl) (fun _ _ _ h => h) (Or.inl ⟨by rfl, fun w hSw => ?yy34⟩) HS ?rr34
          case yy34 =>
            (try dsimp only at hSw); go_simp
            try with_reducible rfl
          try simp only [Act.put, List.setIfInBounds_toArray, List.set_cons_zero, List.set_cons_succ]
          refine wpAnyT_take (i := 2) (v := ?vv35) rfl (by kernel_rfl) (fun _ _ _ h => h) (Or.inl ⟨by rfl, fun w hSw => ?yy35⟩) HS ?rr35
          case yy35 =>
            (try dsimp only at hSw); go_simp
            try with_reducible rfl
          try simp only [Act.put, List.setIfInBounds_toArray, List.set_cons_zero, List.set_cons_succ]
          refine wpAnyT_take (i := 3) (v := ?vv36) rfl (by kernel_rfl) (fun _ _ _ h => h) (Or.inl ⟨by rfl, fun w hSw => ?yy36⟩) HS ?rr36
          case yy36 =>
            (try dsimp only at hSw); go_simp
            try with_reducible rfl
          try simp only [Act.put, List.setIfInBounds_toArray, List.set_cons_zero, List.set_cons_succ]
          refine wpAnyT_take (i := 4) (v := ?vv37) rfl (by kernel_rfl) (fun _ _ _ h => h) (Or.inl ⟨by rfl, fun w hSw => ?yy37⟩) HS ?rr37
          case yy37 =>
            (try dsimp only at hSw); go_simp
            try with_reducible rfl
          try simp only [Act.put, List.setIfInBounds_toArray, List.set_cons_zero, List.set_cons_succ]
          refine wpAnyT_take (i := 5) (v := ?vv38) rfl (by kernel_rfl) (fun _ _ _ h => h) (Or.inl ⟨by rfl, fun w hSw => ?yy38⟩) HS ?rr38
          case yy38 =>
            (try dsimp only at hSw); go_simp
            try with_reducible rfl
          try simp only [Act.put, List.setIfInBounds_toArray, List.set_cons_zero, List.set_cons_succ]
          refine wpAnyT_take (i := 6) (v := ?vv39) rfl (by kernel_rfl) (fun _ _ _ h => h) (Or.inl ⟨by rfl, fun w hSw => ?yy39⟩) HS ?rr39
          case yy39 =>
            (try dsimp only at hSw); go_simp
            try with_reducible rfl
          try simp only [Act.put, List.setIfInBounds_toArray, List.set_cons_zero, List.set_cons_succ]
          refine wpAnyT_take (i := 7) (v := ?vv40) rfl (by kernel_rfl) (fun _ _ _ h => h) (Or.inl ⟨by rfl, fun w hSw => ?yy40⟩) HS ?rr40
          case yy40 =>
            (try dsimp only at hSw); go_simp
            try with_reducible rfl
          try simp only [Act.put, List.setIfInBounds_toArray, List.set_cons_zero, List.set_cons_succ]
          refine wpAnyT_one (k := 8) rfl (by kernel_rfl) (by decide) (fun K hK => ?_)
          go_simp
          refine (ggalike_any R1 m1 d1 (li Ls i) R2 m2 d2 (li Ls k) _ (HS1.out.keep HS.1) (HS2.out.keep HS.1)).mono ?_
          rintro e y1w ⟨rfl, hy1⟩
          rw [HAV.out]
          have HS : ((fun (W : World) => Below wr.heap.size wr W ∧ (W.cell? ⟨bb, o + i, none⟩ = some (.slice R1 m1 d1) ∧ W.cell? ⟨bb, o + k, none⟩ = some (.slice R2 m2 d2) ∧ W.cell? ⟨bo, oo + i, none⟩ = some (.int .i64 (u : Int)) ∧ W.cell? ⟨bo, oo + k, none⟩ = some (.int .i64 vk)))) _ := KS _ _ HS hy1
          refine hK _ _ HS ?_
          clear hK K
          try simp only [Act.put, List.setIfInBounds_toArray, List.set_cons_zero, List.set_cons_succ]
          refine ⟨by kernel_rfl, ?_⟩
          simp only [List.drop_succ_cons, List.drop_zero]
          have HS0 := HS
          clear HS
          cases av with
          | false =>
            go_upto_region 18 with fail
            refine wp_region_tail 24 25 (fun (W : World) => Below wr.heap.size wr W ∧ (W.cell? ⟨bb, o + i, none⟩ = some (.slice R1 m1 d1) ∧ W.cell? ⟨bb, o + k, none⟩ = some (.slice R2 m2 d2) ∧ W.cell? ⟨bo, oo + i, none⟩ = some (.int .i64 (u : Int)) ∧ W.cell? ⟨bo, oo + k, none⟩ = some (.int .i64 vk))) (by kernel_rfl) (by rfl) (by decide) ?_
            have HS : ((fun (W : World) => Below wr.heap.size wr W ∧ (W.cell? ⟨bb, o + i, none⟩ = some (.slice R1 m1 d1) ∧ W.cell? ⟨bb, o + k, none⟩ = some (.slice R2 m2 d2) ∧ W.cell? ⟨bo, oo + i, none⟩ = some (.int .i64 (u : Int)) ∧ W.cell? ⟨bo, oo + k, none⟩ = some (.int .i64 vk)))) _ := KS _ _ HS0 ((Below.refl _ _).drew)
            refine wpAnyT_take (i := 0) (v := ?vv1) rfl (by kernel_rfl) (fun _ _ _ h => h) (Or.inl ⟨by rfl, fun w hSw => ?yy1⟩) HS ?rr1
            case yy1 =>
              (try dsimp only at hSw); go_simp
              try with_reducible rfl
            try simp only [Act.put, List.setIfInBounds_toArray, List.set_cons_zero, List.set_cons_succ]
            refine wpAnyT_take (i := 1) (v := ?vv2) rfl (by kernel_rfl) (fun _ _ _ h => h) (Or.inl ⟨by rfl, fun w hSw => ?yy2⟩) HS ?rr2
            case yy2 =>
              (try dsimp only at hSw); go_simp
              try with_reducible rfl
            try simp only [Act.put, List.setIfInBounds_toArray, List.set_cons_zero, List.set_cons_succ]
            refine wpAnyT_take (i := 2) (v := ?vv3) rfl (by kernel_rfl) (fun _ _ _ h => h) (Or.inl ⟨by rfl, fun w hSw => ?yy3⟩) HS ?rr3
            case yy3 =>
              (try dsimp only at hSw); go_simp
              try with_reducible rfl
            try simp only [Act.put, List.setIfInBounds_toArray, List.set_cons_zero, List.set_cons_succ]
            refine wpAnyT_take (i := 3) (v := ?vv4) rfl (by kernel_rfl) (fun _ _ _ h => h) (Or.inl ⟨by rfl, fun w hSw => ?yy4⟩) HS ?rr4
            case yy4 =>
              (try dsimp only at hSw); go_simp
              try with_reducible rfl
            try simp only [Act.put, List.setIfInBounds_toArray, List.set_cons_zero, List.set_cons_succ]
            refine wpAnyT_take (i := 4) (v := ?vv5) rfl (by kernel_rfl) (fun _ _ _ h => h) (Or.inl ⟨by rfl, fun w hSw => ?yy5⟩) HS ?rr5
            case yy5 =>
              (try dsimp only at hSw); go_simp
              try with_reducible rfl
            try simp only [Act.put, List.setIfInBounds_toArray, List.set_cons_zero, List.set_cons_succ]
            refine wpAnyT_take (i := 5) (v := ?vv6) rfl (by kernel_rfl) (fun _ _ _ h => h) (Or.inl ⟨by rfl, fun w hSw => ?yy6⟩) HS ?rr6
            case yy6 =>
              (try dsimp only at hSw); go_simp
              try with_reducible rfl
            try simp only [Act.put, List.setIfInBounds_toArray, List.set_cons_zero, List.set_cons_succ]
            refine wpAnyT_take (i := 6) (v := ?vv7) rfl (by kernel_rfl) (fun _ _ _ h => h) (Or.inl ⟨by rfl, fun w hSw => ?yy7⟩) HS ?rr7
            case yy7 =>
              (try dsimp only at hSw); go_simp
              try with_reducible rfl
            try simp only [Act.put, List.setIfInBounds_toArray, List.set_cons_zero, List.set_cons_succ]
            refine wpAnyT_take (i := 7) (v := ?vv8) rfl (by kernel_rfl) (fun _ _ _ h => h) (Or.inl ⟨by rfl, fun w hSw => ?yy8⟩) HS ?rr8
            case yy8 =>
              (try dsimp only at hSw); go_simp
              try with_reducible rfl
            try simp only [Act.put, List.setIfInBounds_toArray, List.set_cons_zero, List.set_cons_succ]
            refine wpAnyT_take (i := 8) (v := ?vv9) rfl (by kernel_rfl) (fun _ _ _ h => h) (Or.inl ⟨by rfl, fun w hSw => ?yy9⟩) HS ?rr9
            case yy9 =>
              (try dsimp only at hSw); go_simp
              try with_reducible rfl
            try simp only [Act.put, List.setIfInBounds_toArray, List.set_cons_zero, List.set_cons_succ]
            refine wpAnyT_one (k := 9) rfl (by kernel_rfl) (by decide) (fun K hK => ?_)
            go_simp
            refine (ggalike_any R2 m2 d2 (li Ls k) R1 m1 d1 (li Ls i) _ (HS2.out.keep HS.1) (HS1.out.keep HS.1)).mono ?_
            rintro e y2w ⟨rfl, hy2⟩
            rw [HAV2.out]
            have HS : ((fun (W : World) => Below wr.heap.size wr W ∧ (W.cell? ⟨bb, o + i, none⟩ = some (.slice R1 m1 d1) ∧ W.cell? ⟨bb, o + k, none⟩ = some (.slice R2 m2 d2) ∧ W.cell? ⟨bo, oo + i, none⟩ = some (.int .i64 (u : Int)) ∧ W.cell? ⟨bo, oo + k, none⟩ = some (.int .i64 vk)))) _ := KS _ _ HS hy2
            refine hK _ _ HS ?_
            clear hK K
            try simp only [Act.put, List.setIfInBounds_toArray, List.set_cons_zero, List.set_cons_succ]
            refine wpAnyT_take (i := 10) (v := .bool false) rfl (by kernel_rfl) (fun _ _ _ h => h) (Or.inl ⟨by rfl, fun w hSw => ?_⟩) HS ?_
            · (try dsimp only at hSw); go_simp
            try simp only [Act.put, List.setIfInBounds_toArray, List.set_cons_zero, List.set_cons_succ]
            refine wpAnyT_take (i := 11) (v := ?vv10) rfl (by kernel_rfl) (fun _ _ _ h => h) (Or.inl ⟨by rfl, fun w hSw => ?yy10⟩) HS ?rr10
            case yy10 =>
              (try dsimp only at hSw); go_simp
              try with_reducible rfl
            try simp only [Act.put, List.setIfInBounds_toArray, List.set_cons_zero, List.set_cons_succ]
            refine wpAnyT_take (i := 12) (v := ?vv11) rfl (by kernel_rfl) (fun _ _ _ h => h) (Or.inl ⟨by rfl, fun w hSw => ?yy11⟩) HS ?rr11
            case yy11 =>
              (try dsimp only at hSw); go_simp
              try with_reducible rfl
            try simp only [Act.put, List.setIfInBounds_toArray, List.set_cons_zero, List.set_cons_succ]
            refine wpAnyT_take (i := 13) (v := ?vv12) rfl (by kernel_rfl) (fun _ _ _ h => h) (Or.inl ⟨by rfl, fun w hSw => ?yy12⟩) HS ?rr12
            case yy12 =>
              (try dsimp only at hSw); go_simp
              try with_reducible rfl
            try simp only [Act.put, List.setIfInBounds_toArray, List.set_cons_zero, List.set_cons_succ]
            refine wpAnyT_take (i := 14) (v := undef) rfl (by kernel_rfl) (fun _ _ _ h => h) (Or.inr ⟨by kernel_rfl, rfl⟩) HS ?_
            try simp only [Act.put, List.setIfInBounds_toArray, List.set_cons_zero, List.set_cons_succ]
            refine wpAnyT_take (i := 15) (v := undef) rfl (by kernel_rfl) (fun _ _ _ h => h) (Or.inr ⟨by kernel_rfl, rfl⟩) HS ?_
            try simp only [Act.put, List.setIfInBounds_toArray, List.set_cons_zero, List.set_cons_succ]
            refine wpAnyT_take (i := 16) (v := undef) rfl (by kernel_rfl) (fun _ _ _ h => h) (Or.inr ⟨by kernel_rfl, rfl⟩) HS ?_
            try simp only [Act.put, List.setIfInBounds_toArray, List.set_cons_zero, List.set_cons_succ]
            refine wpAnyT_take (i := 17) (v := undef) rfl (by kernel_rfl) (fun _ _ _ h => h) (Or.inr ⟨by kernel_rfl, rfl⟩) HS ?_
            try simp only [Act.put, List.setIfInBounds_toArray, List.set_cons_zero, List.set_cons_succ]
            refine wpAnyT_take (i := 18) (v := undef) rfl (by kernel_rfl) (fun _ _ _ h => h) (Or.inr ⟨by kernel_rfl, rfl⟩) HS ?_
            try simp only [Act.put, List.setIfInBounds_toArray, List.set_cons_zero, List.set_cons_succ]
            refine wpAnyT_take (i := 19) (v := undef) rfl (by kernel_rfl) (fun _ _ _ h => h) (Or.inr ⟨by kernel_rfl, rfl⟩) HS ?_
            try simp only [Act.put, List.setIfInBounds_toArray, List.set_cons_zero, List.set_cons_succ]
            refine wpAnyT_take (i := 20) (v := undef) rfl (by kernel_rfl) (fun _ _ _ h => h) (Or.inr ⟨by kernel_rfl, rfl⟩) HS ?_
            try simp only [Act.put, List.setIfInBounds_toArray, List.set_cons_zero, List.set_cons_succ]
            refine wpAnyT_take (i := 21) (v := undef) rfl (by kernel_rfl) (fun _ _ _ h => h) (Or.inr ⟨by kernel_rfl, rfl⟩) HS ?_
            try simp only [Act.put, List.setIfInBounds_toArray, List.set_cons_zero, List.set_cons_succ]
            refine wpAnyT_take (i := 22) (v := undef) rfl (by kernel_rfl) (fun _ _ _ h => h) (Or.inr ⟨by kernel_rfl, rfl⟩) HS ?_
            try simp only [Act.put, List.setIfInBounds_toArray, List.set_cons_zero, List.set_cons_succ]
            refine wpAnyT_take (i := 23) (v := .bool false) rfl (by kernel_rfl) (fun _ _ _ h => h) (Or.inl ⟨by rfl, fun w hSw => ?_⟩) HS ?_
            · (try dsimp only at hSw); go_simp
            try simp only [Act.put, List.setIfInBounds_toArray, List.set_cons_zero, List.set_cons_succ]
            refine ⟨by kernel_rfl, ?_⟩
            simp only [List.drop_succ_cons, List.drop_zero]
            have bz := br.trans (HS.1.mono zr)
            have XZ := Lib.hid (XR.out.keep HS.1)
            clear HS KS dd HS0
            cases x with
            | true =>
              go_wp2_with fail
              go_roundw
              case rel => exact ⟨k + 1, true, by omega, by go_num, rfl, Lib.hid (fun _ => rfl), XZ.out, bz⟩
              case measure => simp [intOf]; omega
            | false =>
              by_cases e : k = i
              case pos =>
                have de : ((k : Int) != (i : Int)) = false := by simp; omega
                have de' : (k != i) = false := by simp; omega
                clear e
                go_wp2_with fail
                go_roundw
                case rel => exact ⟨k + 1, false, by omega, by go_num, rfl, Lib.hid (fun h => by rcases h with h | ⟨j, hj, hne, hm⟩; exact HX.out (.inl h); exact HX.out (.inr ⟨j, by
                  by_cases e : j = k
                  · subst e; unfold matG at hm; rw [HAV.out] at hm; cases hm
                  · omega, hne, hm⟩)), XZ.out, bz⟩
                case measure => simp [intOf]; omega
              case neg =>
                have de : ((k : Int) != (i : Int)) = true := by simp; omega
                have de' : (k != i) = true := by simp; omega
                clear e
                go_wp2_with fail
                go_roundw
                case rel => exact ⟨k + 1, false, by omega, by go_num, rfl, Lib.hid (fun h => by rcases h with h | ⟨j, hj, hne, hm⟩; exact HX.out (.inl h); exact HX.out (.inr ⟨j, by
                  by_cases e : j = k
                  · subst e; unfold matG at hm; rw [HAV.out] at hm; cases hm
                  · omega, hne, hm⟩)), XZ.out, bz⟩
                case measure => simp [intOf]; omega
          | true =>
            obtain rfl : vk = (u : Int) := HVK.out rfl
            go_upto_region 18 with fail
            refine wp_region_tail 24 25 (fun (W : World) => Below wr.heap.size wr W ∧ (W.cell? ⟨bb, o + i, none⟩ = some (.slice R1 m1 d1) ∧ W.cell? ⟨bb, o + k, none⟩ = some (.slice R2 m2 d2) ∧ W.cell? ⟨bo, oo + i, none⟩ = some (.int .i64 (u : Int)) ∧ W.cell? ⟨bo, oo + k, none⟩ = some (.int .i64 (u : Int)))) (by kernel_rfl) (by rfl) (by decide) ?_
            have HS : ((fun (W : World) => Below wr.heap.size wr W ∧ (W.cell? ⟨bb, o + i, none⟩ = some (.slice R1 m1 d1) ∧ W.cell? ⟨bb, o + k, none⟩ = some (.slice R2 m2 d2) ∧ W.cell? ⟨bo, oo + i, none⟩ = some (.int .i64 (u : Int)) ∧ W.cell? ⟨bo, oo + k, none⟩ = some (.int .i64 (u : Int))))) _ := KS _ _ HS0 ((Below.refl _ _).drew)
            refine wpAnyT_take (i := 0) (v := ?vv13) rfl (by kernel_rfl) (fun _ _ _ h => h) (Or.inl ⟨by rfl, fun w hSw => ?yy13⟩) HS ?rr13
            case yy13 =>
              (try dsimp only at hSw); go_simp
              try with_reducible rfl
            try simp only [Act.put, List.setIfInBounds_toArray, List.set_cons_zero, List.set_cons_succ]
            refine wpAnyT_take (i := 1) (v := ?vv14) rfl (by kernel_rfl) (fun _ _ _ h => h) (Or.inl ⟨by rfl, fun w hSw => ?yy14⟩) HS ?rr14
            case yy14 =>
              (try dsimp only at hSw); go_simp
              try with_reducible rfl
            try simp only [Act.put, List.setIfInBounds_toArray, List.set_cons_zero, List.set_cons_succ]
            refine wpAnyT_take (i := 2) (v := ?vv15) rfl (by kernel_rfl) (fun _ _ _ h => h) (Or.inl ⟨by rfl, fun w hSw => ?yy15⟩) HS ?rr15
            case yy15 =>
              (try dsimp only at hSw); go_simp
              try with_reducible rfl
            try simp only [Act.put, List.setIfInBounds_toArray, List.set_cons_zero, List.set_cons_succ]
            refine wpAnyT_take (i := 3) (v := ?vv16) rfl (by kernel_rfl) (fun _ _ _ h => h) (Or.inl ⟨by rfl, fun w hSw => ?yy16⟩) HS ?rr16
            case yy16 =>
              (try dsimp only at hSw); go_simp
              try with_reducible rfl
            try simp only [Act.put, List.setIfInBounds_toArray, List.set_cons_zero, List.set_cons_succ]
            refine wpAnyT_take (i := 4) (v := ?vv17) rfl (by kernel_rfl) (fun _ _ _ h => h) (Or.inl ⟨by rfl, fun w hSw => ?yy17⟩) HS ?rr17
            case yy17 =>
              (try dsimp only at hSw); go_simp
              try with_reducible rfl
            try simp only [Act.put, List.setIfInBounds_toArray, List.set_cons_zero, List.set_cons_succ]
            refine wpAnyT_take (i := 5) (v := ?vv18) rfl (by kernel_rfl) (fun _ _ _ h => h) (Or.inl ⟨by rfl, fun w hSw => ?yy18⟩) HS ?rr18
            case yy18 =>
              (try dsimp only at hSw); go_simp
              try with_reducible rfl
            try simp only [Act.put, List.setIfInBounds_toArray, List.set_cons_zero, List.set_cons_succ]
            refine wpAnyT_take (i := 6) (v := ?vv19) rfl (by kernel_rfl) (fun _ _ _ h => h) (Or.inl ⟨by rfl, fun w hSw => ?yy19⟩) HS ?rr19
            case yy19 =>
              (try dsimp only at hSw); go_simp
              try with_reducible rfl
            try simp only [Act.put, List.setIfInBounds_toArray, List.set_cons_zero, List.set_cons_succ]
            refine wpAnyT_take (i := 7) (v := ?vv20) rfl (by kernel_rfl) (fun _ _ _ h => h) (Or.inl ⟨by rfl, fun w hSw => ?yy20⟩) HS ?rr20
            case yy20 =>
              (try dsimp only at hSw); go_simp
              try with_reducible rfl
            try simp only [Act.put, List.setIfInBounds_toArray, List.set_cons_zero, List.set_cons_succ]
            refine wpAnyT_take (i := 8) (v := ?vv21) rfl (by kernel_rfl) (fun _ _ _ h => h) (Or.inl ⟨by rfl, fun w hSw => ?yy21⟩) HS ?rr21
            case yy21 =>
              (try dsimp only at hSw); go_simp
              try with_reducible rfl
            try simp only [Act.put, List.setIfInBounds_toArray, List.set_cons_zero, List.set_cons_succ]
            refine wpAnyT_one (k := 9) rfl (by kernel_rfl) (by decide) (fun K hK => ?_)
            go_simp
            refine (ggalike_any R2 m2 d2 (li Ls k) R1 m1 d1 (li Ls i) _ (HS2.out.keep HS.1) (HS1.out.keep HS.1)).mono ?_
            rintro e y2w ⟨rfl, hy2⟩
            rw [HAV2.out]
            have HS : ((fun (W : World) => Below wr.heap.size wr W ∧ (W.cell? ⟨bb, o + i, none⟩ = some (.slice R1 m1 d1) ∧ W.cell? ⟨bb, o + k, none⟩ = some (.slice R2 m2 d2) ∧ W.cell? ⟨bo, oo + i, none⟩ = some (.int .i64 (u : Int)) ∧ W.cell? ⟨bo, oo + k, none⟩ = some (.int .i64 (u : Int))))) _ := KS _ _ HS hy2
            refine hK _ _ HS ?_
            clear hK K
            try simp only [Act.put, List.setIfInBounds_toArray, List.set_cons_zero, List.set_cons_succ]
            refine wpAnyT_take (i := 10) (v := .bool false) rfl (by kernel_rfl) (fun _ _ _ h => h) (Or.inl ⟨by rfl, fun w hSw => ?_⟩) HS ?_
            · (try dsimp only at hSw); go_simp
            try simp only [Act.put, List.setIfInBounds_toArray, List.set_cons_zero, List.set_cons_succ]
            refine wpAnyT_take (i := 11) (v := ?vv22) rfl (by kernel_rfl) (fun _ _ _ h => h) (Or.inl ⟨by rfl, fun w hSw => ?yy22⟩) HS ?rr22
            case yy22 =>
              (try dsimp only at hSw); go_simp
              try with_reducible rfl
            try simp only [Act.put, List.setIfInBounds_toArray, List.set_cons_zero, List.set_cons_succ]
            refine wpAnyT_take (i := 12) (v := ?vv23) rfl (by kernel_rfl) (fun _ _ _ h => h) (Or.inl ⟨by rfl, fun w hSw => ?yy23⟩) HS ?rr23
            case yy23 =>
              (try dsimp only at hSw); go_simp
              try with_reducible rfl
            try simp only [Act.put, List.setIfInBounds_toArray, List.set_cons_zero, List.set_cons_succ]
            refine wpAnyT_take (i := 13) (v := ?vv24) rfl (by kernel_rfl) (fun _ _ _ h => h) (Or.inl ⟨by rfl, fun w hSw => ?yy24⟩) HS ?rr24
            case yy24 =>
              (try dsimp only at hSw); go_simp
              try with_reducible rfl
            try simp only [Act.put, List.setIfInBounds_toArray, List.set_cons_zero, List.set_cons_succ]
            refine wpAnyT_take (i := 14) (v := ?vv25) rfl (by kernel_rfl) (fun _ _ _ h => h) (Or.inl ⟨by rfl, fun w hSw => ?yy25⟩) HS ?rr25
            case yy25 =>
              (try dsimp only at hSw); go_simp
              try with_reducible rfl
            try simp only [Act.put, List.setIfInBounds_toArray, List.set_cons_zero, List.set_cons_succ]
            refine wpAnyT_take (i := 15) (v := ?vv26) rfl (by kernel_rfl) (fun _ _ _ h => h) (Or.inl ⟨by rfl, fun w hSw => ?yy26⟩) HS ?rr26
            case yy26 =>
              (try dsimp only at hSw); go_simp
              try with_reducible rfl
            try simp only [Act.put, List.setIfInBounds_toArray, List.set_cons_zero, List.set_cons_succ]
            refine wpAnyT_take (i := 16) (v := ?vv27) rfl (by kernel_rfl) (fun _ _ _ h => h) (Or.inl ⟨by rfl, fun w hSw => ?yy27⟩) HS ?rr27
            case yy27 =>
              (try dsimp only at hSw); go_simp
              try with_reducible rfl
            try simp only [Act.put, List.setIfInBounds_toArray, List.set_cons_zero, List.set_cons_succ]
            refine wpAnyT_take (i := 17) (v := ?vv28) rfl (by kernel_rfl) (fun _ _ _ h => h) (Or.inl ⟨by rfl, fun w hSw => ?yy28⟩) HS ?rr28
            case yy28 =>
              (try dsimp only at hSw); go_simp
              try with_reducible rfl
            try simp only [Act.put, List.setIfInBounds_toArray, List.set_cons_zero, List.set_cons_succ]
            refine wpAnyT_take (i := 18) (v := ?vv29) rfl (by kernel_rfl) (fun _ _ _ h => h) (Or.inl ⟨by rfl, fun w hSw => ?yy29⟩) HS ?rr29
            case yy29 =>
              (try dsimp only at hSw); go_simp
              try with_reducible rfl
            try simp only [Act.put, List.setIfInBounds_toArray, List.set_cons_zero, List.set_cons_succ]
            refine wpAnyT_take (i := 19) (v := ?vv30) rfl (by kernel_rfl) (fun _ _ _ h => h) (Or.inl ⟨by rfl, fun w hSw => ?yy30⟩) HS ?rr30
            case yy30 =>
              (try dsimp only at hSw); go_simp
              try with_reducible rfl
            try simp only [Act.put, List.setIfInBounds_toArray, List.set_cons_zero, List.set_cons_succ]
            refine wpAnyT_take (i := 20) (v := ?vv31) rfl (by kernel_rfl) (fun _ _ _ h => h) (Or.inl ⟨by rfl, fun w hSw => ?yy31⟩) HS ?rr31
            case yy31 =>
              (try dsimp only at hSw); go_simp
              try with_reducible rfl
            try simp only [Act.put, List.setIfInBounds_toArray, List.set_cons_zero, List.set_cons_succ]
            refine wpAnyT_take (i := 21) (v := ?vv32) rfl (by kernel_rfl) (fun _ _ _ h => h) (Or.inl ⟨by rfl, fun w hSw => ?yy32⟩) HS ?rr32
            case yy32 =>
              (try dsimp only at hSw); go_simp
              try with_reducible rfl
            try simp only [Act.put, List.setIfInBounds_toArray, List.set_cons_zero, List.set_cons_succ]
            refine wpAnyT_take (i := 22) (v := .bool false) rfl (by kernel_rfl) (fun _ _ _ h => h) (Or.inl ⟨by rfl, fun w hSw => ?_⟩) HS ?_
            · (try dsimp only at hSw); go_simp
            try simp only [Act.put, List.setIfInBounds_toArray, List.set_cons_zero, List.set_cons_succ]
            refine wpAnyT_take (i := 23) (v := .bool false) rfl (by kernel_rfl) (fun _ _ _ h => h) (Or.inl ⟨by rfl, fun w hSw => ?_⟩) HS ?_
            · (try dsimp only at hSw); go_simp
            try simp only [Act.put, List.setIfInBounds_toArray, List.set_cons_zero, List.set_cons_succ]
            refine ⟨by kernel_rfl, ?_⟩
            simp only [List.drop_succ_cons, List.drop_zero]
            have bz := br.trans (HS.1.mono zr)
            have XZ := Lib.hid (XR.out.keep HS.1)
            clear HS KS dd HS0
            cases x with
            | true =>
              go_wp2_with fail
              go_roundw
              case rel => exact ⟨k + 1, true, by omega, by go_num, rfl, Lib.hid (fun _ => rfl), XZ.out, bz⟩
              case measure => simp [intOf]; omega
            | false =>
              by_cases e : k = i
              case pos =>
                have de : ((k : Int) != (i : Int)) = false := by simp; omega
                have de' : (k != i) = false := by simp; omega
                have he : HidEq k i := ⟨e⟩
                clear e
                go_wp2_with fail
                go_roundw
                case rel => exact ⟨k + 1, false, by omega, by go_num, rfl, Lib.hid (fun h => by have e := he.e; rcases h with h | ⟨j, hj, hne, hm⟩; exact HX.out (.inl h); exact HX.out (.inr ⟨j, by omega, hne, hm⟩)), XZ.out, bz⟩
                case measure => simp [intOf]; omega
              case neg =>
                have de : ((k : Int) != (i : Int)) = true := by simp; omega
                have de' : (k != i) = true := by simp; omega
                clear e
                go_wp2_with fail
                go_roundw
                case rel => exact ⟨k + 1, true, by omega, by go_num, rfl, Lib.hid (fun _ => rfl), XZ.out, bz⟩
                case measure => simp [intOf]; omega
        · obtain rfl : k = m := by omega
          have dlk : decide (k < k) = false := decide_eq_false (by omega)
          have hx : x = true := HX.out HJOIN.out
          subst hx
          have XR := Lib.hid xr
          clear xr
          go_wp2_with fail
          go_roundw
          case rel => exact ⟨i + 1, by omega, by go_num, XR.out, br⟩
          case measure => simp [intOf]; omega
    · obtain rfl : i = m := by omega
      have dlt : decide (i < i) = false := decide_eq_false (by omega)
      go_wp2_with fail
      go_ret
      exact ⟨rfl, br⟩
end Go.Proofs.Ytbaaglgoodckmaa.groupParts
