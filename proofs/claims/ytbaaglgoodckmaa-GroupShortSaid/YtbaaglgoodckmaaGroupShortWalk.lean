/- GroupShort: the walk. -/
import Derived.Test.YtbaaglgoodckmaaGrAwake
import Derived.Test.YtbaaglgoodckmaaTail2
import Derived.Deep.QuietTactic
import Derived.BigQuiet
import Derived.IntWalk
import Derived.Deep.AppendLies
import Derived.OrdersHeld
import Derived.Deep.DeepCutAuto
namespace Go.Proofs.Ytbaaglgoodckmaa.groupShort
open Go.RowKit
set_option linter.unusedVariables false
set_option linter.unusedSimpArgs false

set_option maxRecDepth 100000 in
set_option maxHeartbeats 16000000 in
theorem short_no {a b : List Int} (h : ¬ (4 ≤ a.length ∧ mayG a = true)) : alikeG a b = false := Bool.eq_false_iff.2 (fun k => by
  have := (alike_iff a b).1 k
  exact h ⟨this.2.2.1, this.1⟩)

set_option maxRecDepth 100000 in
set_option maxHeartbeats 16000000 in
theorem walk (A : Option Addr) (n c : Nat) (Ls : List (List Int)) (w : World) (hs : Ll w A n c Ls) :
    Calls Try.prog 7 #[.slice A n c] w fun e w' => e = .returned (.bool true) ∧ Below w.heap.size w w' := by
  obtain ⟨B, hB⟩ : ∃ B, w.heap.size = B := ⟨_, rfl⟩
  rw [hB]
  have HB := Lib.hid hB
  have m3 := hs.n9
  have HS := Lib.hid hs
  clear hs hB
  go_enter Try.func7, Try.ntmps7
  go_wp2_with fail
  refine (grawake_any _).mono ?_
  rintro e w2 ⟨rfl, b2⟩
  rw [HB.out] at b2
  have z2 : B ≤ w2.heap.size := by have := b2.size; rw [HB.out] at this; exact this
  have s2 : Ll w2 A n c Ls := HS.out.keep (by rw [HB.out]; exact b2)
  go_wp2_with fail
  refine (few_any A n c Ls _ s2).mono ?_
  rintro e w3 ⟨⟨sm, rfl, hsm⟩, rfl⟩
  have HSM := Lib.hid hsm; clear hsm
  cases sm with
  | false =>
    go_wp2_with fail
    go_ret
    exact ⟨rfl, b2⟩
  | true =>
  obtain ⟨hn20, hn40⟩ := HSM.out rfl
  have HN40 := Lib.hid hn40
  clear hn40 HSM
  go_wp2_with fail
  refine (ggof_any A n c Ls _ s2).mono ?_
  rintro e w4 ⟨G, m, f, rfl, x4, hb4⟩
  have b4 := b2.trans (hb4.mono z2); have z4 : B ≤ w4.heap.size := Nat.le_trans z2 hb4.size
  clear b2 z2 s2 hb4
  by_cases c4 : 4 < n
  case pos =>
    have d4 : decide (4 < n) = true := decide_eq_true c4
    have d4' : decide ((4 : Int) < (n : Int)) = true := decide_eq_true (by omega)
    have hg : groupsG Ls = [] := by unfold groupsG; rw [if_pos (by rw [HS.out.len]; exact c4)]
    rw [hg] at x4
    obtain rfl : m = 0 := x4.rd.len.symm
    clear hg x4
    go_wp2_with fail
    go_ret
    exact ⟨rfl, b4⟩
  case neg =>
  have d4 : decide (4 < n) = false := decide_eq_false c4
  have d4' : decide ((4 : Int) < (n : Int)) = false := decide_eq_false (by omega)
  have hn4 : n ≤ 4 := by omega
  clear c4
  have hLn : Ls.length = n := HS.out.len
  have hgl := groups_len (L := Ls) (by omega)
  have hge := groups_eq (L := Ls) (by omega)
  obtain rfl : m = n := by rw [← x4.rd.len, hgl, hLn]
  rw [hge, hLn] at x4
  have hok : ∀ i, i < m → OfOk (matG Ls) m i := fun i hi => of_ok hn4 (matG_comm Ls) hi
  have HOK := Lib.hid hok
  obtain ⟨O, hO⟩ : ∃ O, ofG (matG Ls) m = O := ⟨_, rfl⟩
  rw [hO] at x4
  have HO := Lib.hid hO
  clear hLn hgl hge hok hO
  go_wp2_with fail
  go_loopw [6] (fun i wr => ∃ k : Nat, k ≤ m ∧ i = .int .i64 (k : Int) ∧ Si wr G m f O ∧ Below B w wr) (fun i _ => m - (intOf i).toNat)
  case atStart => exact ⟨0, Nat.zero_le _, rfl, x4, b4⟩
  case round =>
    obtain ⟨i, hi, rfl, xr, br⟩ := hrel
    clear x4 b4 z4
    have zr : B ≤ wr.heap.size := by have := br.size; have := HB.out; omega
    by_cases hlt : i < m
    · have dlt : decide (i < m) = true := decide_eq_true hlt
      have sr : Ll wr A m c Ls := HS.out.keep (by rw [HB.out]; exact br)
      obtain ⟨bb, o, hA, hbb, hc⟩ := sr.at_ (by omega)
      have SR := Lib.hid sr
      subst hA
      obtain ⟨R1, m1, d1, c1, s1⟩ := hc i hlt
      have hm1 := s1.rd.len
      have hmx := s1.max; have hml := s1.le
      have hm9 : m1 ≤ 9223372036854775807 := by unfold maxLen at hmx; omega
      clear hmx hml sr
      obtain ⟨bo, oo, hG, hbo, hco⟩ := xr.rd.at_ (by omega)
      subst hG
      have XR := Lib.hid xr; have HM1 := Lib.hid hm1
      clear xr hc hco hm1
      have ok := HOK.out i hlt
      have hlone := ok.alone
      rw [HO.out] at hlone
      have HLONE := Lib.hid hlone
      clear ok hlone
      by_cases g1 : 4 ≤ m1
      case pos =>
        have dg : decide (4 ≤ m1) = true := decide_eq_true g1
        have dg' : decide ((4 : Int) ≤ (m1 : Int)) = true := decide_eq_true (by omega)
        obtain ⟨mv, hmv⟩ : ∃ v, mayG (li Ls i) = v := ⟨_, rfl⟩
        have HMV := Lib.hid hmv; clear hmv
        go_wp2_with fail
        refine (ggmay_any R1 m1 d1 (li Ls i) _ s1).mono ?_
        rintro e wq ⟨rfl, hbq⟩
        rw [HMV.out]
        have bq := br.trans (hbq.mono zr); have xq := XR.out.keep hbq
        have XQ := Lib.hid xq
        clear s1 c1 br zr XR SR hbq xq
        cases mv with
        | true =>
          go_wp2_with fail
          go_roundw
          case rel => exact ⟨i + 1, by omega, by go_num, XQ.out, bq⟩
          case measure => simp [intOf]; omega
        | false =>
          have hno : ¬ (4 ≤ (li Ls i).length ∧ mayG (li Ls i) = true) := fun h => by have := h.2; rw [HMV.out] at this; cases this
          have HNO := Lib.hid hno; clear hno
          have hfact : it O i = (i : Int) ∧ ∀ k, k < m → k ≠ i → it O k ≠ (i : Int) := HLONE.out (fun k _ _ => short_no HNO.out)
          have HF := Lib.hid hfact; clear hfact
          go_wp2_with fail
          go_loopw [7] (fun i2 wr => ∃ k : Nat, k ≤ m ∧ i2 = .int .i64 (k : Int) ∧ Si wr (some ⟨bo, oo, none⟩) m f O ∧ Below B w wr) (fun i2 _ => m - (intOf i2).toNat)
          case atStart => exact ⟨0, Nat.zero_le _, rfl, XQ.out, bq⟩
          case round =>
            obtain ⟨k, hk, rfl, xr, br⟩ := hrel
            clear bq XQ
            have zr : B ≤ wr.heap.size := by have := br.size; have := HB.out; omega
            obtain ⟨bo', oo', hG, hbo', hco⟩ := xr.rd.at_ (by omega)
            cases hG
            have XR := Lib.hid xr
            by_cases hlk : k < m
            · have dlk : decide (k < m) = true := decide_eq_true hlk
              have sr : Ll wr (some ⟨bb, o, none⟩) m c Ls := HS.out.keep (by rw [HB.out]; exact br)
              obtain ⟨bb', o', hA, hbb', hc⟩ := sr.at_ (by omega)
              cases hA
              obtain ⟨R3, m3, d3, c1, s1⟩ := hc i hlt
              obtain ⟨R2, m2, d2, c2, s2⟩ := hc k hlk
              have y2 := hco k hlk
              obtain ⟨vk, hvk⟩ : ∃ v, it O k = v := ⟨_, rfl⟩
              rw [hvk] at y2
              have hv1 : alikeG (li Ls i) (li Ls k) = false := short_no HNO.out
              have hv2 : alikeG (li Ls k) (li Ls i) = false := by rw [alike_comm]; exact hv1
              have hne : k ≠ i → vk ≠ (i : Int) := fun h => by rw [← hvk]; exact HF.out.2 k hlk h
              have HV1 := Lib.hid hv1; have HV2 := Lib.hid hv2; have HNE := Lib.hid hne; have HS1 := Lib.hid s1; have HS2 := Lib.hid s2
              clear hc hco s1 s2 hv1 hv2 hne hvk xr sr
              have KS : ∀ W W', (fun (W : World) => Below wr.heap.size wr W ∧ (W.cell? ⟨bb, o + i, none⟩ = some (.slice R3 m3 d3) ∧ W.cell? ⟨bb, o + k, none⟩ = some (.slice R2 m2 d2) ∧ W.cell? ⟨bo, oo + k, none⟩ = some (.int .i64 vk))) W → Below W.heap.size W W' → (fun (W : World) => Below wr.heap.size wr W ∧ (W.cell? ⟨bb, o + i, none⟩ = some (.slice R3 m3 d3) ∧ W.cell? ⟨bb, o + k, none⟩ = some (.slice R2 m2 d2) ∧ W.cell? ⟨bo, oo + k, none⟩ = some (.int .i64 vk))) W' := fun W W' h hb => ⟨h.1.trans (hb.mono h.1.size), (hb.cell (p := ⟨bb, o + i, none⟩) (Nat.lt_of_lt_of_le hbb' h.1.size)).trans h.2.1, (hb.cell (p := ⟨bb, o + k, none⟩) (Nat.lt_of_lt_of_le hbb' h.1.size)).trans h.2.2.1, (hb.cell (p := ⟨bo, oo + k, none⟩) (Nat.lt_of_lt_of_le hbo' h.1.size)).trans h.2.2.2⟩
              go_upto_region 17 with fail
              by_cases e : k = i
              case pos =>
                have de : ((k : Int) != (i : Int)) = false := by simp; omega
                have de' : (k != i) = false := by simp; omega
                clear e
                refine wp_region_tail 32 33 (fun (W : World) => Below wr.heap.size wr W ∧ (W.cell? ⟨bb, o + i, none⟩ = some (.slice R3 m3 d3) ∧ W.cell? ⟨bb, o + k, none⟩ = some (.slice R2 m2 d2) ∧ W.cell? ⟨bo, oo + k, none⟩ = some (.int .i64 vk))) (by kernel_rfl) (by rfl) (by decide) ?_
                have HS : ((fun (W : World) => Below wr.heap.size wr W ∧ (W.cell? ⟨bb, o + i, none⟩ = some (.slice R3 m3 d3) ∧ W.cell? ⟨bb, o + k, none⟩ = some (.slice R2 m2 d2) ∧ W.cell? ⟨bo, oo + k, none⟩ = some (.int .i64 vk)))) _ := KS _ _ ⟨Below.refl _ _, c1, c2, y2⟩ ((Below.refl _ _).drew)
                refine wpAnyT_take (i := 0) (v := ?vv41) rfl (by kernel_rfl) (fun _ _ _ h => h) (Or.inl ⟨by rfl, fun w hSw => ?yy41⟩) HS ?rr41
                case yy41 =>
                  (try dsimp only at hSw); go_simp
                  try with_reducible rfl
                try simp only [Act.put, List.setIfInBounds_toArray, List.set_cons_zero, List.set_cons_succ]
                refine wpAnyT_take (i := 1) (v := ?vv42) rfl (by kernel_rfl) (fun _ _ _ h => h) (Or.inl ⟨by rfl, fun w hSw => ?yy42⟩) HS ?rr42
                case yy42 =>
                  (try dsimp only at hSw); go_simp
                  try with_reducible rfl
                try simp only [Act.put, List.setIfInBounds_toArray, List.set_cons_zero, List.set_cons_succ]
                refine wpAnyT_take (i := 2) (v := ?vv43) rfl (by kernel_rfl) (fun _ _ _ h => h) (Or.inl ⟨by rfl, fun w hSw => ?yy43⟩) HS ?rr43
                case yy43 =>
                  (try dsimp only at hSw); go_simp
                  try with_reducible rfl
                try simp only [Act.put, List.setIfInBounds_toArray, List.set_cons_zero, List.set_cons_succ]
                refine wpAnyT_take (i := 3) (v := ?vv44) rfl (by kernel_rfl) (fun _ _ _ h => h) (Or.inl ⟨by rfl, fun w hSw => ?yy44⟩) HS ?rr44
                case yy44 =>
                  (try dsimp only at hSw); go_simp
                  try with_reducible rfl
                try simp only [Act.put, List.setIfInBounds_toArray, List.set_cons_zero, List.set_cons_succ]
                refine wpAnyT_take (i := 4) (v := ?vv45) rfl (by kernel_rfl) (fun _ _ _ h => h) (Or.inl ⟨by rfl, fun w hSw => ?yy45⟩) HS ?rr45
                case yy45 =>
                  (try dsimp only at hSw); go_simp
                  try with_reducible rfl
                try simp only [Act.put, List.setIfInBounds_toArray, List.set_cons_zero, List.set_cons_succ]
                refine wpAnyT_take (i := 5) (v := ?vv46) rfl (by kernel_rfl) (fun _ _ _ h => h) (Or.inl ⟨by rfl, fun w hSw => ?yy46⟩) HS ?rr46
                case yy46 =>
                  (try dsimp only at hSw); go_simp
                  try with_reducible rfl
                try simp only [Act.put, List.setIfInBounds_toArray, List.set_cons_zero, List.set_cons_succ]
                refine wpAnyT_take (i := 6) (v := ?vv47) rfl (by kernel_rfl) (fun _ _ _ h => h) (Or.inl ⟨by rfl, fun w hSw => ?yy47⟩) HS ?rr47
                case yy47 =>
                  (try dsimp only at hSw); go_simp
                  try with_reducible rfl
                try simp only [Act.put, List.setIfInBounds_toArray, List.set_cons_zero, List.set_cons_succ]
                refine wpAnyT_take (i := 7) (v := ?vv48) rfl (by kernel_rfl) (fun _ _ _ h => h) (Or.inl ⟨by rfl, fun w hSw => ?yy48⟩) HS ?rr48
                case yy48 =>
                  (try dsimp only at hSw); go_simp
                  try with_reducible rfl
                try simp only [Act.put, List.setIfInBounds_toArray, List.set_cons_zero, List.set_cons_succ]
                refine wpAnyT_one (k := 8) rfl (by kernel_rfl) (by decide) (fun K hK => ?_)
                go_simp
                refine (ggalike_any R3 m3 d3 (li Ls i) R2 m2 d2 (li Ls k) _ (HS1.out.keep HS.1) (HS2.out.keep HS.1)).mono ?_
                rintro e y1w ⟨rfl, hy1⟩
                rw [HV1.out]
                have HS : ((fun (W : World) => Below wr.heap.size wr W ∧ (W.cell? ⟨bb, o + i, none⟩ = some (.slice R3 m3 d3) ∧ W.cell? ⟨bb, o + k, none⟩ = some (.slice R2 m2 d2) ∧ W.cell? ⟨bo, oo + k, none⟩ = some (.int .i64 vk)))) _ := KS _ _ HS hy1
                refine hK _ _ HS ?_
                clear hK K
                try simp only [Act.put, List.setIfInBounds_toArray, List.set_cons_zero, List.set_cons_succ]
                refine wpAnyT_take (i := 9) (v := ?vv49) rfl (by kernel_rfl) (fun _ _ _ h => h) (Or.inl ⟨by rfl, fun w hSw => ?yy49⟩) HS ?rr49
                case yy49 =>
                  (try dsimp only at hSw); go_simp
                  try with_reducible rfl
                try simp only [Act.put, List.setIfInBounds_toArray, List.set_cons_zero, List.set_cons_succ]
                refine wpAnyT_take (i := 10) (v := ?vv50) rfl (by kernel_rfl) (fun _ _ _ h => h) (Or.inl ⟨by rfl, fun w hSw => ?yy50⟩) HS ?rr50
                case yy50 =>
                  (try dsimp only at hSw); go_simp
                  try with_reducible rfl
                try simp only [Act.put, List.setIfInBounds_toArray, List.set_cons_zero, List.set_cons_succ]
                refine wpAnyT_take (i := 11) (v := ?vv51) rfl (by kernel_rfl) (fun _ _ _ h => h) (Or.inl ⟨by rfl, fun w hSw => ?yy51⟩) HS ?rr51
                case yy51 =>
                  (try dsimp only at hSw); go_simp
                  try with_reducible rfl
                try simp only [Act.put, List.setIfInBounds_toArray, List.set_cons_zero, List.set_cons_succ]
                refine wpAnyT_take (i := 12) (v := ?vv52) rfl (by kernel_rfl) (fun _ _ _ h => h) (Or.inl ⟨by rfl, fun w hSw => ?yy52⟩) HS ?rr52
                case yy52 =>
                  (try dsimp only at hSw); go_simp
                  try with_reducible rfl
                try simp only [Act.put, List.setIfInBounds_toArray, List.set_cons_zero, List.set_cons_succ]
                refine wpAnyT_take (i := 13) (v := ?vv53) rfl (by kernel_rfl) (fun _ _ _ h => h) (Or.inl ⟨by rfl, fun w hSw => ?yy53⟩) HS ?rr53
                case yy53 =>
                  (try dsimp only at hSw); go_simp
                  try with_reducible rfl
                try simp only [Act.put, List.setIfInBounds_toArray, List.set_cons_zero, List.set_cons_succ]
                refine wpAnyT_take (i := 14) (v := ?vv54) rfl (by kernel_rfl) (fun _ _ _ h => h) (Or.inl ⟨by rfl, fun w hSw => ?yy54⟩) HS ?rr54
                case yy54 =>
                  (try dsimp only at hSw); go_simp
                  try with_reducible rfl
                try simp only [Act.put, List.setIfInBounds_toArray, List.set_cons_zero, List.set_cons_succ]
                refine wpAnyT_take (i := 15) (v := ?vv55) rfl (by kernel_rfl) (fun _ _ _ h => h) (Or.inl ⟨by rfl, fun w hSw => ?yy55⟩) HS ?rr55
                case yy55 =>
                  (try dsimp only at hSw); go_simp
                  try with_reducible rfl
                try simp only [Act.put, List.setIfInBounds_toArray, List.set_cons_zero, List.set_cons_succ]
                refine wpAnyT_take (i := 16) (v := ?vv56) rfl (by kernel_rfl) (fun _ _ _ h => h) (Or.inl ⟨by rfl, fun w hSw => ?yy56⟩) HS ?rr56
                case yy56 =>
                  (try dsimp only at hSw); go_simp
                  try with_reducible rfl
                try simp only [Act.put, List.setIfInBounds_toArray, List.set_cons_zero, List.set_cons_succ]
                refine wpAnyT_take (i := 17) (v := ?vv57) rfl (by kernel_rfl) (fun _ _ _ h => h) (Or.inl ⟨by rfl, fun w hSw => ?yy57⟩) HS ?rr57
                case yy57 =>
                  (try dsimp only at hSw); go_simp
                  try with_reducible rfl
                try simp only [Act.put, List.setIfInBounds_toArray, List.set_cons_zero, List.set_cons_succ]
                refine wpAnyT_one (k := 18) rfl (by kernel_rfl) (by decide) (fun K hK => ?_)
                go_simp
                refine (ggalike_any R2 m2 d2 (li Ls k) R3 m3 d3 (li Ls i) _ (HS2.out.keep HS.1) (HS1.out.keep HS.1)).mono ?_
                rintro e y2w ⟨rfl, hy2⟩
                rw [HV2.out]
                have HS : ((fun (W : World) => Below wr.heap.size wr W ∧ (W.cell? ⟨bb, o + i, none⟩ = some (.slice R3 m3 d3) ∧ W.cell? ⟨bb, o + k, none⟩ = some (.slice R2 m2 d2) ∧ W.cell? ⟨bo, oo + k, none⟩ = some (.int .i64 vk)))) _ := KS _ _ HS hy2
                refine hK _ _ HS ?_
                clear hK K
                try simp only [Act.put, List.setIfInBounds_toArray, List.set_cons_zero, List.set_cons_succ]
                refine wpAnyT_take (i := 19) (v := .bool false) rfl (by kernel_rfl) (fun _ _ _ h => h) (Or.inl ⟨by rfl, fun w hSw => ?_⟩) HS ?_
                · (try dsimp only at hSw); go_simp
                try simp only [Act.put, List.setIfInBounds_toArray, List.set_cons_zero, List.set_cons_succ]
                refine wpAnyT_take (i := 20) (v := ?vv58) rfl (by kernel_rfl) (fun _ _ _ h => h) (Or.inl ⟨by rfl, fun w hSw => ?yy58⟩) HS ?rr58
                case yy58 =>
                  (try dsimp only at hSw); go_simp
                  try with_reducible rfl
                try simp only [Act.put, List.setIfInBounds_toArray, List.set_cons_zero, List.set_cons_succ]
                refine wpAnyT_take (i := 21) (v := ?vv59) rfl (by kernel_rfl) (fun _ _ _ h => h) (Or.inl ⟨by rfl, fun w hSw => ?yy59⟩) HS ?rr59
                case yy59 =>
                  (try dsimp only at hSw); go_simp
                  try with_reducible rfl
                try simp only [Act.put, List.setIfInBounds_toArray, List.set_cons_zero, List.set_cons_succ]
                refine wpAnyT_take (i := 22) (v := ?vv60) rfl (by kernel_rfl) (fun _ _ _ h => h) (Or.inl ⟨by rfl, fun w hSw => ?yy60⟩) HS ?rr60
                case yy60 =>
                  (try dsimp only at hSw); go_simp
                  try with_reducible rfl
                try simp only [Act.put, List.setIfInBounds_toArray, List.set_cons_zero, List.set_cons_succ]
                refine wpAnyT_take (i := 23) (v := .bool false) rfl (by kernel_rfl) (fun _ _ _ h => h) (Or.inl ⟨by rfl, fun w hSw => ?_⟩) HS ?_
                · (try dsimp only at hSw); go_simp
                try simp only [Act.put, List.setIfInBounds_toArray, List.set_cons_zero, List.set_cons_succ]
                refine wpAnyT_take (i := 24) (v := ?vv61) rfl (by kernel_rfl) (fun _ _ _ h => h) (Or.inl ⟨by rfl, fun w hSw => ?yy61⟩) HS ?rr61
                case yy61 =>
                  (try dsimp only at hSw); go_simp
                  try with_reducible rfl
                try simp only [Act.put, List.setIfInBounds_toArray, List.set_cons_zero, List.set_cons_succ]
                refine wpAnyT_take (i := 25) (v := undef) rfl (by kernel_rfl) (fun _ _ _ h => h) (Or.inr ⟨by kernel_rfl, rfl⟩) HS ?_
                try simp only [Act.put, List.setIfInBounds_toArray, List.set_cons_zero, List.set_cons_succ]
                refine wpAnyT_take (i := 26) (v := undef) rfl (by kernel_rfl) (fun _ _ _ h => h) (Or.inr ⟨by kernel_rfl, rfl⟩) HS ?_
                try simp only [Act.put, List.setIfInBounds_toArray, List.set_cons_zero, List.set_cons_succ]
                refine wpAnyT_take (i := 27) (v := undef) rfl (by kernel_rfl) (fun _ _ _ h => h) (Or.inr ⟨by kernel_rfl, rfl⟩) HS ?_
                try simp only [Act.put, List.setIfInBounds_toArray, List.set_cons_zero, List.set_cons_succ]
                refine wpAnyT_take (i := 28) (v := undef) rfl (by kernel_rfl) (fun _ _ _ h => h) (Or.inr ⟨by kernel_rfl, rfl⟩) HS ?_
                try simp only [Act.put, List.setIfInBounds_toArray, List.set_cons_zero, List.set_cons_succ]
                refine wpAnyT_take (i := 29) (v := undef) rfl (by kernel_rfl) (fun _ _ _ h => h) (Or.inr ⟨by kernel_rfl, rfl⟩) HS ?_
                try simp only [Act.put, List.setIfInBounds_toArray, List.set_cons_zero, List.set_cons_succ]
                refine wpAnyT_take (i := 30) (v := undef) rfl (by kernel_rfl) (fun _ _ _ h => h) (Or.inr ⟨by kernel_rfl, rfl⟩) HS ?_
                try simp only [Act.put, List.setIfInBounds_toArray, List.set_cons_zero, List.set_cons_succ]
                refine wpAnyT_take (i := 31) (v := .bool false) rfl (by kernel_rfl) (fun _ _ _ h => h) (Or.inl ⟨by rfl, fun w hSw => ?_⟩) HS ?_
                · (try dsimp only at hSw); go_simp
                try simp only [Act.put, List.setIfInBounds_toArray, List.set_cons_zero, List.set_cons_succ]
                refine ⟨by kernel_rfl, ?_⟩
                simp only [List.drop_succ_cons, List.drop_zero]
                have bz := br.trans (HS.1.mono zr)
                have XZ := Lib.hid (XR.out.keep HS.1)
                clear HS KS
                go_wp2_with fail
                go_roundw
                case rel => exact ⟨k + 1, by omega, by go_num, XZ.out, bz⟩
                case measure => simp [intOf]; omega
              case neg =>
                have de : ((k : Int) != (i : Int)) = true := by simp; omega
                have de' : (k != i) = true := by simp; omega
                have dv : (vk == (i : Int)) = false := by simpa using HNE.out e
                clear e
                refine wp_region_tail 32 33 (fun (W : World) => Below wr.heap.size wr W ∧ (W.cell? ⟨bb, o + i, none⟩ = some (.slice R3 m3 d3) ∧ W.cell? ⟨bb, o + k, none⟩ = some (.slice R2 m2 d2) ∧ W.cell? ⟨bo, oo + k, none⟩ = some (.int .i64 vk))) (by kernel_rfl) (by rfl) (by decide) ?_
                have HS : ((fun (W : World) => Below wr.heap.size wr W ∧ (W.cell? ⟨bb, o + i, none⟩ = some (.slice R3 m3 d3) ∧ W.cell? ⟨bb, o + k, none⟩ = some (.slice R2 m2 d2) ∧ W.cell? ⟨bo, oo + k, none⟩ = some (.int .i64 vk)))) _ := KS _ _ ⟨Below.refl _ _, c1, c2, y2⟩ ((Below.refl _ _).drew)
                refine wpAnyT_take (i := 0) (v := ?vv62) rfl (by kernel_rfl) (fun _ _ _ h => h) (Or.inl ⟨by rfl, fun w hSw => ?yy62⟩) HS ?rr62
                case yy62 =>
                  (try dsimp only at hSw); go_simp
                  try with_reducible rfl
                try simp only [Act.put, List.setIfInBounds_toArray, List.set_cons_zero, List.set_cons_succ]
                refine wpAnyT_take (i := 1) (v := ?vv63) rfl (by kernel_rfl) (fun _ _ _ h => h) (Or.inl ⟨by rfl, fun w hSw => ?yy63⟩) HS ?rr63
                case yy63 =>
                  (try dsimp only at hSw); go_simp
                  try with_reducible rfl
                try simp only [Act.put, List.setIfInBounds_toArray, List.set_cons_zero, List.set_cons_succ]
                refine wpAnyT_take (i := 2) (v := ?vv64) rfl (by kernel_rfl) (fun _ _ _ h => h) (Or.inl ⟨by rfl, fun w hSw => ?yy64⟩) HS ?rr64
                case yy64 =>
                  (try dsimp only at hSw); go_simp
                  try with_reducible rfl
                try simp only [Act.put, List.setIfInBounds_toArray, List.set_cons_zero, List.set_cons_succ]
                refine wpAnyT_take (i := 3) (v := ?vv65) rfl (by kernel_rfl) (fun _ _ _ h => h) (Or.inl ⟨by rfl, fun w hSw => ?yy65⟩) HS ?rr65
                case yy65 =>
                  (try dsimp only at hSw); go_simp
                  try with_reducible rfl
                try simp only [Act.put, List.setIfInBounds_toArray, List.set_cons_zero, List.set_cons_succ]
                refine wpAnyT_take (i := 4) (v := ?vv66) rfl (by kernel_rfl) (fun _ _ _ h => h) (Or.inl ⟨by rfl, fun w hSw => ?yy66⟩) HS ?rr66
                case yy66 =>
                  (try dsimp only at hSw); go_simp
                  try with_reducible rfl
                try simp only [Act.put, List.setIfInBounds_toArray, List.set_cons_zero, List.set_cons_succ]
                refine wpAnyT_take (i := 5) (v := ?vv67) rfl (by kernel_rfl) (fun _ _ _ h => h) (Or.inl ⟨by rfl, fun w hSw => ?yy67⟩) HS ?rr67
                case yy67 =>
                  (try dsimp only at hSw); go_simp
                  try with_reducible rfl
                try simp only [Act.put, List.setIfInBounds_toArray, List.set_cons_zero, List.set_cons_succ]
                refine wpAnyT_take (i := 6) (v := ?vv68) rfl (by kernel_rfl) (fun _ _ _ h => h) (Or.inl ⟨by rfl, fun w hSw => ?yy68⟩) HS ?rr68
                case yy68 =>
                  (try dsimp only at hSw); go_simp
                  try with_reducible rfl
                try simp only [Act.put, List.setIfInBounds_toArray, List.set_cons_zero, List.set_cons_succ]
                refine wpAnyT_take (i := 7) (v := ?vv69) rfl (by kernel_rfl) (fun _ _ _ h => h) (Or.inl ⟨by rfl, fun w hSw => ?yy69⟩) HS ?rr69
                case yy69 =>
                  (try dsimp only at hSw); go_simp
                  try with_reducible rfl
                try simp only [Act.put, List.setIfInBounds_toArray, List.set_cons_zero, List.set_cons_succ]
                refine wpAnyT_one (k := 8) rfl (by kernel_rfl) (by decide) (fun K hK => ?_)
                go_simp
                refine (ggalike_any R3 m3 d3 (li Ls i) R2 m2 d2 (li Ls k) _ (HS1.out.keep HS.1) (HS2.out.keep HS.1)).mono ?_
                rintro e y1w ⟨rfl, hy1⟩
                rw [HV1.out]
                have HS : ((fun (W : World) => Below wr.heap.size wr W ∧ (W.cell? ⟨bb, o + i, none⟩ = some (.slice R3 m3 d3) ∧ W.cell? ⟨bb, o + k, none⟩ = some (.slice R2 m2 d2) ∧ W.cell? ⟨bo, oo + k, none⟩ = some (.int .i64 vk)))) _ := KS _ _ HS hy1
                refine hK _ _ HS ?_
                clear hK K
                try simp only [Act.put, List.setIfInBounds_toArray, List.set_cons_zero, List.set_cons_succ]
                refine wpAnyT_take (i := 9) (v := ?vv70) rfl (by kernel_rfl) (fun _ _ _ h => h) (Or.inl ⟨by rfl, fun w hSw => ?yy70⟩) HS ?rr70
                case yy70 =>
                  (try dsimp only at hSw); go_simp
                  try with_reducible rfl
                try simp only [Act.put, List.setIfInBounds_toArray, List.set_cons_zero, List.set_cons_succ]
                refine wpAnyT_take (i := 10) (v := ?vv71) rfl (by kernel_rfl) (fun _ _ _ h => h) (Or.inl ⟨by rfl, fun w hSw => ?yy71⟩) HS ?rr71
                case yy71 =>
                  (try dsimp only at hSw); go_simp
                  try with_reducible rfl
                try simp only [Act.put, List.setIfInBounds_toArray, List.set_cons_zero, List.set_cons_succ]
                refine wpAnyT_take (i := 11) (v := ?vv72) rfl (by kernel_rfl) (fun _ _ _ h => h) (Or.inl ⟨by rfl, fun w hSw => ?yy72⟩) HS ?rr72
                case yy72 =>
                  (try dsimp only at hSw); go_simp
                  try with_reducible rfl
                try simp only [Act.put, List.setIfInBounds_toArray, List.set_cons_zero, List.set_cons_succ]
                refine wpAnyT_take (i := 12) (v := ?vv73) rfl (by kernel_rfl) (fun _ _ _ h => h) (Or.inl ⟨by rfl, fun w hSw => ?yy73⟩) HS ?rr73
                case yy73 =>
                  (try dsimp only at hSw); go_simp
                  try with_reducible rfl
                try simp only [Act.put, List.setIfInBounds_toArray, List.set_cons_zero, List.set_cons_succ]
                refine wpAnyT_take (i := 13) (v := ?vv74) rfl (by kernel_rfl) (fun _ _ _ h => h) (Or.inl ⟨by rfl, fun w hSw => ?yy74⟩) HS ?rr74
                case yy74 =>
                  (try dsimp only at hSw); go_simp
                  try with_reducible rfl
                try simp only [Act.put, List.setIfInBounds_toArray, List.set_cons_zero, List.set_cons_succ]
                refine wpAnyT_take (i := 14) (v := ?vv75) rfl (by kernel_rfl) (fun _ _ _ h => h) (Or.inl ⟨by rfl, fun w hSw => ?yy75⟩) HS ?rr75
                case yy75 =>
                  (try dsimp only at hSw); go_simp
                  try with_reducible rfl
                try simp only [Act.put, List.setIfInBounds_toArray, List.set_cons_zero, List.set_cons_succ]
                refine wpAnyT_take (i := 15) (v := ?vv76) rfl (by kernel_rfl) (fun _ _ _ h => h) (Or.inl ⟨by rfl, fun w hSw => ?yy76⟩) HS ?rr76
                case yy76 =>
                  (try dsimp only at hSw); go_simp
                  try with_reducible rfl
                try simp only [Act.put, List.setIfInBounds_toArray, List.set_cons_zero, List.set_cons_succ]
                refine wpAnyT_take (i := 16) (v := ?vv77) rfl (by kernel_rfl) (fun _ _ _ h => h) (Or.inl ⟨by rfl, fun w hSw => ?yy77⟩) HS ?rr77
                case yy77 =>
                  (try dsimp only at hSw); go_simp
                  try with_reducible rfl
                try simp only [Act.put, List.setIfInBounds_toArray, List.set_cons_zero, List.set_cons_succ]
                refine wpAnyT_take (i := 17) (v := ?vv78) rfl (by kernel_rfl) (fun _ _ _ h => h) (Or.inl ⟨by rfl, fun w hSw => ?yy78⟩) HS ?rr78
                case yy78 =>
                  (try dsimp only at hSw); go_simp
                  try with_reducible rfl
                try simp only [Act.put, List.setIfInBounds_toArray, List.set_cons_zero, List.set_cons_succ]
                refine wpAnyT_one (k := 18) rfl (by kernel_rfl) (by decide) (fun K hK => ?_)
                go_simp
                refine (ggalike_any R2 m2 d2 (li Ls k) R3 m3 d3 (li Ls i) _ (HS2.out.keep HS.1) (HS1.out.keep HS.1)).mono ?_
                rintro e y2w ⟨rfl, hy2⟩
                rw [HV2.out]
                have HS : ((fun (W : World) => Below wr.heap.size wr W ∧ (W.cell? ⟨bb, o + i, none⟩ = some (.slice R3 m3 d3) ∧ W.cell? ⟨bb, o + k, none⟩ = some (.slice R2 m2 d2) ∧ W.cell? ⟨bo, oo + k, none⟩ = some (.int .i64 vk)))) _ := KS _ _ HS hy2
                refine hK _ _ HS ?_
                clear hK K
                try simp only [Act.put, List.setIfInBounds_toArray, List.set_cons_zero, List.set_cons_succ]
                refine wpAnyT_take (i := 19) (v := .bool false) rfl (by kernel_rfl) (fun _ _ _ h => h) (Or.inl ⟨by rfl, fun w hSw => ?_⟩) HS ?_
                · (try dsimp only at hSw); go_simp
                try simp only [Act.put, List.setIfInBounds_toArray, List.set_cons_zero, List.set_cons_succ]
                refine wpAnyT_take (i := 20) (v := ?vv79) rfl (by kernel_rfl) (fun _ _ _ h => h) (Or.inl ⟨by rfl, fun w hSw => ?yy79⟩) HS ?rr79
                case yy79 =>
                  (try dsimp only at hSw); go_simp
                  try with_reducible rfl
                try simp only [Act.put, List.setIfInBounds_toArray, List.set_cons_zero, List.set_cons_succ]
                refine wpAnyT_take (i := 21) (v := ?vv80) rfl (by kernel_rfl) (fun _ _ _ h => h) (Or.inl ⟨by rfl, fun w hSw => ?yy80⟩) HS ?rr80
                case yy80 =>
                  (try dsimp only at hSw); go_simp
                  try with_reducible rfl
                try simp only [Act.put, List.setIfInBounds_toArray, List.set_cons_zero, List.set_cons_succ]
                refine wpAnyT_take (i := 22) (v := ?vv81) rfl (by kernel_rfl) (fun _ _ _ h => h) (Or.inl ⟨by rfl, fun w hSw => ?yy81⟩) HS ?rr81
                case yy81 =>
                  (try dsimp only at hSw); go_simp
                  try with_reducible rfl
                try simp only [Act.put, List.setIfInBounds_toArray, List.set_cons_zero, List.set_cons_succ]
                refine wpAnyT_take (i := 23) (v := .bool true) rfl (by kernel_rfl) (fun _ _ _ h => h) (Or.inl ⟨by rfl, fun w hSw => ?_⟩) HS ?_
                · (try dsimp only at hSw); go_simp
                try simp only [Act.put, List.setIfInBounds_toArray, List.set_cons_zero, List.set_cons_succ]
                refine wpAnyT_take (i := 24) (v := ?vv82) rfl (by kernel_rfl) (fun _ _ _ h => h) (Or.inl ⟨by rfl, fun w hSw => ?yy82⟩) HS ?rr82
                case yy82 =>
                  (try dsimp only at hSw); go_simp
                  try with_reducible rfl
                try simp only [Act.put, List.setIfInBounds_toArray, List.set_cons_zero, List.set_cons_succ]
                refine wpAnyT_take (i := 25) (v := ?vv83) rfl (by kernel_rfl) (fun _ _ _ h => h) (Or.inl ⟨by rfl, fun w hSw => ?yy83⟩) HS ?rr83
                case yy83 =>
                  (try dsimp only at hSw); go_simp
                  try with_reducible rfl
                try simp only [Act.put, List.setIfInBounds_toArray, List.set_cons_zero, List.set_cons_succ]
                refine wpAnyT_take (i := 26) (v := ?vv84) rfl (by kernel_rfl) (fun _ _ _ h => h) (Or.inl ⟨by rfl, fun w hSw => ?yy84⟩) HS ?rr84
                case yy84 =>
                  (try dsimp only at hSw); go_simp
                  try with_reducible rfl
                try simp only [Act.put, List.setIfInBounds_toArray, List.set_cons_zero, List.set_cons_succ]
                refine wpAnyT_take (i := 27) (v := ?vv85) rfl (by kernel_rfl) (fun _ _ _ h => h) (Or.inl ⟨by rfl, fun w hSw => ?yy85⟩) HS ?rr85
                case yy85 =>
                  (try dsimp only at hSw); go_simp
                  try with_reducible rfl
                try simp only [Act.put, List.setIfInBounds_toArray, List.set_cons_zero, List.set_cons_succ]
                refine wpAnyT_take (i := 28) (v := ?vv86) rfl (by kernel_rfl) (fun _ _ _ h => h) (Or.inl ⟨by rfl, fun w hSw => ?yy86⟩) HS ?rr86
                case yy86 =>
                  (try dsimp only at hSw); go_simp
                  try with_reducible rfl
                try simp only [Act.put, List.setIfInBounds_toArray, List.set_cons_zero, List.set_cons_succ]
                refine wpAnyT_take (i := 29) (v := ?vv87) rfl (by kernel_rfl) (fun _ _ _ h => h) (Or.inl ⟨by rfl, fun w hSw => ?yy87⟩) HS ?rr87
                case yy87 =>
                  (try dsimp only at hSw); go_simp
                  try with_reducible rfl
                try simp only [Act.put, List.setIfInBounds_toArray, List.set_cons_zero, List.set_cons_succ]
                refine wpAnyT_take (i := 30) (v := .bool false) rfl (by kernel_rfl) (fun _ _ _ h => h) (Or.inl ⟨by rfl, fun w hSw => ?_⟩) HS ?_
                · (try dsimp only at hSw); go_simp
                try simp only [Act.put, List.setIfInBounds_toArray, List.set_cons_zero, List.set_cons_succ]
                refine wpAnyT_take (i := 31) (v := .bool false) rfl (by kernel_rfl) (fun _ _ _ h => h) (Or.inl ⟨by rfl, fun w hSw => ?_⟩) HS ?_
                · (try dsimp only at hSw); go_simp
                try simp only [Act.put, List.setIfInBounds_toArray, List.set_cons_zero, List.set_cons_succ]
                refine ⟨by kernel_rfl, ?_⟩
                simp only [List.drop_succ_cons, List.drop_zero]
                have bz := br.trans (HS.1.mono zr)
                have XZ := Lib.hid (XR.out.keep HS.1)
                clear HS KS
                go_wp2_with fail
                go_roundw
                case rel => exact ⟨k + 1, by omega, by go_num, XZ.out, bz⟩
                case measure => simp [intOf]; omega
            · obtain rfl : k = m := by omega
              have dlk : decide (k < k) = false := decide_eq_false (by omega)
              have y1 := hco i hlt
              rw [HF.out.1] at y1
              clear hco xr
              go_wp2_with fail
              go_roundw
              case rel => exact ⟨i + 1, by omega, by go_num, XR.out, br⟩
              case measure => simp [intOf]; omega
      case neg =>
        have dg : decide (4 ≤ m1) = false := decide_eq_false g1
        have dg' : decide ((4 : Int) ≤ (m1 : Int)) = false := decide_eq_false (by omega)
        have hno : ¬ (4 ≤ (li Ls i).length ∧ mayG (li Ls i) = true) := fun h => by have := h.1; rw [HM1.out] at this; omega
        have HNO := Lib.hid hno; have XQ := XR
        obtain ⟨wq, hwq⟩ : ∃ q, wr = q := ⟨_, rfl⟩
        subst hwq
        have bq := br
        clear hno s1 br zr XR SR
        have hfact : it O i = (i : Int) ∧ ∀ k, k < m → k ≠ i → it O k ≠ (i : Int) := HLONE.out (fun k _ _ => short_no HNO.out)
        have HF := Lib.hid hfact; clear hfact
        go_wp2_with fail
        go_loopw [7] (fun i2 wr => ∃ k : Nat, k ≤ m ∧ i2 = .int .i64 (k : Int) ∧ Si wr (some ⟨bo, oo, none⟩) m f O ∧ Below B w wr) (fun i2 _ => m - (intOf i2).toNat)
        case atStart => exact ⟨0, Nat.zero_le _, rfl, XQ.out, bq⟩
        case round =>
          obtain ⟨k, hk, rfl, xr, br⟩ := hrel
          clear bq XQ
          have zr : B ≤ wr.heap.size := by have := br.size; have := HB.out; omega
          obtain ⟨bo', oo', hG, hbo', hco⟩ := xr.rd.at_ (by omega)
          cases hG
          have XR := Lib.hid xr
          by_cases hlk : k < m
          · have dlk : decide (k < m) = true := decide_eq_true hlk
            have sr : Ll wr (some ⟨bb, o, none⟩) m c Ls := HS.out.keep (by rw [HB.out]; exact br)
            obtain ⟨bb', o', hA, hbb', hc⟩ := sr.at_ (by omega)
            cases hA
            obtain ⟨R3, m3, d3, c1, s1⟩ := hc i hlt
            obtain ⟨R2, m2, d2, c2, s2⟩ := hc k hlk
            have y2 := hco k hlk
            obtain ⟨vk, hvk⟩ : ∃ v, it O k = v := ⟨_, rfl⟩
            rw [hvk] at y2
            have hv1 : alikeG (li Ls i) (li Ls k) = false := short_no HNO.out
            have hv2 : alikeG (li Ls k) (li Ls i) = false := by rw [alike_comm]; exact hv1
            have hne : k ≠ i → vk ≠ (i : Int) := fun h => by rw [← hvk]; exact HF.out.2 k hlk h
            have HV1 := Lib.hid hv1; have HV2 := Lib.hid hv2; have HNE := Lib.hid hne; have HS1 := Lib.hid s1; have HS2 := Lib.hid s2
            clear hc hco s1 s2 hv1 hv2 hne hvk xr sr
            have KS : ∀ W W', (fun (W : World) => Below wr.heap.size wr W ∧ (W.cell? ⟨bb, o + i, none⟩ = some (.slice R3 m3 d3) ∧ W.cell? ⟨bb, o + k, none⟩ = some (.slice R2 m2 d2) ∧ W.cell? ⟨bo, oo + k, none⟩ = some (.int .i64 vk))) W → Below W.heap.size W W' → (fun (W : World) => Below wr.heap.size wr W ∧ (W.cell? ⟨bb, o + i, none⟩ = some (.slice R3 m3 d3) ∧ W.cell? ⟨bb, o + k, none⟩ = some (.slice R2 m2 d2) ∧ W.cell? ⟨bo, oo + k, none⟩ = some (.int .i64 vk))) W' := fun W W' h hb => ⟨h.1.trans (hb.mono h.1.size), (hb.cell (p := ⟨bb, o + i, none⟩) (Nat.lt_of_lt_of_le hbb' h.1.size)).trans h.2.1, (hb.cell (p := ⟨bb, o + k, none⟩) (Nat.lt_of_lt_of_le hbb' h.1.size)).trans h.2.2.1, (hb.cell (p := ⟨bo, oo + k, none⟩) (Nat.lt_of_lt_of_le hbo' h.1.size)).trans h.2.2.2⟩
            go_upto_region 17 with fail
            by_cases e : k = i
            case pos =>
              have de : ((k : Int) != (i : Int)) = false := by simp; omega
              have de' : (k != i) = false := by simp; omega
              clear e
              refine wp_region_tail 32 33 (fun (W : World) => Below wr.heap.size wr W ∧ (W.cell? ⟨bb, o + i, none⟩ = some (.slice R3 m3 d3) ∧ W.cell? ⟨bb, o + k, none⟩ = some (.slice R2 m2 d2) ∧ W.cell? ⟨bo, oo + k, none⟩ = some (.int .i64 vk))) (by kernel_rfl) (by rfl) (by decide) ?_
              have HS : ((fun (W : World) => Below wr.heap.size wr W ∧ (W.cell? ⟨bb, o + i, none⟩ = some (.slice R3 m3 d3) ∧ W.cell? ⟨bb, o + k, none⟩ = some (.slice R2 m2 d2) ∧ W.cell? ⟨bo, oo + k, none⟩ = some (.int .i64 vk)))) _ := KS _ _ ⟨Below.refl _ _, c1, c2, y2⟩ ((Below.refl _ _).drew)
              refine wpAnyT_take (i := 0) (v := ?vv88) rfl (by kernel_rfl) (fun _ _ _ h => h) (Or.inl ⟨by rfl, fun w hSw => ?yy88⟩) HS ?rr88
              case yy88 =>
                (try dsimp only at hSw); go_simp
                try with_reducible rfl
              try simp only [Act.put, List.setIfInBounds_toArray, List.set_cons_zero, List.set_cons_succ]
              refine wpAnyT_take (i := 1) (v := ?vv89) rfl (by kernel_rfl) (fun _ _ _ h => h) (Or.inl ⟨by rfl, fun w hSw => ?yy89⟩) HS ?rr89
              case yy89 =>
                (try dsimp only at hSw); go_simp
                try with_reducible rfl
              try simp only [Act.put, List.setIfInBounds_toArray, List.set_cons_zero, List.set_cons_succ]
              refine wpAnyT_take (i := 2) (v := ?vv90) rfl (by kernel_rfl) (fun _ _ _ h => h) (Or.inl ⟨by rfl, fun w hSw => ?yy90⟩) HS ?rr90
              case yy90 =>
                (try dsimp only at hSw); go_simp
                try with_reducible rfl
              try simp only [Act.put, List.setIfInBounds_toArray, List.set_cons_zero, List.set_cons_succ]
              refine wpAnyT_take (i := 3) (v := ?vv91) rfl (by kernel_rfl) (fun _ _ _ h => h) (Or.inl ⟨by rfl, fun w hSw => ?yy91⟩) HS ?rr91
              case yy91 =>
                (try dsimp only at hSw); go_simp
                try with_reducible rfl
              try simp only [Act.put, List.setIfInBounds_toArray, List.set_cons_zero, List.set_cons_succ]
              refine wpAnyT_take (i := 4) (v := ?vv92) rfl (by kernel_rfl) (fun _ _ _ h => h) (Or.inl ⟨by rfl, fun w hSw => ?yy92⟩) HS ?rr92
              case yy92 =>
                (try dsimp only at hSw); go_simp
                try with_reducible rfl
              try simp only [Act.put, List.setIfInBounds_toArray, List.set_cons_zero, List.set_cons_succ]
              refine wpAnyT_take (i := 5) (v := ?vv93) rfl (by kernel_rfl) (fun _ _ _ h => h) (Or.inl ⟨by rfl, fun w hSw => ?yy93⟩) HS ?rr93
              case yy93 =>
                (try dsimp only at hSw); go_simp
                try with_reducible rfl
              try simp only [Act.put, List.setIfInBounds_toArray, List.set_cons_zero, List.set_cons_succ]
              refine wpAnyT_take (i := 6) (v := ?vv94) rfl (by kernel_rfl) (fun _ _ _ h => h) (Or.inl ⟨by rfl, fun w hSw => ?yy94⟩) HS ?rr94
              case yy94 =>
                (try dsimp only at hSw); go_simp
                try with_reducible rfl
              try simp only [Act.put, List.setIfInBounds_toArray, List.set_cons_zero, List.set_cons_succ]
              refine wpAnyT_take (i := 7) (v := ?vv95) rfl (by kernel_rfl) (fun _ _ _ h => h) (Or.inl ⟨by rfl, fun w hSw => ?yy95⟩) HS ?rr95
              case yy95 =>
                (try dsimp only at hSw); go_simp
                try with_reducible rfl
              try simp only [Act.put, List.setIfInBounds_toArray, List.set_cons_zero, List.set_cons_succ]
              refine wpAnyT_one (k := 8) rfl (by kernel_rfl) (by decide) (fun K hK => ?_)
              go_simp
              refine (ggalike_any R3 m3 d3 (li Ls i) R2 m2 d2 (li Ls k) _ (HS1.out.keep HS.1) (HS2.out.keep HS.1)).mono ?_
              rintro e y1w ⟨rfl, hy1⟩
              rw [HV1.out]
              have HS : ((fun (W : World) => Below wr.heap.size wr W ∧ (W.cell? ⟨bb, o + i, none⟩ = some (.slice R3 m3 d3) ∧ W.cell? ⟨bb, o + k, none⟩ = some (.slice R2 m2 d2) ∧ W.cell? ⟨bo, oo + k, none⟩ = some (.int .i64 vk)))) _ := KS _ _ HS hy1
              refine hK _ _ HS ?_
              clear hK K
              try simp only [Act.put, List.setIfInBounds_toArray, List.set_cons_zero, List.set_cons_succ]
              refine wpAnyT_take (i := 9) (v := ?vv96) rfl (by kernel_rfl) (fun _ _ _ h => h) (Or.inl ⟨by rfl, fun w hSw => ?yy96⟩) HS ?rr96
              case yy96 =>
                (try dsimp only at hSw); go_simp
                try with_reducible rfl
              try simp only [Act.put, List.setIfInBounds_toArray, List.set_cons_zero, List.set_cons_succ]
              refine wpAnyT_take (i := 10) (v := ?vv97) rfl (by kernel_rfl) (fun _ _ _ h => h) (Or.inl ⟨by rfl, fun w hSw => ?yy97⟩) HS ?rr97
              case yy97 =>
                (try dsimp only at hSw); go_simp
                try with_reducible rfl
              try simp only [Act.put, List.setIfInBounds_toArray, List.set_cons_zero, List.set_cons_succ]
              refine wpAnyT_take (i := 11) (v := ?vv98) rfl (by kernel_rfl) (fun _ _ _ h => h) (Or.inl ⟨by rfl, fun w hSw => ?yy98⟩) HS ?rr98
              case yy98 =>
                (try dsimp only at hSw); go_simp
                try with_reducible rfl
              try simp only [Act.put, List.setIfInBounds_toArray, List.set_cons_zero, List.set_cons_succ]
              refine wpAnyT_take (i := 12) (v := ?vv99) rfl (by kernel_rfl) (fun _ _ _ h => h) (Or.inl ⟨by rfl, fun w hSw => ?yy99⟩) HS ?rr99
              case yy99 =>
                (try dsimp only at hSw); go_simp
                try with_reducible rfl
              try simp only [Act.put, List.setIfInBounds_toArray, List.set_cons_zero, List.set_cons_succ]
              refine wpAnyT_take (i := 13) (v := ?vv100) rfl (by kernel_rfl) (fun _ _ _ h => h) (Or.inl ⟨by rfl, fun w hSw => ?yy100⟩) HS ?rr100
              case yy100 =>
                (try dsimp only at hSw); go_simp
                try with_reducible rfl
              try simp only [Act.put, List.setIfInBounds_toArray, List.set_cons_zero, List.set_cons_succ]
              refine wpAnyT_take (i := 14) (v := ?vv101) rfl (by kernel_rfl) (fun _ _ _ h => h) (Or.inl ⟨by rfl, fun w hSw => ?yy101⟩) HS ?rr101
              case yy101 =>
                (try dsimp only at hSw); go_simp
                try with_reducible rfl
              try simp only [Act.put, List.setIfInBounds_toArray, List.set_cons_zero, List.set_cons_succ]
              refine wpAnyT_take (i := 15) (v := ?vv102) rfl (by kernel_rfl) (fun _ _ _ h => h) (Or.inl ⟨by rfl, fun w hSw => ?yy102⟩) HS ?rr102
              case yy102 =>
                (try dsimp only at hSw); go_simp
                try with_reducible rfl
              try simp only [Act.put, List.setIfInBounds_toArray, List.set_cons_zero, List.set_cons_succ]
              refine wpAnyT_take (i := 16) (v := ?vv103) rfl (by kernel_rfl) (fun _ _ _ h => h) (Or.inl ⟨by rfl, fun w hSw => ?yy103⟩) HS ?rr103
              case yy103 =>
                (try dsimp only at hSw); go_simp
                try with_reducible rfl
              try simp only [Act.put, List.setIfInBounds_toArray, List.set_cons_zero, List.set_cons_succ]
              refine wpAnyT_take (i := 17) (v := ?vv104) rfl (by kernel_rfl) (fun _ _ _ h => h) (Or.inl ⟨by rfl, fun w hSw => ?yy104⟩) HS ?rr104
              case yy104 =>
                (try dsimp only at hSw); go_simp
                try with_reducible rfl
              try simp only [Act.put, List.setIfInBounds_toArray, List.set_cons_zero, List.set_cons_succ]
              refine wpAnyT_one (k := 18) rfl (by kernel_rfl) (by decide) (fun K hK => ?_)
              go_simp
              refine (ggalike_any R2 m2 d2 (li Ls k) R3 m3 d3 (li Ls i) _ (HS2.out.keep HS.1) (HS1.out.keep HS.1)).mono ?_
              rintro e y2w ⟨rfl, hy2⟩
              rw [HV2.out]
              have HS : ((fun (W : World) => Below wr.heap.size wr W ∧ (W.cell? ⟨bb, o + i, none⟩ = some (.slice R3 m3 d3) ∧ W.cell? ⟨bb, o + k, none⟩ = some (.slice R2 m2 d2) ∧ W.cell? ⟨bo, oo + k, none⟩ = some (.int .i64 vk)))) _ := KS _ _ HS hy2
              refine hK _ _ HS ?_
              clear hK K
              try simp only [Act.put, List.setIfInBounds_toArray, List.set_cons_zero, List.set_cons_succ]
              refine wpAnyT_take (i := 19) (v := .bool false) rfl (by kernel_rfl) (fun _ _ _ h => h) (Or.inl ⟨by rfl, fun w hSw => ?_⟩) HS ?_
              · (try dsimp only at hSw); go_simp
              try simp only [Act.put, List.setIfInBounds_toArray, List.set_cons_zero, List.set_cons_succ]
              refine wpAnyT_take (i := 20) (v := ?vv105) rfl (by kernel_rfl) (fun _ _ _ h => h) (Or.inl ⟨by rfl, fun w hSw => ?yy105⟩) HS ?rr105
              case yy105 =>
                (try dsimp only at hSw); go_simp
                try with_reducible rfl
              try simp only [Act.put, List.setIfInBounds_toArray, List.set_cons_zero, List.set_cons_succ]
              refine wpAnyT_take (i := 21) (v := ?vv106) rfl (by kernel_rfl) (fun _ _ _ h => h) (Or.inl ⟨by rfl, fun w hSw => ?yy106⟩) HS ?rr106
              case yy106 =>
                (try dsimp only at hSw); go_simp
                try with_reducible rfl
              try simp only [Act.put, List.setIfInBounds_toArray, List.set_cons_zero, List.set_cons_succ]
              refine wpAnyT_take (i := 22) (v := ?vv107) rfl (by kernel_rfl) (fun _ _ _ h => h) (Or.inl ⟨by rfl, fun w hSw => ?yy107⟩) HS ?rr107
              case yy107 =>
                (try dsimp only at hSw); go_simp
                try with_reducible rfl
              try simp only [Act.put, List.setIfInBounds_toArray, List.set_cons_zero, List.set_cons_succ]
              refine wpAnyT_take (i := 23) (v := .bool false) rfl (by kernel_rfl) (fun _ _ _ h => h) (Or.inl ⟨by rfl, fun w hSw => ?_⟩) HS ?_
              · (try dsimp only at hSw); go_simp
              try simp only [Act.put, List.setIfInBounds_toArray, List.set_cons_zero, List.set_cons_succ]
              refine wpAnyT_take (i := 24) (v := ?vv108) rfl (by kernel_rfl) (fun _ _ _ h => h) (Or.inl ⟨by rfl, fun w hSw => ?yy108⟩) HS ?rr108
              case yy108 =>
                (try dsimp only at hSw); go_simp
                try with_reducible rfl
              try simp only [Act.put, List.setIfInBounds_toArray, List.set_cons_zero, List.set_cons_succ]
              refine wpAnyT_take (i := 25) (v := undef) rfl (by kernel_rfl) (fun _ _ _ h => h) (Or.inr ⟨by kernel_rfl, rfl⟩) HS ?_
              try simp only [Act.put, List.setIfInBounds_toArray, List.set_cons_zero, List.set_cons_succ]
              refine wpAnyT_take (i := 26) (v := undef) rfl (by kernel_rfl) (fun _ _ _ h => h) (Or.inr ⟨by kernel_rfl, rfl⟩) HS ?_
              try simp only [Act.put, List.setIfInBounds_toArray, List.set_cons_zero, List.set_cons_succ]
              refine wpAnyT_take (i := 27) (v := undef) rfl (by kernel_rfl) (fun _ _ _ h => h) (Or.inr ⟨by kernel_rfl, rfl⟩) HS ?_
              try simp only [Act.put, List.setIfInBounds_toArray, List.set_cons_zero, List.set_cons_succ]
              refine wpAnyT_take (i := 28) (v := undef) rfl (by kernel_rfl) (fun _ _ _ h => h) (Or.inr ⟨by kernel_rfl, rfl⟩) HS ?_
              try simp only [Act.put, List.setIfInBounds_toArray, List.set_cons_zero, List.set_cons_succ]
              refine wpAnyT_take (i := 29) (v := undef) rfl (by kernel_rfl) (fun _ _ _ h => h) (Or.inr ⟨by kernel_rfl, rfl⟩) HS ?_
              try simp only [Act.put, List.setIfInBounds_toArray, List.set_cons_zero, List.set_cons_succ]
              refine wpAnyT_take (i := 30) (v := undef) rfl (by kernel_rfl) (fun _ _ _ h => h) (Or.inr ⟨by kernel_rfl, rfl⟩) HS ?_
              try simp only [Act.put, List.setIfInBounds_toArray, List.set_cons_zero, List.set_cons_succ]
              refine wpAnyT_take (i := 31) (v := .bool false) rfl (by kernel_rfl) (fun _ _ _ h => h) (Or.inl ⟨by rfl, fun w hSw => ?_⟩) HS ?_
              · (try dsimp only at hSw); go_simp
              try simp only [Act.put, List.setIfInBounds_toArray, List.set_cons_zero, List.set_cons_succ]
              refine ⟨by kernel_rfl, ?_⟩
              simp only [List.drop_succ_cons, List.drop_zero]
              have bz := br.trans (HS.1.mono zr)
              have XZ := Lib.hid (XR.out.keep HS.1)
              clear HS KS
              go_wp2_with fail
              go_roundw
              case rel => exact ⟨k + 1, by omega, by go_num, XZ.out, bz⟩
              case measure => simp [intOf]; omega
            case neg =>
              have de : ((k : Int) != (i : Int)) = true := by simp; omega
              have de' : (k != i) = true := by simp; omega
              have dv : (vk == (i : Int)) = false := by simpa using HNE.out e
              clear e
              refine wp_region_tail 32 33 (fun (W : World) => Below wr.heap.size wr W ∧ (W.cell? ⟨bb, o + i, none⟩ = some (.slice R3 m3 d3) ∧ W.cell? ⟨bb, o + k, none⟩ = some (.slice R2 m2 d2) ∧ W.cell? ⟨bo, oo + k, none⟩ = some (.int .i64 vk))) (by kernel_rfl) (by rfl) (by decide) ?_
              have HS : ((fun (W : World) => Below wr.heap.size wr W ∧ (W.cell? ⟨bb, o + i, none⟩ = some (.slice R3 m3 d3) ∧ W.cell? ⟨bb, o + k, none⟩ = some (.slice R2 m2 d2) ∧ W.cell? ⟨bo, oo + k, none⟩ = some (.int .i64 vk)))) _ := KS _ _ ⟨Below.refl _ _, c1, c2, y2⟩ ((Below.refl _ _).drew)
              refine wpAnyT_take (i := 0) (v := ?vv109) rfl (by kernel_rfl) (fun _ _ _ h => h) (Or.inl ⟨by rfl, fun w hSw => ?yy109⟩) HS ?rr109
              case yy109 =>
                (try dsimp only at hSw); go_simp
                try with_reducible rfl
              try simp only [Act.put, List.setIfInBounds_toArray, List.set_cons_zero, List.set_cons_succ]
              refine wpAnyT_take (i := 1) (v := ?vv110) rfl (by kernel_rfl) (fun _ _ _ h => h) (Or.inl ⟨by rfl, fun w hSw => ?yy110⟩) HS ?rr110
              case yy110 =>
                (try dsimp only at hSw); go_simp
                try with_reducible rfl
              try simp only [Act.put, List.setIfInBounds_toArray, List.set_cons_zero, List.set_cons_succ]
              refine wpAnyT_take (i := 2) (v := ?vv111) rfl (by kernel_rfl) (fun _ _ _ h => h) (Or.inl ⟨by rfl, fun w hSw => ?yy111⟩) HS ?rr111
              case yy111 =>
                (try dsimp only at hSw); go_simp
                try with_reducible rfl
              try simp only [Act.put, List.setIfInBounds_toArray, List.set_cons_zero, List.set_cons_succ]
              refine wpAnyT_take (i := 3) (v := ?vv112) rfl (by kernel_rfl) (fun _ _ _ h => h) (Or.inl ⟨by rfl, fun w hSw => ?yy112⟩) HS ?rr112
              case yy112 =>
                (try dsimp only at hSw); go_simp
                try with_reducible rfl
              try simp only [Act.put, List.setIfInBounds_toArray, List.set_cons_zero, List.set_cons_succ]
              refine wpAnyT_take (i := 4) (v := ?vv113) rfl (by kernel_rfl) (fun _ _ _ h => h) (Or.inl ⟨by rfl, fun w hSw => ?yy113⟩) HS ?rr113
              case yy113 =>
                (try dsimp only at hSw); go_simp
                try with_reducible rfl
              try simp only [Act.put, List.setIfInBounds_toArray, List.set_cons_zero, List.set_cons_succ]
              refine wpAnyT_take (i := 5) (v := ?vv114) rfl (by kernel_rfl) (fun _ _ _ h => h) (Or.inl ⟨by rfl, fun w hSw => ?yy114⟩) HS ?rr114
              case yy114 =>
                (try dsimp only at hSw); go_simp
                try with_reducible rfl
              try simp only [Act.put, List.setIfInBounds_toArray, List.set_cons_zero, List.set_cons_succ]
              refine wpAnyT_take (i := 6) (v := ?vv115) rfl (by kernel_rfl) (fun _ _ _ h => h) (Or.inl ⟨by rfl, fun w hSw => ?yy115⟩) HS ?rr115
              case yy115 =>
                (try dsimp only at hSw); go_simp
                try with_reducible rfl
              try simp only [Act.put, List.setIfInBounds_toArray, List.set_cons_zero, List.set_cons_succ]
              refine wpAnyT_take (i := 7) (v := ?vv116) rfl (by kernel_rfl) (fun _ _ _ h => h) (Or.inl ⟨by rfl, fun w hSw => ?yy116⟩) HS ?rr116
              case yy116 =>
                (try dsimp only at hSw); go_simp
                try with_reducible rfl
              try simp only [Act.put, List.setIfInBounds_toArray, List.set_cons_zero, List.set_cons_succ]
              refine wpAnyT_one (k := 8) rfl (by kernel_rfl) (by decide) (fun K hK => ?_)
              go_simp
              refine (ggalike_any R3 m3 d3 (li Ls i) R2 m2 d2 (li Ls k) _ (HS1.out.keep HS.1) (HS2.out.keep HS.1)).mono ?_
              rintro e y1w ⟨rfl, hy1⟩
              rw [HV1.out]
              have HS : ((fun (W : World) => Below wr.heap.size wr W ∧ (W.cell? ⟨bb, o + i, none⟩ = some (.slice R3 m3 d3) ∧ W.cell? ⟨bb, o + k, none⟩ = some (.slice R2 m2 d2) ∧ W.cell? ⟨bo, oo + k, none⟩ = some (.int .i64 vk)))) _ := KS _ _ HS hy1
              refine hK _ _ HS ?_
              clear hK K
              try simp only [Act.put, List.setIfInBounds_toArray, List.set_cons_zero, List.set_cons_succ]
              refine wpAnyT_take (i := 9) (v := ?vv117) rfl (by kernel_rfl) (fun _ _ _ h => h) (Or.inl ⟨by rfl, fun w hSw => ?yy117⟩) HS ?rr117
              case yy117 =>
                (try dsimp only at hSw); go_simp
                try with_reducible rfl
              try simp only [Act.put, List.setIfInBounds_toArray, List.set_cons_zero, List.set_cons_succ]
              refine wpAnyT_take (i := 10) (v := ?vv118) rfl (by kernel_rfl) (fun _ _ _ h => h) (Or.inl ⟨by rfl, fun w hSw => ?yy118⟩) HS ?rr118
              case yy118 =>
                (try dsimp only at hSw); go_simp
                try with_reducible rfl
              try simp only [Act.put, List.setIfInBounds_toArray, List.set_cons_zero, List.set_cons_succ]
              refine wpAnyT_take (i := 11) (v := ?vv119) rfl (by kernel_rfl) (fun _ _ _ h => h) (Or.inl ⟨by rfl, fun w hSw => ?yy119⟩) HS ?rr119
              case yy119 =>
                (try dsimp only at hSw); go_simp
                try with_reducible rfl
              try simp only [Act.put, List.setIfInBounds_toArray, List.set_cons_zero, List.set_cons_succ]
              refine wpAnyT_take (i := 12) (v := ?vv120) rfl (by kernel_rfl) (fun _ _ _ h => h) (Or.inl ⟨by rfl, fun w hSw => ?yy120⟩) HS ?rr120
              case yy120 =>
                (try dsimp only at hSw); go_simp
                try with_reducible rfl
              try simp only [Act.put, List.setIfInBounds_toArray, List.set_cons_zero, List.set_cons_succ]
              refine wpAnyT_take (i := 13) (v := ?vv121) rfl (by kernel_rfl) (fun _ _ _ h => h) (Or.inl ⟨by rfl, fun w hSw => ?yy121⟩) HS ?rr121
              case yy121 =>
                (try dsimp only at hSw); go_simp
                try with_reducible rfl
              try simp only [Act.put, List.setIfInBounds_toArray, List.set_cons_zero, List.set_cons_succ]
              refine wpAnyT_take (i := 14) (v := ?vv122) rfl (by kernel_rfl) (fun _ _ _ h => h) (Or.inl ⟨by rfl, fun w hSw => ?yy122⟩) HS ?rr122
              case yy122 =>
                (try dsimp only at hSw); go_simp
                try with_reducible rfl
              try simp only [Act.put, List.setIfInBounds_toArray, List.set_cons_zero, List.set_cons_succ]
              refine wpAnyT_take (i := 15) (v := ?vv123) rfl (by kernel_rfl) (fun _ _ _ h => h) (Or.inl ⟨by rfl, fun w hSw => ?yy123⟩) HS ?rr123
              case yy123 =>
                (try dsimp only at hSw); go_simp
                try with_reducible rfl
              try simp only [Act.put, List.setIfInBounds_toArray, List.set_cons_zero, List.set_cons_succ]
              refine wpAnyT_take (i := 16) (v := ?vv124) rfl (by kernel_rfl) (fun _ _ _ h => h) (Or.inl ⟨by rfl, fun w hSw => ?yy124⟩) HS ?rr124
              case yy124 =>
                (try dsimp only at hSw); go_simp
                try with_reducible rfl
              try simp only [Act.put, List.setIfInBounds_toArray, List.set_cons_zero, List.set_cons_succ]
              refine wpAnyT_take (i := 17) (v := ?vv125) rfl (by kernel_rfl) (fun _ _ _ h => h) (Or.inl ⟨by rfl, fun w hSw => ?yy125⟩) HS ?rr125
              case yy125 =>
                (try dsimp only at hSw); go_simp
                try with_reducible rfl
              try simp only [Act.put, List.setIfInBounds_toArray, List.set_cons_zero, List.set_cons_succ]
              refine wpAnyT_one (k := 18) rfl (by kernel_rfl) (by decide) (fun K hK => ?_)
              go_simp
              refine (ggalike_any R2 m2 d2 (li Ls k) R3 m3 d3 (li Ls i) _ (HS2.out.keep HS.1) (HS1.out.keep HS.1)).mono ?_
              rintro e y2w ⟨rfl, hy2⟩
              rw [HV2.out]
              have HS : ((fun (W : World) => Below wr.heap.size wr W ∧ (W.cell? ⟨bb, o + i, none⟩ = some (.slice R3 m3 d3) ∧ W.cell? ⟨bb, o + k, none⟩ = some (.slice R2 m2 d2) ∧ W.cell? ⟨bo, oo + k, none⟩ = some (.int .i64 vk)))) _ := KS _ _ HS hy2
              refine hK _ _ HS ?_
              clear hK K
              try simp only [Act.put, List.setIfInBounds_toArray, List.set_cons_zero, List.set_cons_succ]
              refine wpAnyT_take (i := 19) (v := .bool false) rfl (by kernel_rfl) (fun _ _ _ h => h) (Or.inl ⟨by rfl, fun w hSw => ?_⟩) HS ?_
              · (try dsimp only at hSw); go_simp
              try simp only [Act.put, List.setIfInBounds_toArray, List.set_cons_zero, List.set_cons_succ]
              refine wpAnyT_take (i := 20) (v := ?vv126) rfl (by kernel_rfl) (fun _ _ _ h => h) (Or.inl ⟨by rfl, fun w hSw => ?yy126⟩) HS ?rr126
              case yy126 =>
                (try dsimp only at hSw); go_simp
                try with_reducible rfl
              try simp only [Act.put, List.setIfInBounds_toArray, List.set_cons_zero, List.set_cons_succ]
              refine wpAnyT_take (i := 21) (v := ?vv127) rfl (by kernel_rfl) (fun _ _ _ h => h) (Or.inl ⟨by rfl, fun w hSw => ?yy127⟩) HS ?rr127
              case yy127 =>
                (try dsimp only at hSw); go_simp
                try with_reducible rfl
              try simp only [Act.put, List.setIfInBounds_toArray, List.set_cons_zero, List.set_cons_succ]
              refine wpAnyT_take (i := 22) (v := ?vv128) rfl (by kernel_rfl) (fun _ _ _ h => h) (Or.inl ⟨by rfl, fun w hSw => ?yy128⟩) HS ?rr128
              case yy128 =>
                (try dsimp only at hSw); go_simp
                try with_reducible rfl
              try simp only [Act.put, List.setIfInBounds_toArray, List.set_cons_zero, List.set_cons_succ]
              refine wpAnyT_take (i := 23) (v := .bool true) rfl (by kernel_rfl) (fun _ _ _ h => h) (Or.inl ⟨by rfl, fun w hSw => ?_⟩) HS ?_
              · (try dsimp only at hSw); go_simp
              try simp only [Act.put, List.setIfInBounds_toArray, List.set_cons_zero, List.set_cons_succ]
              refine wpAnyT_take (i := 24) (v := ?vv129) rfl (by kernel_rfl) (fun _ _ _ h => h) (Or.inl ⟨by rfl, fun w hSw => ?yy129⟩) HS ?rr129
              case yy129 =>
                (try dsimp only at hSw); go_simp
                try with_reducible rfl
              try simp only [Act.put, List.setIfInBounds_toArray, List.set_cons_zero, List.set_cons_succ]
              refine wpAnyT_take (i := 25) (v := ?vv130) rfl (by kernel_rfl) (fun _ _ _ h => h) (Or.inl ⟨by rfl, fun w hSw => ?yy130⟩) HS ?rr130
              case yy130 =>
                (try dsimp only at hSw); go_simp
                try with_reducible rfl
              try simp only [Act.put, List.setIfInBounds_toArray, List.set_cons_zero, List.set_cons_succ]
              refine wpAnyT_take (i := 26) (v := ?vv131) rfl (by kernel_rfl) (fun _ _ _ h => h) (Or.inl ⟨by rfl, fun w hSw => ?yy131⟩) HS ?rr131
              case yy131 =>
                (try dsimp only at hSw); go_simp
                try with_reducible rfl
              try simp only [Act.put, List.setIfInBounds_toArray, List.set_cons_zero, List.set_cons_succ]
              refine wpAnyT_take (i := 27) (v := ?vv132) rfl (by kernel_rfl) (fun _ _ _ h => h) (Or.inl ⟨by rfl, fun w hSw => ?yy132⟩) HS ?rr132
              case yy132 =>
                (try dsimp only at hSw); go_simp
                try with_reducible rfl
              try simp only [Act.put, List.setIfInBounds_toArray, List.set_cons_zero, List.set_cons_succ]
              refine wpAnyT_take (i := 28) (v := ?vv133) rfl (by kernel_rfl) (fun _ _ _ h => h) (Or.inl ⟨by rfl, fun w hSw => ?yy133⟩) HS ?rr133
              case yy133 =>
                (try dsimp only at hSw); go_simp
                try with_reducible rfl
              try simp only [Act.put, List.setIfInBounds_toArray, List.set_cons_zero, List.set_cons_succ]
              refine wpAnyT_take (i := 29) (v := ?vv134) rfl (by kernel_rfl) (fun _ _ _ h => h) (Or.inl ⟨by rfl, fun w hSw => ?yy134⟩) HS ?rr134
              case yy134 =>
                (try dsimp only at hSw); go_simp
                try with_reducible rfl
              try simp only [Act.put, List.setIfInBounds_toArray, List.set_cons_zero, List.set_cons_succ]
              refine wpAnyT_take (i := 30) (v := .bool false) rfl (by kernel_rfl) (fun _ _ _ h => h) (Or.inl ⟨by rfl, fun w hSw => ?_⟩) HS ?_
              · (try dsimp only at hSw); go_simp
              try simp only [Act.put, List.setIfInBounds_toArray, List.set_cons_zero, List.set_cons_succ]
              refine wpAnyT_take (i := 31) (v := .bool false) rfl (by kernel_rfl) (fun _ _ _ h => h) (Or.inl ⟨by rfl, fun w hSw => ?_⟩) HS ?_
              · (try dsimp only at hSw); go_simp
              try simp only [Act.put, List.setIfInBounds_toArray, List.set_cons_zero, List.set_cons_succ]
              refine ⟨by kernel_rfl, ?_⟩
              simp only [List.drop_succ_cons, List.drop_zero]
              have bz := br.trans (HS.1.mono zr)
              have XZ := Lib.hid (XR.out.keep HS.1)
              clear HS KS
              go_wp2_with fail
              go_roundw
              case rel => exact ⟨k + 1, by omega, by go_num, XZ.out, bz⟩
              case measure => simp [intOf]; omega
          · obtain rfl : k = m := by omega
            have dlk : decide (k < k) = false := decide_eq_false (by omega)
            have y1 := hco i hlt
            rw [HF.out.1] at y1
            clear hco xr
            go_wp2_with fail
            go_roundw
            case rel => exact ⟨i + 1, by omega, by go_num, XR.out, br⟩
            case measure => simp [intOf]; omega
    · obtain rfl : i = m := by omega
      have dlt : decide (i < i) = false := decide_eq_false (by omega)
      go_wp2_with fail
      go_ret
      exact ⟨rfl, br⟩
end Go.Proofs.Ytbaaglgoodckmaa.groupShort
