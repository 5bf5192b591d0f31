/- EcfWaits: the walk. -/
import Derived.Test.YtmclffbjdkoneaaEcAwake
import Derived.Test.YtmclffbjdkoneaaEcMath
import Derived.Test.YtmclffbjdkoneaaTail2
import Derived.Deep.QuietTactic
import Derived.BigQuiet
import Derived.IntWalk
import Derived.Deep.AppendLies
import Derived.OrdersHeld
import Derived.Deep.DeepCutAuto
namespace Go.Proofs.Ytmclffbjdkoneaa.ecfWaits
open Go.RowKit
set_option linter.unusedVariables false
set_option linter.unusedSimpArgs false

set_option maxRecDepth 100000 in
set_option maxHeartbeats 32000000 in
theorem walk (A : Option Addr) (n c : Nat) (l : List Chv) (bytes mss : Int) (w : World) (hs : Se w A n c l) :
    Calls Try.prog 5 #[.slice A n c, .int .i64 bytes, .int .i64 mss] w fun e w' => e = .returned (.bool true) ∧ Below w.heap.size w w' := by
  obtain ⟨B, hB⟩ : ∃ B, w.heap.size = B := ⟨_, rfl⟩
  rw [hB]
  have HB := Lib.hid hB
  have m1 := hs.le; have m2 := hs.max
  have m3 : n ≤ 9223372036854775807 := by unfold maxLen at m2; omega
  have HSE := Lib.hid hs; have HL := Lib.hid hs.rd.len
  clear hs hB m1 m2
  go_enter Try.func5, Try.ntmps5
  go_wp2_with fail
  refine (ecawake_any _).mono ?_
  rintro e w2 ⟨rfl, b2⟩
  rw [HB.out] at b2
  by_cases c0 : 4 < n
  case pos =>
    have d0 : decide ((4 : Int) < (n : Int)) = true := decide_eq_true (by omega)
    have d0' : decide (4 < n) = true := decide_eq_true c0
    go_wp2_with fail
    go_ret
    exact ⟨rfl, b2⟩
  have d0 : decide ((4 : Int) < (n : Int)) = false := decide_eq_false (by omega)
  have d0' : decide (4 < n) = false := decide_eq_false c0
  have s2 : Se w2 A n c l := HSE.out.keep (by rw [HB.out]; exact b2)
  have z2 : B ≤ w2.heap.size := by have := b2.size; rw [HB.out] at this; exact this
  have hmore := pick_more l bytes mss
  have hpw := pick_wait l bytes mss true
  obtain ⟨⟨pa, px⟩, hp⟩ : ∃ p, pickR l bytes mss false = p := ⟨_, rfl⟩
  obtain ⟨⟨pb, py⟩, hq⟩ : ∃ p, pickR l bytes mss true = p := ⟨_, rfl⟩
  have HP := Lib.hid hp; have HQ := Lib.hid hq
  rw [hp, hq] at hmore
  rw [hq] at hpw
  clear hp hq
  dsimp only at hmore hpw
  have HM := Lib.hid hmore; have HW := Lib.hid hpw
  clear hmore hpw
  go_wp2_with fail
  refine (ecpick_any A n c l bytes mss false _ s2).mono ?_
  rw [HP.out]
  rintro e w3 ⟨rfl, hb3⟩
  have b3 := b2.trans (hb3.mono z2); have z3 := Nat.le_trans z2 hb3.size
  have s3 := s2.keep hb3
  go_upto_region 5 with fail
  go_wp2_with fail
  refine (ecpick_any A n c l bytes mss true _ s3).mono ?_
  rw [HQ.out]
  rintro e w4 ⟨rfl, hb4⟩
  have b4 := b3.trans (hb4.mono z3)
  clear s2 s3 hb3 hb4 z2 z3 b2 b3 d0 d0' c0 HP HQ
  go_upto_region 6 with fail
  cases py with
  | false =>
    have hx : px = false := by
      cases h : px with
      | false => rfl
      | true => have := HM.out h; cases this
    subst hx
    go_wp2_with fail
    go_ret
    exact ⟨rfl, b4⟩
  | true =>
  obtain ⟨_, f, s, _, _, hwo, _⟩ := HW.out rfl
  have HWO := Lib.hid hwo
  have hfn : f < n := by have := hwo.fl; rw [HL.out] at this; exact this
  have hsn : s < n := by have := hwo.sl; rw [HL.out] at this; exact this
  clear hwo HM HW
  cases px with
  | false =>
    go_upto_region 12 with fail
    go_wp2_with fail
    go_loopw [12, 13, 14, 15, 16] (fun so fa i al q wr => ∃ (k : Nat) (a b : Bool), k ≤ n ∧ i = .int .i64 (k : Int) ∧ so = .bool a ∧ fa = .bool b ∧ Hid (s < k → a = true) ∧ Hid (f < k → b = true) ∧ Below B w wr) (fun _ _ i _ _ _ => n - (intOf i).toNat)
    case atStart => exact ⟨0, false, false, Nat.zero_le _, rfl, rfl, rfl, Lib.hid (fun h => absurd h (by omega)), Lib.hid (fun h => absurd h (by omega)), b4⟩
    case round =>
      obtain ⟨k, a, b, hk, rfl, rfl, rfl, HAA, HBB, br0⟩ := hrel
      obtain ⟨wz, hwz⟩ : ∃ wz, wr = wz := ⟨_, rfl⟩
      subst hwz
      have br := br0
      clear b4 br0
      by_cases hlt : k < n
      · have dlt : decide (k < n) = true := decide_eq_true hlt
        obtain ⟨bb, o, hA, hbl, hc0⟩ := HSE.out.rd.at_ (by omega)
        have hbB : bb < B := by have := HB.out; omega
        have hcell : ∀ W, Below B w W → ∀ i, i < n → ∀ j u, (El.cells (ge l i))[j]? = some u → W.cell? ⟨bb, o + i * 5 + j, none⟩ = some u := fun W hW i hi j u hu => (hW.cell (p := ⟨bb, o + i * 5 + j, none⟩) hbB).trans (hc0 i hi j u hu)
        have HC := Lib.hid hcell
        subst hA
        clear hc0 hcell hbl
        obtain ⟨x, hx⟩ : ∃ x, ge l k = x := ⟨_, rfl⟩
        have HXE := Lib.hid hx; clear hx
        obtain ⟨rv, hrv⟩ : ∃ v, roomB x mss = v := ⟨_, rfl⟩
        obtain ⟨mv, hmv⟩ : ∃ v, chB x = v := ⟨_, rfl⟩
        have HRV := Lib.hid hrv; have HMV := Lib.hid hmv; clear hrv hmv
        go_upto_region 15 with fail
        cases a with
        | true =>
          cases rv with
          | true =>
            have b5 := br
            go_upto_region 16 with fail
            have hmt : mv = true := by rw [← HMV.out]; exact (chB_iff x).2 ((roomB_iff x mss).1 HRV.out).1
            subst hmt
            have y0 := HC.out _ b5 k hlt 0 (.bool x.up) (by rw [HXE.out]; rfl)
            have y1 := HC.out _ b5 k hlt 1 (.int .i64 x.cwnd) (by rw [HXE.out]; rfl)
            have y2 := HC.out _ b5 k hlt 2 (.int .i64 x.flight) (by rw [HXE.out]; rfl)
            have y3 := HC.out _ b5 k hlt 3 (.int .i64 x.srtt) (by rw [HXE.out]; rfl)
            have y4 := HC.out _ b5 k hlt 4 (.int .i64 x.vr) (by rw [HXE.out]; rfl)
            simp only [Nat.add_zero] at y0
            go_wp2_with fail
            refine (ecmay_any x _).mono ?_
            rw [HMV.out]
            rintro e w6 ⟨rfl, hb6⟩
            have b6 := b5.trans (hb6.mono (by have := b5.size; have := HB.out; omega))
            clear y0 y1 y2 y3 y4
            clear hb6
            have y0 := HC.out _ b6 k hlt 0 (.bool x.up) (by rw [HXE.out]; rfl)
            have y1 := HC.out _ b6 k hlt 1 (.int .i64 x.cwnd) (by rw [HXE.out]; rfl)
            have y2 := HC.out _ b6 k hlt 2 (.int .i64 x.flight) (by rw [HXE.out]; rfl)
            have y3 := HC.out _ b6 k hlt 3 (.int .i64 x.srtt) (by rw [HXE.out]; rfl)
            have y4 := HC.out _ b6 k hlt 4 (.int .i64 x.vr) (by rw [HXE.out]; rfl)
            simp only [Nat.add_zero] at y0
            go_wp2_with fail
            refine (ecroom_any x mss _).mono ?_
            rw [HRV.out]
            rintro e w7 ⟨rfl, hb7⟩
            have b7 := b6.trans (hb7.mono (by have := b6.size; have := HB.out; omega))
            clear y0 y1 y2 y3 y4
            clear hb7
            go_wp2_with fail
            go_roundw
            case rel => exact ⟨k + 1, true, b, by omega, by go_num, rfl, rfl, Lib.hid (fun _ => rfl), Lib.hid (fun h => HBB.out (Decidable.byCases (fun e : f = k => by subst e; have h1 := HWO.out.fr; rw [HXE.out, HRV.out] at h1; cases h1) (fun e : ¬ f = k => by omega))), b7⟩
            case measure => simp [intOf]; omega
          | false =>
            have b5 := br
            go_upto_region 16 with fail
            cases mv with
            | false =>
              have y0 := HC.out _ b5 k hlt 0 (.bool x.up) (by rw [HXE.out]; rfl)
              have y1 := HC.out _ b5 k hlt 1 (.int .i64 x.cwnd) (by rw [HXE.out]; rfl)
              have y2 := HC.out _ b5 k hlt 2 (.int .i64 x.flight) (by rw [HXE.out]; rfl)
              have y3 := HC.out _ b5 k hlt 3 (.int .i64 x.srtt) (by rw [HXE.out]; rfl)
              have y4 := HC.out _ b5 k hlt 4 (.int .i64 x.vr) (by rw [HXE.out]; rfl)
              simp only [Nat.add_zero] at y0
              go_wp2_with fail
              refine (ecmay_any x _).mono ?_
              rw [HMV.out]
              rintro e w6 ⟨rfl, hb6⟩
              have b6 := b5.trans (hb6.mono (by have := b5.size; have := HB.out; omega))
              clear y0 y1 y2 y3 y4
              clear hb6
              go_wp2_with fail
              go_roundw
              case rel => exact ⟨k + 1, true, b, by omega, by go_num, rfl, rfl, Lib.hid (fun _ => rfl), Lib.hid (fun h => HBB.out (Decidable.byCases (fun e : f = k => by subst e; have h1 := HWO.out.fc; rw [HXE.out, HMV.out] at h1; cases h1) (fun e : ¬ f = k => by omega))), b6⟩
              case measure => simp [intOf]; omega
            | true =>
              have y0 := HC.out _ b5 k hlt 0 (.bool x.up) (by rw [HXE.out]; rfl)
              have y1 := HC.out _ b5 k hlt 1 (.int .i64 x.cwnd) (by rw [HXE.out]; rfl)
              have y2 := HC.out _ b5 k hlt 2 (.int .i64 x.flight) (by rw [HXE.out]; rfl)
              have y3 := HC.out _ b5 k hlt 3 (.int .i64 x.srtt) (by rw [HXE.out]; rfl)
              have y4 := HC.out _ b5 k hlt 4 (.int .i64 x.vr) (by rw [HXE.out]; rfl)
              simp only [Nat.add_zero] at y0
              go_wp2_with fail
              refine (ecmay_any x _).mono ?_
              rw [HMV.out]
              rintro e w6 ⟨rfl, hb6⟩
              have b6 := b5.trans (hb6.mono (by have := b5.size; have := HB.out; omega))
              clear y0 y1 y2 y3 y4
              clear hb6
              have y0 := HC.out _ b6 k hlt 0 (.bool x.up) (by rw [HXE.out]; rfl)
              have y1 := HC.out _ b6 k hlt 1 (.int .i64 x.cwnd) (by rw [HXE.out]; rfl)
              have y2 := HC.out _ b6 k hlt 2 (.int .i64 x.flight) (by rw [HXE.out]; rfl)
              have y3 := HC.out _ b6 k hlt 3 (.int .i64 x.srtt) (by rw [HXE.out]; rfl)
              have y4 := HC.out _ b6 k hlt 4 (.int .i64 x.vr) (by rw [HXE.out]; rfl)
              simp only [Nat.add_zero] at y0
              go_wp2_with fail
              refine (ecroom_any x mss _).mono ?_
              rw [HRV.out]
              rintro e w7 ⟨rfl, hb7⟩
              have b7 := b6.trans (hb7.mono (by have := b6.size; have := HB.out; omega))
              clear y0 y1 y2 y3 y4
              clear hb7
              go_upto_region 18 with fail
              go_wp2_with fail
              go_loopw [15, 16] (fun al i wm => ∃ (m : Nat) (v : Bool), m ≤ n ∧ i = .int .i64 (m : Int) ∧ al = .bool v ∧ Hid (k = f → v = true) ∧ Below B w wm) (fun _ i _ => n - (intOf i).toNat)
              case atStart => exact ⟨0, true, Nat.zero_le _, rfl, rfl, Lib.hid (fun _ => rfl), b7⟩
              case round =>
                obtain ⟨m, v, hm, rfl, rfl, HV, bm0⟩ := hrel
                have hwm : ∃ wm, wr = wm := ⟨_, rfl⟩
                obtain ⟨wm, hwm⟩ := hwm
                subst hwm
                have bm := bm0
                clear bm0
                by_cases hmlt : m < n
                · have dmlt : decide (m < n) = true := decide_eq_true hmlt
                  obtain ⟨z, hz⟩ : ∃ x, ge l m = x := ⟨_, rfl⟩
                  have HZE := Lib.hid hz; clear hz
                  obtain ⟨r2, hr2⟩ : ∃ v, roomB z mss = v := ⟨_, rfl⟩
                  have ro := fun W => ecroom_any z mss W
                  rw [hr2] at ro
                  have HR2 := Lib.hid hr2; have RO := Lib.hid ro
                  clear hr2 ro
                  go_upto_region 21 with fail
                  cases v with
                  | false =>
                    have bd : Below B w wr.drew := bm.drew
                    refine wp_region_tail 23 24 (fun (W : World) => Below B w W ∧ W.cell? ⟨bb, o + m * 5, none⟩ = some (.bool z.up) ∧ W.cell? ⟨bb, o + m * 5 + 1, none⟩ = some (.int .i64 z.cwnd) ∧ W.cell? ⟨bb, o + m * 5 + 2, none⟩ = some (.int .i64 z.flight) ∧ W.cell? ⟨bb, o + m * 5 + 3, none⟩ = some (.int .i64 z.srtt) ∧ W.cell? ⟨bb, o + m * 5 + 4, none⟩ = some (.int .i64 z.vr) ∧ W.cell? ⟨bb, o + k * 5 + 3, none⟩ = some (.int .i64 x.srtt)) (by kernel_rfl) (by rfl) (by decide) ?_
                    have HS : ((fun (W : World) => Below B w W ∧ W.cell? ⟨bb, o + m * 5, none⟩ = some (.bool z.up) ∧ W.cell? ⟨bb, o + m * 5 + 1, none⟩ = some (.int .i64 z.cwnd) ∧ W.cell? ⟨bb, o + m * 5 + 2, none⟩ = some (.int .i64 z.flight) ∧ W.cell? ⟨bb, o + m * 5 + 3, none⟩ = some (.int .i64 z.srtt) ∧ W.cell? ⟨bb, o + m * 5 + 4, none⟩ = some (.int .i64 z.vr) ∧ W.cell? ⟨bb, o + k * 5 + 3, none⟩ = some (.int .i64 x.srtt))) _ := ⟨bd, HC.out _ bd m hmlt 0 _ (by rw [HZE.out]; rfl), HC.out _ bd m hmlt 1 _ (by rw [HZE.out]; rfl), HC.out _ bd m hmlt 2 _ (by rw [HZE.out]; rfl), HC.out _ bd m hmlt 3 _ (by rw [HZE.out]; rfl), HC.out _ bd m hmlt 4 _ (by rw [HZE.out]; rfl), HC.out _ bd k hlt 3 _ (by rw [HXE.out]; rfl)⟩
                    refine wpAnyT_take (i := 0) (v := ?vv1) rfl (by kernel_rfl) (fun _ _ _ h => h) (Or.inl ⟨by rfl, fun w hSw => ?yy1⟩) HS ?rr1
                    case yy1 =>
                      (try dsimp only at hSw); go_simp
                      try with_reducible rfl
                    try simp only [Act.put, List.setIfInBounds_toArray, List.set_cons_zero, List.set_cons_succ]
                    refine wpAnyT_take (i := 1) (v := ?vv2) rfl (by kernel_rfl) (fun _ _ _ h => h) (Or.inl ⟨by rfl, fun w hSw => ?yy2⟩) HS ?rr2
                    case yy2 =>
                      (try dsimp only at hSw); go_simp
                      try with_reducible rfl
                    try simp only [Act.put, List.setIfInBounds_toArray, List.set_cons_zero, List.set_cons_succ]
                    refine wpAnyT_take (i := 2) (v := undef) rfl (by kernel_rfl) (fun _ _ _ h => h) (Or.inr ⟨by kernel_rfl, rfl⟩) HS ?_
                    try simp only [Act.put, List.setIfInBounds_toArray, List.set_cons_zero, List.set_cons_succ]
                    refine wpAnyT_take (i := 3) (v := undef) rfl (by kernel_rfl) (fun _ _ _ h => h) (Or.inr ⟨by kernel_rfl, rfl⟩) HS ?_
                    try simp only [Act.put, List.setIfInBounds_toArray, List.set_cons_zero, List.set_cons_succ]
                    refine wpAnyT_take (i := 4) (v := undef) rfl (by kernel_rfl) (fun _ _ _ h => h) (Or.inr ⟨by kernel_rfl, rfl⟩) HS ?_
                    try simp only [Act.put, List.setIfInBounds_toArray, List.set_cons_zero, List.set_cons_succ]
                    refine wpAnyT_take (i := 5) (v := undef) rfl (by kernel_rfl) (fun _ _ _ h => h) (Or.inr ⟨by kernel_rfl, rfl⟩) HS ?_
                    try simp only [Act.put, List.setIfInBounds_toArray, List.set_cons_zero, List.set_cons_succ]
                    refine wpAnyT_take (i := 6) (v := undef) rfl (by kernel_rfl) (fun _ _ _ h => h) (Or.inr ⟨by kernel_rfl, rfl⟩) HS ?_
                    try simp only [Act.put, List.setIfInBounds_toArray, List.set_cons_zero, List.set_cons_succ]
                    refine wpAnyT_take (i := 7) (v := undef) rfl (by kernel_rfl) (fun _ _ _ h => h) (Or.inr ⟨by kernel_rfl, rfl⟩) HS ?_
                    try simp only [Act.put, List.setIfInBounds_toArray, List.set_cons_zero, List.set_cons_succ]
                    refine wpAnyT_take (i := 8) (v := undef) rfl (by kernel_rfl) (fun _ _ _ h => h) (Or.inr ⟨by kernel_rfl, rfl⟩) HS ?_
                    try simp only [Act.put, List.setIfInBounds_toArray, List.set_cons_zero, List.set_cons_succ]
                    refine wpAnyT_take (i := 9) (v := undef) rfl (by kernel_rfl) (fun _ _ _ h => h) (Or.inr ⟨by kernel_rfl, rfl⟩) HS ?_
                    try simp only [Act.put, List.setIfInBounds_toArray, List.set_cons_zero, List.set_cons_succ]
                    refine wpAnyT_take (i := 10) (v := undef) rfl (by kernel_rfl) (fun _ _ _ h => h) (Or.inr ⟨by kernel_rfl, rfl⟩) HS ?_
                    try simp only [Act.put, List.setIfInBounds_toArray, List.set_cons_zero, List.set_cons_succ]
                    refine wpAnyT_take (i := 11) (v := undef) rfl (by kernel_rfl) (fun _ _ _ h => h) (Or.inr ⟨by kernel_rfl, rfl⟩) HS ?_
                    try simp only [Act.put, List.setIfInBounds_toArray, List.set_cons_zero, List.set_cons_succ]
                    refine wpAnyT_take (i := 12) (v := undef) rfl (by kernel_rfl) (fun _ _ _ h => h) (Or.inr ⟨by kernel_rfl, rfl⟩) HS ?_
                    try simp only [Act.put, List.setIfInBounds_toArray, List.set_cons_zero, List.set_cons_succ]
                    refine wpAnyT_take (i := 13) (v := undef) rfl (by kernel_rfl) (fun _ _ _ h => h) (Or.inr ⟨by kernel_rfl, rfl⟩) HS ?_
                    try simp only [Act.put, List.setIfInBounds_toArray, List.set_cons_zero, List.set_cons_succ]
                    refine wpAnyT_take (i := 14) (v := undef) rfl (by kernel_rfl) (fun _ _ _ h => h) (Or.inr ⟨by kernel_rfl, rfl⟩) HS ?_
                    try simp only [Act.put, List.setIfInBounds_toArray, List.set_cons_zero, List.set_cons_succ]
                    refine wpAnyT_take (i := 15) (v := undef) rfl (by kernel_rfl) (fun _ _ _ h => h) (Or.inr ⟨by kernel_rfl, rfl⟩) HS ?_
                    try simp only [Act.put, List.setIfInBounds_toArray, List.set_cons_zero, List.set_cons_succ]
                    refine wpAnyT_take (i := 16) (v := undef) rfl (by kernel_rfl) (fun _ _ _ h => h) (Or.inr ⟨by kernel_rfl, rfl⟩) HS ?_
                    try simp only [Act.put, List.setIfInBounds_toArray, List.set_cons_zero, List.set_cons_succ]
                    refine wpAnyT_take (i := 17) (v := undef) rfl (by kernel_rfl) (fun _ _ _ h => h) (Or.inr ⟨by kernel_rfl, rfl⟩) HS ?_
                    try simp only [Act.put, List.setIfInBounds_toArray, List.set_cons_zero, List.set_cons_succ]
                    refine wpAnyT_take (i := 18) (v := undef) rfl (by kernel_rfl) (fun _ _ _ h => h) (Or.inr ⟨by kernel_rfl, rfl⟩) HS ?_
                    try simp only [Act.put, List.setIfInBounds_toArray, List.set_cons_zero, List.set_cons_succ]
                    refine wpAnyT_take (i := 19) (v := undef) rfl (by kernel_rfl) (fun _ _ _ h => h) (Or.inr ⟨by kernel_rfl, rfl⟩) HS ?_
                    try simp only [Act.put, List.setIfInBounds_toArray, List.set_cons_zero, List.set_cons_succ]
                    refine wpAnyT_take (i := 20) (v := undef) rfl (by kernel_rfl) (fun _ _ _ h => h) (Or.inr ⟨by kernel_rfl, rfl⟩) HS ?_
                    try simp only [Act.put, List.setIfInBounds_toArray, List.set_cons_zero, List.set_cons_succ]
                    refine wpAnyT_take (i := 21) (v := undef) rfl (by kernel_rfl) (fun _ _ _ h => h) (Or.inr ⟨by kernel_rfl, rfl⟩) HS ?_
                    try simp only [Act.put, List.setIfInBounds_toArray, List.set_cons_zero, List.set_cons_succ]
                    refine wpAnyT_take (i := 22) (v := ?vv3) rfl (by kernel_rfl) (fun _ _ _ h => h) (Or.inl ⟨by rfl, fun w hSw => ?yy3⟩) HS ?rr3
                    case yy3 =>
                      (try dsimp only at hSw); go_simp
                      try with_reducible rfl
                    try simp only [Act.put, List.setIfInBounds_toArray, List.set_cons_zero, List.set_cons_succ]
                    refine ⟨by kernel_rfl, ?_⟩
                    simp only [List.drop_succ_cons, List.drop_zero]
                    go_wp2_with fail
                    go_roundw
                    case rel => exact ⟨m + 1, false, by omega, by go_num, rfl, HV, HS.1⟩
                    case measure => simp [intOf]; omega
                  | true =>
                  cases r2 with
                  | false =>
                    have bd : Below B w wr.drew := bm.drew
                    refine wp_region_tail 23 24 (fun (W : World) => Below B w W ∧ W.cell? ⟨bb, o + m * 5, none⟩ = some (.bool z.up) ∧ W.cell? ⟨bb, o + m * 5 + 1, none⟩ = some (.int .i64 z.cwnd) ∧ W.cell? ⟨bb, o + m * 5 + 2, none⟩ = some (.int .i64 z.flight) ∧ W.cell? ⟨bb, o + m * 5 + 3, none⟩ = some (.int .i64 z.srtt) ∧ W.cell? ⟨bb, o + m * 5 + 4, none⟩ = some (.int .i64 z.vr) ∧ W.cell? ⟨bb, o + k * 5 + 3, none⟩ = some (.int .i64 x.srtt)) (by kernel_rfl) (by rfl) (by decide) ?_
                    have HS : ((fun (W : World) => Below B w W ∧ W.cell? ⟨bb, o + m * 5, none⟩ = some (.bool z.up) ∧ W.cell? ⟨bb, o + m * 5 + 1, none⟩ = some (.int .i64 z.cwnd) ∧ W.cell? ⟨bb, o + m * 5 + 2, none⟩ = some (.int .i64 z.flight) ∧ W.cell? ⟨bb, o + m * 5 + 3, none⟩ = some (.int .i64 z.srtt) ∧ W.cell? ⟨bb, o + m * 5 + 4, none⟩ = some (.int .i64 z.vr) ∧ W.cell? ⟨bb, o + k * 5 + 3, none⟩ = some (.int .i64 x.srtt))) _ := ⟨bd, HC.out _ bd m hmlt 0 _ (by rw [HZE.out]; rfl), HC.out _ bd m hmlt 1 _ (by rw [HZE.out]; rfl), HC.out _ bd m hmlt 2 _ (by rw [HZE.out]; rfl), HC.out _ bd m hmlt 3 _ (by rw [HZE.out]; rfl), HC.out _ bd m hmlt 4 _ (by rw [HZE.out]; rfl), HC.out _ bd k hlt 3 _ (by rw [HXE.out]; rfl)⟩
                    refine wpAnyT_take (i := 0) (v := ?vv4) rfl (by kernel_rfl) (fun _ _ _ h => h) (Or.inl ⟨by rfl, fun w hSw => ?yy4⟩) HS ?rr4
                    case yy4 =>
                      (try dsimp only at hSw); go_simp
                      try with_reducible rfl
                    try simp only [Act.put, List.setIfInBounds_toArray, List.set_cons_zero, List.set_cons_succ]
                    refine wpAnyT_take (i := 1) (v := ?vv5) rfl (by kernel_rfl) (fun _ _ _ h => h) (Or.inl ⟨by rfl, fun w hSw => ?yy5⟩) HS ?rr5
                    case yy5 =>
                      (try dsimp only at hSw); go_simp
                      try with_reducible rfl
                    try simp only [Act.put, List.setIfInBounds_toArray, List.set_cons_zero, List.set_cons_succ]
                    refine wpAnyT_take (i := 2) (v := ?vv6) rfl (by kernel_rfl) (fun _ _ _ h => h) (Or.inl ⟨by rfl, fun w hSw => ?yy6⟩) HS ?rr6
                    case yy6 =>
                      (try dsimp only at hSw); go_simp
                      try with_reducible rfl
                    try simp only [Act.put, List.setIfInBounds_toArray, List.set_cons_zero, List.set_cons_succ]
                    refine wpAnyT_take (i := 3) (v := ?vv7) rfl (by kernel_rfl) (fun _ _ _ h => h) (Or.inl ⟨by rfl, fun w hSw => ?yy7⟩) HS ?rr7
                    case yy7 =>
                      (try dsimp only at hSw); go_simp
                      try with_reducible rfl
                    try simp only [Act.put, List.setIfInBounds_toArray, List.set_cons_zero, List.set_cons_succ]
                    refine wpAnyT_take (i := 4) (v := ?vv8) rfl (by kernel_rfl) (fun _ _ _ h => h) (Or.inl ⟨by rfl, fun w hSw => ?yy8⟩) HS ?rr8
                    case yy8 =>
                      (try dsimp only at hSw); go_simp
                      try with_reducible rfl
                    try simp only [Act.put, List.setIfInBounds_toArray, List.set_cons_zero, List.set_cons_succ]
                    refine wpAnyT_take (i := 5) (v := ?vv9) rfl (by kernel_rfl) (fun _ _ _ h => h) (Or.inl ⟨by rfl, fun w hSw => ?yy9⟩) HS ?rr9
                    case yy9 =>
                      (try dsimp only at hSw); go_simp
                      try with_reducible rfl
                    try simp only [Act.put, List.setIfInBounds_toArray, List.set_cons_zero, List.set_cons_succ]
                    refine wpAnyT_take (i := 6) (v := ?vv10) rfl (by kernel_rfl) (fun _ _ _ h => h) (Or.inl ⟨by rfl, fun w hSw => ?yy10⟩) HS ?rr10
                    case yy10 =>
                      (try dsimp only at hSw); go_simp
                      try with_reducible rfl
                    try simp only [Act.put, List.setIfInBounds_toArray, List.set_cons_zero, List.set_cons_succ]
                    refine wpAnyT_one (k := 7) rfl (by kernel_rfl) (by decide) (fun K hK => ?_)
                    go_simp
                    refine ((RO.out _).mono ?_)
                    rintro e wv ⟨rfl, hbv⟩
                    have bv : Below B w wv := HS.1.trans (hbv.mono (by have := HS.1.size; have := HB.out; omega))
                    have HS : ((fun (W : World) => Below B w W ∧ W.cell? ⟨bb, o + m * 5, none⟩ = some (.bool z.up) ∧ W.cell? ⟨bb, o + m * 5 + 1, none⟩ = some (.int .i64 z.cwnd) ∧ W.cell? ⟨bb, o + m * 5 + 2, none⟩ = some (.int .i64 z.flight) ∧ W.cell? ⟨bb, o + m * 5 + 3, none⟩ = some (.int .i64 z.srtt) ∧ W.cell? ⟨bb, o + m * 5 + 4, none⟩ = some (.int .i64 z.vr) ∧ W.cell? ⟨bb, o + k * 5 + 3, none⟩ = some (.int .i64 x.srtt))) _ := ⟨bv, HC.out _ bv m hmlt 0 _ (by rw [HZE.out]; rfl), HC.out _ bv m hmlt 1 _ (by rw [HZE.out]; rfl), HC.out _ bv m hmlt 2 _ (by rw [HZE.out]; rfl), HC.out _ bv m hmlt 3 _ (by rw [HZE.out]; rfl), HC.out _ bv m hmlt 4 _ (by rw [HZE.out]; rfl), HC.out _ bv k hlt 3 _ (by rw [HXE.out]; rfl)⟩
                    refine hK _ _ HS ?_
                    clear hK K
                    try simp only [Act.put, List.setIfInBounds_toArray, List.set_cons_zero, List.set_cons_succ]
                    refine wpAnyT_take (i := 8) (v := ?vv11) rfl (by kernel_rfl) (fun _ _ _ h => h) (Or.inl ⟨by rfl, fun w hSw => ?yy11⟩) HS ?rr11
                    case yy11 =>
                      (try dsimp only at hSw); go_simp
                      try with_reducible rfl
                    try simp only [Act.put, List.setIfInBounds_toArray, List.set_cons_zero, List.set_cons_succ]
                    refine wpAnyT_take (i := 9) (v := ?vv12) rfl (by kernel_rfl) (fun _ _ _ h => h) (Or.inl ⟨by rfl, fun w hSw => ?yy12⟩) HS ?rr12
                    case yy12 =>
                      (try dsimp only at hSw); go_simp
                      try with_reducible rfl
                    try simp only [Act.put, List.setIfInBounds_toArray, List.set_cons_zero, List.set_cons_succ]
                    refine wpAnyT_take (i := 10) (v := undef) rfl (by kernel_rfl) (fun _ _ _ h => h) (Or.inr ⟨by kernel_rfl, rfl⟩) HS ?_
                    try simp only [Act.put, List.setIfInBounds_toArray, List.set_cons_zero, List.set_cons_succ]
                    refine wpAnyT_take (i := 11) (v := undef) rfl (by kernel_rfl) (fun _ _ _ h => h) (Or.inr ⟨by kernel_rfl, rfl⟩) HS ?_
                    try simp only [Act.put, List.setIfInBounds_toArray, List.set_cons_zero, List.set_cons_succ]
                    refine wpAnyT_take (i := 12) (v := undef) rfl (by kernel_rfl) (fun _ _ _ h => h) (Or.inr ⟨by kernel_rfl, rfl⟩) HS ?_
                    try simp only [Act.put, List.setIfInBounds_toArray, List.set_cons_zero, List.set_cons_succ]
                    refine wpAnyT_take (i := 13) (v := undef) rfl (by kernel_rfl) (fun _ _ _ h => h) (Or.inr ⟨by kernel_rfl, rfl⟩) HS ?_
                    try simp only [Act.put, List.setIfInBounds_toArray, List.set_cons_zero, List.set_cons_succ]
                    refine wpAnyT_take (i := 14) (v := undef) rfl (by kernel_rfl) (fun _ _ _ h => h) (Or.inr ⟨by kernel_rfl, rfl⟩) HS ?_
                    try simp only [Act.put, List.setIfInBounds_toArray, List.set_cons_zero, List.set_cons_succ]
                    refine wpAnyT_take (i := 15) (v := undef) rfl (by kernel_rfl) (fun _ _ _ h => h) (Or.inr ⟨by kernel_rfl, rfl⟩) HS ?_
                    try simp only [Act.put, List.setIfInBounds_toArray, List.set_cons_zero, List.set_cons_succ]
                    refine wpAnyT_take (i := 16) (v := undef) rfl (by kernel_rfl) (fun _ _ _ h => h) (Or.inr ⟨by kernel_rfl, rfl⟩) HS ?_
                    try simp only [Act.put, List.setIfInBounds_toArray, List.set_cons_zero, List.set_cons_succ]
                    refine wpAnyT_take (i := 17) (v := undef) rfl (by kernel_rfl) (fun _ _ _ h => h) (Or.inr ⟨by kernel_rfl, rfl⟩) HS ?_
                    try simp only [Act.put, List.setIfInBounds_toArray, List.set_cons_zero, List.set_cons_succ]
                    refine wpAnyT_take (i := 18) (v := undef) rfl (by kernel_rfl) (fun _ _ _ h => h) (Or.inr ⟨by kernel_rfl, rfl⟩) HS ?_
                    try simp only [Act.put, List.setIfInBounds_toArray, List.set_cons_zero, List.set_cons_succ]
                    refine wpAnyT_take (i := 19) (v := undef) rfl (by kernel_rfl) (fun _ _ _ h => h) (Or.inr ⟨by kernel_rfl, rfl⟩) HS ?_
                    try simp only [Act.put, List.setIfInBounds_toArray, List.set_cons_zero, List.set_cons_succ]
                    refine wpAnyT_take (i := 20) (v := undef) rfl (by kernel_rfl) (fun _ _ _ h => h) (Or.inr ⟨by kernel_rfl, rfl⟩) HS ?_
                    try simp only [Act.put, List.setIfInBounds_toArray, List.set_cons_zero, List.set_cons_succ]
                    refine wpAnyT_take (i := 21) (v := ?vv13) rfl (by kernel_rfl) (fun _ _ _ h => h) (Or.inl ⟨by rfl, fun w hSw => ?yy13⟩) HS ?rr13
                    case yy13 =>
                      (try dsimp only at hSw); go_simp
                      try with_reducible rfl
                    try simp only [Act.put, List.setIfInBounds_toArray, List.set_cons_zero, List.set_cons_succ]
                    refine wpAnyT_take (i := 22) (v := ?vv14) rfl (by kernel_rfl) (fun _ _ _ h => h) (Or.inl ⟨by rfl, fun w hSw => ?yy14⟩) HS ?rr14
                    case yy14 =>
                      (try dsimp only at hSw); go_simp
                      try with_reducible rfl
                    try simp only [Act.put, List.setIfInBounds_toArray, List.set_cons_zero, List.set_cons_succ]
                    refine ⟨by kernel_rfl, ?_⟩
                    simp only [List.drop_succ_cons, List.drop_zero]
                    go_wp2_with fail
                    go_roundw
                    case rel => exact ⟨m + 1, true, by omega, by go_num, rfl, Lib.hid (fun _ => rfl), bv⟩
                    case measure => simp [intOf]; omega
                  | true =>
                    have hlf : k = f → decide (x.srtt ≤ z.srtt) = true := fun hkf => by
                      subst hkf
                      have := HWO.out.least m (by rw [HL.out]; exact hmlt) (by rw [HZE.out]; exact HR2.out)
                      rw [HXE.out, HZE.out] at this
                      exact decide_eq_true this
                    obtain ⟨dv, hdv⟩ : ∃ v, decide (x.srtt ≤ z.srtt) = v := ⟨_, rfl⟩
                    rw [hdv] at hlf
                    have HLF := Lib.hid hlf; clear hlf
                    have bd : Below B w wr.drew := bm.drew
                    refine wp_region_tail 23 24 (fun (W : World) => Below B w W ∧ W.cell? ⟨bb, o + m * 5, none⟩ = some (.bool z.up) ∧ W.cell? ⟨bb, o + m * 5 + 1, none⟩ = some (.int .i64 z.cwnd) ∧ W.cell? ⟨bb, o + m * 5 + 2, none⟩ = some (.int .i64 z.flight) ∧ W.cell? ⟨bb, o + m * 5 + 3, none⟩ = some (.int .i64 z.srtt) ∧ W.cell? ⟨bb, o + m * 5 + 4, none⟩ = some (.int .i64 z.vr) ∧ W.cell? ⟨bb, o + k * 5 + 3, none⟩ = some (.int .i64 x.srtt)) (by kernel_rfl) (by rfl) (by decide) ?_
                    have HS : ((fun (W : World) => Below B w W ∧ W.cell? ⟨bb, o + m * 5, none⟩ = some (.bool z.up) ∧ W.cell? ⟨bb, o + m * 5 + 1, none⟩ = some (.int .i64 z.cwnd) ∧ W.cell? ⟨bb, o + m * 5 + 2, none⟩ = some (.int .i64 z.flight) ∧ W.cell? ⟨bb, o + m * 5 + 3, none⟩ = some (.int .i64 z.srtt) ∧ W.cell? ⟨bb, o + m * 5 + 4, none⟩ = some (.int .i64 z.vr) ∧ W.cell? ⟨bb, o + k * 5 + 3, none⟩ = some (.int .i64 x.srtt))) _ := ⟨bd, HC.out _ bd m hmlt 0 _ (by rw [HZE.out]; rfl), HC.out _ bd m hmlt 1 _ (by rw [HZE.out]; rfl), HC.out _ bd m hmlt 2 _ (by rw [HZE.out]; rfl), HC.out _ bd m hmlt 3 _ (by rw [HZE.out]; rfl), HC.out _ bd m hmlt 4 _ (by rw [HZE.out]; rfl), HC.out _ bd k hlt 3 _ (by rw [HXE.out]; rfl)⟩
                    refine wpAnyT_take (i := 0) (v := ?vv15) rfl (by kernel_rfl) (fun _ _ _ h => h) (Or.inl ⟨by rfl, fun w hSw => ?yy15⟩) HS ?rr15
                    case yy15 =>
                      (try dsimp only at hSw); go_simp
                      try with_reducible rfl
                    try simp only [Act.put, List.setIfInBounds_toArray, List.set_cons_zero, List.set_cons_succ]
                    refine wpAnyT_take (i := 1) (v := ?vv16) rfl (by kernel_rfl) (fun _ _ _ h => h) (Or.inl ⟨by rfl, fun w hSw => ?yy16⟩) HS ?rr16
                    case yy16 =>
                      (try dsimp only at hSw); go_simp
                      try with_reducible rfl
                    try simp only [Act.put, List.setIfInBounds_toArray, List.set_cons_zero, List.set_cons_succ]
                    refine wpAnyT_take (i := 2) (v := ?vv17) rfl (by kernel_rfl) (fun _ _ _ h => h) (Or.inl ⟨by rfl, fun w hSw => ?yy17⟩) HS ?rr17
                    case yy17 =>
                      (try dsimp only at hSw); go_simp
                      try with_reducible rfl
                    try simp only [Act.put, List.setIfInBounds_toArray, List.set_cons_zero, List.set_cons_succ]
                    refine wpAnyT_take (i := 3) (v := ?vv18) rfl (by kernel_rfl) (fun _ _ _ h => h) (Or.inl ⟨by rfl, fun w hSw => ?yy18⟩) HS ?rr18
                    case yy18 =>
                      (try dsimp only at hSw); go_simp
                      try with_reducible rfl
                    try simp only [Act.put, List.setIfInBounds_toArray, List.set_cons_zero, List.set_cons_succ]
                    refine wpAnyT_take (i := 4) (v := ?vv19) rfl (by kernel_rfl) (fun _ _ _ h => h) (Or.inl ⟨by rfl, fun w hSw => ?yy19⟩) HS ?rr19
                    case yy19 =>
                      (try dsimp only at hSw); go_simp
                      try with_reducible rfl
                    try simp only [Act.put, List.setIfInBounds_toArray, List.set_cons_zero, List.set_cons_succ]
                    refine wpAnyT_take (i := 5) (v := ?vv20) rfl (by kernel_rfl) (fun _ _ _ h => h) (Or.inl ⟨by rfl, fun w hSw => ?yy20⟩) HS ?rr20
                    case yy20 =>
                      (try dsimp only at hSw); go_simp
                      try with_reducible rfl
                    try simp only [Act.put, List.setIfInBounds_toArray, List.set_cons_zero, List.set_cons_succ]
                    refine wpAnyT_take (i := 6) (v := ?vv21) rfl (by kernel_rfl) (fun _ _ _ h => h) (Or.inl ⟨by rfl, fun w hSw => ?yy21⟩) HS ?rr21
                    case yy21 =>
                      (try dsimp only at hSw); go_simp
                      try with_reducible rfl
                    try simp only [Act.put, List.setIfInBounds_toArray, List.set_cons_zero, List.set_cons_succ]
                    refine wpAnyT_one (k := 7) rfl (by kernel_rfl) (by decide) (fun K hK => ?_)
                    go_simp
                    refine ((RO.out _).mono ?_)
                    rintro e wv ⟨rfl, hbv⟩
                    have bv : Below B w wv := HS.1.trans (hbv.mono (by have := HS.1.size; have := HB.out; omega))
                    have HS : ((fun (W : World) => Below B w W ∧ W.cell? ⟨bb, o + m * 5, none⟩ = some (.bool z.up) ∧ W.cell? ⟨bb, o + m * 5 + 1, none⟩ = some (.int .i64 z.cwnd) ∧ W.cell? ⟨bb, o + m * 5 + 2, none⟩ = some (.int .i64 z.flight) ∧ W.cell? ⟨bb, o + m * 5 + 3, none⟩ = some (.int .i64 z.srtt) ∧ W.cell? ⟨bb, o + m * 5 + 4, none⟩ = some (.int .i64 z.vr) ∧ W.cell? ⟨bb, o + k * 5 + 3, none⟩ = some (.int .i64 x.srtt))) _ := ⟨bv, HC.out _ bv m hmlt 0 _ (by rw [HZE.out]; rfl), HC.out _ bv m hmlt 1 _ (by rw [HZE.out]; rfl), HC.out _ bv m hmlt 2 _ (by rw [HZE.out]; rfl), HC.out _ bv m hmlt 3 _ (by rw [HZE.out]; rfl), HC.out _ bv m hmlt 4 _ (by rw [HZE.out]; rfl), HC.out _ bv k hlt 3 _ (by rw [HXE.out]; rfl)⟩
                    refine hK _ _ HS ?_
                    clear hK K
                    try simp only [Act.put, List.setIfInBounds_toArray, List.set_cons_zero, List.set_cons_succ]
                    refine wpAnyT_take (i := 8) (v := ?vv22) rfl (by kernel_rfl) (fun _ _ _ h => h) (Or.inl ⟨by rfl, fun w hSw => ?yy22⟩) HS ?rr22
                    case yy22 =>
                      (try dsimp only at hSw); go_simp
                      try with_reducible rfl
                    try simp only [Act.put, List.setIfInBounds_toArray, List.set_cons_zero, List.set_cons_succ]
                    refine wpAnyT_take (i := 9) (v := ?vv23) rfl (by kernel_rfl) (fun _ _ _ h => h) (Or.inl ⟨by rfl, fun w hSw => ?yy23⟩) HS ?rr23
                    case yy23 =>
                      (try dsimp only at hSw); go_simp
                      try with_reducible rfl
                    try simp only [Act.put, List.setIfInBounds_toArray, List.set_cons_zero, List.set_cons_succ]
                    refine wpAnyT_take (i := 10) (v := ?vv24) rfl (by kernel_rfl) (fun _ _ _ h => h) (Or.inl ⟨by rfl, fun w hSw => ?yy24⟩) HS ?rr24
                    case yy24 =>
                      (try dsimp only at hSw); go_simp
                      try with_reducible rfl
                    try simp only [Act.put, List.setIfInBounds_toArray, List.set_cons_zero, List.set_cons_succ]
                    refine wpAnyT_take (i := 11) (v := ?vv25) rfl (by kernel_rfl) (fun _ _ _ h => h) (Or.inl ⟨by rfl, fun w hSw => ?yy25⟩) HS ?rr25
                    case yy25 =>
                      (try dsimp only at hSw); go_simp
                      try with_reducible rfl
                    try simp only [Act.put, List.setIfInBounds_toArray, List.set_cons_zero, List.set_cons_succ]
                    refine wpAnyT_take (i := 12) (v := ?vv26) rfl (by kernel_rfl) (fun _ _ _ h => h) (Or.inl ⟨by rfl, fun w hSw => ?yy26⟩) HS ?rr26
                    case yy26 =>
                      (try dsimp only at hSw); go_simp
                      try with_reducible rfl
                    try simp only [Act.put, List.setIfInBounds_toArray, List.set_cons_zero, List.set_cons_succ]
                    refine wpAnyT_take (i := 13) (v := ?vv27) rfl (by kernel_rfl) (fun _ _ _ h => h) (Or.inl ⟨by rfl, fun w hSw => ?yy27⟩) HS ?rr27
                    case yy27 =>
                      (try dsimp only at hSw); go_simp
                      try with_reducible rfl
                    try simp only [Act.put, List.setIfInBounds_toArray, List.set_cons_zero, List.set_cons_succ]
                    refine wpAnyT_take (i := 14) (v := ?vv28) rfl (by kernel_rfl) (fun _ _ _ h => h) (Or.inl ⟨by rfl, fun w hSw => ?yy28⟩) HS ?rr28
                    case yy28 =>
                      (try dsimp only at hSw); go_simp
                      try with_reducible rfl
                    try simp only [Act.put, List.setIfInBounds_toArray, List.set_cons_zero, List.set_cons_succ]
                    refine wpAnyT_take (i := 15) (v := ?vv29) rfl (by kernel_rfl) (fun _ _ _ h => h) (Or.inl ⟨by rfl, fun w hSw => ?yy29⟩) HS ?rr29
                    case yy29 =>
                      (try dsimp only at hSw); go_simp
                      try with_reducible rfl
                    try simp only [Act.put, List.setIfInBounds_toArray, List.set_cons_zero, List.set_cons_succ]
                    refine wpAnyT_take (i := 16) (v := ?vv30) rfl (by kernel_rfl) (fun _ _ _ h => h) (Or.inl ⟨by rfl, fun w hSw => ?yy30⟩) HS ?rr30
                    case yy30 =>
                      (try dsimp only at hSw); go_simp
                      try with_reducible rfl
                    try simp only [Act.put, List.setIfInBounds_toArray, List.set_cons_zero, List.set_cons_succ]
                    refine wpAnyT_take (i := 17) (v := ?vv31) rfl (by kernel_rfl) (fun _ _ _ h => h) (Or.inl ⟨by rfl, fun w hSw => ?yy31⟩) HS ?rr31
                    case yy31 =>
                      (try dsimp only at hSw); go_simp
                      try with_reducible rfl
                    try simp only [Act.put, List.setIfInBounds_toArray, List.set_cons_zero, List.set_cons_succ]
                    refine wpAnyT_take (i := 18) (v := ?vv32) rfl (by kernel_rfl) (fun _ _ _ h => h) (Or.inl ⟨by rfl, fun w hSw => ?yy32⟩) HS ?rr32
                    case yy32 =>
                      (try dsimp only at hSw); go_simp
                      try with_reducible rfl
                    try simp only [Act.put, List.setIfInBounds_toArray, List.set_cons_zero, List.set_cons_succ]
                    refine wpAnyT_take (i := 19) (v := ?vv33) rfl (by kernel_rfl) (fun _ _ _ h => h) (Or.inl ⟨by rfl, fun w hSw => ?yy33⟩) HS ?rr33
                    case yy33 =>
                      (try dsimp only at hSw); go_simp
                      try with_reducible rfl
                    try simp only [Act.put, List.setIfInBounds_toArray, List.set_cons_zero, List.set_cons_succ]
                    refine wpAnyT_take (i := 20) (v := ?vv34) rfl (by kernel_rfl) (fun _ _ _ h => h) (Or.inl ⟨by rfl, fun w hSw => ?yy34⟩) HS ?rr34
                    case yy34 =>
                      (try dsimp only at hSw); go_simp
                      try with_reducible rfl
                    try simp only [Act.put, List.setIfInBounds_toArray, List.set_cons_zero, List.set_cons_succ]
                    refine wpAnyT_take (i := 21) (v := ?vv35) rfl (by kernel_rfl) (fun _ _ _ h => h) (Or.inl ⟨by rfl, fun w hSw => ?yy35⟩) HS ?rr35
                    case yy35 =>
                      (try dsimp only at hSw); go_simp
                      try with_reducible rfl
                    try simp only [Act.put, List.setIfInBounds_toArray, List.set_cons_zero, List.set_cons_succ]
                    refine wpAnyT_take (i := 22) (v := ?vv36) rfl (by kernel_rfl) (fun _ _ _ h => h) (Or.inl ⟨by rfl, fun w hSw => ?yy36⟩) HS ?rr36
                    case yy36 =>
                      (try dsimp only at hSw); go_simp
                      try with_reducible rfl
                    try simp only [Act.put, List.setIfInBounds_toArray, List.set_cons_zero, List.set_cons_succ]
                    refine ⟨by kernel_rfl, ?_⟩
                    simp only [List.drop_succ_cons, List.drop_zero]
                    go_wp2_with fail
                    go_roundw
                    case rel => exact ⟨m + 1, dv, by omega, by go_num, rfl, HLF, bv⟩
                    case measure => simp [intOf]; omega
                · obtain rfl : m = n := by omega
                  have dmlt : decide (m < m) = false := decide_eq_false (by omega)
                  cases b with
                  | true =>
                    go_wp2_with fail
                    go_roundw
                    case rel => exact ⟨k + 1, true, true, by omega, by go_num, rfl, rfl, Lib.hid (fun _ => rfl), Lib.hid (fun _ => rfl), bm⟩
                    case measure => simp [intOf]; omega
                  | false =>
                    have hB2 : f < k + 1 → v = true := fun h => by
                      by_cases e : k = f
                      · exact HV.out e
                      · exact absurd (HBB.out (by omega)) (by simp)
                    have HB2 := Lib.hid hB2; clear hB2
                    go_wp2_with fail
                    go_roundw
                    case rel => exact ⟨k + 1, true, v, by omega, by go_num, rfl, rfl, Lib.hid (fun _ => rfl), HB2, bm⟩
                    case measure => simp [intOf]; omega
        | false =>
          cases rv with
          | true =>
            have y0 := HC.out _ br k hlt 0 (.bool x.up) (by rw [HXE.out]; rfl)
            have y1 := HC.out _ br k hlt 1 (.int .i64 x.cwnd) (by rw [HXE.out]; rfl)
            have y2 := HC.out _ br k hlt 2 (.int .i64 x.flight) (by rw [HXE.out]; rfl)
            have y3 := HC.out _ br k hlt 3 (.int .i64 x.srtt) (by rw [HXE.out]; rfl)
            have y4 := HC.out _ br k hlt 4 (.int .i64 x.vr) (by rw [HXE.out]; rfl)
            simp only [Nat.add_zero] at y0
            go_wp2_with fail
            refine (ecroom_any x mss _).mono ?_
            rw [HRV.out]
            rintro e w5 ⟨rfl, hb5⟩
            have b5 := br.trans (hb5.mono (by have := br.size; have := HB.out; omega))
            clear y0 y1 y2 y3 y4
            clear hb5
            go_upto_region 16 with fail
            have hmt : mv = true := by rw [← HMV.out]; exact (chB_iff x).2 ((roomB_iff x mss).1 HRV.out).1
            subst hmt
            have y0 := HC.out _ b5 k hlt 0 (.bool x.up) (by rw [HXE.out]; rfl)
            have y1 := HC.out _ b5 k hlt 1 (.int .i64 x.cwnd) (by rw [HXE.out]; rfl)
            have y2 := HC.out _ b5 k hlt 2 (.int .i64 x.flight) (by rw [HXE.out]; rfl)
            have y3 := HC.out _ b5 k hlt 3 (.int .i64 x.srtt) (by rw [HXE.out]; rfl)
            have y4 := HC.out _ b5 k hlt 4 (.int .i64 x.vr) (by rw [HXE.out]; rfl)
            simp only [Nat.add_zero] at y0
            go_wp2_with fail
            refine (ecmay_any x _).mono ?_
            rw [HMV.out]
            rintro e w6 ⟨rfl, hb6⟩
            have b6 := b5.trans (hb6.mono (by have := b5.size; have := HB.out; omega))
            clear y0 y1 y2 y3 y4
            clear hb6
            have y0 := HC.out _ b6 k hlt 0 (.bool x.up) (by rw [HXE.out]; rfl)
            have y1 := HC.out _ b6 k hlt 1 (.int .i64 x.cwnd) (by rw [HXE.out]; rfl)
            have y2 := HC.out _ b6 k hlt 2 (.int .i64 x.flight) (by rw [HXE.out]; rfl)
            have y3 := HC.out _ b6 k hlt 3 (.int .i64 x.srtt) (by rw [HXE.out]; rfl)
            have y4 := HC.out _ b6 k hlt 4 (.int .i64 x.vr) (by rw [HXE.out]; rfl)
            simp only [Nat.add_zero] at y0
            go_wp2_with fail
            refine (ecroom_any x mss _).mono ?_
            rw [HRV.out]
            rintro e w7 ⟨rfl, hb7⟩
            have b7 := b6.trans (hb7.mono (by have := b6.size; have := HB.out; omega))
            clear y0 y1 y2 y3 y4
            clear hb7
            go_wp2_with fail
            go_roundw
            case rel => exact ⟨k + 1, true, b, by omega, by go_num, rfl, rfl, Lib.hid (fun _ => rfl), Lib.hid (fun h => HBB.out (Decidable.byCases (fun e : f = k => by subst e; have h1 := HWO.out.fr; rw [HXE.out, HRV.out] at h1; cases h1) (fun e : ¬ f = k => by omega))), b7⟩
            case measure => simp [intOf]; omega
          | false =>
            have y0 := HC.out _ br k hlt 0 (.bool x.up) (by rw [HXE.out]; rfl)
            have y1 := HC.out _ br k hlt 1 (.int .i64 x.cwnd) (by rw [HXE.out]; rfl)
            have y2 := HC.out _ br k hlt 2 (.int .i64 x.flight) (by rw [HXE.out]; rfl)
            have y3 := HC.out _ br k hlt 3 (.int .i64 x.srtt) (by rw [HXE.out]; rfl)
            have y4 := HC.out _ br k hlt 4 (.int .i64 x.vr) (by rw [HXE.out]; rfl)
            simp only [Nat.add_zero] at y0
            go_wp2_with fail
            refine (ecroom_any x mss _).mono ?_
            rw [HRV.out]
            rintro e w5 ⟨rfl, hb5⟩
            have b5 := br.trans (hb5.mono (by have := br.size; have := HB.out; omega))
            clear y0 y1 y2 y3 y4
            clear hb5
            go_upto_region 16 with fail
            cases mv with
            | false =>
              have y0 := HC.out _ b5 k hlt 0 (.bool x.up) (by rw [HXE.out]; rfl)
              have y1 := HC.out _ b5 k hlt 1 (.int .i64 x.cwnd) (by rw [HXE.out]; rfl)
              have y2 := HC.out _ b5 k hlt 2 (.int .i64 x.flight) (by rw [HXE.out]; rfl)
              have y3 := HC.out _ b5 k hlt 3 (.int .i64 x.srtt) (by rw [HXE.out]; rfl)
              have y4 := HC.out _ b5 k hlt 4 (.int .i64 x.vr) (by rw [HXE.out]; rfl)
              simp only [Nat.add_zero] at y0
              go_wp2_with fail
              refine (ecmay_any x _).mono ?_
              rw [HMV.out]
              rintro e w6 ⟨rfl, hb6⟩
              have b6 := b5.trans (hb6.mono (by have := b5.size; have := HB.out; omega))
              clear y0 y1 y2 y3 y4
              clear hb6
              go_wp2_with fail
              go_roundw
              case rel => exact ⟨k + 1, false, b, by omega, by go_num, rfl, rfl, Lib.hid (fun h => Decidable.byCases (fun e : s = k => by subst e; have h1 := HWO.out.sr; rw [HXE.out, HRV.out] at h1; cases h1) (fun e : ¬ s = k => HAA.out (by omega))), Lib.hid (fun h => HBB.out (Decidable.byCases (fun e : f = k => by subst e; have h1 := HWO.out.fc; rw [HXE.out, HMV.out] at h1; cases h1) (fun e : ¬ f = k => by omega))), b6⟩
              case measure => simp [intOf]; omega
            | true =>
              have y0 := HC.out _ b5 k hlt 0 (.bool x.up) (by rw [HXE.out]; rfl)
              have y1 := HC.out _ b5 k hlt 1 (.int .i64 x.cwnd) (by rw [HXE.out]; rfl)
              have y2 := HC.out _ b5 k hlt 2 (.int .i64 x.flight) (by rw [HXE.out]; rfl)
              have y3 := HC.out _ b5 k hlt 3 (.int .i64 x.srtt) (by rw [HXE.out]; rfl)
              have y4 := HC.out _ b5 k hlt 4 (.int .i64 x.vr) (by rw [HXE.out]; rfl)
              simp only [Nat.add_zero] at y0
              go_wp2_with fail
              refine (ecmay_any x _).mono ?_
              rw [HMV.out]
              rintro e w6 ⟨rfl, hb6⟩
              have b6 := b5.trans (hb6.mono (by have := b5.size; have := HB.out; omega))
              clear y0 y1 y2 y3 y4
              clear hb6
              have y0 := HC.out _ b6 k hlt 0 (.bool x.up) (by rw [HXE.out]; rfl)
              have y1 := HC.out _ b6 k hlt 1 (.int .i64 x.cwnd) (by rw [HXE.out]; rfl)
              have y2 := HC.out _ b6 k hlt 2 (.int .i64 x.flight) (by rw [HXE.out]; rfl)
              have y3 := HC.out _ b6 k hlt 3 (.int .i64 x.srtt) (by rw [HXE.out]; rfl)
              have y4 := HC.out _ b6 k hlt 4 (.int .i64 x.vr) (by rw [HXE.out]; rfl)
              simp only [Nat.add_zero] at y0
              go_wp2_with fail
              refine (ecroom_any x mss _).mono ?_
              rw [HRV.out]
              rintro e w7 ⟨rfl, hb7⟩
              have b7 := b6.trans (hb7.mono (by have := b6.size; have := HB.out; omega))
              clear y0 y1 y2 y3 y4
              clear hb7
              go_upto_region 18 with fail
              go_wp2_with fail
              go_loopw [15, 16] (fun al i wm => ∃ (m : Nat) (v : Bool), m ≤ n ∧ i = .int .i64 (m : Int) ∧ al = .bool v ∧ Hid (k = f → v = true) ∧ Below B w wm) (fun _ i _ => n - (intOf i).toNat)
              case atStart => exact ⟨0, true, Nat.zero_le _, rfl, rfl, Lib.hid (fun _ => rfl), b7⟩
              case round =>
                obtain ⟨m, v, hm, rfl, rfl, HV, bm0⟩ := hrel
                have hwm : ∃ wm, wr = wm := ⟨_, rfl⟩
                obtain ⟨wm, hwm⟩ := hwm
                subst hwm
                have bm := bm0
                clear bm0
                by_cases hmlt : m < n
                · have dmlt : decide (m < n) = true := decide_eq_true hmlt
                  obtain ⟨z, hz⟩ : ∃ x, ge l m = x := ⟨_, rfl⟩
                  have HZE := Lib.hid hz; clear hz
                  obtain ⟨r2, hr2⟩ : ∃ v, roomB z mss = v := ⟨_, rfl⟩
                  have ro := fun W => ecroom_any z mss W
                  rw [hr2] at ro
                  have HR2 := Lib.hid hr2; have RO := Lib.hid ro
                  clear hr2 ro
                  go_upto_region 21 with fail
                  cases v with
                  | false =>
                    have bd : Below B w wr.drew := bm.drew
                    refine wp_region_tail 23 24 (fun (W : World) => Below B w W ∧ W.cell? ⟨bb, o + m * 5, none⟩ = some (.bool z.up) ∧ W.cell? ⟨bb, o + m * 5 + 1, none⟩ = some (.int .i64 z.cwnd) ∧ W.cell? ⟨bb, o + m * 5 + 2, none⟩ = some (.int .i64 z.flight) ∧ W.cell? ⟨bb, o + m * 5 + 3, none⟩ = some (.int .i64 z.srtt) ∧ W.cell? ⟨bb, o + m * 5 + 4, none⟩ = some (.int .i64 z.vr) ∧ W.cell? ⟨bb, o + k * 5 + 3, none⟩ = some (.int .i64 x.srtt)) (by kernel_rfl) (by rfl) (by decide) ?_
                    have HS : ((fun (W : World) => Below B w W ∧ W.cell? ⟨bb, o + m * 5, none⟩ = some (.bool z.up) ∧ W.cell? ⟨bb, o + m * 5 + 1, none⟩ = some (.int .i64 z.cwnd) ∧ W.cell? ⟨bb, o + m * 5 + 2, none⟩ = some (.int .i64 z.flight) ∧ W.cell? ⟨bb, o + m * 5 + 3, none⟩ = some (.int .i64 z.srtt) ∧ W.cell? ⟨bb, o + m * 5 + 4, none⟩ = some (.int .i64 z.vr) ∧ W.cell? ⟨bb, o + k * 5 + 3, none⟩ = some (.int .i64 x.srtt))) _ := ⟨bd, HC.out _ bd m hmlt 0 _ (by rw [HZE.out]; rfl), HC.out _ bd m hmlt 1 _ (by rw [HZE.out]; rfl), HC.out _ bd m hmlt 2 _ (by rw [HZE.out]; rfl), HC.out _ bd m hmlt 3 _ (by rw [HZE.out]; rfl), HC.out _ bd m hmlt 4 _ (by rw [HZE.out]; rfl), HC.out _ bd k hlt 3 _ (by rw [HXE.out]; rfl)⟩
                    refine wpAnyT_take (i := 0) (v := ?vv37) rfl (by kernel_rfl) (fun _ _ _ h => h) (Or.inl ⟨by rfl, fun w hSw => ?yy37⟩) HS ?rr37
                    case yy37 =>
                      (try dsimp only at hSw); go_simp
                      try with_reducible rfl
                    try simp only [Act.put, List.setIfInBounds_toArray, List.set_cons_zero, List.set_cons_succ]
                    refine wpAnyT_take (i := 1) (v := ?vv38) rfl (by kernel_rfl) (fun _ _ _ h => h) (Or.inl ⟨by rfl, fun w hSw => ?yy38⟩) HS ?rr38
                    case yy38 =>
                      (try dsimp only at hSw); go_simp
                      try with_reducible rfl
                    try simp only [Act.put, List.setIfInBounds_toArray, List.set_cons_zero, List.set_cons_succ]
                    refine wpAnyT_take (i := 2) (v := undef) rfl (by kernel_rfl) (fun _ _ _ h => h) (Or.inr ⟨by kernel_rfl, rfl⟩) HS ?_
                    try simp only [Act.put, List.setIfInBounds_toArray, List.set_cons_zero, List.set_cons_succ]
                    refine wpAnyT_take (i := 3) (v := undef) rfl (by kernel_rfl) (fun _ _ _ h => h) (Or.inr ⟨by kernel_rfl, rfl⟩) HS ?_
                    try simp only [Act.put, List.setIfInBounds_toArray, List.set_cons_zero, List.set_cons_succ]
                    refine wpAnyT_take (i := 4) (v := undef) rfl (by kernel_rfl) (fun _ _ _ h => h) (Or.inr ⟨by kernel_rfl, rfl⟩) HS ?_
                    try simp only [Act.put, List.setIfInBounds_toArray, List.set_cons_zero, List.set_cons_succ]
                    refine wpAnyT_take (i := 5) (v := undef) rfl (by kernel_rfl) (fun _ _ _ h => h) (Or.inr ⟨by kernel_rfl, rfl⟩) HS ?_
                    try simp only [Act.put, List.setIfInBounds_toArray, List.set_cons_zero, List.set_cons_succ]
                    refine wpAnyT_take (i := 6) (v := undef) rfl (by kernel_rfl) (fun _ _ _ h => h) (Or.inr ⟨by kernel_rfl, rfl⟩) HS ?_
                    try simp only [Act.put, List.setIfInBounds_toArray, List.set_cons_zero, List.set_cons_succ]
                    refine wpAnyT_take (i := 7) (v := undef) rfl (by kernel_rfl) (fun _ _ _ h => h) (Or.inr ⟨by kernel_rfl, rfl⟩) HS ?_
                    try simp only [Act.put, List.setIfInBounds_toArray, List.set_cons_zero, List.set_cons_succ]
                    refine wpAnyT_take (i := 8) (v := undef) rfl (by kernel_rfl) (fun _ _ _ h => h) (Or.inr ⟨by kernel_rfl, rfl⟩) HS ?_
                    try simp only [Act.put, List.setIfInBounds_toArray, List.set_cons_zero, List.set_cons_succ]
                    refine wpAnyT_take (i := 9) (v := undef) rfl (by kernel_rfl) (fun _ _ _ h => h) (Or.inr ⟨by kernel_rfl, rfl⟩) HS ?_
                    try simp only [Act.put, List.setIfInBounds_toArray, List.set_cons_zero, List.set_cons_succ]
                    refine wpAnyT_take (i := 10) (v := undef) rfl (by kernel_rfl) (fun _ _ _ h => h) (Or.inr ⟨by kernel_rfl, rfl⟩) HS ?_
                    try simp only [Act.put, List.setIfInBounds_toArray, List.set_cons_zero, List.set_cons_succ]
                    refine wpAnyT_take (i := 11) (v := undef) rfl (by kernel_rfl) (fun _ _ _ h => h) (Or.inr ⟨by kernel_rfl, rfl⟩) HS ?_
                    try simp only [Act.put, List.setIfInBounds_toArray, List.set_cons_zero, List.set_cons_succ]
                    refine wpAnyT_take (i := 12) (v := undef) rfl (by kernel_rfl) (fun _ _ _ h => h) (Or.inr ⟨by kernel_rfl, rfl⟩) HS ?_
                    try simp only [Act.put, List.setIfInBounds_toArray, List.set_cons_zero, List.set_cons_succ]
                    refine wpAnyT_take (i := 13) (v := undef) rfl (by kernel_rfl) (fun _ _ _ h => h) (Or.inr ⟨by kernel_rfl, rfl⟩) HS ?_
                    try simp only [Act.put, List.setIfInBounds_toArray, List.set_cons_zero, List.set_cons_succ]
                    refine wpAnyT_take (i := 14) (v := undef) rfl (by kernel_rfl) (fun _ _ _ h => h) (Or.inr ⟨by kernel_rfl, rfl⟩) HS ?_
                    try simp only [Act.put, List.setIfInBounds_toArray, List.set_cons_zero, List.set_cons_succ]
                    refine wpAnyT_take (i := 15) (v := undef) rfl (by kernel_rfl) (fun _ _ _ h => h) (Or.inr ⟨by kernel_rfl, rfl⟩) HS ?_
                    try simp only [Act.put, List.setIfInBounds_toArray, List.set_cons_zero, List.set_cons_succ]
                    refine wpAnyT_take (i := 16) (v := undef) rfl (by kernel_rfl) (fun _ _ _ h => h) (Or.inr ⟨by kernel_rfl, rfl⟩) HS ?_
                    try simp only [Act.put, List.setIfInBounds_toArray, List.set_cons_zero, List.set_cons_succ]
                    refine wpAnyT_take (i := 17) (v := undef) rfl (by kernel_rfl) (fun _ _ _ h => h) (Or.inr ⟨by kernel_rfl, rfl⟩) HS ?_
                    try simp only [Act.put, List.setIfInBounds_toArray, List.set_cons_zero, List.set_cons_succ]
                    refine wpAnyT_take (i := 18) (v := undef) rfl (by kernel_rfl) (fun _ _ _ h => h) (Or.inr ⟨by kernel_rfl, rfl⟩) HS ?_
                    try simp only [Act.put, List.setIfInBounds_toArray, List.set_cons_zero, List.set_cons_succ]
                    refine wpAnyT_take (i := 19) (v := undef) rfl (by kernel_rfl) (fun _ _ _ h => h) (Or.inr ⟨by kernel_rfl, rfl⟩) HS ?_
                    try simp only [Act.put, List.setIfInBounds_toArray, List.set_cons_zero, List.set_cons_succ]
                    refine wpAnyT_take (i := 20) (v := undef) rfl (by kernel_rfl) (fun _ _ _ h => h) (Or.inr ⟨by kernel_rfl, rfl⟩) HS ?_
                    try simp only [Act.put, List.setIfInBounds_toArray, List.set_cons_zero, List.set_cons_succ]
                    refine wpAnyT_take (i := 21) (v := undef) rfl (by kernel_rfl) (fun _ _ _ h => h) (Or.inr ⟨by kernel_rfl, rfl⟩) HS ?_
                    try simp only [Act.put, List.setIfInBounds_toArray, List.set_cons_zero, List.set_cons_succ]
                    refine wpAnyT_take (i := 22) (v := ?vv39) rfl (by kernel_rfl) (fun _ _ _ h => h) (Or.inl ⟨by rfl, fun w hSw => ?yy39⟩) HS ?rr39
                    case yy39 =>
                      (try dsimp only at hSw); go_simp
                      try with_reducible rfl
                    try simp only [Act.put, List.setIfInBounds_toArray, List.set_cons_zero, List.set_cons_succ]
                    refine ⟨by kernel_rfl, ?_⟩
                    simp only [List.drop_succ_cons, List.drop_zero]
                    go_wp2_with fail
                    go_roundw
                    case rel => exact ⟨m + 1, false, by omega, by go_num, rfl, HV, HS.1⟩
                    case measure => simp [intOf]; omega
                  | true =>
                  cases r2 with
                  | false =>
                    have bd : Below B w wr.drew := bm.drew
                    refine wp_region_tail 23 24 (fun (W : World) => Below B w W ∧ W.cell? ⟨bb, o + m * 5, none⟩ = some (.bool z.up) ∧ W.cell? ⟨bb, o + m * 5 + 1, none⟩ = some (.int .i64 z.cwnd) ∧ W.cell? ⟨bb, o + m * 5 + 2, none⟩ = some (.int .i64 z.flight) ∧ W.cell? ⟨bb, o + m * 5 + 3, none⟩ = some (.int .i64 z.srtt) ∧ W.cell? ⟨bb, o + m * 5 + 4, none⟩ = some (.int .i64 z.vr) ∧ W.cell? ⟨bb, o + k * 5 + 3, none⟩ = some (.int .i64 x.srtt)) (by kernel_rfl) (by rfl) (by decide) ?_
                    have HS : ((fun (W : World) => Below B w W ∧ W.cell? ⟨bb, o + m * 5, none⟩ = some (.bool z.up) ∧ W.cell? ⟨bb, o + m * 5 + 1, none⟩ = some (.int .i64 z.cwnd) ∧ W.cell? ⟨bb, o + m * 5 + 2, none⟩ = some (.int .i64 z.flight) ∧ W.cell? ⟨bb, o + m * 5 + 3, none⟩ = some (.int .i64 z.srtt) ∧ W.cell? ⟨bb, o + m * 5 + 4, none⟩ = some (.int .i64 z.vr) ∧ W.cell? ⟨bb, o + k * 5 + 3, none⟩ = some (.int .i64 x.srtt))) _ := ⟨bd, HC.out _ bd m hmlt 0 _ (by rw [HZE.out]; rfl), HC.out _ bd m hmlt 1 _ (by rw [HZE.out]; rfl), HC.out _ bd m hmlt 2 _ (by rw [HZE.out]; rfl), HC.out _ bd m hmlt 3 _ (by rw [HZE.out]; rfl), HC.out _ bd m hmlt 4 _ (by rw [HZE.out]; rfl), HC.out _ bd k hlt 3 _ (by rw [HXE.out]; rfl)⟩
                    refine wpAnyT_take (i := 0) (v := ?vv40) rfl (by kernel_rfl) (fun _ _ _ h => h) (Or.inl ⟨by rfl, fun w hSw => ?yy40⟩) HS ?rr40
                    case yy40 =>
                      (try dsimp only at hSw); go_simp
                      try with_reducible rfl
                    try simp only [Act.put, List.setIfInBounds_toArray, List.set_cons_zero, List.set_cons_succ]
                    refine wpAnyT_take (i := 1) (v := ?vv41) rfl (by kernel_rfl) (fun _ _ _ h => h) (Or.inl ⟨by rfl, fun w hSw => ?yy41⟩) HS ?rr41
                    case yy41 =>
                      (try dsimp only at hSw); go_simp
                      try with_reducible rfl
                    try simp only [Act.put, List.setIfInBounds_toArray, List.set_cons_zero, List.set_cons_succ]
                    refine wpAnyT_take (i := 2) (v := ?vv42) rfl (by kernel_rfl) (fun _ _ _ h => h) (Or.inl ⟨by rfl, fun w hSw => ?yy42⟩) HS ?rr42
                    case yy42 =>
                      (try dsimp only at hSw); go_simp
                      try with_reducible rfl
                    try simp only [Act.put, List.setIfInBounds_toArray, List.set_cons_zero, List.set_cons_succ]
                    refine wpAnyT_take (i := 3) (v := ?vv43) rfl (by kernel_rfl) (fun _ _ _ h => h) (Or.inl ⟨by rfl, fun w hSw => ?yy43⟩) HS ?rr43
                    case yy43 =>
                      (try dsimp only at hSw); go_simp
                      try with_reducible rfl
                    try simp only [Act.put, List.setIfInBounds_toArray, List.set_cons_zero, List.set_cons_succ]
                    refine wpAnyT_take (i := 4) (v := ?vv44) rfl (by kernel_rfl) (fun _ _ _ h => h) (Or.inl ⟨by rfl, fun w hSw => ?yy44⟩) HS ?rr44
                    case yy44 =>
                      (try dsimp only at hSw); go_simp
                      try with_reducible rfl
                    try simp only [Act.put, List.setIfInBounds_toArray, List.set_cons_zero, List.set_cons_succ]
                    refine wpAnyT_take (i := 5) (v := ?vv45) rfl (by kernel_rfl) (fun _ _ _ h => h) (Or.inl ⟨by rfl, fun w hSw => ?yy45⟩) HS ?rr45
                    case yy45 =>
                      (try dsimp only at hSw); go_simp
                      try with_reducible rfl
                    try simp only [Act.put, List.setIfInBounds_toArray, List.set_cons_zero, List.set_cons_succ]
                    refine wpAnyT_take (i := 6) (v := ?vv46) rfl (by kernel_rfl) (fun _ _ _ h => h) (Or.inl ⟨by rfl, fun w hSw => ?yy46⟩) HS ?rr46
                    case yy46 =>
                      (try dsimp only at hSw); go_simp
                      try with_reducible rfl
                    try simp only [Act.put, List.setIfInBounds_toArray, List.set_cons_zero, List.set_cons_succ]
                    refine wpAnyT_one (k := 7) rfl (by kernel_rfl) (by decide) (fun K hK => ?_)
                    go_simp
                    refine ((RO.out _).mono ?_)
                    rintro e wv ⟨rfl, hbv⟩
                    have bv : Below B w wv := HS.1.trans (hbv.mono (by have := HS.1.size; have := HB.out; omega))
                    have HS : ((fun (W : World) => Below B w W ∧ W.cell? ⟨bb, o + m * 5, none⟩ = some (.bool z.up) ∧ W.cell? ⟨bb, o + m * 5 + 1, none⟩ = some (.int .i64 z.cwnd) ∧ W.cell? ⟨bb, o + m * 5 + 2, none⟩ = some (.int .i64 z.flight) ∧ W.cell? ⟨bb, o + m * 5 + 3, none⟩ = some (.int .i64 z.srtt) ∧ W.cell? ⟨bb, o + m * 5 + 4, none⟩ = some (.int .i64 z.vr) ∧ W.cell? ⟨bb, o + k * 5 + 3, none⟩ = some (.int .i64 x.srtt))) _ := ⟨bv, HC.out _ bv m hmlt 0 _ (by rw [HZE.out]; rfl), HC.out _ bv m hmlt 1 _ (by rw [HZE.out]; rfl), HC.out _ bv m hmlt 2 _ (by rw [HZE.out]; rfl), HC.out _ bv m hmlt 3 _ (by rw [HZE.out]; rfl), HC.out _ bv m hmlt 4 _ (by rw [HZE.out]; rfl), HC.out _ bv k hlt 3 _ (by rw [HXE.out]; rfl)⟩
                    refine hK _ _ HS ?_
                    clear hK K
                    try simp only [Act.put, List.setIfInBounds_toArray, List.set_cons_zero, List.set_cons_succ]
                    refine wpAnyT_take (i := 8) (v := ?vv47) rfl (by kernel_rfl) (fun _ _ _ h => h) (Or.inl ⟨by rfl, fun w hSw => ?yy47⟩) HS ?rr47
                    case yy47 =>
                      (try dsimp only at hSw); go_simp
                      try with_reducible rfl
                    try simp only [Act.put, List.setIfInBounds_toArray, List.set_cons_zero, List.set_cons_succ]
                    refine wpAnyT_take (i := 9) (v := ?vv48) rfl (by kernel_rfl) (fun _ _ _ h => h) (Or.inl ⟨by rfl, fun w hSw => ?yy48⟩) HS ?rr48
                    case yy48 =>
                      (try dsimp only at hSw); go_simp
                      try with_reducible rfl
                    try simp only [Act.put, List.setIfInBounds_toArray, List.set_cons_zero, List.set_cons_succ]
                    refine wpAnyT_take (i := 10) (v := undef) rfl (by kernel_rfl) (fun _ _ _ h => h) (Or.inr ⟨by kernel_rfl, rfl⟩) HS ?_
                    try simp only [Act.put, List.setIfInBounds_toArray, List.set_cons_zero, List.set_cons_succ]
                    refine wpAnyT_take (i := 11) (v := undef) rfl (by kernel_rfl) (fun _ _ _ h => h) (Or.inr ⟨by kernel_rfl, rfl⟩) HS ?_
                    try simp only [Act.put, List.setIfInBounds_toArray, List.set_cons_zero, List.set_cons_succ]
                    refine wpAnyT_take (i := 12) (v := undef) rfl (by kernel_rfl) (fun _ _ _ h => h) (Or.inr ⟨by kernel_rfl, rfl⟩) HS ?_
                    try simp only [Act.put, List.setIfInBounds_toArray, List.set_cons_zero, List.set_cons_succ]
                    refine wpAnyT_take (i := 13) (v := undef) rfl (by kernel_rfl) (fun _ _ _ h => h) (Or.inr ⟨by kernel_rfl, rfl⟩) HS ?_
                    try simp only [Act.put, List.setIfInBounds_toArray, List.set_cons_zero, List.set_cons_succ]
                    refine wpAnyT_take (i := 14) (v := undef) rfl (by kernel_rfl) (fun _ _ _ h => h) (Or.inr ⟨by kernel_rfl, rfl⟩) HS ?_
                    try simp only [Act.put, List.setIfInBounds_toArray, List.set_cons_zero, List.set_cons_succ]
                    refine wpAnyT_take (i := 15) (v := undef) rfl (by kernel_rfl) (fun _ _ _ h => h) (Or.inr ⟨by kernel_rfl, rfl⟩) HS ?_
                    try simp only [Act.put, List.setIfInBounds_toArray, List.set_cons_zero, List.set_cons_succ]
                    refine wpAnyT_take (i := 16) (v := undef) rfl (by kernel_rfl) (fun _ _ _ h => h) (Or.inr ⟨by kernel_rfl, rfl⟩) HS ?_
                    try simp only [Act.put, List.setIfInBounds_toArray, List.set_cons_zero, List.set_cons_succ]
                    refine wpAnyT_take (i := 17) (v := undef) rfl (by kernel_rfl) (fun _ _ _ h => h) (Or.inr ⟨by kernel_rfl, rfl⟩) HS ?_
                    try simp only [Act.put, List.setIfInBounds_toArray, List.set_cons_zero, List.set_cons_succ]
                    refine wpAnyT_take (i := 18) (v := undef) rfl (by kernel_rfl) (fun _ _ _ h => h) (Or.inr ⟨by kernel_rfl, rfl⟩) HS ?_
                    try simp only [Act.put, List.setIfInBounds_toArray, List.set_cons_zero, List.set_cons_succ]
                    refine wpAnyT_take (i := 19) (v := undef) rfl (by kernel_rfl) (fun _ _ _ h => h) (Or.inr ⟨by kernel_rfl, rfl⟩) HS ?_
                    try simp only [Act.put, List.setIfInBounds_toArray, List.set_cons_zero, List.set_cons_succ]
                    refine wpAnyT_take (i := 20) (v := undef) rfl (by kernel_rfl) (fun _ _ _ h => h) (Or.inr ⟨by kernel_rfl, rfl⟩) HS ?_
                    try simp only [Act.put, List.setIfInBounds_toArray, List.set_cons_zero, List.set_cons_succ]
                    refine wpAnyT_take (i := 21) (v := ?vv49) rfl (by kernel_rfl) (fun _ _ _ h => h) (Or.inl ⟨by rfl, fun w hSw => ?yy49⟩) HS ?rr49
                    case yy49 =>
                      (try dsimp only at hSw); go_simp
                      try with_reducible rfl
                    try simp only [Act.put, List.setIfInBounds_toArray, List.set_cons_zero, List.set_cons_succ]
                    refine wpAnyT_take (i := 22) (v := ?vv50) rfl (by kernel_rfl) (fun _ _ _ h => h) (Or.inl ⟨by rfl, fun w hSw => ?yy50⟩) HS ?rr50
                    case yy50 =>
                      (try dsimp only at hSw); go_simp
                      try with_reducible rfl
                    try simp only [Act.put, List.setIfInBounds_toArray, List.set_cons_zero, List.set_cons_succ]
                    refine ⟨by kernel_rfl, ?_⟩
                    simp only [List.drop_succ_cons, List.drop_zero]
                    go_wp2_with fail
                    go_roundw
                    case rel => exact ⟨m + 1, true, by omega, by go_num, rfl, Lib.hid (fun _ => rfl), bv⟩
                    case measure => simp [intOf]; omega
                  | true =>
                    have hlf : k = f → decide (x.srtt ≤ z.srtt) = true := fun hkf => by
                      subst hkf
                      have := HWO.out.least m (by rw [HL.out]; exact hmlt) (by rw [HZE.out]; exact HR2.out)
                      rw [HXE.out, HZE.out] at this
                      exact decide_eq_true this
                    obtain ⟨dv, hdv⟩ : ∃ v, decide (x.srtt ≤ z.srtt) = v := ⟨_, rfl⟩
                    rw [hdv] at hlf
                    have HLF := Lib.hid hlf; clear hlf
                    have bd : Below B w wr.drew := bm.drew
                    refine wp_region_tail 23 24 (fun (W : World) => Below B w W ∧ W.cell? ⟨bb, o + m * 5, none⟩ = some (.bool z.up) ∧ W.cell? ⟨bb, o + m * 5 + 1, none⟩ = some (.int .i64 z.cwnd) ∧ W.cell? ⟨bb, o + m * 5 + 2, none⟩ = some (.int .i64 z.flight) ∧ W.cell? ⟨bb, o + m * 5 + 3, none⟩ = some (.int .i64 z.srtt) ∧ W.cell? ⟨bb, o + m * 5 + 4, none⟩ = some (.int .i64 z.vr) ∧ W.cell? ⟨bb, o + k * 5 + 3, none⟩ = some (.int .i64 x.srtt)) (by kernel_rfl) (by rfl) (by decide) ?_
                    have HS : ((fun (W : World) => Below B w W ∧ W.cell? ⟨bb, o + m * 5, none⟩ = some (.bool z.up) ∧ W.cell? ⟨bb, o + m * 5 + 1, none⟩ = some (.int .i64 z.cwnd) ∧ W.cell? ⟨bb, o + m * 5 + 2, none⟩ = some (.int .i64 z.flight) ∧ W.cell? ⟨bb, o + m * 5 + 3, none⟩ = some (.int .i64 z.srtt) ∧ W.cell? ⟨bb, o + m * 5 + 4, none⟩ = some (.int .i64 z.vr) ∧ W.cell? ⟨bb, o + k * 5 + 3, none⟩ = some (.int .i64 x.srtt))) _ := ⟨bd, HC.out _ bd m hmlt 0 _ (by rw [HZE.out]; rfl), HC.out _ bd m hmlt 1 _ (by rw [HZE.out]; rfl), HC.out _ bd m hmlt 2 _ (by rw [HZE.out]; rfl), HC.out _ bd m hmlt 3 _ (by rw [HZE.out]; rfl), HC.out _ bd m hmlt 4 _ (by rw [HZE.out]; rfl), HC.out _ bd k hlt 3 _ (by rw [HXE.out]; rfl)⟩
                    refine wpAnyT_take (i := 0) (v := ?vv51) rfl (by kernel_rfl) (fun _ _ _ h => h) (Or.inl ⟨by rfl, fun w hSw => ?yy51⟩) HS ?rr51
                    case yy51 =>
                      (try dsimp only at hSw); go_simp
                      try with_reducible rfl
                    try simp only [Act.put, List.setIfInBounds_toArray, List.set_cons_zero, List.set_cons_succ]
                    refine wpAnyT_take (i := 1) (v := ?vv52) rfl (by kernel_rfl) (fun _ _ _ h => h) (Or.inl ⟨by rfl, fun w hSw => ?yy52⟩) HS ?rr52
                    case yy52 =>
                      (try dsimp only at hSw); go_simp
                      try with_reducible rfl
                    try simp only [Act.put, List.setIfInBounds_toArray, List.set_cons_zero, List.set_cons_succ]
                    refine wpAnyT_take (i := 2) (v := ?vv53) rfl (by kernel_rfl) (fun _ _ _ h => h) (Or.inl ⟨by rfl, fun w hSw => ?yy53⟩) HS ?rr53
                    case yy53 =>
                      (try dsimp only at hSw); go_simp
                      try with_reducible rfl
                    try simp only [Act.put, List.setIfInBounds_toArray, List.set_cons_zero, List.set_cons_succ]
                    refine wpAnyT_take (i := 3) (v := ?vv54) rfl (by kernel_rfl) (fun _ _ _ h => h) (Or.inl ⟨by rfl, fun w hSw => ?yy54⟩) HS ?rr54
                    case yy54 =>
                      (try dsimp only at hSw); go_simp
                      try with_reducible rfl
                    try simp only [Act.put, List.setIfInBounds_toArray, List.set_cons_zero, List.set_cons_succ]
                    refine wpAnyT_take (i := 4) (v := ?vv55) rfl (by kernel_rfl) (fun _ _ _ h => h) (Or.inl ⟨by rfl, fun w hSw => ?yy55⟩) HS ?rr55
                    case yy55 =>
                      (try dsimp only at hSw); go_simp
                      try with_reducible rfl
                    try simp only [Act.put, List.setIfInBounds_toArray, List.set_cons_zero, List.set_cons_succ]
                    refine wpAnyT_take (i := 5) (v := ?vv56) rfl (by kernel_rfl) (fun _ _ _ h => h) (Or.inl ⟨by rfl, fun w hSw => ?yy56⟩) HS ?rr56
                    case yy56 =>
                      (try dsimp only at hSw); go_simp
                      try with_reducible rfl
                    try simp only [Act.put, List.setIfInBounds_toArray, List.set_cons_zero, List.set_cons_succ]
                    refine wpAnyT_take (i := 6) (v := ?vv57) rfl (by kernel_rfl) (fun _ _ _ h => h) (Or.inl ⟨by rfl, fun w hSw => ?yy57⟩) HS ?rr57
                    case yy57 =>
                      (try dsimp only at hSw); go_simp
                      try with_reducible rfl
                    try simp only [Act.put, List.setIfInBounds_toArray, List.set_cons_zero, List.set_cons_succ]
                    refine wpAnyT_one (k := 7) rfl (by kernel_rfl) (by decide) (fun K hK => ?_)
                    go_simp
                    refine ((RO.out _).mono ?_)
                    rintro e wv ⟨rfl, hbv⟩
                    have bv : Below B w wv := HS.1.trans (hbv.mono (by have := HS.1.size; have := HB.out; omega))
                    have HS : ((fun (W : World) => Below B w W ∧ W.cell? ⟨bb, o + m * 5, none⟩ = some (.bool z.up) ∧ W.cell? ⟨bb, o + m * 5 + 1, none⟩ = some (.int .i64 z.cwnd) ∧ W.cell? ⟨bb, o + m * 5 + 2, none⟩ = some (.int .i64 z.flight) ∧ W.cell? ⟨bb, o + m * 5 + 3, none⟩ = some (.int .i64 z.srtt) ∧ W.cell? ⟨bb, o + m * 5 + 4, none⟩ = some (.int .i64 z.vr) ∧ W.cell? ⟨bb, o + k * 5 + 3, none⟩ = some (.int .i64 x.srtt))) _ := ⟨bv, HC.out _ bv m hmlt 0 _ (by rw [HZE.out]; rfl), HC.out _ bv m hmlt 1 _ (by rw [HZE.out]; rfl), HC.out _ bv m hmlt 2 _ (by rw [HZE.out]; rfl), HC.out _ bv m hmlt 3 _ (by rw [HZE.out]; rfl), HC.out _ bv m hmlt 4 _ (by rw [HZE.out]; rfl), HC.out _ bv k hlt 3 _ (by rw [HXE.out]; rfl)⟩
                    refine hK _ _ HS ?_
                    clear hK K
                    try simp only [Act.put, List.setIfInBounds_toArray, List.set_cons_zero, List.set_cons_succ]
                    refine wpAnyT_take (i := 8) (v := ?vv58) rfl (by kernel_rfl) (fun _ _ _ h => h) (Or.inl ⟨by rfl, fun w hSw => ?yy58⟩) HS ?rr58
                    case yy58 =>
                      (try dsimp only at hSw); go_simp
                      try with_reducible rfl
                    try simp only [Act.put, List.setIfInBounds_toArray, List.set_cons_zero, List.set_cons_succ]
                    refine wpAnyT_take (i := 9) (v := ?vv59) rfl (by kernel_rfl) (fun _ _ _ h => h) (Or.inl ⟨by rfl, fun w hSw => ?yy59⟩) HS ?rr59
                    case yy59 =>
                      (try dsimp only at hSw); go_simp
                      try with_reducible rfl
                    try simp only [Act.put, List.setIfInBounds_toArray, List.set_cons_zero, List.set_cons_succ]
                    refine wpAnyT_take (i := 10) (v := ?vv60) rfl (by kernel_rfl) (fun _ _ _ h => h) (Or.inl ⟨by rfl, fun w hSw => ?yy60⟩) HS ?rr60
                    case yy60 =>
                      (try dsimp only at hSw); go_simp
                      try with_reducible rfl
                    try simp only [Act.put, List.setIfInBounds_toArray, List.set_cons_zero, List.set_cons_succ]
                    refine wpAnyT_take (i := 11) (v := ?vv61) rfl (by kernel_rfl) (fun _ _ _ h => h) (Or.inl ⟨by rfl, fun w hSw => ?yy61⟩) HS ?rr61
                    case yy61 =>
                      (try dsimp only at hSw); go_simp
                      try with_reducible rfl
                    try simp only [Act.put, List.setIfInBounds_toArray, List.set_cons_zero, List.set_cons_succ]
                    refine wpAnyT_take (i := 12) (v := ?vv62) rfl (by kernel_rfl) (fun _ _ _ h => h) (Or.inl ⟨by rfl, fun w hSw => ?yy62⟩) HS ?rr62
                    case yy62 =>
                      (try dsimp only at hSw); go_simp
                      try with_reducible rfl
                    try simp only [Act.put, List.setIfInBounds_toArray, List.set_cons_zero, List.set_cons_succ]
                    refine wpAnyT_take (i := 13) (v := ?vv63) rfl (by kernel_rfl) (fun _ _ _ h => h) (Or.inl ⟨by rfl, fun w hSw => ?yy63⟩) HS ?rr63
                    case yy63 =>
                      (try dsimp only at hSw); go_simp
                      try with_reducible rfl
                    try simp only [Act.put, List.setIfInBounds_toArray, List.set_cons_zero, List.set_cons_succ]
                    refine wpAnyT_take (i := 14) (v := ?vv64) rfl (by kernel_rfl) (fun _ _ _ h => h) (Or.inl ⟨by rfl, fun w hSw => ?yy64⟩) HS ?rr64
                    case yy64 =>
                      (try dsimp only at hSw); go_simp
                      try with_reducible rfl
                    try simp only [Act.put, List.setIfInBounds_toArray, List.set_cons_zero, List.set_cons_succ]
                    refine wpAnyT_take (i := 15) (v := ?vv65) rfl (by kernel_rfl) (fun _ _ _ h => h) (Or.inl ⟨by rfl, fun w hSw => ?yy65⟩) HS ?rr65
                    case yy65 =>
                      (try dsimp only at hSw); go_simp
                      try with_reducible rfl
                    try simp only [Act.put, List.setIfInBounds_toArray, List.set_cons_zero, List.set_cons_succ]
                    refine wpAnyT_take (i := 16) (v := ?vv66) rfl (by kernel_rfl) (fun _ _ _ h => h) (Or.inl ⟨by rfl, fun w hSw => ?yy66⟩) HS ?rr66
                    case yy66 =>
                      (try dsimp only at hSw); go_simp
                      try with_reducible rfl
                    try simp only [Act.put, List.setIfInBounds_toArray, List.set_cons_zero, List.set_cons_succ]
                    refine wpAnyT_take (i := 17) (v := ?vv67) rfl (by kernel_rfl) (fun _ _ _ h => h) (Or.inl ⟨by rfl, fun w hSw => ?yy67⟩) HS ?rr67
                    case yy67 =>
                      (try dsimp only at hSw); go_simp
                      try with_reducible rfl
                    try simp only [Act.put, List.setIfInBounds_toArray, List.set_cons_zero, List.set_cons_succ]
                    refine wpAnyT_take (i := 18) (v := ?vv68) rfl (by kernel_rfl) (fun _ _ _ h => h) (Or.inl ⟨by rfl, fun w hSw => ?yy68⟩) HS ?rr68
                    case yy68 =>
                      (try dsimp only at hSw); go_simp
                      try with_reducible rfl
                    try simp only [Act.put, List.setIfInBounds_toArray, List.set_cons_zero, List.set_cons_succ]
                    refine wpAnyT_take (i := 19) (v := ?vv69) rfl (by kernel_rfl) (fun _ _ _ h => h) (Or.inl ⟨by rfl, fun w hSw => ?yy69⟩) HS ?rr69
                    case yy69 =>
                      (try dsimp only at hSw); go_simp
                      try with_reducible rfl
                    try simp only [Act.put, List.setIfInBounds_toArray, List.set_cons_zero, List.set_cons_succ]
                    refine wpAnyT_take (i := 20) (v := ?vv70) rfl (by kernel_rfl) (fun _ _ _ h => h) (Or.inl ⟨by rfl, fun w hSw => ?yy70⟩) HS ?rr70
                    case yy70 =>
                      (try dsimp only at hSw); go_simp
                      try with_reducible rfl
                    try simp only [Act.put, List.setIfInBounds_toArray, List.set_cons_zero, List.set_cons_succ]
                    refine wpAnyT_take (i := 21) (v := ?vv71) rfl (by kernel_rfl) (fun _ _ _ h => h) (Or.inl ⟨by rfl, fun w hSw => ?yy71⟩) HS ?rr71
                    case yy71 =>
                      (try dsimp only at hSw); go_simp
                      try with_reducible rfl
                    try simp only [Act.put, List.setIfInBounds_toArray, List.set_cons_zero, List.set_cons_succ]
                    refine wpAnyT_take (i := 22) (v := ?vv72) rfl (by kernel_rfl) (fun _ _ _ h => h) (Or.inl ⟨by rfl, fun w hSw => ?yy72⟩) HS ?rr72
                    case yy72 =>
                      (try dsimp only at hSw); go_simp
                      try with_reducible rfl
                    try simp only [Act.put, List.setIfInBounds_toArray, List.set_cons_zero, List.set_cons_succ]
                    refine ⟨by kernel_rfl, ?_⟩
                    simp only [List.drop_succ_cons, List.drop_zero]
                    go_wp2_with fail
                    go_roundw
                    case rel => exact ⟨m + 1, dv, by omega, by go_num, rfl, HLF, bv⟩
                    case measure => simp [intOf]; omega
                · obtain rfl : m = n := by omega
                  have dmlt : decide (m < m) = false := decide_eq_false (by omega)
                  cases b with
                  | true =>
                    go_wp2_with fail
                    go_roundw
                    case rel => exact ⟨k + 1, false, true, by omega, by go_num, rfl, rfl, Lib.hid (fun h => Decidable.byCases (fun e : s = k => by subst e; have h1 := HWO.out.sr; rw [HXE.out, HRV.out] at h1; cases h1) (fun e : ¬ s = k => HAA.out (by omega))), Lib.hid (fun _ => rfl), bm⟩
                    case measure => simp [intOf]; omega
                  | false =>
                    have hB2 : f < k + 1 → v = true := fun h => by
                      by_cases e : k = f
                      · exact HV.out e
                      · exact absurd (HBB.out (by omega)) (by simp)
                    have HB2 := Lib.hid hB2; clear hB2
                    go_wp2_with fail
                    go_roundw
                    case rel => exact ⟨k + 1, false, v, by omega, by go_num, rfl, rfl, Lib.hid (fun h => Decidable.byCases (fun e : s = k => by subst e; have h1 := HWO.out.sr; rw [HXE.out, HRV.out] at h1; cases h1) (fun e : ¬ s = k => HAA.out (by omega))), HB2, bm⟩
                    case measure => simp [intOf]; omega
      · obtain rfl : k = n := by omega
        have dlt : decide (k < k) = false := decide_eq_false (by omega)
        have ha := HAA.out hsn; have hb := HBB.out hfn
        subst ha; subst hb
        go_wp2_with fail
        go_ret
        exact ⟨rfl, br⟩
  | true =>
    go_upto_region 12 with fail
    go_wp2_with fail
    go_loopw [12, 13, 14, 15, 16] (fun so fa i al q wr => ∃ (k : Nat) (a b : Bool), k ≤ n ∧ i = .int .i64 (k : Int) ∧ so = .bool a ∧ fa = .bool b ∧ Hid (s < k → a = true) ∧ Hid (f < k → b = true) ∧ Below B w wr) (fun _ _ i _ _ _ => n - (intOf i).toNat)
    case atStart => exact ⟨0, false, false, Nat.zero_le _, rfl, rfl, rfl, Lib.hid (fun h => absurd h (by omega)), Lib.hid (fun h => absurd h (by omega)), b4⟩
    case round =>
      obtain ⟨k, a, b, hk, rfl, rfl, rfl, HAA, HBB, br0⟩ := hrel
      obtain ⟨wz, hwz⟩ : ∃ wz, wr = wz := ⟨_, rfl⟩
      subst hwz
      have br := br0
      clear b4 br0
      by_cases hlt : k < n
      · have dlt : decide (k < n) = true := decide_eq_true hlt
        obtain ⟨bb, o, hA, hbl, hc0⟩ := HSE.out.rd.at_ (by omega)
        have hbB : bb < B := by have := HB.out; omega
        have hcell : ∀ W, Below B w W → ∀ i, i < n → ∀ j u, (El.cells (ge l i))[j]? = some u → W.cell? ⟨bb, o + i * 5 + j, none⟩ = some u := fun W hW i hi j u hu => (hW.cell (p := ⟨bb, o + i * 5 + j, none⟩) hbB).trans (hc0 i hi j u hu)
        have HC := Lib.hid hcell
        subst hA
        clear hc0 hcell hbl
        obtain ⟨x, hx⟩ : ∃ x, ge l k = x := ⟨_, rfl⟩
        have HXE := Lib.hid hx; clear hx
        obtain ⟨rv, hrv⟩ : ∃ v, roomB x mss = v := ⟨_, rfl⟩
        obtain ⟨mv, hmv⟩ : ∃ v, chB x = v := ⟨_, rfl⟩
        have HRV := Lib.hid hrv; have HMV := Lib.hid hmv; clear hrv hmv
        go_upto_region 15 with fail
        cases a with
        | true =>
          cases rv with
          | true =>
            have b5 := br
            go_upto_region 16 with fail
            have hmt : mv = true := by rw [← HMV.out]; exact (chB_iff x).2 ((roomB_iff x mss).1 HRV.out).1
            subst hmt
            have y0 := HC.out _ b5 k hlt 0 (.bool x.up) (by rw [HXE.out]; rfl)
            have y1 := HC.out _ b5 k hlt 1 (.int .i64 x.cwnd) (by rw [HXE.out]; rfl)
            have y2 := HC.out _ b5 k hlt 2 (.int .i64 x.flight) (by rw [HXE.out]; rfl)
            have y3 := HC.out _ b5 k hlt 3 (.int .i64 x.srtt) (by rw [HXE.out]; rfl)
            have y4 := HC.out _ b5 k hlt 4 (.int .i64 x.vr) (by rw [HXE.out]; rfl)
            simp only [Nat.add_zero] at y0
            go_wp2_with fail
            refine (ecmay_any x _).mono ?_
            rw [HMV.out]
            rintro e w6 ⟨rfl, hb6⟩
            have b6 := b5.trans (hb6.mono (by have := b5.size; have := HB.out; omega))
            clear y0 y1 y2 y3 y4
            clear hb6
            have y0 := HC.out _ b6 k hlt 0 (.bool x.up) (by rw [HXE.out]; rfl)
            have y1 := HC.out _ b6 k hlt 1 (.int .i64 x.cwnd) (by rw [HXE.out]; rfl)
            have y2 := HC.out _ b6 k hlt 2 (.int .i64 x.flight) (by rw [HXE.out]; rfl)
            have y3 := HC.out _ b6 k hlt 3 (.int .i64 x.srtt) (by rw [HXE.out]; rfl)
            have y4 := HC.out _ b6 k hlt 4 (.int .i64 x.vr) (by rw [HXE.out]; rfl)
            simp only [Nat.add_zero] at y0
            go_wp2_with fail
            refine (ecroom_any x mss _).mono ?_
            rw [HRV.out]
            rintro e w7 ⟨rfl, hb7⟩
            have b7 := b6.trans (hb7.mono (by have := b6.size; have := HB.out; omega))
            clear y0 y1 y2 y3 y4
            clear hb7
            go_wp2_with fail
            go_roundw
            case rel => exact ⟨k + 1, true, b, by omega, by go_num, rfl, rfl, Lib.hid (fun _ => rfl), Lib.hid (fun h => HBB.out (Decidable.byCases (fun e : f = k => by subst e; have h1 := HWO.out.fr; rw [HXE.out, HRV.out] at h1; cases h1) (fun e : ¬ f = k => by omega))), b7⟩
            case measure => simp [intOf]; omega
          | false =>
            have b5 := br
            go_upto_region 16 with fail
            cases mv with
            | false =>
              have y0 := HC.out _ b5 k hlt 0 (.bool x.up) (by rw [HXE.out]; rfl)
              have y1 := HC.out _ b5 k hlt 1 (.int .i64 x.cwnd) (by rw [HXE.out]; rfl)
              have y2 := HC.out _ b5 k hlt 2 (.int .i64 x.flight) (by rw [HXE.out]; rfl)
              have y3 := HC.out _ b5 k hlt 3 (.int .i64 x.srtt) (by rw [HXE.out]; rfl)
              have y4 := HC.out _ b5 k hlt 4 (.int .i64 x.vr) (by rw [HXE.out]; rfl)
              simp only [Nat.add_zero] at y0
              go_wp2_with fail
              refine (ecmay_any x _).mono ?_
              rw [HMV.out]
              rintro e w6 ⟨rfl, hb6⟩
              have b6 := b5.trans (hb6.mono (by have := b5.size; have := HB.out; omega))
              clear y0 y1 y2 y3 y4
              clear hb6
              go_wp2_with fail
              go_roundw
              case rel => exact ⟨k + 1, true, b, by omega, by go_num, rfl, rfl, Lib.hid (fun _ => rfl), Lib.hid (fun h => HBB.out (Decidable.byCases (fun e : f = k => by subst e; have h1 := HWO.out.fc; rw [HXE.out, HMV.out] at h1; cases h1) (fun e : ¬ f = k => by omega))), b6⟩
              case measure => simp [intOf]; omega
            | true =>
              have y0 := HC.out _ b5 k hlt 0 (.bool x.up) (by rw [HXE.out]; rfl)
              have y1 := HC.out _ b5 k hlt 1 (.int .i64 x.cwnd) (by rw [HXE.out]; rfl)
              have y2 := HC.out _ b5 k hlt 2 (.int .i64 x.flight) (by rw [HXE.out]; rfl)
              have y3 := HC.out _ b5 k hlt 3 (.int .i64 x.srtt) (by rw [HXE.out]; rfl)
              have y4 := HC.out _ b5 k hlt 4 (.int .i64 x.vr) (by rw [HXE.out]; rfl)
              simp only [Nat.add_zero] at y0
              go_wp2_with fail
              refine (ecmay_any x _).mono ?_
              rw [HMV.out]
              rintro e w6 ⟨rfl, hb6⟩
              have b6 := b5.trans (hb6.mono (by have := b5.size; have := HB.out; omega))
              clear y0 y1 y2 y3 y4
              clear hb6
              have y0 := HC.out _ b6 k hlt 0 (.bool x.up) (by rw [HXE.out]; rfl)
              have y1 := HC.out _ b6 k hlt 1 (.int .i64 x.cwnd) (by rw [HXE.out]; rfl)
              have y2 := HC.out _ b6 k hlt 2 (.int .i64 x.flight) (by rw [HXE.out]; rfl)
              have y3 := HC.out _ b6 k hlt 3 (.int .i64 x.srtt) (by rw [HXE.out]; rfl)
              have y4 := HC.out _ b6 k hlt 4 (.int .i64 x.vr) (by rw [HXE.out]; rfl)
              simp only [Nat.add_zero] at y0
              go_wp2_with fail
              refine (ecroom_any x mss _).mono ?_
              rw [HRV.out]
              rintro e w7 ⟨rfl, hb7⟩
              have b7 := b6.trans (hb7.mono (by have := b6.size; have := HB.out; omega))
              clear y0 y1 y2 y3 y4
              clear hb7
              go_upto_region 18 with fail
              go_wp2_with fail
              go_loopw [15, 16] (fun al i wm => ∃ (m : Nat) (v : Bool), m ≤ n ∧ i = .int .i64 (m : Int) ∧ al = .bool v ∧ Hid (k = f → v = true) ∧ Below B w wm) (fun _ i _ => n - (intOf i).toNat)
              case atStart => exact ⟨0, true, Nat.zero_le _, rfl, rfl, Lib.hid (fun _ => rfl), b7⟩
              case round =>
                obtain ⟨m, v, hm, rfl, rfl, HV, bm0⟩ := hrel
                have hwm : ∃ wm, wr = wm := ⟨_, rfl⟩
                obtain ⟨wm, hwm⟩ := hwm
                subst hwm
                have bm := bm0
                clear bm0
                by_cases hmlt : m < n
                · have dmlt : decide (m < n) = true := decide_eq_true hmlt
                  obtain ⟨z, hz⟩ : ∃ x, ge l m = x := ⟨_, rfl⟩
                  have HZE := Lib.hid hz; clear hz
                  obtain ⟨r2, hr2⟩ : ∃ v, roomB z mss = v := ⟨_, rfl⟩
                  have ro := fun W => ecroom_any z mss W
                  rw [hr2] at ro
                  have HR2 := Lib.hid hr2; have RO := Lib.hid ro
                  clear hr2 ro
                  go_upto_region 21 with fail
                  cases v with
                  | false =>
                    have bd : Below B w wr.drew := bm.drew
                    refine wp_region_tail 23 24 (fun (W : World) => Below B w W ∧ W.cell? ⟨bb, o + m * 5, none⟩ = some (.bool z.up) ∧ W.cell? ⟨bb, o + m * 5 + 1, none⟩ = some (.int .i64 z.cwnd) ∧ W.cell? ⟨bb, o + m * 5 + 2, none⟩ = some (.int .i64 z.flight) ∧ W.cell? ⟨bb, o + m * 5 + 3, none⟩ = some (.int .i64 z.srtt) ∧ W.cell? ⟨bb, o + m * 5 + 4, none⟩ = some (.int .i64 z.vr) ∧ W.cell? ⟨bb, o + k * 5 + 3, none⟩ = some (.int .i64 x.srtt)) (by kernel_rfl) (by rfl) (by decide) ?_
                    have HS : ((fun (W : World) => Below B w W ∧ W.cell? ⟨bb, o + m * 5, none⟩ = some (.bool z.up) ∧ W.cell? ⟨bb, o + m * 5 + 1, none⟩ = some (.int .i64 z.cwnd) ∧ W.cell? ⟨bb, o + m * 5 + 2, none⟩ = some (.int .i64 z.flight) ∧ W.cell? ⟨bb, o + m * 5 + 3, none⟩ = some (.int .i64 z.srtt) ∧ W.cell? ⟨bb, o + m * 5 + 4, none⟩ = some (.int .i64 z.vr) ∧ W.cell? ⟨bb, o + k * 5 + 3, none⟩ = some (.int .i64 x.srtt))) _ := ⟨bd, HC.out _ bd m hmlt 0 _ (by rw [HZE.out]; rfl), HC.out _ bd m hmlt 1 _ (by rw [HZE.out]; rfl), HC.out _ bd m hmlt 2 _ (by rw [HZE.out]; rfl), HC.out _ bd m hmlt 3 _ (by rw [HZE.out]; rfl), HC.out _ bd m hmlt 4 _ (by rw [HZE.out]; rfl), HC.out _ bd k hlt 3 _ (by rw [HXE.out]; rfl)⟩
                    refine wpAnyT_take (i := 0) (v := ?vv73) rfl (by kernel_rfl) (fun _ _ _ h => h) (Or.inl ⟨by rfl, fun w hSw => ?yy73⟩) HS ?rr73
                    case yy73 =>
                      (try dsimp only at hSw); go_simp
                      try with_reducible rfl
                    try simp only [Act.put, List.setIfInBounds_toArray, List.set_cons_zero, List.set_cons_succ]
                    refine wpAnyT_take (i := 1) (v := ?vv74) rfl (by kernel_rfl) (fun _ _ _ h => h) (Or.inl ⟨by rfl, fun w hSw => ?yy74⟩) HS ?rr74
                    case yy74 =>
                      (try dsimp only at hSw); go_simp
                      try with_reducible rfl
                    try simp only [Act.put, List.setIfInBounds_toArray, List.set_cons_zero, List.set_cons_succ]
                    refine wpAnyT_take (i := 2) (v := undef) rfl (by kernel_rfl) (fun _ _ _ h => h) (Or.inr ⟨by kernel_rfl, rfl⟩) HS ?_
                    try simp only [Act.put, List.setIfInBounds_toArray, List.set_cons_zero, List.set_cons_succ]
                    refine wpAnyT_take (i := 3) (v := undef) rfl (by kernel_rfl) (fun _ _ _ h => h) (Or.inr ⟨by kernel_rfl, rfl⟩) HS ?_
                    try simp only [Act.put, List.setIfInBounds_toArray, List.set_cons_zero, List.set_cons_succ]
                    refine wpAnyT_take (i := 4) (v := undef) rfl (by kernel_rfl) (fun _ _ _ h => h) (Or.inr ⟨by kernel_rfl, rfl⟩) HS ?_
                    try simp only [Act.put, List.setIfInBounds_toArray, List.set_cons_zero, List.set_cons_succ]
                    refine wpAnyT_take (i := 5) (v := undef) rfl (by kernel_rfl) (fun _ _ _ h => h) (Or.inr ⟨by kernel_rfl, rfl⟩) HS ?_
                    try simp only [Act.put, List.setIfInBounds_toArray, List.set_cons_zero, List.set_cons_succ]
                    refine wpAnyT_take (i := 6) (v := undef) rfl (by kernel_rfl) (fun _ _ _ h => h) (Or.inr ⟨by kernel_rfl, rfl⟩) HS ?_
                    try simp only [Act.put, List.setIfInBounds_toArray, List.set_cons_zero, List.set_cons_succ]
                    refine wpAnyT_take (i := 7) (v := undef) rfl (by kernel_rfl) (fun _ _ _ h => h) (Or.inr ⟨by kernel_rfl, rfl⟩) HS ?_
                    try simp only [Act.put, List.setIfInBounds_toArray, List.set_cons_zero, List.set_cons_succ]
                    refine wpAnyT_take (i := 8) (v := undef) rfl (by kernel_rfl) (fun _ _ _ h => h) (Or.inr ⟨by kernel_rfl, rfl⟩) HS ?_
                    try simp only [Act.put, List.setIfInBounds_toArray, List.set_cons_zero, List.set_cons_succ]
                    refine wpAnyT_take (i := 9) (v := undef) rfl (by kernel_rfl) (fun _ _ _ h => h) (Or.inr ⟨by kernel_rfl, rfl⟩) HS ?_
                    try simp only [Act.put, List.setIfInBounds_toArray, List.set_cons_zero, List.set_cons_succ]
                    refine wpAnyT_take (i := 10) (v := undef) rfl (by kernel_rfl) (fun _ _ _ h => h) (Or.inr ⟨by kernel_rfl, rfl⟩) HS ?_
                    try simp only [Act.put, List.setIfInBounds_toArray, List.set_cons_zero, List.set_cons_succ]
                    refine wpAnyT_take (i := 11) (v := undef) rfl (by kernel_rfl) (fun _ _ _ h => h) (Or.inr ⟨by kernel_rfl, rfl⟩) HS ?_
                    try simp only [Act.put, List.setIfInBounds_toArray, List.set_cons_zero, List.set_cons_succ]
                    refine wpAnyT_take (i := 12) (v := undef) rfl (by kernel_rfl) (fun _ _ _ h => h) (Or.inr ⟨by kernel_rfl, rfl⟩) HS ?_
                    try simp only [Act.put, List.setIfInBounds_toArray, List.set_cons_zero, List.set_cons_succ]
                    refine wpAnyT_take (i := 13) (v := undef) rfl (by kernel_rfl) (fun _ _ _ h => h) (Or.inr ⟨by kernel_rfl, rfl⟩) HS ?_
                    try simp only [Act.put, List.setIfInBounds_toArray, List.set_cons_zero, List.set_cons_succ]
                    refine wpAnyT_take (i := 14) (v := undef) rfl (by kernel_rfl) (fun _ _ _ h => h) (Or.inr ⟨by kernel_rfl, rfl⟩) HS ?_
                    try simp only [Act.put, List.setIfInBounds_toArray, List.set_cons_zero, List.set_cons_succ]
                    refine wpAnyT_take (i := 15) (v := undef) rfl (by kernel_rfl) (fun _ _ _ h => h) (Or.inr ⟨by kernel_rfl, rfl⟩) HS ?_
                    try simp only [Act.put, List.setIfInBounds_toArray, List.set_cons_zero, List.set_cons_succ]
                    refine wpAnyT_take (i := 16) (v := undef) rfl (by kernel_rfl) (fun _ _ _ h => h) (Or.inr ⟨by kernel_rfl, rfl⟩) HS ?_
                    try simp only [Act.put, List.setIfInBounds_toArray, List.set_cons_zero, List.set_cons_succ]
                    refine wpAnyT_take (i := 17) (v := undef) rfl (by kernel_rfl) (fun _ _ _ h => h) (Or.inr ⟨by kernel_rfl, rfl⟩) HS ?_
                    try simp only [Act.put, List.setIfInBounds_toArray, List.set_cons_zero, List.set_cons_succ]
                    refine wpAnyT_take (i := 18) (v := undef) rfl (by kernel_rfl) (fun _ _ _ h => h) (Or.inr ⟨by kernel_rfl, rfl⟩) HS ?_
                    try simp only [Act.put, List.setIfInBounds_toArray, List.set_cons_zero, List.set_cons_succ]
                    refine wpAnyT_take (i := 19) (v := undef) rfl (by kernel_rfl) (fun _ _ _ h => h) (Or.inr ⟨by kernel_rfl, rfl⟩) HS ?_
                    try simp only [Act.put, List.setIfInBounds_toArray, List.set_cons_zero, List.set_cons_succ]
                    refine wpAnyT_take (i := 20) (v := undef) rfl (by kernel_rfl) (fun _ _ _ h => h) (Or.inr ⟨by kernel_rfl, rfl⟩) HS ?_
                    try simp only [Act.put, List.setIfInBounds_toArray, List.set_cons_zero, List.set_cons_succ]
                    refine wpAnyT_take (i := 21) (v := undef) rfl (by kernel_rfl) (fun _ _ _ h => h) (Or.inr ⟨by kernel_rfl, rfl⟩) HS ?_
                    try simp only [Act.put, List.setIfInBounds_toArray, List.set_cons_zero, List.set_cons_succ]
                    refine wpAnyT_take (i := 22) (v := ?vv75) rfl (by kernel_rfl) (fun _ _ _ h => h) (Or.inl ⟨by rfl, fun w hSw => ?yy75⟩) HS ?rr75
                    case yy75 =>
                      (try dsimp only at hSw); go_simp
                      try with_reducible rfl
                    try simp only [Act.put, List.setIfInBounds_toArray, List.set_cons_zero, List.set_cons_succ]
                    refine ⟨by kernel_rfl, ?_⟩
                    simp only [List.drop_succ_cons, List.drop_zero]
                    go_wp2_with fail
                    go_roundw
                    case rel => exact ⟨m + 1, false, by omega, by go_num, rfl, HV, HS.1⟩
                    case measure => simp [intOf]; omega
                  | true =>
                  cases r2 with
                  | false =>
                    have bd : Below B w wr.drew := bm.drew
                    refine wp_region_tail 23 24 (fun (W : World) => Below B w W ∧ W.cell? ⟨bb, o + m * 5, none⟩ = some (.bool z.up) ∧ W.cell? ⟨bb, o + m * 5 + 1, none⟩ = some (.int .i64 z.cwnd) ∧ W.cell? ⟨bb, o + m * 5 + 2, none⟩ = some (.int .i64 z.flight) ∧ W.cell? ⟨bb, o + m * 5 + 3, none⟩ = some (.int .i64 z.srtt) ∧ W.cell? ⟨bb, o + m * 5 + 4, none⟩ = some (.int .i64 z.vr) ∧ W.cell? ⟨bb, o + k * 5 + 3, none⟩ = some (.int .i64 x.srtt)) (by kernel_rfl) (by rfl) (by decide) ?_
                    have HS : ((fun (W : World) => Below B w W ∧ W.cell? ⟨bb, o + m * 5, none⟩ = some (.bool z.up) ∧ W.cell? ⟨bb, o + m * 5 + 1, none⟩ = some (.int .i64 z.cwnd) ∧ W.cell? ⟨bb, o + m * 5 + 2, none⟩ = some (.int .i64 z.flight) ∧ W.cell? ⟨bb, o + m * 5 + 3, none⟩ = some (.int .i64 z.srtt) ∧ W.cell? ⟨bb, o + m * 5 + 4, none⟩ = some (.int .i64 z.vr) ∧ W.cell? ⟨bb, o + k * 5 + 3, none⟩ = some (.int .i64 x.srtt))) _ := ⟨bd, HC.out _ bd m hmlt 0 _ (by rw [HZE.out]; rfl), HC.out _ bd m hmlt 1 _ (by rw [HZE.out]; rfl), HC.out _ bd m hmlt 2 _ (by rw [HZE.out]; rfl), HC.out _ bd m hmlt 3 _ (by rw [HZE.out]; rfl), HC.out _ bd m hmlt 4 _ (by rw [HZE.out]; rfl), HC.out _ bd k hlt 3 _ (by rw [HXE.out]; rfl)⟩
                    refine wpAnyT_take (i := 0) (v := ?vv76) rfl (by kernel_rfl) (fun _ _ _ h => h) (Or.inl ⟨by rfl, fun w hSw => ?yy76⟩) HS ?rr76
                    case yy76 =>
                      (try dsimp only at hSw); go_simp
                      try with_reducible rfl
                    try simp only [Act.put, List.setIfInBounds_toArray, List.set_cons_zero, List.set_cons_succ]
                    refine wpAnyT_take (i := 1) (v := ?vv77) rfl (by kernel_rfl) (fun _ _ _ h => h) (Or.inl ⟨by rfl, fun w hSw => ?yy77⟩) HS ?rr77
                    case yy77 =>
                      (try dsimp only at hSw); go_simp
                      try with_reducible rfl
                    try simp only [Act.put, List.setIfInBounds_toArray, List.set_cons_zero, List.set_cons_succ]
                    refine wpAnyT_take (i := 2) (v := ?vv78) rfl (by kernel_rfl) (fun _ _ _ h => h) (Or.inl ⟨by rfl, fun w hSw => ?yy78⟩) HS ?rr78
                    case yy78 =>
                      (try dsimp only at hSw); go_simp
                      try with_reducible rfl
                    try simp only [Act.put, List.setIfInBounds_toArray, List.set_cons_zero, List.set_cons_succ]
                    refine wpAnyT_take (i := 3) (v := ?vv79) rfl (by kernel_rfl) (fun _ _ _ h => h) (Or.inl ⟨by rfl, fun w hSw => ?yy79⟩) HS ?rr79
                    case yy79 =>
                      (try dsimp only at hSw); go_simp
                      try with_reducible rfl
                    try simp only [Act.put, List.setIfInBounds_toArray, List.set_cons_zero, List.set_cons_succ]
                    refine wpAnyT_take (i := 4) (v := ?vv80) rfl (by kernel_rfl) (fun _ _ _ h => h) (Or.inl ⟨by rfl, fun w hSw => ?yy80⟩) HS ?rr80
                    case yy80 =>
                      (try dsimp only at hSw); go_simp
                      try with_reducible rfl
                    try simp only [Act.put, List.setIfInBounds_toArray, List.set_cons_zero, List.set_cons_succ]
                    refine wpAnyT_take (i := 5) (v := ?vv81) rfl (by kernel_rfl) (fun _ _ _ h => h) (Or.inl ⟨by rfl, fun w hSw => ?yy81⟩) HS ?rr81
                    case yy81 =>
                      (try dsimp only at hSw); go_simp
                      try with_reducible rfl
                    try simp only [Act.put, List.setIfInBounds_toArray, List.set_cons_zero, List.set_cons_succ]
                    refine wpAnyT_take (i := 6) (v := ?vv82) rfl (by kernel_rfl) (fun _ _ _ h => h) (Or.inl ⟨by rfl, fun w hSw => ?yy82⟩) HS ?rr82
                    case yy82 =>
                      (try dsimp only at hSw); go_simp
                      try with_reducible rfl
                    try simp only [Act.put, List.setIfInBounds_toArray, List.set_cons_zero, List.set_cons_succ]
                    refine wpAnyT_one (k := 7) rfl (by kernel_rfl) (by decide) (fun K hK => ?_)
                    go_simp
                    refine ((RO.out _).mono ?_)
                    rintro e wv ⟨rfl, hbv⟩
                    have bv : Below B w wv := HS.1.trans (hbv.mono (by have := HS.1.size; have := HB.out; omega))
                    have HS : ((fun (W : World) => Below B w W ∧ W.cell? ⟨bb, o + m * 5, none⟩ = some (.bool z.up) ∧ W.cell? ⟨bb, o + m * 5 + 1, none⟩ = some (.int .i64 z.cwnd) ∧ W.cell? ⟨bb, o + m * 5 + 2, none⟩ = some (.int .i64 z.flight) ∧ W.cell? ⟨bb, o + m * 5 + 3, none⟩ = some (.int .i64 z.srtt) ∧ W.cell? ⟨bb, o + m * 5 + 4, none⟩ = some (.int .i64 z.vr) ∧ W.cell? ⟨bb, o + k * 5 + 3, none⟩ = some (.int .i64 x.srtt))) _ := ⟨bv, HC.out _ bv m hmlt 0 _ (by rw [HZE.out]; rfl), HC.out _ bv m hmlt 1 _ (by rw [HZE.out]; rfl), HC.out _ bv m hmlt 2 _ (by rw [HZE.out]; rfl), HC.out _ bv m hmlt 3 _ (by rw [HZE.out]; rfl), HC.out _ bv m hmlt 4 _ (by rw [HZE.out]; rfl), HC.out _ bv k hlt 3 _ (by rw [HXE.out]; rfl)⟩
                    refine hK _ _ HS ?_
                    clear hK K
                    try simp only [Act.put, List.setIfInBounds_toArray, List.set_cons_zero, List.set_cons_succ]
                    refine wpAnyT_take (i := 8) (v := ?vv83) rfl (by kernel_rfl) (fun _ _ _ h => h) (Or.inl ⟨by rfl, fun w hSw => ?yy83⟩) HS ?rr83
                    case yy83 =>
                      (try dsimp only at hSw); go_simp
                      try with_reducible rfl
                    try simp only [Act.put, List.setIfInBounds_toArray, List.set_cons_zero, List.set_cons_succ]
                    refine wpAnyT_take (i := 9) (v := ?vv84) rfl (by kernel_rfl) (fun _ _ _ h => h) (Or.inl ⟨by rfl, fun w hSw => ?yy84⟩) HS ?rr84
                    case yy84 =>
                      (try dsimp only at hSw); go_simp
                      try with_reducible rfl
                    try simp only [Act.put, List.setIfInBounds_toArray, List.set_cons_zero, List.set_cons_succ]
                    refine wpAnyT_take (i := 10) (v := undef) rfl (by kernel_rfl) (fun _ _ _ h => h) (Or.inr ⟨by kernel_rfl, rfl⟩) HS ?_
                    try simp only [Act.put, List.setIfInBounds_toArray, List.set_cons_zero, List.set_cons_succ]
                    refine wpAnyT_take (i := 11) (v := undef) rfl (by kernel_rfl) (fun _ _ _ h => h) (Or.inr ⟨by kernel_rfl, rfl⟩) HS ?_
                    try simp only [Act.put, List.setIfInBounds_toArray, List.set_cons_zero, List.set_cons_succ]
                    refine wpAnyT_take (i := 12) (v := undef) rfl (by kernel_rfl) (fun _ _ _ h => h) (Or.inr ⟨by kernel_rfl, rfl⟩) HS ?_
                    try simp only [Act.put, List.setIfInBounds_toArray, List.set_cons_zero, List.set_cons_succ]
                    refine wpAnyT_take (i := 13) (v := undef) rfl (by kernel_rfl) (fun _ _ _ h => h) (Or.inr ⟨by kernel_rfl, rfl⟩) HS ?_
                    try simp only [Act.put, List.setIfInBounds_toArray, List.set_cons_zero, List.set_cons_succ]
                    refine wpAnyT_take (i := 14) (v := undef) rfl (by kernel_rfl) (fun _ _ _ h => h) (Or.inr ⟨by kernel_rfl, rfl⟩) HS ?_
                    try simp only [Act.put, List.setIfInBounds_toArray, List.set_cons_zero, List.set_cons_succ]
                    refine wpAnyT_take (i := 15) (v := undef) rfl (by kernel_rfl) (fun _ _ _ h => h) (Or.inr ⟨by kernel_rfl, rfl⟩) HS ?_
                    try simp only [Act.put, List.setIfInBounds_toArray, List.set_cons_zero, List.set_cons_succ]
                    refine wpAnyT_take (i := 16) (v := undef) rfl (by kernel_rfl) (fun _ _ _ h => h) (Or.inr ⟨by kernel_rfl, rfl⟩) HS ?_
                    try simp only [Act.put, List.setIfInBounds_toArray, List.set_cons_zero, List.set_cons_succ]
                    refine wpAnyT_take (i := 17) (v := undef) rfl (by kernel_rfl) (fun _ _ _ h => h) (Or.inr ⟨by kernel_rfl, rfl⟩) HS ?_
                    try simp only [Act.put, List.setIfInBounds_toArray, List.set_cons_zero, List.set_cons_succ]
                    refine wpAnyT_take (i := 18) (v := undef) rfl (by kernel_rfl) (fun _ _ _ h => h) (Or.inr ⟨by kernel_rfl, rfl⟩) HS ?_
                    try simp only [Act.put, List.setIfInBounds_toArray, List.set_cons_zero, List.set_cons_succ]
                    refine wpAnyT_take (i := 19) (v := undef) rfl (by kernel_rfl) (fun _ _ _ h => h) (Or.inr ⟨by kernel_rfl, rfl⟩) HS ?_
                    try simp only [Act.put, List.setIfInBounds_toArray, List.set_cons_zero, List.set_cons_succ]
                    refine wpAnyT_take (i := 20) (v := undef) rfl (by kernel_rfl) (fun _ _ _ h => h) (Or.inr ⟨by kernel_rfl, rfl⟩) HS ?_
                    try simp only [Act.put, List.setIfInBounds_toArray, List.set_cons_zero, List.set_cons_succ]
                    refine wpAnyT_take (i := 21) (v := ?vv85) rfl (by kernel_rfl) (fun _ _ _ h => h) (Or.inl ⟨by rfl, fun w hSw => ?yy85⟩) HS ?rr85
                    case yy85 =>
                      (try dsimp only at hSw); go_simp
                      try with_reducible rfl
                    try simp only [Act.put, List.setIfInBounds_toArray, List.set_cons_zero, List.set_cons_succ]
                    refine wpAnyT_take (i := 22) (v := ?vv86) rfl (by kernel_rfl) (fun _ _ _ h => h) (Or.inl ⟨by rfl, fun w hSw => ?yy86⟩) HS ?rr86
                    case yy86 =>
                      (try dsimp only at hSw); go_simp
                      try with_reducible rfl
                    try simp only [Act.put, List.setIfInBounds_toArray, List.set_cons_zero, List.set_cons_succ]
                    refine ⟨by kernel_rfl, ?_⟩
                    simp only [List.drop_succ_cons, List.drop_zero]
                    go_wp2_with fail
                    go_roundw
                    case rel => exact ⟨m + 1, true, by omega, by go_num, rfl, Lib.hid (fun _ => rfl), bv⟩
                    case measure => simp [intOf]; omega
                  | true =>
                    have hlf : k = f → decide (x.srtt ≤ z.srtt) = true := fun hkf => by
                      subst hkf
                      have := HWO.out.least m (by rw [HL.out]; exact hmlt) (by rw [HZE.out]; exact HR2.out)
                      rw [HXE.out, HZE.out] at this
                      exact decide_eq_true this
                    obtain ⟨dv, hdv⟩ : ∃ v, decide (x.srtt ≤ z.srtt) = v := ⟨_, rfl⟩
                    rw [hdv] at hlf
                    have HLF := Lib.hid hlf; clear hlf
                    have bd : Below B w wr.drew := bm.drew
                    refine wp_region_tail 23 24 (fun (W : World) => Below B w W ∧ W.cell? ⟨bb, o + m * 5, none⟩ = some (.bool z.up) ∧ W.cell? ⟨bb, o + m * 5 + 1, none⟩ = some (.int .i64 z.cwnd) ∧ W.cell? ⟨bb, o + m * 5 + 2, none⟩ = some (.int .i64 z.flight) ∧ W.cell? ⟨bb, o + m * 5 + 3, none⟩ = some (.int .i64 z.srtt) ∧ W.cell? ⟨bb, o + m * 5 + 4, none⟩ = some (.int .i64 z.vr) ∧ W.cell? ⟨bb, o + k * 5 + 3, none⟩ = some (.int .i64 x.srtt)) (by kernel_rfl) (by rfl) (by decide) ?_
                    have HS : ((fun (W : World) => Below B w W ∧ W.cell? ⟨bb, o + m * 5, none⟩ = some (.bool z.up) ∧ W.cell? ⟨bb, o + m * 5 + 1, none⟩ = some (.int .i64 z.cwnd) ∧ W.cell? ⟨bb, o + m * 5 + 2, none⟩ = some (.int .i64 z.flight) ∧ W.cell? ⟨bb, o + m * 5 + 3, none⟩ = some (.int .i64 z.srtt) ∧ W.cell? ⟨bb, o + m * 5 + 4, none⟩ = some (.int .i64 z.vr) ∧ W.cell? ⟨bb, o + k * 5 + 3, none⟩ = some (.int .i64 x.srtt))) _ := ⟨bd, HC.out _ bd m hmlt 0 _ (by rw [HZE.out]; rfl), HC.out _ bd m hmlt 1 _ (by rw [HZE.out]; rfl), HC.out _ bd m hmlt 2 _ (by rw [HZE.out]; rfl), HC.out _ bd m hmlt 3 _ (by rw [HZE.out]; rfl), HC.out _ bd m hmlt 4 _ (by rw [HZE.out]; rfl), HC.out _ bd k hlt 3 _ (by rw [HXE.out]; rfl)⟩
                    refine wpAnyT_take (i := 0) (v := ?vv87) rfl (by kernel_rfl) (fun _ _ _ h => h) (Or.inl ⟨by rfl, fun w hSw => ?yy87⟩) HS ?rr87
                    case yy87 =>
                      (try dsimp only at hSw); go_simp
                      try with_reducible rfl
                    try simp only [Act.put, List.setIfInBounds_toArray, List.set_cons_zero, List.set_cons_succ]
                    refine wpAnyT_take (i := 1) (v := ?vv88) rfl (by kernel_rfl) (fun _ _ _ h => h) (Or.inl ⟨by rfl, fun w hSw => ?yy88⟩) HS ?rr88
                    case yy88 =>
                      (try dsimp only at hSw); go_simp
                      try with_reducible rfl
                    try simp only [Act.put, List.setIfInBounds_toArray, List.set_cons_zero, List.set_cons_succ]
                    refine wpAnyT_take (i := 2) (v := ?vv89) rfl (by kernel_rfl) (fun _ _ _ h => h) (Or.inl ⟨by rfl, fun w hSw => ?yy89⟩) HS ?rr89
                    case yy89 =>
                      (try dsimp only at hSw); go_simp
                      try with_reducible rfl
                    try simp only [Act.put, List.setIfInBounds_toArray, List.set_cons_zero, List.set_cons_succ]
                    refine wpAnyT_take (i := 3) (v := ?vv90) rfl (by kernel_rfl) (fun _ _ _ h => h) (Or.inl ⟨by rfl, fun w hSw => ?yy90⟩) HS ?rr90
                    case yy90 =>
                      (try dsimp only at hSw); go_simp
                      try with_reducible rfl
                    try simp only [Act.put, List.setIfInBounds_toArray, List.set_cons_zero, List.set_cons_succ]
                    refine wpAnyT_take (i := 4) (v := ?vv91) rfl (by kernel_rfl) (fun _ _ _ h => h) (Or.inl ⟨by rfl, fun w hSw => ?yy91⟩) HS ?rr91
                    case yy91 =>
                      (try dsimp only at hSw); go_simp
                      try with_reducible rfl
                    try simp only [Act.put, List.setIfInBounds_toArray, List.set_cons_zero, List.set_cons_succ]
                    refine wpAnyT_take (i := 5) (v := ?vv92) rfl (by kernel_rfl) (fun _ _ _ h => h) (Or.inl ⟨by rfl, fun w hSw => ?yy92⟩) HS ?rr92
                    case yy92 =>
                      (try dsimp only at hSw); go_simp
                      try with_reducible rfl
                    try simp only [Act.put, List.setIfInBounds_toArray, List.set_cons_zero, List.set_cons_succ]
                    refine wpAnyT_take (i := 6) (v := ?vv93) rfl (by kernel_rfl) (fun _ _ _ h => h) (Or.inl ⟨by rfl, fun w hSw => ?yy93⟩) HS ?rr93
                    case yy93 =>
                      (try dsimp only at hSw); go_simp
                      try with_reducible rfl
                    try simp only [Act.put, List.setIfInBounds_toArray, List.set_cons_zero, List.set_cons_succ]
                    refine wpAnyT_one (k := 7) rfl (by kernel_rfl) (by decide) (fun K hK => ?_)
                    go_simp
                    refine ((RO.out _).mono ?_)
                    rintro e wv ⟨rfl, hbv⟩
                    have bv : Below B w wv := HS.1.trans (hbv.mono (by have := HS.1.size; have := HB.out; omega))
                    have HS : ((fun (W : World) => Below B w W ∧ W.cell? ⟨bb, o + m * 5, none⟩ = some (.bool z.up) ∧ W.cell? ⟨bb, o + m * 5 + 1, none⟩ = some (.int .i64 z.cwnd) ∧ W.cell? ⟨bb, o + m * 5 + 2, none⟩ = some (.int .i64 z.flight) ∧ W.cell? ⟨bb, o + m * 5 + 3, none⟩ = some (.int .i64 z.srtt) ∧ W.cell? ⟨bb, o + m * 5 + 4, none⟩ = some (.int .i64 z.vr) ∧ W.cell? ⟨bb, o + k * 5 + 3, none⟩ = some (.int .i64 x.srtt))) _ := ⟨bv, HC.out _ bv m hmlt 0 _ (by rw [HZE.out]; rfl), HC.out _ bv m hmlt 1 _ (by rw [HZE.out]; rfl), HC.out _ bv m hmlt 2 _ (by rw [HZE.out]; rfl), HC.out _ bv m hmlt 3 _ (by rw [HZE.out]; rfl), HC.out _ bv m hmlt 4 _ (by rw [HZE.out]; rfl), HC.out _ bv k hlt 3 _ (by rw [HXE.out]; rfl)⟩
                    refine hK _ _ HS ?_
                    clear hK K
                    try simp only [Act.put, List.setIfInBounds_toArray, List.set_cons_zero, List.set_cons_succ]
                    refine wpAnyT_take (i := 8) (v := ?vv94) rfl (by kernel_rfl) (fun _ _ _ h => h) (Or.inl ⟨by rfl, fun w hSw => ?yy94⟩) HS ?rr94
                    case yy94 =>
                      (try dsimp only at hSw); go_simp
                      try with_reducible rfl
                    try simp only [Act.put, List.setIfInBounds_toArray, List.set_cons_zero, List.set_cons_succ]
                    refine wpAnyT_take (i := 9) (v := ?vv95) rfl (by kernel_rfl) (fun _ _ _ h => h) (Or.inl ⟨by rfl, fun w hSw => ?yy95⟩) HS ?rr95
                    case yy95 =>
                      (try dsimp only at hSw); go_simp
                      try with_reducible rfl
                    try simp only [Act.put, List.setIfInBounds_toArray, List.set_cons_zero, List.set_cons_succ]
                    refine wpAnyT_take (i := 10) (v := ?vv96) rfl (by kernel_rfl) (fun _ _ _ h => h) (Or.inl ⟨by rfl, fun w hSw => ?yy96⟩) HS ?rr96
                    case yy96 =>
                      (try dsimp only at hSw); go_simp
                      try with_reducible rfl
                    try simp only [Act.put, List.setIfInBounds_toArray, List.set_cons_zero, List.set_cons_succ]
                    refine wpAnyT_take (i := 11) (v := ?vv97) rfl (by kernel_rfl) (fun _ _ _ h => h) (Or.inl ⟨by rfl, fun w hSw => ?yy97⟩) HS ?rr97
                    case yy97 =>
                      (try dsimp only at hSw); go_simp
                      try with_reducible rfl
                    try simp only [Act.put, List.setIfInBounds_toArray, List.set_cons_zero, List.set_cons_succ]
                    refine wpAnyT_take (i := 12) (v := ?vv98) rfl (by kernel_rfl) (fun _ _ _ h => h) (Or.inl ⟨by rfl, fun w hSw => ?yy98⟩) HS ?rr98
                    case yy98 =>
                      (try dsimp only at hSw); go_simp
                      try with_reducible rfl
                    try simp only [Act.put, List.setIfInBounds_toArray, List.set_cons_zero, List.set_cons_succ]
                    refine wpAnyT_take (i := 13) (v := ?vv99) rfl (by kernel_rfl) (fun _ _ _ h => h) (Or.inl ⟨by rfl, fun w hSw => ?yy99⟩) HS ?rr99
                    case yy99 =>
                      (try dsimp only at hSw); go_simp
                      try with_reducible rfl
                    try simp only [Act.put, List.setIfInBounds_toArray, List.set_cons_zero, List.set_cons_succ]
                    refine wpAnyT_take (i := 14) (v := ?vv100) rfl (by kernel_rfl) (fun _ _ _ h => h) (Or.inl ⟨by rfl, fun w hSw => ?yy100⟩) HS ?rr100
                    case yy100 =>
                      (try dsimp only at hSw); go_simp
                      try with_reducible rfl
                    try simp only [Act.put, List.setIfInBounds_toArray, List.set_cons_zero, List.set_cons_succ]
                    refine wpAnyT_take (i := 15) (v := ?vv101) rfl (by kernel_rfl) (fun _ _ _ h => h) (Or.inl ⟨by rfl, fun w hSw => ?yy101⟩) HS ?rr101
                    case yy101 =>
                      (try dsimp only at hSw); go_simp
                      try with_reducible rfl
                    try simp only [Act.put, List.setIfInBounds_toArray, List.set_cons_zero, List.set_cons_succ]
                    refine wpAnyT_take (i := 16) (v := ?vv102) rfl (by kernel_rfl) (fun _ _ _ h => h) (Or.inl ⟨by rfl, fun w hSw => ?yy102⟩) HS ?rr102
                    case yy102 =>
                      (try dsimp only at hSw); go_simp
                      try with_reducible rfl
                    try simp only [Act.put, List.setIfInBounds_toArray, List.set_cons_zero, List.set_cons_succ]
                    refine wpAnyT_take (i := 17) (v := ?vv103) rfl (by kernel_rfl) (fun _ _ _ h => h) (Or.inl ⟨by rfl, fun w hSw => ?yy103⟩) HS ?rr103
                    case yy103 =>
                      (try dsimp only at hSw); go_simp
                      try with_reducible rfl
                    try simp only [Act.put, List.setIfInBounds_toArray, List.set_cons_zero, List.set_cons_succ]
                    refine wpAnyT_take (i := 18) (v := ?vv104) rfl (by kernel_rfl) (fun _ _ _ h => h) (Or.inl ⟨by rfl, fun w hSw => ?yy104⟩) HS ?rr104
                    case yy104 =>
                      (try dsimp only at hSw); go_simp
                      try with_reducible rfl
                    try simp only [Act.put, List.setIfInBounds_toArray, List.set_cons_zero, List.set_cons_succ]
                    refine wpAnyT_take (i := 19) (v := ?vv105) rfl (by kernel_rfl) (fun _ _ _ h => h) (Or.inl ⟨by rfl, fun w hSw => ?yy105⟩) HS ?rr105
                    case yy105 =>
                      (try dsimp only at hSw); go_simp
                      try with_reducible rfl
                    try simp only [Act.put, List.setIfInBounds_toArray, List.set_cons_zero, List.set_cons_succ]
                    refine wpAnyT_take (i := 20) (v := ?vv106) rfl (by kernel_rfl) (fun _ _ _ h => h) (Or.inl ⟨by rfl, fun w hSw => ?yy106⟩) HS ?rr106
                    case yy106 =>
                      (try dsimp only at hSw); go_simp
                      try with_reducible rfl
                    try simp only [Act.put, List.setIfInBounds_toArray, List.set_cons_zero, List.set_cons_succ]
                    refine wpAnyT_take (i := 21) (v := ?vv107) rfl (by kernel_rfl) (fun _ _ _ h => h) (Or.inl ⟨by rfl, fun w hSw => ?yy107⟩) HS ?rr107
                    case yy107 =>
                      (try dsimp only at hSw); go_simp
                      try with_reducible rfl
                    try simp only [Act.put, List.setIfInBounds_toArray, List.set_cons_zero, List.set_cons_succ]
                    refine wpAnyT_take (i := 22) (v := ?vv108) rfl (by kernel_rfl) (fun _ _ _ h => h) (Or.inl ⟨by rfl, fun w hSw => ?yy108⟩) HS ?rr108
                    case yy108 =>
                      (try dsimp only at hSw); go_simp
                      try with_reducible rfl
                    try simp only [Act.put, List.setIfInBounds_toArray, List.set_cons_zero, List.set_cons_succ]
                    refine ⟨by kernel_rfl, ?_⟩
                    simp only [List.drop_succ_cons, List.drop_zero]
                    go_wp2_with fail
                    go_roundw
                    case rel => exact ⟨m + 1, dv, by omega, by go_num, rfl, HLF, bv⟩
                    case measure => simp [intOf]; omega
                · obtain rfl : m = n := by omega
                  have dmlt : decide (m < m) = false := decide_eq_false (by omega)
                  cases b with
                  | true =>
                    go_wp2_with fail
                    go_roundw
                    case rel => exact ⟨k + 1, true, true, by omega, by go_num, rfl, rfl, Lib.hid (fun _ => rfl), Lib.hid (fun _ => rfl), bm⟩
                    case measure => simp [intOf]; omega
                  | false =>
                    have hB2 : f < k + 1 → v = true := fun h => by
                      by_cases e : k = f
                      · exact HV.out e
                      · exact absurd (HBB.out (by omega)) (by simp)
                    have HB2 := Lib.hid hB2; clear hB2
                    go_wp2_with fail
                    go_roundw
                    case rel => exact ⟨k + 1, true, v, by omega, by go_num, rfl, rfl, Lib.hid (fun _ => rfl), HB2, bm⟩
                    case measure => simp [intOf]; omega
        | false =>
          cases rv with
          | true =>
            have y0 := HC.out _ br k hlt 0 (.bool x.up) (by rw [HXE.out]; rfl)
            have y1 := HC.out _ br k hlt 1 (.int .i64 x.cwnd) (by rw [HXE.out]; rfl)
            have y2 := HC.out _ br k hlt 2 (.int .i64 x.flight) (by rw [HXE.out]; rfl)
            have y3 := HC.out _ br k hlt 3 (.int .i64 x.srtt) (by rw [HXE.out]; rfl)
            have y4 := HC.out _ br k hlt 4 (.int .i64 x.vr) (by rw [HXE.out]; rfl)
            simp only [Nat.add_zero] at y0
            go_wp2_with fail
            refine (ecroom_any x mss _).mono ?_
            rw [HRV.out]
            rintro e w5 ⟨rfl, hb5⟩
            have b5 := br.trans (hb5.mono (by have := br.size; have := HB.out; omega))
            clear y0 y1 y2 y3 y4
            clear hb5
            go_upto_region 16 with fail
            have hmt : mv = true := by rw [← HMV.out]; exact (chB_iff x).2 ((roomB_iff x mss).1 HRV.out).1
            subst hmt
            have y0 := HC.out _ b5 k hlt 0 (.bool x.up) (by rw [HXE.out]; rfl)
            have y1 := HC.out _ b5 k hlt 1 (.int .i64 x.cwnd) (by rw [HXE.out]; rfl)
            have y2 := HC.out _ b5 k hlt 2 (.int .i64 x.flight) (by rw [HXE.out]; rfl)
            have y3 := HC.out _ b5 k hlt 3 (.int .i64 x.srtt) (by rw [HXE.out]; rfl)
            have y4 := HC.out _ b5 k hlt 4 (.int .i64 x.vr) (by rw [HXE.out]; rfl)
            simp only [Nat.add_zero] at y0
            go_wp2_with fail
            refine (ecmay_any x _).mono ?_
            rw [HMV.out]
            rintro e w6 ⟨rfl, hb6⟩
            have b6 := b5.trans (hb6.mono (by have := b5.size; have := HB.out; omega))
            clear y0 y1 y2 y3 y4
            clear hb6
            have y0 := HC.out _ b6 k hlt 0 (.bool x.up) (by rw [HXE.out]; rfl)
            have y1 := HC.out _ b6 k hlt 1 (.int .i64 x.cwnd) (by rw [HXE.out]; rfl)
            have y2 := HC.out _ b6 k hlt 2 (.int .i64 x.flight) (by rw [HXE.out]; rfl)
            have y3 := HC.out _ b6 k hlt 3 (.int .i64 x.srtt) (by rw [HXE.out]; rfl)
            have y4 := HC.out _ b6 k hlt 4 (.int .i64 x.vr) (by rw [HXE.out]; rfl)
            simp only [Nat.add_zero] at y0
            go_wp2_with fail
            refine (ecroom_any x mss _).mono ?_
            rw [HRV.out]
            rintro e w7 ⟨rfl, hb7⟩
            have b7 := b6.trans (hb7.mono (by have := b6.size; have := HB.out; omega))
            clear y0 y1 y2 y3 y4
            clear hb7
            go_wp2_with fail
            go_roundw
            case rel => exact ⟨k + 1, true, b, by omega, by go_num, rfl, rfl, Lib.hid (fun _ => rfl), Lib.hid (fun h => HBB.out (Decidable.byCases (fun e : f = k => by subst e; have h1 := HWO.out.fr; rw [HXE.out, HRV.out] at h1; cases h1) (fun e : ¬ f = k => by omega))), b7⟩
            case measure => simp [intOf]; omega
          | false =>
            have y0 := HC.out _ br k hlt 0 (.bool x.up) (by rw [HXE.out]; rfl)
            have y1 := HC.out _ br k hlt 1 (.int .i64 x.cwnd) (by rw [HXE.out]; rfl)
            have y2 := HC.out _ br k hlt 2 (.int .i64 x.flight) (by rw [HXE.out]; rfl)
            have y3 := HC.out _ br k hlt 3 (.int .i64 x.srtt) (by rw [HXE.out]; rfl)
            have y4 := HC.out _ br k hlt 4 (.int .i64 x.vr) (by rw [HXE.out]; rfl)
            simp only [Nat.add_zero] at y0
            go_wp2_with fail
            refine (ecroom_any x mss _).mono ?_
            rw [HRV.out]
            rintro e w5 ⟨rfl, hb5⟩
            have b5 := br.trans (hb5.mono (by have := br.size; have := HB.out; omega))
            clear y0 y1 y2 y3 y4
            clear hb5
            go_upto_region 16 with fail
            cases mv with
            | false =>
              have y0 := HC.out _ b5 k hlt 0 (.bool x.up) (by rw [HXE.out]; rfl)
              have y1 := HC.out _ b5 k hlt 1 (.int .i64 x.cwnd) (by rw [HXE.out]; rfl)
              have y2 := HC.out _ b5 k hlt 2 (.int .i64 x.flight) (by rw [HXE.out]; rfl)
              have y3 := HC.out _ b5 k hlt 3 (.int .i64 x.srtt) (by rw [HXE.out]; rfl)
              have y4 := HC.out _ b5 k hlt 4 (.int .i64 x.vr) (by rw [HXE.out]; rfl)
              simp only [Nat.add_zero] at y0
              go_wp2_with fail
              refine (ecmay_any x _).mono ?_
              rw [HMV.out]
              rintro e w6 ⟨rfl, hb6⟩
              have b6 := b5.trans (hb6.mono (by have := b5.size; have := HB.out; omega))
              clear y0 y1 y2 y3 y4
              clear hb6
              go_wp2_with fail
              go_roundw
              case rel => exact ⟨k + 1, false, b, by omega, by go_num, rfl, rfl, Lib.hid (fun h => Decidable.byCases (fun e : s = k => by subst e; have h1 := HWO.out.sr; rw [HXE.out, HRV.out] at h1; cases h1) (fun e : ¬ s = k => HAA.out (by omega))), Lib.hid (fun h => HBB.out (Decidable.byCases (fun e : f = k => by subst e; have h1 := HWO.out.fc; rw [HXE.out, HMV.out] at h1; cases h1) (fun e : ¬ f = k => by omega))), b6⟩
              case measure => simp [intOf]; omega
            | true =>
              have y0 := HC.out _ b5 k hlt 0 (.bool x.up) (by rw [HXE.out]; rfl)
              have y1 := HC.out _ b5 k hlt 1 (.int .i64 x.cwnd) (by rw [HXE.out]; rfl)
              have y2 := HC.out _ b5 k hlt 2 (.int .i64 x.flight) (by rw [HXE.out]; rfl)
              have y3 := HC.out _ b5 k hlt 3 (.int .i64 x.srtt) (by rw [HXE.out]; rfl)
              have y4 := HC.out _ b5 k hlt 4 (.int .i64 x.vr) (by rw [HXE.out]; rfl)
              simp only [Nat.add_zero] at y0
              go_wp2_with fail
              refine (ecmay_any x _).mono ?_
              rw [HMV.out]
              rintro e w6 ⟨rfl, hb6⟩
              have b6 := b5.trans (hb6.mono (by have := b5.size; have := HB.out; omega))
              clear y0 y1 y2 y3 y4
              clear hb6
              have y0 := HC.out _ b6 k hlt 0 (.bool x.up) (by rw [HXE.out]; rfl)
              have y1 := HC.out _ b6 k hlt 1 (.int .i64 x.cwnd) (by rw [HXE.out]; rfl)
              have y2 := HC.out _ b6 k hlt 2 (.int .i64 x.flight) (by rw [HXE.out]; rfl)
              have y3 := HC.out _ b6 k hlt 3 (.int .i64 x.srtt) (by rw [HXE.out]; rfl)
              have y4 := HC.out _ b6 k hlt 4 (.int .i64 x.vr) (by rw [HXE.out]; rfl)
              simp only [Nat.add_zero] at y0
              go_wp2_with fail
              refine (ecroom_any x mss _).mono ?_
              rw [HRV.out]
              rintro e w7 ⟨rfl, hb7⟩
              have b7 := b6.trans (hb7.mono (by have := b6.size; have := HB.out; omega))
              clear y0 y1 y2 y3 y4
              clear hb7
              go_upto_region 18 with fail
              go_wp2_with fail
              go_loopw [15, 16] (fun al i wm => ∃ (m : Nat) (v : Bool), m ≤ n ∧ i = .int .i64 (m : Int) ∧ al = .bool v ∧ Hid (k = f → v = true) ∧ Below B w wm) (fun _ i _ => n - (intOf i).toNat)
              case atStart => exact ⟨0, true, Nat.zero_le _, rfl, rfl, Lib.hid (fun _ => rfl), b7⟩
              case round =>
                obtain ⟨m, v, hm, rfl, rfl, HV, bm0⟩ := hrel
                have hwm : ∃ wm, wr = wm := ⟨_, rfl⟩
                obtain ⟨wm, hwm⟩ := hwm
                subst hwm
                have bm := bm0
                clear bm0
                by_cases hmlt : m < n
                · have dmlt : decide (m < n) = true := decide_eq_true hmlt
                  obtain ⟨z, hz⟩ : ∃ x, ge l m = x := ⟨_, rfl⟩
                  have HZE := Lib.hid hz; clear hz
                  obtain ⟨r2, hr2⟩ : ∃ v, roomB z mss = v := ⟨_, rfl⟩
                  have ro := fun W => ecroom_any z mss W
                  rw [hr2] at ro
                  have HR2 := Lib.hid hr2; have RO := Lib.hid ro
                  clear hr2 ro
                  go_upto_region 21 with fail
                  cases v with
                  | false =>
                    have bd : Below B w wr.drew := bm.drew
                    refine wp_region_tail 23 24 (fun (W : World) => Below B w W ∧ W.cell? ⟨bb, o + m * 5, none⟩ = some (.bool z.up) ∧ W.cell? ⟨bb, o + m * 5 + 1, none⟩ = some (.int .i64 z.cwnd) ∧ W.cell? ⟨bb, o + m * 5 + 2, none⟩ = some (.int .i64 z.flight) ∧ W.cell? ⟨bb, o + m * 5 + 3, none⟩ = some (.int .i64 z.srtt) ∧ W.cell? ⟨bb, o + m * 5 + 4, none⟩ = some (.int .i64 z.vr) ∧ W.cell? ⟨bb, o + k * 5 + 3, none⟩ = some (.int .i64 x.srtt)) (by kernel_rfl) (by rfl) (by decide) ?_
                    have HS : ((fun (W : World) => Below B w W ∧ W.cell? ⟨bb, o + m * 5, none⟩ = some (.bool z.up) ∧ W.cell? ⟨bb, o + m * 5 + 1, none⟩ = some (.int .i64 z.cwnd) ∧ W.cell? ⟨bb, o + m * 5 + 2, none⟩ = some (.int .i64 z.flight) ∧ W.cell? ⟨bb, o + m * 5 + 3, none⟩ = some (.int .i64 z.srtt) ∧ W.cell? ⟨bb, o + m * 5 + 4, none⟩ = some (.int .i64 z.vr) ∧ W.cell? ⟨bb, o + k * 5 + 3, none⟩ = some (.int .i64 x.srtt))) _ := ⟨bd, HC.out _ bd m hmlt 0 _ (by rw [HZE.out]; rfl), HC.out _ bd m hmlt 1 _ (by rw [HZE.out]; rfl), HC.out _ bd m hmlt 2 _ (by rw [HZE.out]; rfl), HC.out _ bd m hmlt 3 _ (by rw [HZE.out]; rfl), HC.out _ bd m hmlt 4 _ (by rw [HZE.out]; rfl), HC.out _ bd k hlt 3 _ (by rw [HXE.out]; rfl)⟩
                    refine wpAnyT_take (i := 0) (v := ?vv109) rfl (by kernel_rfl) (fun _ _ _ h => h) (Or.inl ⟨by rfl, fun w hSw => ?yy109⟩) HS ?rr109
                    case yy109 =>
                      (try dsimp only at hSw); go_simp
                      try with_reducible rfl
                    try simp only [Act.put, List.setIfInBounds_toArray, List.set_cons_zero, List.set_cons_succ]
                    refine wpAnyT_take (i := 1) (v := ?vv110) rfl (by kernel_rfl) (fun _ _ _ h => h) (Or.inl ⟨by rfl, fun w hSw => ?yy110⟩) HS ?rr110
                    case yy110 =>
                      (try dsimp only at hSw); go_simp
                      try with_reducible rfl
                    try simp only [Act.put, List.setIfInBounds_toArray, List.set_cons_zero, List.set_cons_succ]
                    refine wpAnyT_take (i := 2) (v := undef) rfl (by kernel_rfl) (fun _ _ _ h => h) (Or.inr ⟨by kernel_rfl, rfl⟩) HS ?_
                    try simp only [Act.put, List.setIfInBounds_toArray, List.set_cons_zero, List.set_cons_succ]
                    refine wpAnyT_take (i := 3) (v := undef) rfl (by kernel_rfl) (fun _ _ _ h => h) (Or.inr ⟨by kernel_rfl, rfl⟩) HS ?_
                    try simp only [Act.put, List.setIfInBounds_toArray, List.set_cons_zero, List.set_cons_succ]
                    refine wpAnyT_take (i := 4) (v := undef) rfl (by kernel_rfl) (fun _ _ _ h => h) (Or.inr ⟨by kernel_rfl, rfl⟩) HS ?_
                    try simp only [Act.put, List.setIfInBounds_toArray, List.set_cons_zero, List.set_cons_succ]
                    refine wpAnyT_take (i := 5) (v := undef) rfl (by kernel_rfl) (fun _ _ _ h => h) (Or.inr ⟨by kernel_rfl, rfl⟩) HS ?_
                    try simp only [Act.put, List.setIfInBounds_toArray, List.set_cons_zero, List.set_cons_succ]
                    refine wpAnyT_take (i := 6) (v := undef) rfl (by kernel_rfl) (fun _ _ _ h => h) (Or.inr ⟨by kernel_rfl, rfl⟩) HS ?_
                    try simp only [Act.put, List.setIfInBounds_toArray, List.set_cons_zero, List.set_cons_succ]
                    refine wpAnyT_take (i := 7) (v := undef) rfl (by kernel_rfl) (fun _ _ _ h => h) (Or.inr ⟨by kernel_rfl, rfl⟩) HS ?_
                    try simp only [Act.put, List.setIfInBounds_toArray, List.set_cons_zero, List.set_cons_succ]
                    refine wpAnyT_take (i := 8) (v := undef) rfl (by kernel_rfl) (fun _ _ _ h => h) (Or.inr ⟨by kernel_rfl, rfl⟩) HS ?_
                    try simp only [Act.put, List.setIfInBounds_toArray, List.set_cons_zero, List.set_cons_succ]
                    refine wpAnyT_take (i := 9) (v := undef) rfl (by kernel_rfl) (fun _ _ _ h => h) (Or.inr ⟨by kernel_rfl, rfl⟩) HS ?_
                    try simp only [Act.put, List.setIfInBounds_toArray, List.set_cons_zero, List.set_cons_succ]
                    refine wpAnyT_take (i := 10) (v := undef) rfl (by kernel_rfl) (fun _ _ _ h => h) (Or.inr ⟨by kernel_rfl, rfl⟩) HS ?_
                    try simp only [Act.put, List.setIfInBounds_toArray, List.set_cons_zero, List.set_cons_succ]
                    refine wpAnyT_take (i := 11) (v := undef) rfl (by kernel_rfl) (fun _ _ _ h => h) (Or.inr ⟨by kernel_rfl, rfl⟩) HS ?_
                    try simp only [Act.put, List.setIfInBounds_toArray, List.set_cons_zero, List.set_cons_succ]
                    refine wpAnyT_take (i := 12) (v := undef) rfl (by kernel_rfl) (fun _ _ _ h => h) (Or.inr ⟨by kernel_rfl, rfl⟩) HS ?_
                    try simp only [Act.put, List.setIfInBounds_toArray, List.set_cons_zero, List.set_cons_succ]
                    refine wpAnyT_take (i := 13) (v := undef) rfl (by kernel_rfl) (fun _ _ _ h => h) (Or.inr ⟨by kernel_rfl, rfl⟩) HS ?_
                    try simp only [Act.put, List.setIfInBounds_toArray, List.set_cons_zero, List.set_cons_succ]
                    refine wpAnyT_take (i := 14) (v := undef) rfl (by kernel_rfl) (fun _ _ _ h => h) (Or.inr ⟨by kernel_rfl, rfl⟩) HS ?_
                    try simp only [Act.put, List.setIfInBounds_toArray, List.set_cons_zero, List.set_cons_succ]
                    refine wpAnyT_take (i := 15) (v := undef) rfl (by kernel_rfl) (fun _ _ _ h => h) (Or.inr ⟨by kernel_rfl, rfl⟩) HS ?_
                    try simp only [Act.put, List.setIfInBounds_toArray, List.set_cons_zero, List.set_cons_succ]
                    refine wpAnyT_take (i := 16) (v := undef) rfl (by kernel_rfl) (fun _ _ _ h => h) (Or.inr ⟨by kernel_rfl, rfl⟩) HS ?_
                    try simp only [Act.put, List.setIfInBounds_toArray, List.set_cons_zero, List.set_cons_succ]
                    refine wpAnyT_take (i := 17) (v := undef) rfl (by kernel_rfl) (fun _ _ _ h => h) (Or.inr ⟨by kernel_rfl, rfl⟩) HS ?_
                    try simp only [Act.put, List.setIfInBounds_toArray, List.set_cons_zero, List.set_cons_succ]
                    refine wpAnyT_take (i := 18) (v := undef) rfl (by kernel_rfl) (fun _ _ _ h => h) (Or.inr ⟨by kernel_rfl, rfl⟩) HS ?_
                    try simp only [Act.put, List.setIfInBounds_toArray, List.set_cons_zero, List.set_cons_succ]
                    refine wpAnyT_take (i := 19) (v := undef) rfl (by kernel_rfl) (fun _ _ _ h => h) (Or.inr ⟨by kernel_rfl, rfl⟩) HS ?_
                    try simp only [Act.put, List.setIfInBounds_toArray, List.set_cons_zero, List.set_cons_succ]
                    refine wpAnyT_take (i := 20) (v := undef) rfl (by kernel_rfl) (fun _ _ _ h => h) (Or.inr ⟨by kernel_rfl, rfl⟩) HS ?_
                    try simp only [Act.put, List.setIfInBounds_toArray, List.set_cons_zero, List.set_cons_succ]
                    refine wpAnyT_take (i := 21) (v := undef) rfl (by kernel_rfl) (fun _ _ _ h => h) (Or.inr ⟨by kernel_rfl, rfl⟩) HS ?_
                    try simp only [Act.put, List.setIfInBounds_toArray, List.set_cons_zero, List.set_cons_succ]
                    refine wpAnyT_take (i := 22) (v := ?vv111) rfl (by kernel_rfl) (fun _ _ _ h => h) (Or.inl ⟨by rfl, fun w hSw => ?yy111⟩) HS ?rr111
                    case yy111 =>
                      (try dsimp only at hSw); go_simp
                      try with_reducible rfl
                    try simp only [Act.put, List.setIfInBounds_toArray, List.set_cons_zero, List.set_cons_succ]
                    refine ⟨by kernel_rfl, ?_⟩
                    simp only [List.drop_succ_cons, List.drop_zero]
                    go_wp2_with fail
                    go_roundw
                    case rel => exact ⟨m + 1, false, by omega, by go_num, rfl, HV, HS.1⟩
                    case measure => simp [intOf]; omega
                  | true =>
                  cases r2 with
                  | false =>
                    have bd : Below B w wr.drew := bm.drew
                    refine wp_region_tail 23 24 (fun (W : World) => Below B w W ∧ W.cell? ⟨bb, o + m * 5, none⟩ = some (.bool z.up) ∧ W.cell? ⟨bb, o + m * 5 + 1, none⟩ = some (.int .i64 z.cwnd) ∧ W.cell? ⟨bb, o + m * 5 + 2, none⟩ = some (.int .i64 z.flight) ∧ W.cell? ⟨bb, o + m * 5 + 3, none⟩ = some (.int .i64 z.srtt) ∧ W.cell? ⟨bb, o + m * 5 + 4, none⟩ = some (.int .i64 z.vr) ∧ W.cell? ⟨bb, o + k * 5 + 3, none⟩ = some (.int .i64 x.srtt)) (by kernel_rfl) (by rfl) (by decide) ?_
                    have HS : ((fun (W : World) => Below B w W ∧ W.cell? ⟨bb, o + m * 5, none⟩ = some (.bool z.up) ∧ W.cell? ⟨bb, o + m * 5 + 1, none⟩ = some (.int .i64 z.cwnd) ∧ W.cell? ⟨bb, o + m * 5 + 2, none⟩ = some (.int .i64 z.flight) ∧ W.cell? ⟨bb, o + m * 5 + 3, none⟩ = some (.int .i64 z.srtt) ∧ W.cell? ⟨bb, o + m * 5 + 4, none⟩ = some (.int .i64 z.vr) ∧ W.cell? ⟨bb, o + k * 5 + 3, none⟩ = some (.int .i64 x.srtt))) _ := ⟨bd, HC.out _ bd m hmlt 0 _ (by rw [HZE.out]; rfl), HC.out _ bd m hmlt 1 _ (by rw [HZE.out]; rfl), HC.out _ bd m hmlt 2 _ (by rw [HZE.out]; rfl), HC.out _ bd m hmlt 3 _ (by rw [HZE.out]; rfl), HC.out _ bd m hmlt 4 _ (by rw [HZE.out]; rfl), HC.out _ bd k hlt 3 _ (by rw [HXE.out]; rfl)⟩
                    refine wpAnyT_take (i := 0) (v := ?vv112) rfl (by kernel_rfl) (fun _ _ _ h => h) (Or.inl ⟨by rfl, fun w hSw => ?yy112⟩) HS ?rr112
                    case yy112 =>
                      (try dsimp only at hSw); go_simp
                      try with_reducible rfl
                    try simp only [Act.put, List.setIfInBounds_toArray, List.set_cons_zero, List.set_cons_succ]
                    refine wpAnyT_take (i := 1) (v := ?vv113) rfl (by kernel_rfl) (fun _ _ _ h => h) (Or.inl ⟨by rfl, fun w hSw => ?yy113⟩) HS ?rr113
                    case yy113 =>
                      (try dsimp only at hSw); go_simp
                      try with_reducible rfl
                    try simp only [Act.put, List.setIfInBounds_toArray, List.set_cons_zero, List.set_cons_succ]
                    refine wpAnyT_take (i := 2) (v := ?vv114) rfl (by kernel_rfl) (fun _ _ _ h => h) (Or.inl ⟨by rfl, fun w hSw => ?yy114⟩) HS ?rr114
                    case yy114 =>
                      (try dsimp only at hSw); go_simp
                      try with_reducible rfl
                    try simp only [Act.put, List.setIfInBounds_toArray, List.set_cons_zero, List.set_cons_succ]
                    refine wpAnyT_take (i := 3) (v := ?vv115) rfl (by kernel_rfl) (fun _ _ _ h => h) (Or.inl ⟨by rfl, fun w hSw => ?yy115⟩) HS ?rr115
                    case yy115 =>
                      (try dsimp only at hSw); go_simp
                      try with_reducible rfl
                    try simp only [Act.put, List.setIfInBounds_toArray, List.set_cons_zero, List.set_cons_succ]
                    refine wpAnyT_take (i := 4) (v := ?vv116) rfl (by kernel_rfl) (fun _ _ _ h => h) (Or.inl ⟨by rfl, fun w hSw => ?yy116⟩) HS ?rr116
                    case yy116 =>
                      (try dsimp only at hSw); go_simp
                      try with_reducible rfl
                    try simp only [Act.put, List.setIfInBounds_toArray, List.set_cons_zero, List.set_cons_succ]
                    refine wpAnyT_take (i := 5) (v := ?vv117) rfl (by kernel_rfl) (fun _ _ _ h => h) (Or.inl ⟨by rfl, fun w hSw => ?yy117⟩) HS ?rr117
                    case yy117 =>
                      (try dsimp only at hSw); go_simp
                      try with_reducible rfl
                    try simp only [Act.put, List.setIfInBounds_toArray, List.set_cons_zero, List.set_cons_succ]
                    refine wpAnyT_take (i := 6) (v := ?vv118) rfl (by kernel_rfl) (fun _ _ _ h => h) (Or.inl ⟨by rfl, fun w hSw => ?yy118⟩) HS ?rr118
                    case yy118 =>
                      (try dsimp only at hSw); go_simp
                      try with_reducible rfl
                    try simp only [Act.put, List.setIfInBounds_toArray, List.set_cons_zero, List.set_cons_succ]
                    refine wpAnyT_one (k := 7) rfl (by kernel_rfl) (by decide) (fun K hK => ?_)
                    go_simp
                    refine ((RO.out _).mono ?_)
                    rintro e wv ⟨rfl, hbv⟩
                    have bv : Below B w wv := HS.1.trans (hbv.mono (by have := HS.1.size; have := HB.out; omega))
                    have HS : ((fun (W : World) => Below B w W ∧ W.cell? ⟨bb, o + m * 5, none⟩ = some (.bool z.up) ∧ W.cell? ⟨bb, o + m * 5 + 1, none⟩ = some (.int .i64 z.cwnd) ∧ W.cell? ⟨bb, o + m * 5 + 2, none⟩ = some (.int .i64 z.flight) ∧ W.cell? ⟨bb, o + m * 5 + 3, none⟩ = some (.int .i64 z.srtt) ∧ W.cell? ⟨bb, o + m * 5 + 4, none⟩ = some (.int .i64 z.vr) ∧ W.cell? ⟨bb, o + k * 5 + 3, none⟩ = some (.int .i64 x.srtt))) _ := ⟨bv, HC.out _ bv m hmlt 0 _ (by rw [HZE.out]; rfl), HC.out _ bv m hmlt 1 _ (by rw [HZE.out]; rfl), HC.out _ bv m hmlt 2 _ (by rw [HZE.out]; rfl), HC.out _ bv m hmlt 3 _ (by rw [HZE.out]; rfl), HC.out _ bv m hmlt 4 _ (by rw [HZE.out]; rfl), HC.out _ bv k hlt 3 _ (by rw [HXE.out]; rfl)⟩
                    refine hK _ _ HS ?_
                    clear hK K
                    try simp only [Act.put, List.setIfInBounds_toArray, List.set_cons_zero, List.set_cons_succ]
                    refine wpAnyT_take (i := 8) (v := ?vv119) rfl (by kernel_rfl) (fun _ _ _ h => h) (Or.inl ⟨by rfl, fun w hSw => ?yy119⟩) HS ?rr119
                    case yy119 =>
                      (try dsimp only at hSw); go_simp
                      try with_reducible rfl
                    try simp only [Act.put, List.setIfInBounds_toArray, List.set_cons_zero, List.set_cons_succ]
                    refine wpAnyT_take (i := 9) (v := ?vv120) rfl (by kernel_rfl) (fun _ _ _ h => h) (Or.inl ⟨by rfl, fun w hSw => ?yy120⟩) HS ?rr120
                    case yy120 =>
                      (try dsimp only at hSw); go_simp
                      try with_reducible rfl
                    try simp only [Act.put, List.setIfInBounds_toArray, List.set_cons_zero, List.set_cons_succ]
                    refine wpAnyT_take (i := 10) (v := undef) rfl (by kernel_rfl) (fun _ _ _ h => h) (Or.inr ⟨by kernel_rfl, rfl⟩) HS ?_
                    try simp only [Act.put, List.setIfInBounds_toArray, List.set_cons_zero, List.set_cons_succ]
                    refine wpAnyT_take (i := 11) (v := undef) rfl (by kernel_rfl) (fun _ _ _ h => h) (Or.inr ⟨by kernel_rfl, rfl⟩) HS ?_
                    try simp only [Act.put, List.setIfInBounds_toArray, List.set_cons_zero, List.set_cons_succ]
                    refine wpAnyT_take (i := 12) (v := undef) rfl (by kernel_rfl) (fun _ _ _ h => h) (Or.inr ⟨by kernel_rfl, rfl⟩) HS ?_
                    try simp only [Act.put, List.setIfInBounds_toArray, List.set_cons_zero, List.set_cons_succ]
                    refine wpAnyT_take (i := 13) (v := undef) rfl (by kernel_rfl) (fun _ _ _ h => h) (Or.inr ⟨by kernel_rfl, rfl⟩) HS ?_
                    try simp only [Act.put, List.setIfInBounds_toArray, List.set_cons_zero, List.set_cons_succ]
                    refine wpAnyT_take (i := 14) (v := undef) rfl (by kernel_rfl) (fun _ _ _ h => h) (Or.inr ⟨by kernel_rfl, rfl⟩) HS ?_
                    try simp only [Act.put, List.setIfInBounds_toArray, List.set_cons_zero, List.set_cons_succ]
                    refine wpAnyT_take (i := 15) (v := undef) rfl (by kernel_rfl) (fun _ _ _ h => h) (Or.inr ⟨by kernel_rfl, rfl⟩) HS ?_
                    try simp only [Act.put, List.setIfInBounds_toArray, List.set_cons_zero, List.set_cons_succ]
                    refine wpAnyT_take (i := 16) (v := undef) rfl (by kernel_rfl) (fun _ _ _ h => h) (Or.inr ⟨by kernel_rfl, rfl⟩) HS ?_
                    try simp only [Act.put, List.setIfInBounds_toArray, List.set_cons_zero, List.set_cons_succ]
                    refine wpAnyT_take (i := 17) (v := undef) rfl (by kernel_rfl) (fun _ _ _ h => h) (Or.inr ⟨by kernel_rfl, rfl⟩) HS ?_
                    try simp only [Act.put, List.setIfInBounds_toArray, List.set_cons_zero, List.set_cons_succ]
                    refine wpAnyT_take (i := 18) (v := undef) rfl (by kernel_rfl) (fun _ _ _ h => h) (Or.inr ⟨by kernel_rfl, rfl⟩) HS ?_
                    try simp only [Act.put, List.setIfInBounds_toArray, List.set_cons_zero, List.set_cons_succ]
                    refine wpAnyT_take (i := 19) (v := undef) rfl (by kernel_rfl) (fun _ _ _ h => h) (Or.inr ⟨by kernel_rfl, rfl⟩) HS ?_
                    try simp only [Act.put, List.setIfInBounds_toArray, List.set_cons_zero, List.set_cons_succ]
                    refine wpAnyT_take (i := 20) (v := undef) rfl (by kernel_rfl) (fun _ _ _ h => h) (Or.inr ⟨by kernel_rfl, rfl⟩) HS ?_
                    try simp only [Act.put, List.setIfInBounds_toArray, List.set_cons_zero, List.set_cons_succ]
                    refine wpAnyT_take (i := 21) (v := ?vv121) rfl (by kernel_rfl) (fun _ _ _ h => h) (Or.inl ⟨by rfl, fun w hSw => ?yy121⟩) HS ?rr121
                    case yy121 =>
                      (try dsimp only at hSw); go_simp
                      try with_reducible rfl
                    try simp only [Act.put, List.setIfInBounds_toArray, List.set_cons_zero, List.set_cons_succ]
                    refine wpAnyT_take (i := 22) (v := ?vv122) rfl (by kernel_rfl) (fun _ _ _ h => h) (Or.inl ⟨by rfl, fun w hSw => ?yy122⟩) HS ?rr122
                    case yy122 =>
                      (try dsimp only at hSw); go_simp
                      try with_reducible rfl
                    try simp only [Act.put, List.setIfInBounds_toArray, List.set_cons_zero, List.set_cons_succ]
                    refine ⟨by kernel_rfl, ?_⟩
                    simp only [List.drop_succ_cons, List.drop_zero]
                    go_wp2_with fail
                    go_roundw
                    case rel => exact ⟨m + 1, true, by omega, by go_num, rfl, Lib.hid (fun _ => rfl), bv⟩
                    case measure => simp [intOf]; omega
                  | true =>
                    have hlf : k = f → decide (x.srtt ≤ z.srtt) = true := fun hkf => by
                      subst hkf
                      have := HWO.out.least m (by rw [HL.out]; exact hmlt) (by rw [HZE.out]; exact HR2.out)
                      rw [HXE.out, HZE.out] at this
                      exact decide_eq_true this
                    obtain ⟨dv, hdv⟩ : ∃ v, decide (x.srtt ≤ z.srtt) = v := ⟨_, rfl⟩
                    rw [hdv] at hlf
                    have HLF := Lib.hid hlf; clear hlf
                    have bd : Below B w wr.drew := bm.drew
                    refine wp_region_tail 23 24 (fun (W : World) => Below B w W ∧ W.cell? ⟨bb, o + m * 5, none⟩ = some (.bool z.up) ∧ W.cell? ⟨bb, o + m * 5 + 1, none⟩ = some (.int .i64 z.cwnd) ∧ W.cell? ⟨bb, o + m * 5 + 2, none⟩ = some (.int .i64 z.flight) ∧ W.cell? ⟨bb, o + m * 5 + 3, none⟩ = some (.int .i64 z.srtt) ∧ W.cell? ⟨bb, o + m * 5 + 4, none⟩ = some (.int .i64 z.vr) ∧ W.cell? ⟨bb, o + k * 5 + 3, none⟩ = some (.int .i64 x.srtt)) (by kernel_rfl) (by rfl) (by decide) ?_
                    have HS : ((fun (W : World) => Below B w W ∧ W.cell? ⟨bb, o + m * 5, none⟩ = some (.bool z.up) ∧ W.cell? ⟨bb, o + m * 5 + 1, none⟩ = some (.int .i64 z.cwnd) ∧ W.cell? ⟨bb, o + m * 5 + 2, none⟩ = some (.int .i64 z.flight) ∧ W.cell? ⟨bb, o + m * 5 + 3, none⟩ = some (.int .i64 z.srtt) ∧ W.cell? ⟨bb, o + m * 5 + 4, none⟩ = some (.int .i64 z.vr) ∧ W.cell? ⟨bb, o + k * 5 + 3, none⟩ = some (.int .i64 x.srtt))) _ := ⟨bd, HC.out _ bd m hmlt 0 _ (by rw [HZE.out]; rfl), HC.out _ bd m hmlt 1 _ (by rw [HZE.out]; rfl), HC.out _ bd m hmlt 2 _ (by rw [HZE.out]; rfl), HC.out _ bd m hmlt 3 _ (by rw [HZE.out]; rfl), HC.out _ bd m hmlt 4 _ (by rw [HZE.out]; rfl), HC.out _ bd k hlt 3 _ (by rw [HXE.out]; rfl)⟩
                    refine wpAnyT_take (i := 0) (v := ?vv123) rfl (by kernel_rfl) (fun _ _ _ h => h) (Or.inl ⟨by rfl, fun w hSw => ?yy123⟩) HS ?rr123
                    case yy123 =>
                      (try dsimp only at hSw); go_simp
                      try with_reducible rfl
                    try simp only [Act.put, List.setIfInBounds_toArray, List.set_cons_zero, List.set_cons_succ]
                    refine wpAnyT_take (i := 1) (v := ?vv124) rfl (by kernel_rfl) (fun _ _ _ h => h) (Or.inl ⟨by rfl, fun w hSw => ?yy124⟩) HS ?rr124
                    case yy124 =>
                      (try dsimp only at hSw); go_simp
                      try with_reducible rfl
                    try simp only [Act.put, List.setIfInBounds_toArray, List.set_cons_zero, List.set_cons_succ]
                    refine wpAnyT_take (i := 2) (v := ?vv125) rfl (by kernel_rfl) (fun _ _ _ h => h) (Or.inl ⟨by rfl, fun w hSw => ?yy125⟩) HS ?rr125
                    case yy125 =>
                      (try dsimp only at hSw); go_simp
                      try with_reducible rfl
                    try simp only [Act.put, List.setIfInBounds_toArray, List.set_cons_zero, List.set_cons_succ]
                    refine wpAnyT_take (i := 3) (v := ?vv126) rfl (by kernel_rfl) (fun _ _ _ h => h) (Or.inl ⟨by rfl, fun w hSw => ?yy126⟩) HS ?rr126
                    case yy126 =>
                      (try dsimp only at hSw); go_simp
                      try with_reducible rfl
                    try simp only [Act.put, List.setIfInBounds_toArray, List.set_cons_zero, List.set_cons_succ]
                    refine wpAnyT_take (i := 4) (v := ?vv127) rfl (by kernel_rfl) (fun _ _ _ h => h) (Or.inl ⟨by rfl, fun w hSw => ?yy127⟩) HS ?rr127
                    case yy127 =>
                      (try dsimp only at hSw); go_simp
                      try with_reducible rfl
                    try simp only [Act.put, List.setIfInBounds_toArray, List.set_cons_zero, List.set_cons_succ]
                    refine wpAnyT_take (i := 5) (v := ?vv128) rfl (by kernel_rfl) (fun _ _ _ h => h) (Or.inl ⟨by rfl, fun w hSw => ?yy128⟩) HS ?rr128
                    case yy128 =>
                      (try dsimp only at hSw); go_simp
                      try with_reducible rfl
                    try simp only [Act.put, List.setIfInBounds_toArray, List.set_cons_zero, List.set_cons_succ]
                    refine wpAnyT_take (i := 6) (v := ?vv129) rfl (by kernel_rfl) (fun _ _ _ h => h) (Or.inl ⟨by rfl, fun w hSw => ?yy129⟩) HS ?rr129
                    case yy129 =>
                      (try dsimp only at hSw); go_simp
                      try with_reducible rfl
                    try simp only [Act.put, List.setIfInBounds_toArray, List.set_cons_zero, List.set_cons_succ]
                    refine wpAnyT_one (k := 7) rfl (by kernel_rfl) (by decide) (fun K hK => ?_)
                    go_simp
                    refine ((RO.out _).mono ?_)
                    rintro e wv ⟨rfl, hbv⟩
                    have bv : Below B w wv := HS.1.trans (hbv.mono (by have := HS.1.size; have := HB.out; omega))
                    have HS : ((fun (W : World) => Below B w W ∧ W.cell? ⟨bb, o + m * 5, none⟩ = some (.bool z.up) ∧ W.cell? ⟨bb, o + m * 5 + 1, none⟩ = some (.int .i64 z.cwnd) ∧ W.cell? ⟨bb, o + m * 5 + 2, none⟩ = some (.int .i64 z.flight) ∧ W.cell? ⟨bb, o + m * 5 + 3, none⟩ = some (.int .i64 z.srtt) ∧ W.cell? ⟨bb, o + m * 5 + 4, none⟩ = some (.int .i64 z.vr) ∧ W.cell? ⟨bb, o + k * 5 + 3, none⟩ = some (.int .i64 x.srtt))) _ := ⟨bv, HC.out _ bv m hmlt 0 _ (by rw [HZE.out]; rfl), HC.out _ bv m hmlt 1 _ (by rw [HZE.out]; rfl), HC.out _ bv m hmlt 2 _ (by rw [HZE.out]; rfl), HC.out _ bv m hmlt 3 _ (by rw [HZE.out]; rfl), HC.out _ bv m hmlt 4 _ (by rw [HZE.out]; rfl), HC.out _ bv k hlt 3 _ (by rw [HXE.out]; rfl)⟩
                    refine hK _ _ HS ?_
                    clear hK K
                    try simp only [Act.put, List.setIfInBounds_toArray, List.set_cons_zero, List.set_cons_succ]
                    refine wpAnyT_take (i := 8) (v := ?vv130) rfl (by kernel_rfl) (fun _ _ _ h => h) (Or.inl ⟨by rfl, fun w hSw => ?yy130⟩) HS ?rr130
                    case yy130 =>
                      (try dsimp only at hSw); go_simp
                      try with_reducible rfl
                    try simp only [Act.put, List.setIfInBounds_toArray, List.set_cons_zero, List.set_cons_succ]
                    refine wpAnyT_take (i := 9) (v := ?vv131) rfl (by kernel_rfl) (fun _ _ _ h => h) (Or.inl ⟨by rfl, fun w hSw => ?yy131⟩) HS ?rr131
                    case yy131 =>
                      (try dsimp only at hSw); go_simp
                      try with_reducible rfl
                    try simp only [Act.put, List.setIfInBounds_toArray, List.set_cons_zero, List.set_cons_succ]
                    refine wpAnyT_take (i := 10) (v := ?vv132) rfl (by kernel_rfl) (fun _ _ _ h => h) (Or.inl ⟨by rfl, fun w hSw => ?yy132⟩) HS ?rr132
                    case yy132 =>
                      (try dsimp only at hSw); go_simp
                      try with_reducible rfl
                    try simp only [Act.put, List.setIfInBounds_toArray, List.set_cons_zero, List.set_cons_succ]
                    refine wpAnyT_take (i := 11) (v := ?vv133) rfl (by kernel_rfl) (fun _ _ _ h => h) (Or.inl ⟨by rfl, fun w hSw => ?yy133⟩) HS ?rr133
                    case yy133 =>
                      (try dsimp only at hSw); go_simp
                      try with_reducible rfl
                    try simp only [Act.put, List.setIfInBounds_toArray, List.set_cons_zero, List.set_cons_succ]
                    refine wpAnyT_take (i := 12) (v := ?vv134) rfl (by kernel_rfl) (fun _ _ _ h => h) (Or.inl ⟨by rfl, fun w hSw => ?yy134⟩) HS ?rr134
                    case yy134 =>
                      (try dsimp only at hSw); go_simp
                      try with_reducible rfl
                    try simp only [Act.put, List.setIfInBounds_toArray, List.set_cons_zero, List.set_cons_succ]
                    refine wpAnyT_take (i := 13) (v := ?vv135) rfl (by kernel_rfl) (fun _ _ _ h => h) (Or.inl ⟨by rfl, fun w hSw => ?yy135⟩) HS ?rr135
                    case yy135 =>
                      (try dsimp only at hSw); go_simp
                      try with_reducible rfl
                    try simp only [Act.put, List.setIfInBounds_toArray, List.set_cons_zero, List.set_cons_succ]
                    refine wpAnyT_take (i := 14) (v := ?vv136) rfl (by kernel_rfl) (fun _ _ _ h => h) (Or.inl ⟨by rfl, fun w hSw => ?yy136⟩) HS ?rr136
                    case yy136 =>
                      (try dsimp only at hSw); go_simp
                      try with_reducible rfl
                    try simp only [Act.put, List.setIfInBounds_toArray, List.set_cons_zero, List.set_cons_succ]
                    refine wpAnyT_take (i := 15) (v := ?vv137) rfl (by kernel_rfl) (fun _ _ _ h => h) (Or.inl ⟨by rfl, fun w hSw => ?yy137⟩) HS ?rr137
                    case yy137 =>
                      (try dsimp only at hSw); go_simp
                      try with_reducible rfl
                    try simp only [Act.put, List.setIfInBounds_toArray, List.set_cons_zero, List.set_cons_succ]
                    refine wpAnyT_take (i := 16) (v := ?vv138) rfl (by kernel_rfl) (fun _ _ _ h => h) (Or.inl ⟨by rfl, fun w hSw => ?yy138⟩) HS ?rr138
                    case yy138 =>
                      (try dsimp only at hSw); go_simp
                      try with_reducible rfl
                    try simp only [Act.put, List.setIfInBounds_toArray, List.set_cons_zero, List.set_cons_succ]
                    refine wpAnyT_take (i := 17) (v := ?vv139) rfl (by kernel_rfl) (fun _ _ _ h => h) (Or.inl ⟨by rfl, fun w hSw => ?yy139⟩) HS ?rr139
                    case yy139 =>
                      (try dsimp only at hSw); go_simp
                      try with_reducible rfl
                    try simp only [Act.put, List.setIfInBounds_toArray, List.set_cons_zero, List.set_cons_succ]
                    refine wpAnyT_take (i := 18) (v := ?vv140) rfl (by kernel_rfl) (fun _ _ _ h => h) (Or.inl ⟨by rfl, fun w hSw => ?yy140⟩) HS ?rr140
                    case yy140 =>
                      (try dsimp only at hSw); go_simp
                      try with_reducible rfl
                    try simp only [Act.put, List.setIfInBounds_toArray, List.set_cons_zero, List.set_cons_succ]
                    refine wpAnyT_take (i := 19) (v := ?vv141) rfl (by kernel_rfl) (fun _ _ _ h => h) (Or.inl ⟨by rfl, fun w hSw => ?yy141⟩) HS ?rr141
                    case yy141 =>
                      (try dsimp only at hSw); go_simp
                      try with_reducible rfl
                    try simp only [Act.put, List.setIfInBounds_toArray, List.set_cons_zero, List.set_cons_succ]
                    refine wpAnyT_take (i := 20) (v := ?vv142) rfl (by kernel_rfl) (fun _ _ _ h => h) (Or.inl ⟨by rfl, fun w hSw => ?yy142⟩) HS ?rr142
                    case yy142 =>
                      (try dsimp only at hSw); go_simp
                      try with_reducible rfl
                    try simp only [Act.put, List.setIfInBounds_toArray, List.set_cons_zero, List.set_cons_succ]
                    refine wpAnyT_take (i := 21) (v := ?vv143) rfl (by kernel_rfl) (fun _ _ _ h => h) (Or.inl ⟨by rfl, fun w hSw => ?yy143⟩) HS ?rr143
                    case yy143 =>
                      (try dsimp only at hSw); go_simp
                      try with_reducible rfl
                    try simp only [Act.put, List.setIfInBounds_toArray, List.set_cons_zero, List.set_cons_succ]
                    refine wpAnyT_take (i := 22) (v := ?vv144) rfl (by kernel_rfl) (fun _ _ _ h => h) (Or.inl ⟨by rfl, fun w hSw => ?yy144⟩) HS ?rr144
                    case yy144 =>
                      (try dsimp only at hSw); go_simp
                      try with_reducible rfl
                    try simp only [Act.put, List.setIfInBounds_toArray, List.set_cons_zero, List.set_cons_succ]
                    refine ⟨by kernel_rfl, ?_⟩
                    simp only [List.drop_succ_cons, List.drop_zero]
                    go_wp2_with fail
                    go_roundw
                    case rel => exact ⟨m + 1, dv, by omega, by go_num, rfl, HLF, bv⟩
                    case measure => simp [intOf]; omega
                · obtain rfl : m = n := by omega
                  have dmlt : decide (m < m) = false := decide_eq_false (by omega)
                  cases b with
                  | true =>
                    go_wp2_with fail
                    go_roundw
                    case rel => exact ⟨k + 1, false, true, by omega, by go_num, rfl, rfl, Lib.hid (fun h => Decidable.byCases (fun e : s = k => by subst e; have h1 := HWO.out.sr; rw [HXE.out, HRV.out] at h1; cases h1) (fun e : ¬ s = k => HAA.out (by omega))), Lib.hid (fun _ => rfl), bm⟩
                    case measure => simp [intOf]; omega
                  | false =>
                    have hB2 : f < k + 1 → v = true := fun h => by
                      by_cases e : k = f
                      · exact HV.out e
                      · exact absurd (HBB.out (by omega)) (by simp)
                    have HB2 := Lib.hid hB2; clear hB2
                    go_wp2_with fail
                    go_roundw
                    case rel => exact ⟨k + 1, false, v, by omega, by go_num, rfl, rfl, Lib.hid (fun h => Decidable.byCases (fun e : s = k => by subst e; have h1 := HWO.out.sr; rw [HXE.out, HRV.out] at h1; cases h1) (fun e : ¬ s = k => HAA.out (by omega))), HB2, bm⟩
                    case measure => simp [intOf]; omega
      · obtain rfl : k = n := by omega
        have dlt : decide (k < k) = false := decide_eq_false (by omega)
        have ha := HAA.out hsn; have hb := HBB.out hfn
        subst ha; subst hb
        go_wp2_with fail
        go_ret
        exact ⟨rfl, br⟩
end Go.Proofs.Ytmclffbjdkoneaa.ecfWaits
