/- EcfTells: the walk. -/
import Derived.Test.YtmclffbjdkoneaaEcAwake
import Derived.Test.YtmclffbjdkoneaaTail2
import Derived.Deep.QuietTactic
import Derived.BigQuiet
import Derived.IntWalk
import Derived.Deep.AppendLies
import Derived.OrdersHeld
import Derived.Deep.DeepCutAuto
namespace Go.Proofs.Ytmclffbjdkoneaa.ecfTells
open Go.RowKit
set_option linter.unusedVariables false
set_option linter.unusedSimpArgs false

set_option maxRecDepth 100000 in
set_option maxHeartbeats 16000000 in
theorem walk (A : Option Addr) (n c : Nat) (l : List Chv) (bytes mss : Int) (waits : Bool) (w : World) (hs : Se w A n c l) :
    Calls Try.prog 3 #[.slice A n c, .int .i64 bytes, .int .i64 mss, .bool waits] w fun e w' => e = .returned (.bool true) ∧ Below w.heap.size w w' := by
  obtain ⟨B, hB⟩ : ∃ B, w.heap.size = B := ⟨_, rfl⟩
  rw [hB]
  have HB := Lib.hid hB
  have m1 := hs.le; have m2 := hs.max
  have m3 : n ≤ 9223372036854775807 := by unfold maxLen at m2; omega
  have HSE := Lib.hid hs
  clear hs hB m1 m2
  go_enter Try.func3, Try.ntmps3
  go_wp2_with fail
  refine (ecawake_any _).mono ?_
  rintro e w2 ⟨rfl, b2⟩
  rw [HB.out] at b2
  by_cases c0 : 20 < n
  case pos =>
    have d0 : decide ((20 : Int) < (n : Int)) = true := decide_eq_true (by omega)
    have d0' : decide (20 < n) = true := decide_eq_true c0
    go_wp2_with fail
    go_ret
    exact ⟨rfl, b2⟩
  have d0 : decide ((20 : Int) < (n : Int)) = false := decide_eq_false (by omega)
  have d0' : decide (20 < n) = false := decide_eq_false c0
  have s2 : Se w2 A n c l := HSE.out.keep (by rw [HB.out]; exact b2)
  have z2 : B ≤ w2.heap.size := by have := b2.size; rw [HB.out] at this; exact this
  obtain ⟨⟨pa, px⟩, hp⟩ : ∃ p, pickR l bytes mss waits = p := ⟨_, rfl⟩
  have HP := Lib.hid hp; clear hp
  go_wp2_with fail
  refine (ecpick_any A n c l bytes mss waits _ s2).mono ?_
  rw [HP.out]
  rintro e w3 ⟨rfl, hb3⟩
  have b3 := b2.trans (hb3.mono z2); have z3 := Nat.le_trans z2 hb3.size
  have s3 := s2.keep hb3
  go_upto_region 5 with fail
  go_wp2_with fail
  refine (repick_any A n c l bytes mss waits _ s3).mono ?_
  rw [HP.out]
  rintro e w4 ⟨rfl, hb4⟩
  have b4 := b3.trans (hb4.mono z3)
  clear s2 s3 hb3 hb4 z2 z3 b2 b3 d0 d0' c0
  go_wp2_with fail
  go_loopw [14] (fun i wr => ∃ k : Nat, k ≤ n ∧ i = .int .i64 (k : Int) ∧ Below B w wr) (fun i _ => n - (intOf i).toNat)
  case atStart => exact ⟨0, Nat.zero_le _, rfl, b4⟩
  case round =>
    obtain ⟨k, hk, rfl, br⟩ := hrel
    clear b4
    by_cases hlt : k < n
    · have dlt : decide (k < n) = true := decide_eq_true hlt
      obtain ⟨bb, o, hA, hbl, hc0⟩ := HSE.out.rd.at_ (by omega)
      have hbB : bb < B := by have := HB.out; omega
      have hcell : ∀ W, Below B w W → ∀ i, i < n → ∀ j u, (El.cells (ge l i))[j]? = some u → W.cell? ⟨bb, o + i * 5 + j, none⟩ = some u := fun W hW i hi j u hu => (hW.cell (p := ⟨bb, o + i * 5 + j, none⟩) hbB).trans (hc0 i hi j u hu)
      have HC := Lib.hid hcell
      subst hA
      clear hc0 hcell hbl
      obtain ⟨x, hx⟩ : ∃ x, ge l k = x := ⟨_, rfl⟩
      have HXE := Lib.hid hx; clear hx
      have m1 := fun W => ecmay_any x W
      have m2 := fun W => remay_any x W
      have r1 := fun W => ecroom_any x mss W
      have r2 := fun W => reroom_any x mss W
      obtain ⟨mv, hmv⟩ : ∃ v, chB x = v := ⟨_, rfl⟩
      obtain ⟨rv, hrv⟩ : ∃ v, roomB x mss = v := ⟨_, rfl⟩
      rw [hmv] at m1 m2
      rw [hrv] at r1 r2
      have sm : (mv != mv) = false := by simp
      have sr : (rv != rv) = false := by simp
      clear hmv hrv
      go_upto_region 9 with fail
      have br1 : Below B w wr.drew := br.drew
      refine wp_region_tail 25 26 (fun (W : World) => Below B w W ∧ W.cell? ⟨bb, o + k * 5, none⟩ = some (.bool x.up) ∧ W.cell? ⟨bb, o + k * 5 + 1, none⟩ = some (.int .i64 x.cwnd) ∧ W.cell? ⟨bb, o + k * 5 + 2, none⟩ = some (.int .i64 x.flight) ∧ W.cell? ⟨bb, o + k * 5 + 3, none⟩ = some (.int .i64 x.srtt) ∧ W.cell? ⟨bb, o + k * 5 + 4, none⟩ = some (.int .i64 x.vr)) (by kernel_rfl) (by rfl) (by decide) ?_
      have HS : ((fun (W : World) => Below B w W ∧ W.cell? ⟨bb, o + k * 5, none⟩ = some (.bool x.up) ∧ W.cell? ⟨bb, o + k * 5 + 1, none⟩ = some (.int .i64 x.cwnd) ∧ W.cell? ⟨bb, o + k * 5 + 2, none⟩ = some (.int .i64 x.flight) ∧ W.cell? ⟨bb, o + k * 5 + 3, none⟩ = some (.int .i64 x.srtt) ∧ W.cell? ⟨bb, o + k * 5 + 4, none⟩ = some (.int .i64 x.vr))) _ := ⟨br1, HC.out _ br1 k hlt 0 _ (by rw [HXE.out]; rfl), HC.out _ br1 k hlt 1 _ (by rw [HXE.out]; rfl), HC.out _ br1 k hlt 2 _ (by rw [HXE.out]; rfl), HC.out _ br1 k hlt 3 _ (by rw [HXE.out]; rfl), HC.out _ br1 k hlt 4 _ (by rw [HXE.out]; rfl)⟩
      refine wpAnyT_take (i := 0) (v := ?vv1) rfl (by kernel_rfl) (fun _ _ _ h => h) (Or.inl ⟨by rfl, fun w hSw => ?yy1⟩) HS ?rr1
      case yy1 =>
        (try dsimp only at hSw); go_simp
        try with_reducible rfl
      try simp only [Act.put, List.setIfInBounds_toArray, List.set_cons_zero, List.set_cons_succ]
      refine wpAnyT_take (i := 1) (v := ?vv2) rfl (by kernel_rfl) (fun _ _ _ h => h) (Or.inl ⟨by rfl, fun w hSw => ?yy2⟩) HS ?rr2
      case yy2 =>
        (try dsimp only at hSw); go_simp
        try with_reducible rfl
      try simp only [Act.put, List.setIfInBounds_toArray, List.set_cons_zero, List.set_cons_succ]
      refine wpAnyT_take (i := 2) (v := ?vv3) rfl (by kernel_rfl) (fun _ _ _ h => h) (Or.inl ⟨by rfl, fun w hSw => ?yy3⟩) HS ?rr3
      case yy3 =>
        (try dsimp only at hSw); go_simp
        try with_reducible rfl
      try simp only [Act.put, List.setIfInBounds_toArray, List.set_cons_zero, List.set_cons_succ]
      refine wpAnyT_take (i := 3) (v := ?vv4) rfl (by kernel_rfl) (fun _ _ _ h => h) (Or.inl ⟨by rfl, fun w hSw => ?yy4⟩) HS ?rr4
      case yy4 =>
        (try dsimp only at hSw); go_simp
        try with_reducible rfl
      try simp only [Act.put, List.setIfInBounds_toArray, List.set_cons_zero, List.set_cons_succ]
      refine wpAnyT_take (i := 5) (v := ?vv5) rfl (by kernel_rfl) (fun _ _ _ h => h) (Or.inl ⟨by rfl, fun w hSw => ?yy5⟩) HS ?rr5
      case yy5 =>
        (try dsimp only at hSw); go_simp
        try with_reducible rfl
      try simp only [Act.put, List.setIfInBounds_toArray, List.set_cons_zero, List.set_cons_succ]
      refine wpAnyT_take (i := 6) (v := ?vv6) rfl (by kernel_rfl) (fun _ _ _ h => h) (Or.inl ⟨by rfl, fun w hSw => ?yy6⟩) HS ?rr6
      case yy6 =>
        (try dsimp only at hSw); go_simp
        try with_reducible rfl
      try simp only [Act.put, List.setIfInBounds_toArray, List.set_cons_zero, List.set_cons_succ]
      refine wpAnyT_take (i := 7) (v := ?vv7) rfl (by kernel_rfl) (fun _ _ _ h => h) (Or.inl ⟨by rfl, fun w hSw => ?yy7⟩) HS ?rr7
      case yy7 =>
        (try dsimp only at hSw); go_simp
        try with_reducible rfl
      try simp only [Act.put, List.setIfInBounds_toArray, List.set_cons_zero, List.set_cons_succ]
      refine wpAnyT_take (i := 8) (v := ?vv8) rfl (by kernel_rfl) (fun _ _ _ h => h) (Or.inl ⟨by rfl, fun w hSw => ?yy8⟩) HS ?rr8
      case yy8 =>
        (try dsimp only at hSw); go_simp
        try with_reducible rfl
      try simp only [Act.put, List.setIfInBounds_toArray, List.set_cons_zero, List.set_cons_succ]
      refine wpAnyT_one (k := 4) rfl (by kernel_rfl) (by decide) (fun K hK => ?_)
      go_simp
      refine ((m1 _).mono ?_)
      rintro e wva ⟨rfl, hbva⟩
      have bva : Below B w wva := HS.1.trans (hbva.mono (by have := HS.1.size; have := HB.out; omega))
      have HS : ((fun (W : World) => Below B w W ∧ W.cell? ⟨bb, o + k * 5, none⟩ = some (.bool x.up) ∧ W.cell? ⟨bb, o + k * 5 + 1, none⟩ = some (.int .i64 x.cwnd) ∧ W.cell? ⟨bb, o + k * 5 + 2, none⟩ = some (.int .i64 x.flight) ∧ W.cell? ⟨bb, o + k * 5 + 3, none⟩ = some (.int .i64 x.srtt) ∧ W.cell? ⟨bb, o + k * 5 + 4, none⟩ = some (.int .i64 x.vr))) _ := ⟨bva, HC.out _ bva k hlt 0 _ (by rw [HXE.out]; rfl), HC.out _ bva k hlt 1 _ (by rw [HXE.out]; rfl), HC.out _ bva k hlt 2 _ (by rw [HXE.out]; rfl), HC.out _ bva k hlt 3 _ (by rw [HXE.out]; rfl), HC.out _ bva k hlt 4 _ (by rw [HXE.out]; rfl)⟩
      refine hK _ _ HS ?_
      clear hK K
      try simp only [Act.put, List.setIfInBounds_toArray, List.set_cons_zero, List.set_cons_succ]
      refine wpAnyT_one (k := 9) rfl (by kernel_rfl) (by decide) (fun K hK => ?_)
      go_simp
      refine ((m2 _).mono ?_)
      rintro e wvb ⟨rfl, hbvb⟩
      have bvb : Below B w wvb := HS.1.trans (hbvb.mono (by have := HS.1.size; have := HB.out; omega))
      have HS : ((fun (W : World) => Below B w W ∧ W.cell? ⟨bb, o + k * 5, none⟩ = some (.bool x.up) ∧ W.cell? ⟨bb, o + k * 5 + 1, none⟩ = some (.int .i64 x.cwnd) ∧ W.cell? ⟨bb, o + k * 5 + 2, none⟩ = some (.int .i64 x.flight) ∧ W.cell? ⟨bb, o + k * 5 + 3, none⟩ = some (.int .i64 x.srtt) ∧ W.cell? ⟨bb, o + k * 5 + 4, none⟩ = some (.int .i64 x.vr))) _ := ⟨bvb, HC.out _ bvb k hlt 0 _ (by rw [HXE.out]; rfl), HC.out _ bvb k hlt 1 _ (by rw [HXE.out]; rfl), HC.out _ bvb k hlt 2 _ (by rw [HXE.out]; rfl), HC.out _ bvb k hlt 3 _ (by rw [HXE.out]; rfl), HC.out _ bvb k hlt 4 _ (by rw [HXE.out]; rfl)⟩
      refine hK _ _ HS ?_
      clear hK K
      try simp only [Act.put, List.setIfInBounds_toArray, List.set_cons_zero, List.set_cons_succ]
      refine wpAnyT_take (i := 10) (v := ?vv9) rfl (by kernel_rfl) (fun _ _ _ h => h) (Or.inl ⟨by rfl, fun w hSw => ?yy9⟩) HS ?rr9
      case yy9 =>
        (try dsimp only at hSw); go_simp
        try with_reducible rfl
      try simp only [Act.put, List.setIfInBounds_toArray, List.set_cons_zero, List.set_cons_succ]
      refine wpAnyT_take (i := 11) (v := ?vv10) rfl (by kernel_rfl) (fun _ _ _ h => h) (Or.inl ⟨by rfl, fun w hSw => ?yy10⟩) HS ?rr10
      case yy10 =>
        (try dsimp only at hSw); go_simp
        try with_reducible rfl
      try simp only [Act.put, List.setIfInBounds_toArray, List.set_cons_zero, List.set_cons_succ]
      refine wpAnyT_take (i := 12) (v := ?vv11) rfl (by kernel_rfl) (fun _ _ _ h => h) (Or.inl ⟨by rfl, fun w hSw => ?yy11⟩) HS ?rr11
      case yy11 =>
        (try dsimp only at hSw); go_simp
        try with_reducible rfl
      try simp only [Act.put, List.setIfInBounds_toArray, List.set_cons_zero, List.set_cons_succ]
      refine wpAnyT_take (i := 13) (v := ?vv12) rfl (by kernel_rfl) (fun _ _ _ h => h) (Or.inl ⟨by rfl, fun w hSw => ?yy12⟩) HS ?rr12
      case yy12 =>
        (try dsimp only at hSw); go_simp
        try with_reducible rfl
      try simp only [Act.put, List.setIfInBounds_toArray, List.set_cons_zero, List.set_cons_succ]
      refine wpAnyT_take (i := 14) (v := ?vv13) rfl (by kernel_rfl) (fun _ _ _ h => h) (Or.inl ⟨by rfl, fun w hSw => ?yy13⟩) HS ?rr13
      case yy13 =>
        (try dsimp only at hSw); go_simp
        try with_reducible rfl
      try simp only [Act.put, List.setIfInBounds_toArray, List.set_cons_zero, List.set_cons_succ]
      refine wpAnyT_take (i := 15) (v := ?vv14) rfl (by kernel_rfl) (fun _ _ _ h => h) (Or.inl ⟨by rfl, fun w hSw => ?yy14⟩) HS ?rr14
      case yy14 =>
        (try dsimp only at hSw); go_simp
        try with_reducible rfl
      try simp only [Act.put, List.setIfInBounds_toArray, List.set_cons_zero, List.set_cons_succ]
      refine wpAnyT_take (i := 16) (v := ?vv15) rfl (by kernel_rfl) (fun _ _ _ h => h) (Or.inl ⟨by rfl, fun w hSw => ?yy15⟩) HS ?rr15
      case yy15 =>
        (try dsimp only at hSw); go_simp
        try with_reducible rfl
      try simp only [Act.put, List.setIfInBounds_toArray, List.set_cons_zero, List.set_cons_succ]
      refine wpAnyT_take (i := 18) (v := ?vv16) rfl (by kernel_rfl) (fun _ _ _ h => h) (Or.inl ⟨by rfl, fun w hSw => ?yy16⟩) HS ?rr16
      case yy16 =>
        (try dsimp only at hSw); go_simp
        try with_reducible rfl
      try simp only [Act.put, List.setIfInBounds_toArray, List.set_cons_zero, List.set_cons_succ]
      refine wpAnyT_take (i := 19) (v := ?vv17) rfl (by kernel_rfl) (fun _ _ _ h => h) (Or.inl ⟨by rfl, fun w hSw => ?yy17⟩) HS ?rr17
      case yy17 =>
        (try dsimp only at hSw); go_simp
        try with_reducible rfl
      try simp only [Act.put, List.setIfInBounds_toArray, List.set_cons_zero, List.set_cons_succ]
      refine wpAnyT_take (i := 20) (v := ?vv18) rfl (by kernel_rfl) (fun _ _ _ h => h) (Or.inl ⟨by rfl, fun w hSw => ?yy18⟩) HS ?rr18
      case yy18 =>
        (try dsimp only at hSw); go_simp
        try with_reducible rfl
      try simp only [Act.put, List.setIfInBounds_toArray, List.set_cons_zero, List.set_cons_succ]
      refine wpAnyT_take (i := 21) (v := ?vv19) rfl (by kernel_rfl) (fun _ _ _ h => h) (Or.inl ⟨by rfl, fun w hSw => ?yy19⟩) HS ?rr19
      case yy19 =>
        (try dsimp only at hSw); go_simp
        try with_reducible rfl
      try simp only [Act.put, List.setIfInBounds_toArray, List.set_cons_zero, List.set_cons_succ]
      refine wpAnyT_take (i := 22) (v := ?vv20) rfl (by kernel_rfl) (fun _ _ _ h => h) (Or.inl ⟨by rfl, fun w hSw => ?yy20⟩) HS ?rr20
      case yy20 =>
        (try dsimp only at hSw); go_simp
        try with_reducible rfl
      try simp only [Act.put, List.setIfInBounds_toArray, List.set_cons_zero, List.set_cons_succ]
      refine wpAnyT_one (k := 17) rfl (by kernel_rfl) (by decide) (fun K hK => ?_)
      go_simp
      refine ((r1 _).mono ?_)
      rintro e wvc ⟨rfl, hbvc⟩
      have bvc : Below B w wvc := HS.1.trans (hbvc.mono (by have := HS.1.size; have := HB.out; omega))
      have HS : ((fun (W : World) => Below B w W ∧ W.cell? ⟨bb, o + k * 5, none⟩ = some (.bool x.up) ∧ W.cell? ⟨bb, o + k * 5 + 1, none⟩ = some (.int .i64 x.cwnd) ∧ W.cell? ⟨bb, o + k * 5 + 2, none⟩ = some (.int .i64 x.flight) ∧ W.cell? ⟨bb, o + k * 5 + 3, none⟩ = some (.int .i64 x.srtt) ∧ W.cell? ⟨bb, o + k * 5 + 4, none⟩ = some (.int .i64 x.vr))) _ := ⟨bvc, HC.out _ bvc k hlt 0 _ (by rw [HXE.out]; rfl), HC.out _ bvc k hlt 1 _ (by rw [HXE.out]; rfl), HC.out _ bvc k hlt 2 _ (by rw [HXE.out]; rfl), HC.out _ bvc k hlt 3 _ (by rw [HXE.out]; rfl), HC.out _ bvc k hlt 4 _ (by rw [HXE.out]; rfl)⟩
      refine hK _ _ HS ?_
      clear hK K
      try simp only [Act.put, List.setIfInBounds_toArray, List.set_cons_zero, List.set_cons_succ]
      refine wpAnyT_one (k := 23) rfl (by kernel_rfl) (by decide) (fun K hK => ?_)
      go_simp
      refine ((r2 _).mono ?_)
      rintro e wvd ⟨rfl, hbvd⟩
      have bvd : Below B w wvd := HS.1.trans (hbvd.mono (by have := HS.1.size; have := HB.out; omega))
      have HS : ((fun (W : World) => Below B w W ∧ W.cell? ⟨bb, o + k * 5, none⟩ = some (.bool x.up) ∧ W.cell? ⟨bb, o + k * 5 + 1, none⟩ = some (.int .i64 x.cwnd) ∧ W.cell? ⟨bb, o + k * 5 + 2, none⟩ = some (.int .i64 x.flight) ∧ W.cell? ⟨bb, o + k * 5 + 3, none⟩ = some (.int .i64 x.srtt) ∧ W.cell? ⟨bb, o + k * 5 + 4, none⟩ = some (.int .i64 x.vr))) _ := ⟨bvd, HC.out _ bvd k hlt 0 _ (by rw [HXE.out]; rfl), HC.out _ bvd k hlt 1 _ (by rw [HXE.out]; rfl), HC.out _ bvd k hlt 2 _ (by rw [HXE.out]; rfl), HC.out _ bvd k hlt 3 _ (by rw [HXE.out]; rfl), HC.out _ bvd k hlt 4 _ (by rw [HXE.out]; rfl)⟩
      refine hK _ _ HS ?_
      clear hK K
      try simp only [Act.put, List.setIfInBounds_toArray, List.set_cons_zero, List.set_cons_succ]
      refine wpAnyT_take (i := 24) (v := ?vv21) rfl (by kernel_rfl) (fun _ _ _ h => h) (Or.inl ⟨by rfl, fun w hSw => ?yy21⟩) HS ?rr21
      case yy21 =>
        (try dsimp only at hSw); go_simp
        try with_reducible rfl
      try simp only [Act.put, List.setIfInBounds_toArray, List.set_cons_zero, List.set_cons_succ]
      refine ⟨by kernel_rfl, ?_⟩
      simp only [List.drop_succ_cons, List.drop_zero]
      go_wp2_with fail
      go_roundw
      case rel => exact ⟨k + 1, by omega, by go_num, bvd⟩
      case measure => simp [intOf]; omega
    · obtain rfl : k = n := by omega
      have dlt : decide (k < k) = false := decide_eq_false (by omega)
      have e1 : (pa == pa) = true := by simp
      have e2 : (px == px) = true := by simp
      go_wp2_with fail
      go_ret
      exact ⟨rfl, br⟩
end Go.Proofs.Ytmclffbjdkoneaa.ecfTells
