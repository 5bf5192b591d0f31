/- Package group as it landed: deviations as contracts of the calls. -/
import Derived.Test.YtbaaglgoodckmaaGrZ
import Derived.Test.YtbaaglgoodckmaaGrL1
import Derived.Test.YtbaaglgoodckmaaTail
import Derived.WalkKit
import Derived.WalkLawsBesides
import Derived.WalkSpells
import Derived.WalkSmall
import Derived.Lib.Hide
import Derived.Below
import Derived.Outline
import Derived.OrdersHeld
import Derived.Deep.QuietTactic
import Derived.BigQuiet
import Derived.IntWalk
import Derived.Deep.DeepCutAuto
import Derived.Deep.AppendLies
namespace Go.Proofs.Ytbaaglgoodckmaa
open Go.RowKit
set_option linter.unusedVariables false
set_option linter.unusedSimpArgs false

set_option maxRecDepth 100000 in
set_option maxHeartbeats 8000000 in
theorem gdev_any (A : Option Addr) (ca : Nat) (a : List Int) (A2 : Option Addr) (cb : Nat) (b : List Int) (n : Nat) (w : World) (hs : Si w A n ca a) (ht : Si w A2 n cb b) (ha : In18 a) (hb : In18 b) (h16 : n ≤ 16) :
    Calls Try.prog 20 #[.slice A n ca, .slice A2 n cb] w fun e w' => ∃ g, e = .returned (.slice (some ⟨g, 0, none⟩) n n) ∧ Zr w' w.heap.size g n (fun j => dv a n j) (fun j => dv b n j) ∧ Below w.heap.size w w' := by
  obtain ⟨B, hB⟩ : ∃ B, w.heap.size = B := ⟨_, rfl⟩
  rw [hB]
  have HB := Lib.hid hB
  have HS := Lib.hid hs; have HT := Lib.hid ht; have HA := Lib.hid ha; have HBB := Lib.hid hb
  obtain ⟨i0, hi, hz0, hz1, hz2⟩ := info_parts info_cx
  clear hs ht ha hb hB
  have hBs : B ≤ w.heap.size := by have := HB.out; omega
  go_enter Try.func20, Try.ntmps20
  have hst : ∀ (a : Addr) (x y : Nat) (m : Mode) (w : World), (store a (.complex .f64 x y) m).run Try.prog w = stored Try.prog w a (.complex .f64 x y) m := fun a x y m w => run_store Try.prog w a _ m rfl
  go_wp2_with (at_make; refine wpList_make_full _ rfl _ _ 37 rfl B 39 i0 (.complex .f64 0 0) 1 Try.underlying37 hi hz0 hz1 _ _ _ _ n rfl rfl rfl rfl (by rw [hz2]; omega) (by unfold maxLen; omega) hBs ?_; intro w1 hown1 hgrow1)
  have b1 : Below B w w1 := (Below.refl _ _).grown hgrow1 hBs (fun k hk => by cases hk)
  obtain ⟨g, hg⟩ : ∃ g, w.heap.size = g := ⟨_, rfl⟩
  rw [hg] at hown1 ⊢
  have z0 := Zr.zeros hown1 rfl
  clear hown1 hgrow1 hg
  have Z0 := Lib.hid z0; clear z0
  go_loopw [6, 15] (fun s i wr => ∃ k x y : Nat, k ≤ n ∧ i = .int .i64 (k : Int) ∧ s = .complex .f64 x y ∧ Hid (Fl x (psum a k)) ∧ Hid (Fl y (psum b k)) ∧ Hid (Zr wr B g n (z1 a k) (z1 b k)) ∧ Below B w wr) (fun _ i _ => n - (intOf i).toNat)
  case atStart => exact ⟨0, 0, 0, Nat.zero_le _, rfl, rfl, fl_zero, fl_zero, Z0.out.at_ (fun i _ => if_neg (by omega)) (fun i _ => if_neg (by omega)), b1⟩
  case round =>
    obtain ⟨k, x, y, hk, rfl, rfl, hx, hy, hz, br⟩ := hrel
    clear Z0
    by_cases hlt : k < n
    · have dlt : decide (k < n) = true := decide_eq_true hlt
      obtain ⟨bb, oa, hA1, hbl, hc⟩ := (HS.out.keep (by rw [HB.out]; exact br)).rd.at_ (by omega)
      subst hA1
      have c1 := hc k hlt
      obtain ⟨bc, ob, hA2, hbl2, hc2⟩ := (HT.out.keep (by rw [HB.out]; exact br)).rd.at_ (by omega)
      subst hA2
      have c2 := hc2 k hlt
      have r1 := HA.out k; have r2 := HBB.out k
      obtain ⟨p, hp⟩ : ∃ p, it a k = p := ⟨_, rfl⟩
      obtain ⟨q, hq⟩ : ∃ q, it b k = q := ⟨_, rfl⟩
      rw [hp] at c1 r1; rw [hq] at c2 r2
      have HP := Lib.hid hp; have HQ := Lib.hid hq
      clear hc hc2 hp hq
      have fp := fl_int (n := p) (by omega); have fq := fl_int (n := q) (by omega)
      have s1 := psum_bd HA.out k; have s2 := psum_bd HBB.out k
      obtain ⟨x', y', hxy, gx, gy⟩ := fl_cadd hx.out hy.out fp fq (by omega) (by omega)
      have hsum : ∀ w, (binOp .add 39 (.complex .f64 x y) (.complex .f64 (floatOfInt .f64 p) (floatOfInt .f64 q))).run Try.prog w = .ok (.complex .f64 x' y') w := fun w => run_complex_sum w .add (.inl rfl) 39 .f64 x y _ _ x' y' hxy
      have FP := Lib.hid fp; have FQ := Lib.hid fq
      have GX : Hid (Fl x' (psum a (k + 1))) := Lib.hid (by show Fl x' (psum a k + it a k); rw [HP.out]; exact gx)
      have GY : Hid (Fl y' (psum b (k + 1))) := Lib.hid (by show Fl y' (psum b k + it b k); rw [HQ.out]; exact gy)
      clear fp fq s1 s2 hxy gx gy hx hy r1 r2
      have hzr : B ≤ wr.heap.size := by have := br.size; have := HB.out; omega
      obtain ⟨u, v, cz, _, _⟩ := hz.out.cell hlt
      have KS : ∀ (W W' : World), (fun (W : World) => Below wr.heap.size wr W ∧ (W.cell? ⟨bb, oa + k, none⟩ = some (.int .i64 p) ∧ W.cell? ⟨bc, ob + k, none⟩ = some (.int .i64 q))) W → Below W.heap.size W W' → (fun (W : World) => Below wr.heap.size wr W ∧ (W.cell? ⟨bb, oa + k, none⟩ = some (.int .i64 p) ∧ W.cell? ⟨bc, ob + k, none⟩ = some (.int .i64 q))) W' := by
        intro W W' h hb
        exact ⟨h.1.trans (hb.mono h.1.size), (hb.cell (p := ⟨bb, oa + k, none⟩) (Nat.lt_of_lt_of_le hbl h.1.size)).trans h.2.1, (hb.cell (p := ⟨bc, ob + k, none⟩) (Nat.lt_of_lt_of_le hbl2 h.1.size)).trans h.2.2⟩
      have dd := (Below.refl wr.heap.size wr).drew
      go_upto_region 6 with fail
      refine wp_region_tail 13 15 (fun (W : World) => Below wr.heap.size wr W ∧ (W.cell? ⟨bb, oa + k, none⟩ = some (.int .i64 p) ∧ W.cell? ⟨bc, ob + k, none⟩ = some (.int .i64 q))) (by kernel_rfl) (by rfl) (by decide) ?_
      have HS : ((fun (W : World) => Below wr.heap.size wr W ∧ (W.cell? ⟨bb, oa + k, none⟩ = some (.int .i64 p) ∧ W.cell? ⟨bc, ob + k, none⟩ = some (.int .i64 q)))) _ := ⟨dd, c1, c2⟩
      refine wpAnyT_take (i := 0) (v := ?vv1) rfl (by kernel_rfl) (fun _ _ _ h => h) (Or.inl ⟨by rfl, fun w hSw => ?yy1⟩) HS ?rr1
      case yy1 =>
        (try dsimp only at hSw); go_simp
        try with_reducible rfl
      try simp only [Act.put, List.setIfInBounds_toArray, List.set_cons_zero, List.set_cons_succ]
      refine wpAnyT_take (i := 1) (v := ?vv2) rfl (by kernel_rfl) (fun _ _ _ h => h) (Or.inl ⟨by rfl, fun w hSw => ?yy2⟩) HS ?rr2
      case yy2 =>
        (try dsimp only at hSw); go_simp
        try with_reducible rfl
      try simp only [Act.put, List.setIfInBounds_toArray, List.set_cons_zero, List.set_cons_succ]
      refine wpAnyT_take (i := 2) (v := ?vv3) rfl (by kernel_rfl) (fun _ _ _ h => h) (Or.inl ⟨by rfl, fun w hSw => ?yy3⟩) HS ?rr3
      case yy3 =>
        (try dsimp only at hSw); go_simp
        try with_reducible rfl
      try simp only [Act.put, List.setIfInBounds_toArray, List.set_cons_zero, List.set_cons_succ]
      refine wpAnyT_take (i := 3) (v := ?vv4) rfl (by kernel_rfl) (fun _ _ _ h => h) (Or.inl ⟨by rfl, fun w hSw => ?yy4⟩) HS ?rr4
      case yy4 =>
        (try dsimp only at hSw); go_simp
        try with_reducible rfl
      try simp only [Act.put, List.setIfInBounds_toArray, List.set_cons_zero, List.set_cons_succ]
      refine wpAnyT_take (i := 4) (v := ?vv5) rfl (by kernel_rfl) (fun _ _ _ h => h) (Or.inl ⟨by rfl, fun w hSw => ?yy5⟩) HS ?rr5
      case yy5 =>
        (try dsimp only at hSw); go_simp
        try with_reducible rfl
      try simp only [Act.put, List.setIfInBounds_toArray, List.set_cons_zero, List.set_cons_succ]
      refine wpAnyT_take (i := 5) (v := ?vv6) rfl (by kernel_rfl) (fun _ _ _ h => h) (Or.inl ⟨by rfl, fun w hSw => ?yy6⟩) HS ?rr6
      case yy6 =>
        (try dsimp only at hSw); go_simp
        try with_reducible rfl
      try simp only [Act.put, List.setIfInBounds_toArray, List.set_cons_zero, List.set_cons_succ]
      refine wpAnyT_take (i := 6) (v := ?vv7) rfl (by kernel_rfl) (fun _ _ _ h => h) (Or.inl ⟨by rfl, fun w hSw => ?yy7⟩) HS ?rr7
      case yy7 =>
        (try dsimp only at hSw); go_simp
        try with_reducible rfl
      try simp only [Act.put, List.setIfInBounds_toArray, List.set_cons_zero, List.set_cons_succ]
      refine wpAnyT_take (i := 7) (v := ?vv8) rfl (by kernel_rfl) (fun _ _ _ h => h) (Or.inl ⟨by rfl, fun w hSw => ?yy8⟩) HS ?rr8
      case yy8 =>
        (try dsimp only at hSw); go_simp
        try with_reducible rfl
      try simp only [Act.put, List.setIfInBounds_toArray, List.set_cons_zero, List.set_cons_succ]
      refine wpAnyT_take (i := 8) (v := ?vv9) rfl (by kernel_rfl) (fun _ _ _ h => h) (Or.inl ⟨by rfl, fun w hSw => ?yy9⟩) HS ?rr9
      case yy9 =>
        (try dsimp only at hSw); go_simp
        try with_reducible rfl
      try simp only [Act.put, List.setIfInBounds_toArray, List.set_cons_zero, List.set_cons_succ]
      refine wpAnyT_take (i := 9) (v := ?vv10) rfl (by kernel_rfl) (fun _ _ _ h => h) (Or.inl ⟨by rfl, fun w hSw => ?yy10⟩) HS ?rr10
      case yy10 =>
        (try dsimp only at hSw); go_simp
        try with_reducible rfl
      try simp only [Act.put, List.setIfInBounds_toArray, List.set_cons_zero, List.set_cons_succ]
      refine wpAnyT_take (i := 10) (v := ?vv11) rfl (by kernel_rfl) (fun _ _ _ h => h) (Or.inl ⟨by rfl, fun w hSw => ?yy11⟩) HS ?rr11
      case yy11 =>
        (try dsimp only at hSw); go_simp
        try with_reducible rfl
      try simp only [Act.put, List.setIfInBounds_toArray, List.set_cons_zero, List.set_cons_succ]
      refine wpAnyT_take (i := 11) (v := ?vv12) rfl (by kernel_rfl) (fun _ _ _ h => h) (Or.inl ⟨by rfl, fun w hSw => ?yy12⟩) HS ?rr12
      case yy12 =>
        (try dsimp only at hSw); go_simp
        try with_reducible rfl
      try simp only [Act.put, List.setIfInBounds_toArray, List.set_cons_zero, List.set_cons_succ]
      refine wpAnyT_take (i := 12) (v := ?vv13) rfl (by kernel_rfl) (fun _ _ _ h => h) (Or.inl ⟨by rfl, fun w hSw => ?yy13⟩) HS ?rr13
      case yy13 =>
        (try dsimp only at hSw); go_simp
        try with_reducible rfl
      try simp only [Act.put, List.setIfInBounds_toArray, List.set_cons_zero, List.set_cons_succ]
      refine ⟨by kernel_rfl, ?_⟩
      simp only [List.drop_succ_cons, List.drop_zero]
      have hsq := HS
      clear HS KS
      generalize wr.drew = wq at hsq ⊢
      have hzq := hz.out.below hsq.1
      have bq : Below B w wq := br.trans (hsq.1.mono hzr)
      obtain ⟨u2, v2, c3, _, _⟩ := hzq.cell hlt
      have c4 := hzq.thaw k
      have hz3 := hzq.set (f' := z1 a (k + 1)) (h' := z1 b (k + 1)) hlt FP.out FQ.out (fun i _ => by rw [z1_succ, HP.out]) (fun i _ => by rw [z1_succ, HQ.out])
      have b3 := bq.setCell (p := ⟨g, k, none⟩) hzq.lt.1 (.complex .f64 (floatOfInt .f64 p) (floatOfInt .f64 q))
      have HZ3 := Lib.hid hz3
      have c5 := hzq.set_cell (.complex .f64 (floatOfInt .f64 p) (floatOfInt .f64 q)) hlt
      clear hzq hz3 bq hz cz c1 c2 hsq
      go_upto_region 7 with fail
      generalize wq.setCell ⟨g, k, none⟩ (.complex .f64 (floatOfInt .f64 p) (floatOfInt .f64 q)) = w3 at b3 HZ3 c5 ⊢
      go_wp2_with fail
      go_roundw
      case rel => exact ⟨k + 1, x', y', by omega, by go_num, rfl, GX, GY, HZ3, b3⟩
      case measure => simp [intOf]; omega
    · obtain rfl : k = n := by omega
      have dlt : decide (k < k) = false := decide_eq_false (by omega)
      have hzr : B ≤ wr.heap.size := by have := br.size; have := HB.out; omega
      have fn := fl_int (n := (k : Int)) (by omega)
      have FN := Lib.hid fn
      have Z1 : Hid (Zr wr B g k (z2 a k 0) (z2 b k 0)) := Lib.hid (hz.out.at_ (fun i hi => by unfold z1 z2; rw [if_neg (by omega), if_pos hi]) (fun i hi => by unfold z1 z2; rw [if_neg (by omega), if_pos hi]))
      clear fn hz
      go_wp2_with fail
      go_loopw [45] (fun i wr => ∃ j : Nat, j ≤ k ∧ i = .int .i64 (j : Int) ∧ Hid (Zr wr B g k (z2 a k j) (z2 b k j)) ∧ Below B w wr) (fun i _ => k - (intOf i).toNat)
      case atStart => exact ⟨0, Nat.zero_le _, rfl, Z1, br⟩
      case round =>
        obtain ⟨j, hj, rfl, hz, bz⟩ := hrel
        clear Z1 br hzr
        by_cases hlj : j < k
        · have dlj : decide (j < k) = true := decide_eq_true hlj
          obtain ⟨u, v, c1, fu, fv⟩ := hz.out.cell hlj
          have c4 := hz.out.thaw j
          have eu : z2 a k j j = it a j := if_neg (by omega)
          have ev : z2 b k j j = it b j := if_neg (by omega)
          rw [eu] at fu; rw [ev] at fv
          have r1 := HA.out j; have r2 := HBB.out j
          have n1 := nit_b HA.out h16 j; have n2 := nit_b HBB.out h16 j
          have s1 := psum_bd HA.out k; have s2 := psum_bd HBB.out k
          have zp : (0 : Int) * it a j = 0 := Int.zero_mul _
          have zq : (0 : Int) * it b j = 0 := Int.zero_mul _
          obtain ⟨x1, y1, hm, gx, gy⟩ := fl_cmul FN.out fl_zero fu fv (by omega) (by omega) (by omega) (by omega)
          obtain ⟨x2, y2, hd, hx2, hy2⟩ := fl_csub gx gy hx.out hy.out (by omega) (by omega)
          have hmul : ∀ w, (binOp .mul 39 (.complex .f64 (floatOfInt .f64 (k : Int)) 0) (.complex .f64 u v)).run Try.prog w = .ok (.complex .f64 x1 y1) w := fun w => run_complex_mul w 39 _ _ _ _ x1 y1 hm
          have hsub : ∀ w, (binOp .sub 39 (.complex .f64 x1 y1) (.complex .f64 x y)).run Try.prog w = .ok (.complex .f64 x2 y2) w := fun w => run_complex_sum w .sub (.inr rfl) 39 .f64 x1 y1 x y x2 y2 hd
          have e1 : dv a k j = (k : Int) * it a j - 0 * it b j - psum a k := by unfold dv; omega
          have e2 : dv b k j = (k : Int) * it b j + 0 * it a j - psum b k := by unfold dv; omega
          have b3 := bz.setCell (p := ⟨g, j, none⟩) hz.out.lt.1 (.complex .f64 x2 y2)
          have hz3 := hz.out.set (f' := z2 a k (j + 1)) (h' := z2 b k (j + 1)) hlj hx2 hy2 (fun i _ => by rw [z2_succ, e1]) (fun i _ => by rw [z2_succ, e2])
          have HZ3 := Lib.hid hz3
          clear fu fv eu ev r1 r2 n1 n2 s1 s2 zp zq hm gx gy hd hx2 hy2 e1 e2 hz3
          go_wp2_with fail
          go_roundw
          case rel => exact ⟨j + 1, by omega, by go_num, HZ3, b3⟩
          case measure => simp [intOf]; omega
        · obtain rfl : j = k := by omega
          have dlj : decide (j < j) = false := decide_eq_false (by omega)
          have hz4 : Zr wr B g j (fun i => dv a j i) (fun i => dv b j i) := hz.out.at_ (fun i hi => by unfold z2; rw [if_pos hi]) (fun i hi => by unfold z2; rw [if_pos hi])
          have HZ4 := Lib.hid hz4
          clear hz4 hz
          go_wp2_with fail
          go_ret
          exact ⟨g, rfl, HZ4.out, bz⟩
end Go.Proofs.Ytbaaglgoodckmaa
