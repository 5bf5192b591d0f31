/- The reference of package group: Of as a contract of the call. -/
import Derived.Test.YtbaaglgoodckmaaGrRef2
import Derived.Test.YtbaaglgoodckmaaTail2
import Derived.WalkKit
import Derived.WalkSpells
import Derived.WalkSmall
import Derived.Lib.Hide
import Derived.Below
import Derived.Outline
import Derived.OrdersHeld
import Derived.Deep.QuietTactic
import Derived.BigQuiet
import Derived.IntWalk
import Derived.Deep.DeepCutAuto
import Derived.Deep.AppendLies
namespace Go.Proofs.Ytbaaglgoodckmaa
open Go.RowKit
set_option linter.unusedVariables false
set_option linter.unusedSimpArgs false

/-- a list of the call's own -/
def TellO (w w' : World) (e : Ending) (x : List Int) : Prop := ∃ R m d, e = .returned (.slice R m d) ∧ Goti w' w.heap.size 3 (.slice R m d) m x ∧ Below w.heap.size w w'

set_option maxRecDepth 100000 in
set_option maxHeartbeats 8000000 in
theorem rgof_any (A : Option Addr) (n c : Nat) (L : List (List Int)) (w : World) (hs : Ll w A n c L) : Calls Try.prog 18 #[.slice A n c] w fun e w' => TellO w w' e (groupsG L) := by
  unfold TellO
  obtain ⟨B, hB⟩ : ∃ B, w.heap.size = B := ⟨_, rfl⟩
  rw [hB]
  have HB := Lib.hid hB
  have hl := hs.len
  have m1 := hs.le; have m2 := hs.max
  unfold maxLen at m2
  obtain ⟨x, hx⟩ : ∃ x, groupsG L = x := ⟨_, rfl⟩
  rw [hx]
  have HX := Lib.hid hx; have HL := Lib.hid hl; have HS := Lib.hid hs
  clear hx hl hs hB
  by_cases c4 : 4 < n
  case pos =>
    have d4 : decide (4 < n) = true := decide_eq_true c4
    have d4' : decide ((4 : Int) < (n : Int)) = true := decide_eq_true (by omega)
    have hx := HX.out
    unfold groupsG at hx
    rw [if_pos (by rw [HL.out]; exact c4)] at hx
    subst hx
    clear HX
    go_enter Try.func18, Try.ntmps18
    go_wp2_with fail
    go_ret
    exact ⟨none, 0, 0, rfl, Goti.nil _ _ _, Below.refl _ _⟩
  case neg =>
  have d4 : decide (4 < n) = false := decide_eq_false c4
  have d4' : decide ((4 : Int) < (n : Int)) = false := decide_eq_false (by omega)
  have hx := HX.out
  unfold groupsG at hx
  rw [if_neg (by rw [HL.out]; exact c4), HL.out] at hx
  have HXX := Lib.hid hx
  clear HX hx m1 m2
  have hn4 : n ≤ 4 := by omega
  clear c4
  have hBs : B ≤ w.heap.size := by have := HB.out; omega
  go_enter Try.func18, Try.ntmps18
  go_wp2_with fail
  go_loopw [3, 4] (fun v i wr => ∃ k : Nat, k ≤ n ∧ i = .int .i64 (k : Int) ∧ Goti wr B 3 v k (iotaG k) ∧ Below B w wr) (fun _ i _ => n - (intOf i).toNat)
  case atStart => exact ⟨0, Nat.zero_le _, rfl, Goti.nil _ _ _, Below.refl _ _⟩
  case round =>
    obtain ⟨k, hk, rfl, hg, br⟩ := hrel
    have hzr : B ≤ wr.heap.size := by have := br.size; have := HB.out; omega
    by_cases hlt : k < n
    · have dlt : decide (k < n) = true := decide_eq_true hlt
      have WK : Hid (W64 (k : Int)) := Lib.hid (by unfold W64; omega)
      have HG := Lib.hid hg
      clear hg
      go_wp2_with (at_builtin; go_loud (refine wpList_appi _ rfl (.tmp 17) (.tmp 19) 25 rfl B 3 Try.underlying25 info_int _ _ _ rfl (HG.out.alloc (.cells #[.int .i64 (k : Int)] 3)) rfl (fun h => by cases h) (ri_one wr WK.out 3) (by omega) (by simp; omega) ?_; intro v2 w2 hg2 hgr2 _))
      have b2 : Below B w w2 := (br.alloc hzr (.cells #[.int .i64 (k : Int)] 3)).grown hgr2 (by simp; omega) (fun j h => by have := (HG.out.row.lt j h).1; omega)
      rw [← iota_succ] at hg2
      have HG2 := Lib.hid hg2
      clear hgr2 hg2 br HG
      go_roundw
      case rel => exact ⟨k + 1, by omega, by go_num, HG2.out, b2⟩
      case measure => simp [intOf]; omega
    · obtain rfl : k = n := by omega
      have dlt : decide (k < k) = false := decide_eq_false (by omega)
      obtain ⟨G, cap, hv, hsn⟩ := hg.si
      subst hv
      have HG := Lib.hid hg
      have hcap := hsn.le
      clear hg hsn
      go_wp2_with fail
      go_loopw [5] (fun i wr => ∃ r : Nat, r ≤ 5 ∧ i = .int .i64 (r : Int) ∧ Goti wr B 3 (.slice G k cap) k (rndsG (matG L) k r (iotaG k)) ∧ Below B w wr) (fun i _ => 5 - (intOf i).toNat)
      case atStart => exact ⟨0, Nat.zero_le _, rfl, HG.out, br⟩
      case round =>
        obtain ⟨r, hr, rfl, hg, bz⟩ := hrel
        clear HG br
        by_cases hlr : r < 5
        · have dlr : decide (r < 5) = true := decide_eq_true hlr
          have dlr' : decide ((r : Int) < 5) = true := decide_eq_true (by omega)
          have hol : (rndsG (matG L) k r (iotaG k)).length = k := by rw [rnds_len, iota_len]
          have hsu := rnds_succ (matG L) k r (iotaG k)
          obtain ⟨O, hO⟩ : ∃ O, rndsG (matG L) k r (iotaG k) = O := ⟨_, rfl⟩
          rw [hO] at hg hol hsu
          have HG := Lib.hid hg; have HOL := Lib.hid hol; have HSU := Lib.hid hsu
          clear hO hol hsu hg
          go_wp2_with fail
          go_loopw [6] (fun i wr => ∃ j : Nat, j ≤ k ∧ i = .int .i64 (j : Int) ∧ Goti wr B 3 (.slice G k cap) k (rowsI (matG L) k j O) ∧ Below B w wr) (fun i _ => k - (intOf i).toNat)
          case atStart => exact ⟨0, Nat.zero_le _, rfl, HG.out, bz⟩
          case round =>
            obtain ⟨j, hj, rfl, hg, by_⟩ := hrel
            clear HG bz
            by_cases hlj : j < k
            · have dlj : decide (j < k) = true := decide_eq_true hlj
              have hol : (rowsI (matG L) k j O).length = k := by rw [rowsI_len, HOL.out]
              have hsu := rowsI_succ (matG L) k j O
              obtain ⟨O2, hO2⟩ : ∃ O2, rowsI (matG L) k j O = O2 := ⟨_, rfl⟩
              rw [hO2] at hg hol hsu
              have HG := Lib.hid hg; have HOL2 := Lib.hid hol; have HSU2 := Lib.hid hsu
              clear hO2 hol hsu hg
              go_wp2_with fail
              go_loopw [7] (fun i wr => ∃ y : Nat, y ≤ k ∧ i = .int .i64 (y : Int) ∧ Goti wr B 3 (.slice G k cap) k (rowK (matG L) j y O2) ∧ Below B w wr) (fun i _ => k - (intOf i).toNat)
              case atStart => exact ⟨0, Nat.zero_le _, rfl, HG.out, by_⟩
              case round =>
                obtain ⟨y, hy, rfl, hg, bx⟩ := hrel
                clear HG by_
                by_cases hly : y < k
                · have dly : decide (y < k) = true := decide_eq_true hly
                  have hol : (rowK (matG L) j y O2).length = k := by rw [rowK_len, HOL2.out]
                  have hsu := rowK_succ (matG L) j y O2
                  obtain ⟨O3, hO3⟩ : ∃ O3, rowK (matG L) j y O2 = O3 := ⟨_, rfl⟩
                  rw [hO3] at hg hol hsu
                  have hsb : Ll wr A k c L := HS.out.keep (by rw [HB.out]; exact bx)
                  obtain ⟨bb, o, hA, hbl, hc⟩ := hsb.at_ (by omega)
                  subst hA
                  obtain ⟨R1, m1, d1, c3, hs1⟩ := hc j hlj
                  obtain ⟨R2, m2, d2, c4, hs2⟩ := hc y hly
                  obtain ⟨g, cap', hv, hg1, hg2⟩ := hg.row.form (by omega)
                  cases hv
                  have c1 := hg.row.cellAt y (by omega)
                  have c2 := hg.row.cellAt j (by omega)
                  rw [List.getElem?_map, List.getElem?_eq_getElem (by omega), ← it_eq (by omega)] at c1 c2
                  simp only [Option.map_some] at c1 c2
                  obtain ⟨p, hp⟩ : ∃ p, it O3 y = p := ⟨_, rfl⟩
                  obtain ⟨q, hq⟩ : ∃ q, it O3 j = q := ⟨_, rfl⟩
                  rw [hp] at c1
                  rw [hq] at c2
                  obtain ⟨mv, hm⟩ : ∃ v, alikeG (li L j) (li L y) = v := ⟨_, rfl⟩
                  have HP := Lib.hid hp; have HQ := Lib.hid hq; have HM := Lib.hid hm; have HG := Lib.hid hg; have HSU3 := Lib.hid hsu; have HS1 := Lib.hid hs1; have HS2 := Lib.hid hs2; have HOL3 := Lib.hid hol
                  have hzx : B ≤ wr.heap.size := by have := bx.size; have := HB.out; omega
                  have dd : Below wr.heap.size wr wr.drew := (Below.refl _ _).drew
                  have KS : ∀ W W', (fun (W : World) => Below wr.heap.size wr W ∧ (W.cell? ⟨g, y, none⟩ = some (.int .i64 p) ∧ W.cell? ⟨g, j, none⟩ = some (.int .i64 q) ∧ W.cell? ⟨bb, o + j, none⟩ = some (.slice R1 m1 d1) ∧ W.cell? ⟨bb, o + y, none⟩ = some (.slice R2 m2 d2))) W → Below W.heap.size W W' → (fun (W : World) => Below wr.heap.size wr W ∧ (W.cell? ⟨g, y, none⟩ = some (.int .i64 p) ∧ W.cell? ⟨g, j, none⟩ = some (.int .i64 q) ∧ W.cell? ⟨bb, o + j, none⟩ = some (.slice R1 m1 d1) ∧ W.cell? ⟨bb, o + y, none⟩ = some (.slice R2 m2 d2))) W' := fun W W' h hb => ⟨h.1.trans (hb.mono h.1.size), (hb.cell (p := ⟨g, y, none⟩) (Nat.lt_of_lt_of_le hg2 h.1.size)).trans h.2.1, (hb.cell (p := ⟨g, j, none⟩) (Nat.lt_of_lt_of_le hg2 h.1.size)).trans h.2.2.1, (hb.cell (p := ⟨bb, o + j, none⟩) (Nat.lt_of_lt_of_le hbl h.1.size)).trans h.2.2.2.1, (hb.cell (p := ⟨bb, o + y, none⟩) (Nat.lt_of_lt_of_le hbl h.1.size)).trans h.2.2.2.2⟩
                  clear hO3 hol hsu hc hs1 hs2 hp hq hm hg hsb
                  go_upto_region 17 with fail
                  by_cases hpq : p < q
                  case neg =>
                    have dpq : decide (p < q) = false := decide_eq_false hpq
                    refine wp_region_tail 19 20 (fun (W : World) => Below wr.heap.size wr W ∧ (W.cell? ⟨g, y, none⟩ = some (.int .i64 p) ∧ W.cell? ⟨g, j, none⟩ = some (.int .i64 q) ∧ W.cell? ⟨bb, o + j, none⟩ = some (.slice R1 m1 d1) ∧ W.cell? ⟨bb, o + y, none⟩ = some (.slice R2 m2 d2))) (by kernel_rfl) (by rfl) (by decide) ?_
                    have HS : ((fun (W : World) => Below wr.heap.size wr W ∧ (W.cell? ⟨g, y, none⟩ = some (.int .i64 p) ∧ W.cell? ⟨g, j, none⟩ = some (.int .i64 q) ∧ W.cell? ⟨bb, o + j, none⟩ = some (.slice R1 m1 d1) ∧ W.cell? ⟨bb, o + y, none⟩ = some (.slice R2 m2 d2)))) _ := ⟨dd, c1, c2, c3, c4⟩
                    refine wpAnyT_take (i := 0) (v := ?vv1) rfl (by kernel_rfl) (fun _ _ _ h => h) (Or.inl ⟨by rfl, fun w hSw => ?yy1⟩) HS ?rr1
                    case yy1 =>
                      (try dsimp only at hSw); go_simp
                      try with_reducible rfl
                    try simp only [Act.put, List.setIfInBounds_toArray, List.set_cons_zero, List.set_cons_succ]
                    refine wpAnyT_take (i := 1) (v := ?vv2) rfl (by kernel_rfl) (fun _ _ _ h => h) (Or.inl ⟨by rfl, fun w hSw => ?yy2⟩) HS ?rr2
                    case yy2 =>
                      (try dsimp only at hSw); go_simp
                      try with_reducible rfl
                    try simp only [Act.put, List.setIfInBounds_toArray, List.set_cons_zero, List.set_cons_succ]
                    refine wpAnyT_take (i := 2) (v := ?vv3) rfl (by kernel_rfl) (fun _ _ _ h => h) (Or.inl ⟨by rfl, fun w hSw => ?yy3⟩) HS ?rr3
                    case yy3 =>
                      (try dsimp only at hSw); go_simp
                      try with_reducible rfl
                    try simp only [Act.put, List.setIfInBounds_toArray, List.set_cons_zero, List.set_cons_succ]
                    refine wpAnyT_take (i := 3) (v := ?vv4) rfl (by kernel_rfl) (fun _ _ _ h => h) (Or.inl ⟨by rfl, fun w hSw => ?yy4⟩) HS ?rr4
                    case yy4 =>
                      (try dsimp only at hSw); go_simp
                      try with_reducible rfl
                    try simp only [Act.put, List.setIfInBounds_toArray, List.set_cons_zero, List.set_cons_succ]
                    refine wpAnyT_take (i := 4) (v := ?vv5) rfl (by kernel_rfl) (fun _ _ _ h => h) (Or.inl ⟨by rfl, fun w hSw => ?yy5⟩) HS ?rr5
                    case yy5 =>
                      (try dsimp only at hSw); go_simp
                      try with_reducible rfl
                    try simp only [Act.put, List.setIfInBounds_toArray, List.set_cons_zero, List.set_cons_succ]
                    refine wpAnyT_take (i := 5) (v := ?vv6) rfl (by kernel_rfl) (fun _ _ _ h => h) (Or.inl ⟨by rfl, fun w hSw => ?yy6⟩) HS ?rr6
                    case yy6 =>
                      (try dsimp only at hSw); go_simp
                      try with_reducible rfl
                    try simp only [Act.put, List.setIfInBounds_toArray, List.set_cons_zero, List.set_cons_succ]
                    refine wpAnyT_take (i := 6) (v := ?vv7) rfl (by kernel_rfl) (fun _ _ _ h => h) (Or.inl ⟨by rfl, fun w hSw => ?yy7⟩) HS ?rr7
                    case yy7 =>
                      (try dsimp only at hSw); go_simp
                      try with_reducible rfl
                    try simp only [Act.put, List.setIfInBounds_toArray, List.set_cons_zero, List.set_cons_succ]
                    refine wpAnyT_take (i := 7) (v := ?vv8) rfl (by kernel_rfl) (fun _ _ _ h => h) (Or.inl ⟨by rfl, fun w hSw => ?yy8⟩) HS ?rr8
                    case yy8 =>
                      (try dsimp only at hSw); go_simp
                      try with_reducible rfl
                    try simp only [Act.put, List.setIfInBounds_toArray, List.set_cons_zero, List.set_cons_succ]
                    refine wpAnyT_take (i := 8) (v := .bool false) rfl (by kernel_rfl) (fun _ _ _ h => h) (Or.inl ⟨by rfl, fun w hSw => ?_⟩) HS ?_
                    · (try dsimp only at hSw); go_simp
                    try simp only [Act.put, List.setIfInBounds_toArray, List.set_cons_zero, List.set_cons_succ]
                    refine wpAnyT_take (i := 9) (v := .bool false) rfl (by kernel_rfl) (fun _ _ _ h => h) (Or.inl ⟨by rfl, fun w hSw => ?_⟩) HS ?_
                    · (try dsimp only at hSw); go_simp
                    try simp only [Act.put, List.setIfInBounds_toArray, List.set_cons_zero, List.set_cons_succ]
                    refine wpAnyT_take (i := 10) (v := undef) rfl (by kernel_rfl) (fun _ _ _ h => h) (Or.inr ⟨by kernel_rfl, rfl⟩) HS ?_
                    try simp only [Act.put, List.setIfInBounds_toArray, List.set_cons_zero, List.set_cons_succ]
                    refine wpAnyT_take (i := 11) (v := undef) rfl (by kernel_rfl) (fun _ _ _ h => h) (Or.inr ⟨by kernel_rfl, rfl⟩) HS ?_
                    try simp only [Act.put, List.setIfInBounds_toArray, List.set_cons_zero, List.set_cons_succ]
                    refine wpAnyT_take (i := 12) (v := undef) rfl (by kernel_rfl) (fun _ _ _ h => h) (Or.inr ⟨by kernel_rfl, rfl⟩) HS ?_
                    try simp only [Act.put, List.setIfInBounds_toArray, List.set_cons_zero, List.set_cons_succ]
                    refine wpAnyT_take (i := 13) (v := undef) rfl (by kernel_rfl) (fun _ _ _ h => h) (Or.inr ⟨by kernel_rfl, rfl⟩) HS ?_
                    try simp only [Act.put, List.setIfInBounds_toArray, List.set_cons_zero, List.set_cons_succ]
                    refine wpAnyT_take (i := 14) (v := undef) rfl (by kernel_rfl) (fun _ _ _ h => h) (Or.inr ⟨by kernel_rfl, rfl⟩) HS ?_
                    try simp only [Act.put, List.setIfInBounds_toArray, List.set_cons_zero, List.set_cons_succ]
                    refine wpAnyT_take (i := 15) (v := undef) rfl (by kernel_rfl) (fun _ _ _ h => h) (Or.inr ⟨by kernel_rfl, rfl⟩) HS ?_
                    try simp only [Act.put, List.setIfInBounds_toArray, List.set_cons_zero, List.set_cons_succ]
                    refine wpAnyT_take (i := 16) (v := undef) rfl (by kernel_rfl) (fun _ _ _ h => h) (Or.inr ⟨by kernel_rfl, rfl⟩) HS ?_
                    try simp only [Act.put, List.setIfInBounds_toArray, List.set_cons_zero, List.set_cons_succ]
                    refine wpAnyT_take (i := 17) (v := undef) rfl (by kernel_rfl) (fun _ _ _ h => h) (Or.inr ⟨by kernel_rfl, rfl⟩) HS ?_
                    try simp only [Act.put, List.setIfInBounds_toArray, List.set_cons_zero, List.set_cons_succ]
                    refine wpAnyT_take (i := 18) (v := undef) rfl (by kernel_rfl) (fun _ _ _ h => h) (Or.inr ⟨by kernel_rfl, rfl⟩) HS ?_
                    try simp only [Act.put, List.setIfInBounds_toArray, List.set_cons_zero, List.set_cons_succ]
                    refine ⟨by kernel_rfl, ?_⟩
                    simp only [List.drop_succ_cons, List.drop_zero]
                    have hsq := HS
                    clear HS KS
                    generalize wr.drew = wq at hsq ⊢
                    have hst : stepK (matG L) j O3 y = O3 := if_neg (fun h => hpq (by have h1 := h.1; rw [HP.out, HQ.out] at h1; exact h1))
                    have HG2 : Hid (Goti wq B 3 (.slice (some ⟨g, 0, none⟩) k cap) k (rowK (matG L) j (y + 1) O2)) := Lib.hid (by rw [HSU3.out, hst]; exact HG.out.below hsq.1)
                    have bq : Below B w wq := bx.trans (hsq.1.mono hzx)
                    clear hst hsq
                    go_wp2_with fail
                    go_roundw
                    case rel => exact ⟨y + 1, by omega, by go_num, HG2.out, bq⟩
                    case measure => simp [intOf]; omega
                  case pos =>
                  have dpq : decide (p < q) = true := decide_eq_true hpq
                  cases mv with
                  | false =>
                    refine wp_region_tail 19 20 (fun (W : World) => Below wr.heap.size wr W ∧ (W.cell? ⟨g, y, none⟩ = some (.int .i64 p) ∧ W.cell? ⟨g, j, none⟩ = some (.int .i64 q) ∧ W.cell? ⟨bb, o + j, none⟩ = some (.slice R1 m1 d1) ∧ W.cell? ⟨bb, o + y, none⟩ = some (.slice R2 m2 d2))) (by kernel_rfl) (by rfl) (by decide) ?_
                    have HS : ((fun (W : World) => Below wr.heap.size wr W ∧ (W.cell? ⟨g, y, none⟩ = some (.int .i64 p) ∧ W.cell? ⟨g, j, none⟩ = some (.int .i64 q) ∧ W.cell? ⟨bb, o + j, none⟩ = some (.slice R1 m1 d1) ∧ W.cell? ⟨bb, o + y, none⟩ = some (.slice R2 m2 d2)))) _ := ⟨dd, c1, c2, c3, c4⟩
                    refine wpAnyT_take (i := 0) (v := ?vv9) rfl (by kernel_rfl) (fun _ _ _ h => h) (Or.inl ⟨by rfl, fun w hSw => ?yy9⟩) HS ?rr9
                    case yy9 =>
                      (try dsimp only at hSw); go_simp
                      try with_reducible rfl
                    try simp only [Act.put, List.setIfInBounds_toArray, List.set_cons_zero, List.set_cons_succ]
                    refine wpAnyT_take (i := 1) (v := ?vv10) rfl (by kernel_rfl) (fun _ _ _ h => h) (Or.inl ⟨by rfl, fun w hSw => ?yy10⟩) HS ?rr10
                    case yy10 =>
                      (try dsimp only at hSw); go_simp
                      try with_reducible rfl
                    try simp only [Act.put, List.setIfInBounds_toArray, List.set_cons_zero, List.set_cons_succ]
                    refine wpAnyT_take (i := 2) (v := ?vv11) rfl (by kernel_rfl) (fun _ _ _ h => h) (Or.inl ⟨by rfl, fun w hSw => ?yy11⟩) HS ?rr11
                    case yy11 =>
                      (try dsimp only at hSw); go_simp
                      try with_reducible rfl
                    try simp only [Act.put, List.setIfInBounds_toArray, List.set_cons_zero, List.set_cons_succ]
                    refine wpAnyT_take (i := 3) (v := ?vv12) rfl (by kernel_rfl) (fun _ _ _ h => h) (Or.inl ⟨by rfl, fun w hSw => ?yy12⟩) HS ?rr12
                    case yy12 =>
                      (try dsimp only at hSw); go_simp
                      try with_reducible rfl
                    try simp only [Act.put, List.setIfInBounds_toArray, List.set_cons_zero, List.set_cons_succ]
                    refine wpAnyT_take (i := 4) (v := ?vv13) rfl (by kernel_rfl) (fun _ _ _ h => h) (Or.inl ⟨by rfl, fun w hSw => ?yy13⟩) HS ?rr13
                    case yy13 =>
                      (try dsimp only at hSw); go_simp
                      try with_reducible rfl
                    try simp only [Act.put, List.setIfInBounds_toArray, List.set_cons_zero, List.set_cons_succ]
                    refine wpAnyT_take (i := 5) (v := ?vv14) rfl (by kernel_rfl) (fun _ _ _ h => h) (Or.inl ⟨by rfl, fun w hSw => ?yy14⟩) HS ?rr14
                    case yy14 =>
                      (try dsimp only at hSw); go_simp
                      try with_reducible rfl
                    try simp only [Act.put, List.setIfInBounds_toArray, List.set_cons_zero, List.set_cons_succ]
                    refine wpAnyT_take (i := 6) (v := ?vv15) rfl (by kernel_rfl) (fun _ _ _ h => h) (Or.inl ⟨by rfl, fun w hSw => ?yy15⟩) HS ?rr15
                    case yy15 =>
                      (try dsimp only at hSw); go_simp
                      try with_reducible rfl
                    try simp only [Act.put, List.setIfInBounds_toArray, List.set_cons_zero, List.set_cons_succ]
                    refine wpAnyT_take (i := 7) (v := ?vv16) rfl (by kernel_rfl) (fun _ _ _ h => h) (Or.inl ⟨by rfl, fun w hSw => ?yy16⟩) HS ?rr16
                    case yy16 =>
                      (try dsimp only at hSw); go_simp
                      try with_reducible rfl
                    try simp only [Act.put, List.setIfInBounds_toArray, List.set_cons_zero, List.set_cons_succ]
                    refine wpAnyT_take (i := 8) (v := .bool true) rfl (by kernel_rfl) (fun _ _ _ h => h) (Or.inl ⟨by rfl, fun w hSw => ?_⟩) HS ?_
                    · (try dsimp only at hSw); go_simp
                    try simp only [Act.put, List.setIfInBounds_toArray, List.set_cons_zero, List.set_cons_succ]
                    refine wpAnyT_take (i := 9) (v := .bool true) rfl (by kernel_rfl) (fun _ _ _ h => h) (Or.inl ⟨by rfl, fun w hSw => ?_⟩) HS ?_
                    · (try dsimp only at hSw); go_simp
                    try simp only [Act.put, List.setIfInBounds_toArray, List.set_cons_zero, List.set_cons_succ]
                    refine wpAnyT_take (i := 10) (v := ?vv17) rfl (by kernel_rfl) (fun _ _ _ h => h) (Or.inl ⟨by rfl, fun w hSw => ?yy17⟩) HS ?rr17
                    case yy17 =>
                      (try dsimp only at hSw); go_simp
                      try with_reducible rfl
                    try simp only [Act.put, List.setIfInBounds_toArray, List.set_cons_zero, List.set_cons_succ]
                    refine wpAnyT_take (i := 11) (v := ?vv18) rfl (by kernel_rfl) (fun _ _ _ h => h) (Or.inl ⟨by rfl, fun w hSw => ?yy18⟩) HS ?rr18
                    case yy18 =>
                      (try dsimp only at hSw); go_simp
                      try with_reducible rfl
                    try simp only [Act.put, List.setIfInBounds_toArray, List.set_cons_zero, List.set_cons_succ]
                    refine wpAnyT_take (i := 12) (v := ?vv19) rfl (by kernel_rfl) (fun _ _ _ h => h) (Or.inl ⟨by rfl, fun w hSw => ?yy19⟩) HS ?rr19
                    case yy19 =>
                      (try dsimp only at hSw); go_simp
                      try with_reducible rfl
                    try simp only [Act.put, List.setIfInBounds_toArray, List.set_cons_zero, List.set_cons_succ]
                    refine wpAnyT_take (i := 13) (v := ?vv20) rfl (by kernel_rfl) (fun _ _ _ h => h) (Or.inl ⟨by rfl, fun w hSw => ?yy20⟩) HS ?rr20
                    case yy20 =>
                      (try dsimp only at hSw); go_simp
                      try with_reducible rfl
                    try simp only [Act.put, List.setIfInBounds_toArray, List.set_cons_zero, List.set_cons_succ]
                    refine wpAnyT_take (i := 14) (v := ?vv21) rfl (by kernel_rfl) (fun _ _ _ h => h) (Or.inl ⟨by rfl, fun w hSw => ?yy21⟩) HS ?rr21
                    case yy21 =>
                      (try dsimp only at hSw); go_simp
                      try with_reducible rfl
                    try simp only [Act.put, List.setIfInBounds_toArray, List.set_cons_zero, List.set_cons_succ]
                    refine wpAnyT_take (i := 15) (v := ?vv22) rfl (by kernel_rfl) (fun _ _ _ h => h) (Or.inl ⟨by rfl, fun w hSw => ?yy22⟩) HS ?rr22
                    case yy22 =>
                      (try dsimp only at hSw); go_simp
                      try with_reducible rfl
                    try simp only [Act.put, List.setIfInBounds_toArray, List.set_cons_zero, List.set_cons_succ]
                    refine wpAnyT_take (i := 16) (v := ?vv23) rfl (by kernel_rfl) (fun _ _ _ h => h) (Or.inl ⟨by rfl, fun w hSw => ?yy23⟩) HS ?rr23
                    case yy23 =>
                      (try dsimp only at hSw); go_simp
                      try with_reducible rfl
                    try simp only [Act.put, List.setIfInBounds_toArray, List.set_cons_zero, List.set_cons_succ]
                    refine wpAnyT_take (i := 17) (v := ?vv24) rfl (by kernel_rfl) (fun _ _ _ h => h) (Or.inl ⟨by rfl, fun w hSw => ?yy24⟩) HS ?rr24
                    case yy24 =>
                      (try dsimp only at hSw); go_simp
                      try with_reducible rfl
                    try simp only [Act.put, List.setIfInBounds_toArray, List.set_cons_zero, List.set_cons_succ]
                    refine wpAnyT_one (k := 18) rfl (by kernel_rfl) (by decide) (fun K hK => ?_)
                    go_simp
                    refine (rgalike_any R1 m1 d1 (li L j) R2 m2 d2 (li L y) _ (HS1.out.keep HS.1) (HS2.out.keep HS.1)).mono ?_
                    rintro e yw ⟨rfl, hy1⟩
                    rw [HM.out]
                    have HS : ((fun (W : World) => Below wr.heap.size wr W ∧ (W.cell? ⟨g, y, none⟩ = some (.int .i64 p) ∧ W.cell? ⟨g, j, none⟩ = some (.int .i64 q) ∧ W.cell? ⟨bb, o + j, none⟩ = some (.slice R1 m1 d1) ∧ W.cell? ⟨bb, o + y, none⟩ = some (.slice R2 m2 d2)))) _ := KS _ _ HS hy1
                    refine hK _ _ HS ?_
                    clear hK K
                    try simp only [Act.put, List.setIfInBounds_toArray, List.set_cons_zero, List.set_cons_succ]
                    refine ⟨by kernel_rfl, ?_⟩
                    simp only [List.drop_succ_cons, List.drop_zero]
                    have hsq := HS
                    clear HS KS
                    generalize yw = wq at hsq ⊢
                    have hst : stepK (matG L) j O3 y = O3 := if_neg (fun h => by have h1 := h.2; unfold matG at h1; rw [HM.out] at h1; cases h1)
                    have HG2 : Hid (Goti wq B 3 (.slice (some ⟨g, 0, none⟩) k cap) k (rowK (matG L) j (y + 1) O2)) := Lib.hid (by rw [HSU3.out, hst]; exact HG.out.below hsq.1)
                    have bq : Below B w wq := bx.trans (hsq.1.mono hzx)
                    clear hst hsq
                    go_wp2_with fail
                    go_roundw
                    case rel => exact ⟨y + 1, by omega, by go_num, HG2.out, bq⟩
                    case measure => simp [intOf]; omega
                  | true =>
                    refine wp_region_tail 19 20 (fun (W : World) => Below wr.heap.size wr W ∧ (W.cell? ⟨g, y, none⟩ = some (.int .i64 p) ∧ W.cell? ⟨g, j, none⟩ = some (.int .i64 q) ∧ W.cell? ⟨bb, o + j, none⟩ = some (.slice R1 m1 d1) ∧ W.cell? ⟨bb, o + y, none⟩ = some (.slice R2 m2 d2))) (by kernel_rfl) (by rfl) (by decide) ?_
                    have HS : ((fun (W : World) => Below wr.heap.size wr W ∧ (W.cell? ⟨g, y, none⟩ = some (.int .i64 p) ∧ W.cell? ⟨g, j, none⟩ = some (.int .i64 q) ∧ W.cell? ⟨bb, o + j, none⟩ = some (.slice R1 m1 d1) ∧ W.cell? ⟨bb, o + y, none⟩ = some (.slice R2 m2 d2)))) _ := ⟨dd, c1, c2, c3, c4⟩
                    refine wpAnyT_take (i := 0) (v := ?vv25) rfl (by kernel_rfl) (fun _ _ _ h => h) (Or.inl ⟨by rfl, fun w hSw => ?yy25⟩) HS ?rr25
                    case yy25 =>
                      (try dsimp only at hSw); go_simp
                      try with_reducible rfl
                    try simp only [Act.put, List.setIfInBounds_toArray, List.set_cons_zero, List.set_cons_succ]
                    refine wpAnyT_take (i := 1) (v := ?vv26) rfl (by kernel_rfl) (fun _ _ _ h => h) (Or.inl ⟨by rfl, fun w hSw => ?yy26⟩) HS ?rr26
                    case yy26 =>
                      (try dsimp only at hSw); go_simp
                      try with_reducible rfl
                    try simp only [Act.put, List.setIfInBounds_toArray, List.set_cons_zero, List.set_cons_succ]
                    refine wpAnyT_take (i := 2) (v := ?vv27) rfl (by kernel_rfl) (fun _ _ _ h => h) (Or.inl ⟨by rfl, fun w hSw => ?yy27⟩) HS ?rr27
                    case yy27 =>
                      (try dsimp only at hSw); go_simp
                      try with_reducible rfl
                    try simp only [Act.put, List.setIfInBounds_toArray, List.set_cons_zero, List.set_cons_succ]
                    refine wpAnyT_take (i := 3) (v := ?vv28) rfl (by kernel_rfl) (fun _ _ _ h => h) (Or.inl ⟨by rfl, fun w hSw => ?yy28⟩) HS ?rr28
                    case yy28 =>
                      (try dsimp only at hSw); go_simp
                      try with_reducible rfl
                    try simp only [Act.put, List.setIfInBounds_toArray, List.set_cons_zero, List.set_cons_succ]
                    refine wpAnyT_take (i := 4) (v := ?vv29) rfl (by kernel_rfl) (fun _ _ _ h => h) (Or.inl ⟨by rfl, fun w hSw => ?yy29⟩) HS ?rr29
                    case yy29 =>
                      (try dsimp only at hSw); go_simp
                      try with_reducible rfl
                    try simp only [Act.put, List.setIfInBounds_toArray, List.set_cons_zero, List.set_cons_succ]
                    refine wpAnyT_take (i := 5) (v := ?vv30) rfl (by kernel_rfl) (fun _ _ _ h => h) (Or.inl ⟨by rfl, fun w hSw => ?yy30⟩) HS ?rr30
                    case yy30 =>
                      (try dsimp only at hSw); go_simp
                      try with_reducible rfl
                    try simp only [Act.put, List.setIfInBounds_toArray, List.set_cons_zero, List.set_cons_succ]
                    refine wpAnyT_take (i := 6) (v := ?vv31) rfl (by kernel_rfl) (fun _ _ _ h => h) (Or.inl ⟨by rfl, fun w hSw => ?yy31⟩) HS ?rr31
                    case yy31 =>
                      (try dsimp only at hSw); go_simp
                      try with_reducible rfl
                    try simp only [Act.put, List.setIfInBounds_toArray, List.set_cons_zero, List.set_cons_succ]
                    refine wpAnyT_take (i := 7) (v := ?vv32) rfl (by kernel_rfl) (fun _ _ _ h => h) (Or.inl ⟨by rfl, fun w hSw => ?yy32⟩) HS ?rr32
                    case yy32 =>
                      (try dsimp only at hSw); go_simp
                      try with_reducible rfl
                    try simp only [Act.put, List.setIfInBounds_toArray, List.set_cons_zero, List.set_cons_succ]
                    refine wpAnyT_take (i := 8) (v := .bool true) rfl (by kernel_rfl) (fun _ _ _ h => h) (Or.inl ⟨by rfl, fun w hSw => ?_⟩) HS ?_
                    · (try dsimp only at hSw); go_simp
                    try simp only [Act.put, List.setIfInBounds_toArray, List.set_cons_zero, List.set_cons_succ]
                    refine wpAnyT_take (i := 9) (v := .bool true) rfl (by kernel_rfl) (fun _ _ _ h => h) (Or.inl ⟨by rfl, fun w hSw => ?_⟩) HS ?_
                    · (try dsimp only at hSw); go_simp
                    try simp only [Act.put, List.setIfInBounds_toArray, List.set_cons_zero, List.set_cons_succ]
                    refine wpAnyT_take (i := 10) (v := ?vv33) rfl (by kernel_rfl) (fun _ _ _ h => h) (Or.inl ⟨by rfl, fun w hSw => ?yy33⟩) HS ?rr33
                    case yy33 =>
                      (try dsimp only at hSw); go_simp
                      try with_reducible rfl
                    try simp only [Act.put, List.setIfInBounds_toArray, List.set_cons_zero, List.set_cons_succ]
                    refine wpAnyT_take (i := 11) (v := ?vv34) rfl (by kernel_rfl) (fun _ _ _ h => h) (Or.inl ⟨by rfl, fun w hSw => ?yy34⟩) HS ?rr34
                    case yy34 =>
                      (try dsimp only at hSw); go_simp
                      try with_reducible rfl
                    try simp only [Act.put, List.setIfInBounds_toArray, List.set_cons_zero, List.set_cons_succ]
                    refine wpAnyT_take (i := 12) (v := ?vv35) rfl (by kernel_rfl) (fun _ _ _ h => h) (Or.inl ⟨by rfl, fun w hSw => ?yy35⟩) HS ?rr35
                    case yy35 =>
                      (try dsimp only at hSw); go_simp
                      try with_reducible rfl
                    try simp only [Act.put, List.setIfInBounds_toArray, List.set_cons_zero, List.set_cons_succ]
                    refine wpAnyT_take (i := 13) (v := ?vv36) rfl (by kernel_rfl) (fun _ _ _ h => h) (Or.inl ⟨by rfl, fun w hSw => ?yy36⟩) HS ?rr36
                    case yy36 =>
                      (try dsimp only at hSw); go_simp
                      try with_reducible rfl
                    try simp only [Act.put, List.setIfInBounds_toArray, List.set_cons_zero, List.set_cons_succ]
                    refine wpAnyT_take (i := 14) (v := ?vv37) rfl (by kernel_rfl) (fun _ _ _ h => h) (Or.inl ⟨by rfl, fun w hSw => ?yy37⟩) HS ?rr37
                    case yy37 =>
                      (try dsimp only at hSw); go_simp
                      try with_reducible rfl
                    try simp only [Act.put, List.setIfInBounds_toArray, List.set_cons_zero, List.set_cons_succ]
                    refine wpAnyT_take (i := 15) (v := ?vv38) rfl (by kernel_rfl) (fun _ _ _ h => h) (Or.inl ⟨by rfl, fun w hSw => ?yy38⟩) HS ?rr38
                    case yy38 =>
                      (try dsimp only at hSw); go_simp
                      try with_reducible rfl
                    try simp only [Act.put, List.setIfInBounds_toArray, List.set_cons_zero, List.set_cons_succ]
                    refine wpAnyT_take (i := 16) (v := ?vv39) rfl (by kernel_rfl) (fun _ _ _ h => h) (Or.inl ⟨by rfl, fun w hSw => ?yy39⟩) HS ?rr39
                    case yy39 =>
                      (try dsimp only at hSw); go_simp
                      try with_reducible rfl
                    try simp only [Act.put, List.setIfInBounds_toArray, List.set_cons_zero, List.set_cons_succ]
                    refine wpAnyT_take (i := 17) (v := ?vv40) rfl (by kernel_rfl) (fun _ _ _ h => h) (Or.inl ⟨by rfl, fun w hSw => ?yy40⟩) HS ?rr40
                    case yy40 =>
                      (try dsimp only at hSw); go_simp
                      try with_reducible rfl
                    try simp only [Act.put, List.setIfInBounds_toArray, List.set_cons_zero, List.set_cons_succ]
                    refine wpAnyT_one (k := 18) rfl (by kernel_rfl) (by decide) (fun K hK => ?_)
                    go_simp
                    refine (rgalike_any R1 m1 d1 (li L j) R2 m2 d2 (li L y) _ (HS1.out.keep HS.1) (HS2.out.keep HS.1)).mono ?_
                    rintro e yw ⟨rfl, hy1⟩
                    rw [HM.out]
                    have HS : ((fun (W : World) => Below wr.heap.size wr W ∧ (W.cell? ⟨g, y, none⟩ = some (.int .i64 p) ∧ W.cell? ⟨g, j, none⟩ = some (.int .i64 q) ∧ W.cell? ⟨bb, o + j, none⟩ = some (.slice R1 m1 d1) ∧ W.cell? ⟨bb, o + y, none⟩ = some (.slice R2 m2 d2)))) _ := KS _ _ HS hy1
                    refine hK _ _ HS ?_
                    clear hK K
                    try simp only [Act.put, List.setIfInBounds_toArray, List.set_cons_zero, List.set_cons_succ]
                    refine ⟨by kernel_rfl, ?_⟩
                    simp only [List.drop_succ_cons, List.drop_zero]
                    have hsq := HS
                    clear HS KS
                    generalize yw = wq at hsq ⊢
                    have hst : stepK (matG L) j O3 y = O3.set j (it O3 y) := if_pos ⟨by rw [HP.out, HQ.out]; exact hpq, HM.out⟩
                    have gq := HG.out.below hsq.1
                    have WP : W64 p := by rw [← HP.out]; exact it_wide HG.out.wide y
                    obtain ⟨gs, ggr⟩ := gq.set j WP
                    have bq : Below B w wq := bx.trans (hsq.1.mono hzx)
                    have bs := bq.setCell (p := ⟨g, j, none⟩) hg1 (.int .i64 p)
                    have HG2 : Hid (Goti (wq.setCell ⟨g, j, none⟩ (.int .i64 p)) B 3 (.slice (some ⟨g, 0, none⟩) k cap) k (rowK (matG L) j (y + 1) O2)) := Lib.hid (by rw [HSU3.out, hst, HP.out]; exact gs)
                    obtain ⟨q1, q2, q3, q4, q5⟩ := hsq
                    have f2 := gq.row.frozenAt j
                    clear hst gs ggr q1 q4 q5 bq gq
                    go_wp2_with fail
                    go_roundw
                    case rel => exact ⟨y + 1, by omega, by go_num, HG2.out, bs⟩
                    case measure => simp [intOf]; omega
                · obtain rfl : y = k := by omega
                  have dly : decide (y < y) = false := decide_eq_false (by omega)
                  have hg2 : Goti wr B 3 (.slice G y cap) y (rowsI (matG L) y (j + 1) O) := by rw [HSU2.out]; exact hg
                  have HG2 := Lib.hid hg2
                  clear hg hg2
                  go_wp2_with fail
                  go_roundw
                  case rel => exact ⟨j + 1, by omega, by go_num, HG2.out, bx⟩
                  case measure => simp [intOf]; omega
            · obtain rfl : j = k := by omega
              have dlj : decide (j < j) = false := decide_eq_false (by omega)
              have hg2 : Goti wr B 3 (.slice G j cap) j (rndsG (matG L) j (r + 1) (iotaG j)) := by rw [HSU.out]; exact hg
              have HG2 := Lib.hid hg2
              clear hg hg2
              go_wp2_with fail
              go_roundw
              case rel => exact ⟨r + 1, by omega, by go_num, HG2.out, by_⟩
              case measure => simp [intOf]; omega
        · obtain rfl : r = 5 := by omega
          have dlr : decide ((5 : Nat) < 5) = false := rfl
          have hg2 : Goti wr B 3 (.slice G k cap) k x := by rw [← HXX.out]; exact hg
          have HG2 := Lib.hid hg2
          clear hg hg2
          go_wp2_with fail
          go_ret
          exact ⟨G, k, cap, rfl, HG2.out, bz⟩
end Go.Proofs.Ytbaaglgoodckmaa
