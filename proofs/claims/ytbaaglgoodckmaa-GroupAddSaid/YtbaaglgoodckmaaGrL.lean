/- Package group as it landed: Of as contracts of the calls. -/
import Derived.Test.YtbaaglgoodckmaaGrL3
import Derived.Test.YtbaaglgoodckmaaGrL4
import Derived.Test.YtbaaglgoodckmaaLl
import Derived.Test.YtbaaglgoodckmaaTail
import Derived.Test.YtbaaglgoodckmaaGrRef3
import Derived.WalkKit
import Derived.WalkSpells
import Derived.WalkSmall
import Derived.Lib.Hide
import Derived.Below
import Derived.Outline
import Derived.OrdersHeld
import Derived.Deep.QuietTactic
import Derived.BigQuiet
import Derived.IntWalk
import Derived.Deep.DeepCutAuto
import Derived.Deep.AppendLies
namespace Go.Proofs.Ytbaaglgoodckmaa
open Go.RowKit
set_option linter.unusedVariables false
set_option linter.unusedSimpArgs false

set_option maxRecDepth 100000 in
set_option maxHeartbeats 8000000 in
theorem ggof_any (A : Option Addr) (n c : Nat) (L : List (List Int)) (w : World) (hs : Ll w A n c L) : Calls Try.prog 17 #[.slice A n c] w fun e w' => ∃ R m f, e = .returned (.slice R m f) ∧ Si w' R m f (groupsG L) ∧ Below w.heap.size w w' := by
  obtain ⟨B, hB⟩ : ∃ B, w.heap.size = B := ⟨_, rfl⟩
  rw [hB]
  have HB := Lib.hid hB
  have hl := hs.len
  have m1 := hs.le; have m2 := hs.max
  unfold maxLen at m2
  obtain ⟨i0, hi, hz0, hz1, hz2⟩ := info_parts info_int
  obtain ⟨x, hx⟩ : ∃ x, groupsG L = x := ⟨_, rfl⟩
  rw [hx]
  have HX := Lib.hid hx; have HL := Lib.hid hl; have HS := Lib.hid hs
  clear hx hl hs hB
  by_cases c4 : 4 < n
  case pos =>
    have d4 : decide (4 < n) = true := decide_eq_true c4
    have d4' : decide ((4 : Int) < (n : Int)) = true := decide_eq_true (by omega)
    have hx := HX.out
    unfold groupsG at hx
    rw [if_pos (by rw [HL.out]; exact c4)] at hx
    subst hx
    clear HX
    go_enter Try.func17, Try.ntmps17
    go_upto_region 1 with fail
    refine wp_scope_straight ?_
    go_wp2_with fail
    try simp only [Exit.noGoto, Exit.inBlock, Exit.then]
    go_ret
    exact ⟨none, 0, 0, rfl, Si.none _, Below.refl _ _⟩
  case neg =>
  have d4 : decide (4 < n) = false := decide_eq_false c4
  have d4' : decide ((4 : Int) < (n : Int)) = false := decide_eq_false (by omega)
  have hn4 : n ≤ 4 := by omega
  have hx := HX.out
  unfold groupsG at hx
  rw [if_neg (by rw [HL.out]; exact c4), HL.out, ← rows_of hn4 (matG_comm L)] at hx
  have HXX := Lib.hid hx
  clear HX hx m1 m2 c4
  have hBs : B ≤ w.heap.size := by have := HB.out; omega
  go_enter Try.func17, Try.ntmps17
  go_upto_region 1 with fail
  refine wp_scope_straight ?_
  go_wp2_with (at_make; refine wpList_make_full _ rfl _ _ 25 rfl B 3 i0 (.int .i64 0) 1 Try.underlying25 hi hz0 hz1 _ _ _ _ n rfl rfl rfl rfl (by rw [hz2]; omega) (by unfold maxLen; omega) hBs ?_; intro w1 hown1 hgrow1)
  have b1 : Below B w w1 := (Below.refl _ _).grown hgrow1 hBs (fun k hk => by cases hk)
  obtain ⟨g, hg⟩ : ∃ g, w.heap.size = g := ⟨_, rfl⟩
  rw [hg] at hown1 ⊢
  have hgB : B ≤ g := by have := HB.out; omega
  have g0 := Goti.zeros hown1
  have G0 := Lib.hid g0
  have HGB := Lib.hid hgB
  clear hown1 hgrow1 hg g0
  go_loopw [16] (fun i wr => ∃ k : Nat, k ≤ n ∧ i = .int .i64 (k : Int) ∧ Goti wr B 3 (.slice (some ⟨g, 0, none⟩) n n) n (ini n k) ∧ Below B w wr) (fun i _ => n - (intOf i).toNat)
  case atStart => exact ⟨0, Nat.zero_le _, rfl, G0.out, b1⟩
  case round =>
    obtain ⟨k, hk, rfl, hg, br⟩ := hrel
    clear G0 b1
    by_cases hlt : k < n
    · have dlt : decide (k < n) = true := decide_eq_true hlt
      have c1 := goti_at hg hlt
      have f1 := hg.row.frozenAt k
      obtain ⟨g2, _⟩ := hg.set k (x := (k : Int)) (by unfold W64; omega)
      have b2 := br.setCell (p := ⟨g, k, none⟩) hgB (.int .i64 (k : Int))
      have G2 : Hid (Goti (wr.setCell ⟨g, k, none⟩ (.int .i64 (k : Int))) B 3 (.slice (some ⟨g, 0, none⟩) n n) n (ini n (k + 1))) := Lib.hid g2
      clear hg g2
      go_wp2_with fail
      go_roundw
      case rel => exact ⟨k + 1, by omega, by go_num, G2.out, b2⟩
      case measure => simp [intOf]; omega
    · obtain rfl : k = n := by omega
      have dlt : decide (k < k) = false := decide_eq_false (by omega)
      rw [ini_iota hn4] at hg
      have G1 := Lib.hid hg
      clear hg
      go_wp2_with fail
      refine wp_label ?_
      go_wp2_with fail
      go_loopw [5, 28] (fun gr i wr => ∃ (j : Nat) (v : Int), j ≤ k ∧ i = .int .i64 (j : Int) ∧ gr = .int .i64 v ∧ Hid ((rowsG (matG L) j (startG k)).2 = v) ∧ Goti wr B 3 (.slice (some ⟨g, 0, none⟩) k k) k (rowsG (matG L) j (startG k)).1 ∧ Hid (v ≠ 1 ∨ k = 1) ∧ Below B w wr) (fun _ i _ => k - (intOf i).toNat)
      case atStart => exact ⟨0, (k : Int), Nat.zero_le _, rfl, rfl, rfl, G1.out, Lib.hid (by omega), br⟩
      case round =>
        obtain ⟨j, v, hj, rfl, rfl, hv, hg, hN, by_⟩ := hrel
        clear G1 br
        by_cases hlj : j < k
        · have dlj : decide (j < k) = true := decide_eq_true hlj
          have hsu := rowsG_succ (matG L) j (startG k)
          have hol : (rowsG (matG L) j (startG k)).1.length = k := by rw [rowsG_len]; exact iota_len k
          have hgb := rowsG_gb (matG L) j (startG k) ⟨by show (1 : Int) ≤ (k : Int); omega, by show (k : Int) ≤ 4; omega⟩
          obtain ⟨s1, hs1⟩ : ∃ s1, rowsG (matG L) j (startG k) = s1 := ⟨_, rfl⟩
          rw [hs1] at hg hol hsu hv hgb
          have HG := Lib.hid hg; have HOL := Lib.hid hol; have HSU := Lib.hid hsu; have HS1E := Lib.hid hs1; have HGBD := Lib.hid hgb
          obtain ⟨M, hM⟩ : ∃ M, matG L = M := ⟨_, rfl⟩
          rw [hM] at HSU HS1E
          have HMM := Lib.hid hM
          clear hs1 hol hsu hg hgb hM
          go_wp2_with fail
          go_loopw [5, 32] (fun gr i wr => ∃ (y : Nat) (v : Int), y ≤ j ∧ i = .int .i64 (y : Int) ∧ gr = .int .i64 v ∧ Hid ((rowG M j y s1).2 = v) ∧ Hid (Goti wr B 3 (.slice (some ⟨g, 0, none⟩) k k) k (rowG M j y s1).1) ∧ Hid (v ≠ 1 ∨ k = 1) ∧ Below B w wr) (fun _ i _ => j - (intOf i).toNat)
          case atStart => exact ⟨0, v, Nat.zero_le _, rfl, rfl, hv, HG, hN, by_⟩
          case round =>
            obtain ⟨y, v, hy, rfl, rfl, hv, HG, HN, bx⟩ := hrel
            clear by_ hN
            by_cases hly : y < j
            · have dly : decide (y < j) = true := decide_eq_true hly
              have hyk : y < k := by omega
              have dyk : decide (y < k) = true := decide_eq_true hyk
              obtain ⟨s2, hs2⟩ : ∃ s2, rowG M j y s1 = s2 := ⟨_, rfl⟩
              have hl2 : s2.1.length = k := by rw [← hs2, rowG_len]; exact HOL.out
              have hgb := rowG_gb M j y s1 HGBD.out
              rw [hs2] at hv HG hgb
              rw [hv.out] at hgb
              have HV := hv
              have HS2E := Lib.hid hs2; have HL2 := Lib.hid hl2
              have hv1 : v ≠ 1 := HN.out.elim id (fun h => absurd h (by omega))
              have c1 := goti_at HG.out hlj
              have c2 := goti_at HG.out (j := y) (by omega)
              obtain ⟨p, hp⟩ : ∃ p, it s2.1 j = p := ⟨_, rfl⟩
              obtain ⟨q, hq⟩ : ∃ q, it s2.1 y = q := ⟨_, rfl⟩
              have WP : Hid (W64 p) := Lib.hid (by rw [← hp]; exact it_wide HG.out.wide j)
              have WQ : Hid (W64 q) := Lib.hid (by rw [← hq]; exact it_wide HG.out.wide y)
              rw [hp] at c1; rw [hq] at c2
              have HP := Lib.hid hp; have HQ := Lib.hid hq
              have hzx : B ≤ wr.heap.size := by have := bx.size; have := HB.out; omega
              obtain ⟨bb, o, hA, hlt', hcl⟩ := (HS.out.keep (by rw [HB.out]; exact bx)).at_ (by omega)
              subst hA
              obtain ⟨R1, m1, d1, c3, e1⟩ := hcl j hlj
              obtain ⟨R2, m2, d2, c4, e2⟩ := hcl y (by omega)
              have HS1 := Lib.hid e1; have HS2 := Lib.hid e2
              obtain ⟨mb, hm⟩ : ∃ mb, alikeG (li L j) (li L y) = mb := ⟨_, rfl⟩
              have hM : M j y = mb := by rw [← HMM.out]; exact hm
              have HM := Lib.hid hm; have HMB := Lib.hid hM
              have hgl : g < wr.heap.size := (HG.out.row.lt g rfl).2
              have KS : ∀ (W W' : World), (fun (W : World) => Below wr.heap.size wr W ∧ (W.cell? ⟨g, j, none⟩ = some (.int .i64 p) ∧ W.cell? ⟨g, y, none⟩ = some (.int .i64 q) ∧ W.cell? ⟨bb, o + j, none⟩ = some (.slice R1 m1 d1) ∧ W.cell? ⟨bb, o + y, none⟩ = some (.slice R2 m2 d2))) W → Below W.heap.size W W' → (fun (W : World) => Below wr.heap.size wr W ∧ (W.cell? ⟨g, j, none⟩ = some (.int .i64 p) ∧ W.cell? ⟨g, y, none⟩ = some (.int .i64 q) ∧ W.cell? ⟨bb, o + j, none⟩ = some (.slice R1 m1 d1) ∧ W.cell? ⟨bb, o + y, none⟩ = some (.slice R2 m2 d2))) W' := by
                intro W W' h hb
                have t1 : g < W.heap.size := Nat.lt_of_lt_of_le hgl h.1.size
                have t2 : bb < W.heap.size := Nat.lt_of_lt_of_le hlt' h.1.size
                exact ⟨h.1.trans (hb.mono h.1.size), (hb.cell (p := ⟨g, j, none⟩) t1).trans h.2.1, (hb.cell (p := ⟨g, y, none⟩) t1).trans h.2.2.1, (hb.cell (p := ⟨bb, o + j, none⟩) t2).trans h.2.2.2.1, (hb.cell (p := ⟨bb, o + y, none⟩) t2).trans h.2.2.2.2⟩
              have dd := (Below.refl wr.heap.size wr).drew
              clear hp hq hs2 hl2 hm hM hv e1 e2 hcl
              by_cases hpq : p = q
              · have dpq : decide (p = q) = true := decide_eq_true hpq
                have dpq' : (p == q) = true := by simp [hpq]
                go_upto_region 16 with fail
                refine wp_region_tail 20 21 (fun (W : World) => Below wr.heap.size wr W ∧ (W.cell? ⟨g, j, none⟩ = some (.int .i64 p) ∧ W.cell? ⟨g, y, none⟩ = some (.int .i64 q) ∧ W.cell? ⟨bb, o + j, none⟩ = some (.slice R1 m1 d1) ∧ W.cell? ⟨bb, o + y, none⟩ = some (.slice R2 m2 d2))) (by kernel_rfl) (by rfl) (by decide) ?_
                have HS : ((fun (W : World) => Below wr.heap.size wr W ∧ (W.cell? ⟨g, j, none⟩ = some (.int .i64 p) ∧ W.cell? ⟨g, y, none⟩ = some (.int .i64 q) ∧ W.cell? ⟨bb, o + j, none⟩ = some (.slice R1 m1 d1) ∧ W.cell? ⟨bb, o + y, none⟩ = some (.slice R2 m2 d2)))) _ := ⟨dd, c1, c2, c3, c4⟩
                refine wpAnyT_take (i := 0) (v := ?vv1) rfl (by kernel_rfl) (fun _ _ _ h => h) (Or.inl ⟨by rfl, fun w hSw => ?yy1⟩) HS ?rr1
                case yy1 =>
                  (try dsimp only at hSw); go_simp
                  try with_reducible rfl
                try simp only [Act.put, List.setIfInBounds_toArray, List.set_cons_zero, List.set_cons_succ]
                refine wpAnyT_take (i := 1) (v := ?vv2) rfl (by kernel_rfl) (fun _ _ _ h => h) (Or.inl ⟨by rfl, fun w hSw => ?yy2⟩) HS ?rr2
                case yy2 =>
                  (try dsimp only at hSw); go_simp
                  try with_reducible rfl
                try simp only [Act.put, List.setIfInBounds_toArray, List.set_cons_zero, List.set_cons_succ]
                refine wpAnyT_take (i := 2) (v := ?vv3) rfl (by kernel_rfl) (fun _ _ _ h => h) (Or.inl ⟨by rfl, fun w hSw => ?yy3⟩) HS ?rr3
                case yy3 =>
                  (try dsimp only at hSw); go_simp
                  try with_reducible rfl
                try simp only [Act.put, List.setIfInBounds_toArray, List.set_cons_zero, List.set_cons_succ]
                refine wpAnyT_take (i := 3) (v := ?vv4) rfl (by kernel_rfl) (fun _ _ _ h => h) (Or.inl ⟨by rfl, fun w hSw => ?yy4⟩) HS ?rr4
                case yy4 =>
                  (try dsimp only at hSw); go_simp
                  try with_reducible rfl
                try simp only [Act.put, List.setIfInBounds_toArray, List.set_cons_zero, List.set_cons_succ]
                refine wpAnyT_take (i := 4) (v := ?vv5) rfl (by kernel_rfl) (fun _ _ _ h => h) (Or.inl ⟨by rfl, fun w hSw => ?yy5⟩) HS ?rr5
                case yy5 =>
                  (try dsimp only at hSw); go_simp
                  try with_reducible rfl
                try simp only [Act.put, List.setIfInBounds_toArray, List.set_cons_zero, List.set_cons_succ]
                refine wpAnyT_take (i := 5) (v := ?vv6) rfl (by kernel_rfl) (fun _ _ _ h => h) (Or.inl ⟨by rfl, fun w hSw => ?yy6⟩) HS ?rr6
                case yy6 =>
                  (try dsimp only at hSw); go_simp
                  try with_reducible rfl
                try simp only [Act.put, List.setIfInBounds_toArray, List.set_cons_zero, List.set_cons_succ]
                refine wpAnyT_take (i := 6) (v := ?vv7) rfl (by kernel_rfl) (fun _ _ _ h => h) (Or.inl ⟨by rfl, fun w hSw => ?yy7⟩) HS ?rr7
                case yy7 =>
                  (try dsimp only at hSw); go_simp
                  try with_reducible rfl
                try simp only [Act.put, List.setIfInBounds_toArray, List.set_cons_zero, List.set_cons_succ]
                refine wpAnyT_take (i := 7) (v := ?vv8) rfl (by kernel_rfl) (fun _ _ _ h => h) (Or.inl ⟨by rfl, fun w hSw => ?yy8⟩) HS ?rr8
                case yy8 =>
                  (try dsimp only at hSw); go_simp
                  try with_reducible rfl
                try simp only [Act.put, List.setIfInBounds_toArray, List.set_cons_zero, List.set_cons_succ]
                refine wpAnyT_take (i := 8) (v := ?vv9) rfl (by kernel_rfl) (fun _ _ _ h => h) (Or.inl ⟨by rfl, fun w hSw => ?yy9⟩) HS ?rr9
                case yy9 =>
                  (try dsimp only at hSw); go_simp
                  try with_reducible rfl
                try simp only [Act.put, List.setIfInBounds_toArray, List.set_cons_zero, List.set_cons_succ]
                refine wpAnyT_take (i := 9) (v := .bool true) rfl (by kernel_rfl) (fun _ _ _ h => h) (Or.inl ⟨by rfl, fun w hSw => ?_⟩) HS ?_
                · (try dsimp only at hSw); go_simp
                try simp only [Act.put, List.setIfInBounds_toArray, List.set_cons_zero, List.set_cons_succ]
                refine wpAnyT_take (i := 10) (v := undef) rfl (by kernel_rfl) (fun _ _ _ h => h) (Or.inr ⟨by kernel_rfl, rfl⟩) HS ?_
                try simp only [Act.put, List.setIfInBounds_toArray, List.set_cons_zero, List.set_cons_succ]
                refine wpAnyT_take (i := 11) (v := undef) rfl (by kernel_rfl) (fun _ _ _ h => h) (Or.inr ⟨by kernel_rfl, rfl⟩) HS ?_
                try simp only [Act.put, List.setIfInBounds_toArray, List.set_cons_zero, List.set_cons_succ]
                refine wpAnyT_take (i := 12) (v := undef) rfl (by kernel_rfl) (fun _ _ _ h => h) (Or.inr ⟨by kernel_rfl, rfl⟩) HS ?_
                try simp only [Act.put, List.setIfInBounds_toArray, List.set_cons_zero, List.set_cons_succ]
                refine wpAnyT_take (i := 13) (v := undef) rfl (by kernel_rfl) (fun _ _ _ h => h) (Or.inr ⟨by kernel_rfl, rfl⟩) HS ?_
                try simp only [Act.put, List.setIfInBounds_toArray, List.set_cons_zero, List.set_cons_succ]
                refine wpAnyT_take (i := 14) (v := undef) rfl (by kernel_rfl) (fun _ _ _ h => h) (Or.inr ⟨by kernel_rfl, rfl⟩) HS ?_
                try simp only [Act.put, List.setIfInBounds_toArray, List.set_cons_zero, List.set_cons_succ]
                refine wpAnyT_take (i := 15) (v := undef) rfl (by kernel_rfl) (fun _ _ _ h => h) (Or.inr ⟨by kernel_rfl, rfl⟩) HS ?_
                try simp only [Act.put, List.setIfInBounds_toArray, List.set_cons_zero, List.set_cons_succ]
                refine wpAnyT_take (i := 16) (v := undef) rfl (by kernel_rfl) (fun _ _ _ h => h) (Or.inr ⟨by kernel_rfl, rfl⟩) HS ?_
                try simp only [Act.put, List.setIfInBounds_toArray, List.set_cons_zero, List.set_cons_succ]
                refine wpAnyT_take (i := 17) (v := undef) rfl (by kernel_rfl) (fun _ _ _ h => h) (Or.inr ⟨by kernel_rfl, rfl⟩) HS ?_
                try simp only [Act.put, List.setIfInBounds_toArray, List.set_cons_zero, List.set_cons_succ]
                refine wpAnyT_take (i := 18) (v := undef) rfl (by kernel_rfl) (fun _ _ _ h => h) (Or.inr ⟨by kernel_rfl, rfl⟩) HS ?_
                try simp only [Act.put, List.setIfInBounds_toArray, List.set_cons_zero, List.set_cons_succ]
                refine wpAnyT_take (i := 19) (v := undef) rfl (by kernel_rfl) (fun _ _ _ h => h) (Or.inr ⟨by kernel_rfl, rfl⟩) HS ?_
                try simp only [Act.put, List.setIfInBounds_toArray, List.set_cons_zero, List.set_cons_succ]
                refine ⟨by kernel_rfl, ?_⟩
                simp only [List.drop_succ_cons, List.drop_zero]
                have hsq := HS
                clear HS KS
                generalize wr.drew = wq at hsq ⊢
                have hst : rowG M j (y + 1) s1 = s2 := by rw [rowG_succ, HS2E.out]; exact if_pos (.inr (.inl (by rw [HP.out, HQ.out]; exact hpq)))
                have bq : Below B w wq := bx.trans (hsq.1.mono hzx)
                have HG2 : Hid (Goti wq B 3 (.slice (some ⟨g, 0, none⟩) k k) k (rowG M j (y + 1) s1).1) := Lib.hid (by rw [hst]; exact HG.out.below hsq.1)
                have HE : Hid ((rowG M j (y + 1) s1).2 = v) := Lib.hid (by rw [hst]; exact HV.out)
                have WV := HN.out
                clear hst HG hsq
                go_wp2_with fail
                go_roundw
                case rel => exact ⟨y + 1, v, by omega, by go_num, rfl, HE, HG2, HN, bq⟩
                case measure => simp [intOf]; omega
              · have dpq : decide (p = q) = false := decide_eq_false hpq
                have dpq' : (p == q) = false := by simp [hpq]
                cases mb with
                | false =>
                  go_upto_region 16 with fail
                  refine wp_region_tail 20 21 (fun (W : World) => Below wr.heap.size wr W ∧ (W.cell? ⟨g, j, none⟩ = some (.int .i64 p) ∧ W.cell? ⟨g, y, none⟩ = some (.int .i64 q) ∧ W.cell? ⟨bb, o + j, none⟩ = some (.slice R1 m1 d1) ∧ W.cell? ⟨bb, o + y, none⟩ = some (.slice R2 m2 d2))) (by kernel_rfl) (by rfl) (by decide) ?_
                  have HS : ((fun (W : World) => Below wr.heap.size wr W ∧ (W.cell? ⟨g, j, none⟩ = some (.int .i64 p) ∧ W.cell? ⟨g, y, none⟩ = some (.int .i64 q) ∧ W.cell? ⟨bb, o + j, none⟩ = some (.slice R1 m1 d1) ∧ W.cell? ⟨bb, o + y, none⟩ = some (.slice R2 m2 d2)))) _ := ⟨dd, c1, c2, c3, c4⟩
                  refine wpAnyT_take (i := 0) (v := ?vv10) rfl (by kernel_rfl) (fun _ _ _ h => h) (Or.inl ⟨by rfl, fun w hSw => ?yy10⟩) HS ?rr10
                  case yy10 =>
                    (try dsimp only at hSw); go_simp
                    try with_reducible rfl
                  try simp only [Act.put, List.setIfInBounds_toArray, List.set_cons_zero, List.set_cons_succ]
                  refine wpAnyT_take (i := 1) (v := ?vv11) rfl (by kernel_rfl) (fun _ _ _ h => h) (Or.inl ⟨by rfl, fun w hSw => ?yy11⟩) HS ?rr11
                  case yy11 =>
                    (try dsimp only at hSw); go_simp
                    try with_reducible rfl
                  try simp only [Act.put, List.setIfInBounds_toArray, List.set_cons_zero, List.set_cons_succ]
                  refine wpAnyT_take (i := 2) (v := ?vv12) rfl (by kernel_rfl) (fun _ _ _ h => h) (Or.inl ⟨by rfl, fun w hSw => ?yy12⟩) HS ?rr12
                  case yy12 =>
                    (try dsimp only at hSw); go_simp
                    try with_reducible rfl
                  try simp only [Act.put, List.setIfInBounds_toArray, List.set_cons_zero, List.set_cons_succ]
                  refine wpAnyT_take (i := 3) (v := ?vv13) rfl (by kernel_rfl) (fun _ _ _ h => h) (Or.inl ⟨by rfl, fun w hSw => ?yy13⟩) HS ?rr13
                  case yy13 =>
                    (try dsimp only at hSw); go_simp
                    try with_reducible rfl
                  try simp only [Act.put, List.setIfInBounds_toArray, List.set_cons_zero, List.set_cons_succ]
                  refine wpAnyT_take (i := 4) (v := ?vv14) rfl (by kernel_rfl) (fun _ _ _ h => h) (Or.inl ⟨by rfl, fun w hSw => ?yy14⟩) HS ?rr14
                  case yy14 =>
                    (try dsimp only at hSw); go_simp
                    try with_reducible rfl
                  try simp only [Act.put, List.setIfInBounds_toArray, List.set_cons_zero, List.set_cons_succ]
                  refine wpAnyT_take (i := 5) (v := ?vv15) rfl (by kernel_rfl) (fun _ _ _ h => h) (Or.inl ⟨by rfl, fun w hSw => ?yy15⟩) HS ?rr15
                  case yy15 =>
                    (try dsimp only at hSw); go_simp
                    try with_reducible rfl
                  try simp only [Act.put, List.setIfInBounds_toArray, List.set_cons_zero, List.set_cons_succ]
                  refine wpAnyT_take (i := 6) (v := ?vv16) rfl (by kernel_rfl) (fun _ _ _ h => h) (Or.inl ⟨by rfl, fun w hSw => ?yy16⟩) HS ?rr16
                  case yy16 =>
                    (try dsimp only at hSw); go_simp
                    try with_reducible rfl
                  try simp only [Act.put, List.setIfInBounds_toArray, List.set_cons_zero, List.set_cons_succ]
                  refine wpAnyT_take (i := 7) (v := ?vv17) rfl (by kernel_rfl) (fun _ _ _ h => h) (Or.inl ⟨by rfl, fun w hSw => ?yy17⟩) HS ?rr17
                  case yy17 =>
                    (try dsimp only at hSw); go_simp
                    try with_reducible rfl
                  try simp only [Act.put, List.setIfInBounds_toArray, List.set_cons_zero, List.set_cons_succ]
                  refine wpAnyT_take (i := 8) (v := ?vv18) rfl (by kernel_rfl) (fun _ _ _ h => h) (Or.inl ⟨by rfl, fun w hSw => ?yy18⟩) HS ?rr18
                  case yy18 =>
                    (try dsimp only at hSw); go_simp
                    try with_reducible rfl
                  try simp only [Act.put, List.setIfInBounds_toArray, List.set_cons_zero, List.set_cons_succ]
                  refine wpAnyT_take (i := 9) (v := .bool false) rfl (by kernel_rfl) (fun _ _ _ h => h) (Or.inl ⟨by rfl, fun w hSw => ?_⟩) HS ?_
                  · (try dsimp only at hSw); go_simp
                  try simp only [Act.put, List.setIfInBounds_toArray, List.set_cons_zero, List.set_cons_succ]
                  refine wpAnyT_take (i := 10) (v := ?vv19) rfl (by kernel_rfl) (fun _ _ _ h => h) (Or.inl ⟨by rfl, fun w hSw => ?yy19⟩) HS ?rr19
                  case yy19 =>
                    (try dsimp only at hSw); go_simp
                    try with_reducible rfl
                  try simp only [Act.put, List.setIfInBounds_toArray, List.set_cons_zero, List.set_cons_succ]
                  refine wpAnyT_take (i := 11) (v := ?vv20) rfl (by kernel_rfl) (fun _ _ _ h => h) (Or.inl ⟨by rfl, fun w hSw => ?yy20⟩) HS ?rr20
                  case yy20 =>
                    (try dsimp only at hSw); go_simp
                    try with_reducible rfl
                  try simp only [Act.put, List.setIfInBounds_toArray, List.set_cons_zero, List.set_cons_succ]
                  refine wpAnyT_take (i := 12) (v := ?vv21) rfl (by kernel_rfl) (fun _ _ _ h => h) (Or.inl ⟨by rfl, fun w hSw => ?yy21⟩) HS ?rr21
                  case yy21 =>
                    (try dsimp only at hSw); go_simp
                    try with_reducible rfl
                  try simp only [Act.put, List.setIfInBounds_toArray, List.set_cons_zero, List.set_cons_succ]
                  refine wpAnyT_take (i := 13) (v := ?vv22) rfl (by kernel_rfl) (fun _ _ _ h => h) (Or.inl ⟨by rfl, fun w hSw => ?yy22⟩) HS ?rr22
                  case yy22 =>
                    (try dsimp only at hSw); go_simp
                    try with_reducible rfl
                  try simp only [Act.put, List.setIfInBounds_toArray, List.set_cons_zero, List.set_cons_succ]
                  refine wpAnyT_take (i := 14) (v := ?vv23) rfl (by kernel_rfl) (fun _ _ _ h => h) (Or.inl ⟨by rfl, fun w hSw => ?yy23⟩) HS ?rr23
                  case yy23 =>
                    (try dsimp only at hSw); go_simp
                    try with_reducible rfl
                  try simp only [Act.put, List.setIfInBounds_toArray, List.set_cons_zero, List.set_cons_succ]
                  refine wpAnyT_take (i := 15) (v := ?vv24) rfl (by kernel_rfl) (fun _ _ _ h => h) (Or.inl ⟨by rfl, fun w hSw => ?yy24⟩) HS ?rr24
                  case yy24 =>
                    (try dsimp only at hSw); go_simp
                    try with_reducible rfl
                  try simp only [Act.put, List.setIfInBounds_toArray, List.set_cons_zero, List.set_cons_succ]
                  refine wpAnyT_take (i := 16) (v := ?vv25) rfl (by kernel_rfl) (fun _ _ _ h => h) (Or.inl ⟨by rfl, fun w hSw => ?yy25⟩) HS ?rr25
                  case yy25 =>
                    (try dsimp only at hSw); go_simp
                    try with_reducible rfl
                  try simp only [Act.put, List.setIfInBounds_toArray, List.set_cons_zero, List.set_cons_succ]
                  refine wpAnyT_take (i := 17) (v := ?vv26) rfl (by kernel_rfl) (fun _ _ _ h => h) (Or.inl ⟨by rfl, fun w hSw => ?yy26⟩) HS ?rr26
                  case yy26 =>
                    (try dsimp only at hSw); go_simp
                    try with_reducible rfl
                  try simp only [Act.put, List.setIfInBounds_toArray, List.set_cons_zero, List.set_cons_succ]
                  refine wpAnyT_one (k := 18) rfl (by kernel_rfl) (by decide) (fun K hK => ?_)
                  go_simp
                  refine (ggalike_any R1 m1 d1 (li L j) R2 m2 d2 (li L y) _ (HS1.out.keep HS.1) (HS2.out.keep HS.1)).mono ?_
                  rintro e yw ⟨rfl, hy1⟩
                  rw [HM.out]
                  have HS : ((fun (W : World) => Below wr.heap.size wr W ∧ (W.cell? ⟨g, j, none⟩ = some (.int .i64 p) ∧ W.cell? ⟨g, y, none⟩ = some (.int .i64 q) ∧ W.cell? ⟨bb, o + j, none⟩ = some (.slice R1 m1 d1) ∧ W.cell? ⟨bb, o + y, none⟩ = some (.slice R2 m2 d2)))) _ := KS _ _ HS hy1
                  refine hK _ _ HS ?_
                  clear hK K
                  try simp only [Act.put, List.setIfInBounds_toArray, List.set_cons_zero, List.set_cons_succ]
                  refine wpAnyT_take (i := 19) (v := ?vv27) rfl (by kernel_rfl) (fun _ _ _ h => h) (Or.inl ⟨by rfl, fun w hSw => ?yy27⟩) HS ?rr27
                  case yy27 =>
                    (try dsimp only at hSw); go_simp
                    try with_reducible rfl
                  try simp only [Act.put, List.setIfInBounds_toArray, List.set_cons_zero, List.set_cons_succ]
                  refine ⟨by kernel_rfl, ?_⟩
                  simp only [List.drop_succ_cons, List.drop_zero]
                  have hsq := HS
                  clear HS KS
                  generalize yw = wq at hsq ⊢
                  have hst : rowG M j (y + 1) s1 = s2 := by rw [rowG_succ, HS2E.out]; exact if_pos (.inr (.inr HMB.out))
                  have bq : Below B w wq := bx.trans (hsq.1.mono hzx)
                  have HG2 : Hid (Goti wq B 3 (.slice (some ⟨g, 0, none⟩) k k) k (rowG M j (y + 1) s1).1) := Lib.hid (by rw [hst]; exact HG.out.below hsq.1)
                  have HE : Hid ((rowG M j (y + 1) s1).2 = v) := Lib.hid (by rw [hst]; exact HV.out)
                  have WV := HN.out
                  clear hst HG hsq
                  go_wp2_with fail
                  go_roundw
                  case rel => exact ⟨y + 1, v, by omega, by go_num, rfl, HE, HG2, HN, bq⟩
                  case measure => simp [intOf]; omega
                | true =>
                  obtain ⟨u, hu⟩ : ∃ u, v - 1 = u := ⟨_, rfl⟩
                  have hwu : IntKind.i64.wrap (v - 1) = u := by rw [← hu]; have := hgb.1; have := hgb.2; exact IntWalk.i64_in _ (by omega)
                  have hwu' : IntKind.i64.wrap u = u := by rw [← hu]; have := hgb.1; have := hgb.2; exact IntWalk.i64_in _ (by omega)
                  have hst : rowG M j (y + 1) s1 = (mgTo s2.1 p q k, u) := by
                    rw [rowG_succ, HS2E.out]
                    unfold stepG
                    rw [if_neg (fun h => by
                      rcases h with h | h | h
                      · rw [HV.out] at h; exact hv1 h
                      · rw [HP.out, HQ.out] at h; exact hpq h
                      · rw [HMB.out] at h; cases h), HP.out, HQ.out, HL2.out, HV.out, hu]
                  have HST := Lib.hid hst
                  clear hst
                  go_upto_region 16 with fail
                  refine wp_region_tail 20 21 (fun (W : World) => Below wr.heap.size wr W ∧ (W.cell? ⟨g, j, none⟩ = some (.int .i64 p) ∧ W.cell? ⟨g, y, none⟩ = some (.int .i64 q) ∧ W.cell? ⟨bb, o + j, none⟩ = some (.slice R1 m1 d1) ∧ W.cell? ⟨bb, o + y, none⟩ = some (.slice R2 m2 d2))) (by kernel_rfl) (by rfl) (by decide) ?_
                  have HS : ((fun (W : World) => Below wr.heap.size wr W ∧ (W.cell? ⟨g, j, none⟩ = some (.int .i64 p) ∧ W.cell? ⟨g, y, none⟩ = some (.int .i64 q) ∧ W.cell? ⟨bb, o + j, none⟩ = some (.slice R1 m1 d1) ∧ W.cell? ⟨bb, o + y, none⟩ = some (.slice R2 m2 d2)))) _ := ⟨dd, c1, c2, c3, c4⟩
                  refine wpAnyT_take (i := 0) (v := ?vv28) rfl (by kernel_rfl) (fun _ _ _ h => h) (Or.inl ⟨by rfl, fun w hSw => ?yy28⟩) HS ?rr28
                  case yy28 =>
                    (try dsimp only at hSw); go_simp
                    try with_reducible rfl
                  try simp only [Act.put, List.setIfInBounds_toArray, List.set_cons_zero, List.set_cons_succ]
                  refine wpAnyT_take (i := 1) (v := ?vv29) rfl (by kernel_rfl) (fun _ _ _ h => h) (Or.inl ⟨by rfl, fun w hSw => ?yy29⟩) HS ?rr29
                  case yy29 =>
                    (try dsimp only at hSw); go_simp
                    try with_reducible rfl
                  try simp only [Act.put, List.setIfInBounds_toArray, List.set_cons_zero, List.set_cons_succ]
                  refine wpAnyT_take (i := 2) (v := ?vv30) rfl (by kernel_rfl) (fun _ _ _ h => h) (Or.inl ⟨by rfl, fun w hSw => ?yy30⟩) HS ?rr30
                  case yy30 =>
                    (try dsimp only at hSw); go_simp
                    try with_reducible rfl
                  try simp only [Act.put, List.setIfInBounds_toArray, List.set_cons_zero, List.set_cons_succ]
                  refine wpAnyT_take (i := 3) (v := ?vv31) rfl (by kernel_rfl) (fun _ _ _ h => h) (Or.inl ⟨by rfl, fun w hSw => ?yy31⟩) HS ?rr31
                  case yy31 =>
                    (try dsimp only at hSw); go_simp
                    try with_reducible rfl
                  try simp only [Act.put, List.setIfInBounds_toArray, List.set_cons_zero, List.set_cons_succ]
                  refine wpAnyT_take (i := 4) (v := ?vv32) rfl (by kernel_rfl) (fun _ _ _ h => h) (Or.inl ⟨by rfl, fun w hSw => ?yy32⟩) HS ?rr32
                  case yy32 =>
                    (try dsimp only at hSw); go_simp
                    try with_reducible rfl
                  try simp only [Act.put, List.setIfInBounds_toArray, List.set_cons_zero, List.set_cons_succ]
                  refine wpAnyT_take (i := 5) (v := ?vv33) rfl (by kernel_rfl) (fun _ _ _ h => h) (Or.inl ⟨by rfl, fun w hSw => ?yy33⟩) HS ?rr33
                  case yy33 =>
                    (try dsimp only at hSw); go_simp
                    try with_reducible rfl
                  try simp only [Act.put, List.setIfInBounds_toArray, List.set_cons_zero, List.set_cons_succ]
                  refine wpAnyT_take (i := 6) (v := ?vv34) rfl (by kernel_rfl) (fun _ _ _ h => h) (Or.inl ⟨by rfl, fun w hSw => ?yy34⟩) HS ?rr34
                  case yy34 =>
                    (try dsimp only at hSw); go_simp
                    try with_reducible rfl
                  try simp only [Act.put, List.setIfInBounds_toArray, List.set_cons_zero, List.set_cons_succ]
                  refine wpAnyT_take (i := 7) (v := ?vv35) rfl (by kernel_rfl) (fun _ _ _ h => h) (Or.inl ⟨by rfl, fun w hSw => ?yy35⟩) HS ?rr35
                  case yy35 =>
                    (try dsimp only at hSw); go_simp
                    try with_reducible rfl
                  try simp only [Act.put, List.setIfInBounds_toArray, List.set_cons_zero, List.set_cons_succ]
                  refine wpAnyT_take (i := 8) (v := ?vv36) rfl (by kernel_rfl) (fun _ _ _ h => h) (Or.inl ⟨by rfl, fun w hSw => ?yy36⟩) HS ?rr36
                  case yy36 =>
                    (try dsimp only at hSw); go_simp
                    try with_reducible rfl
                  try simp only [Act.put, List.setIfInBounds_toArray, List.set_cons_zero, List.set_cons_succ]
                  refine wpAnyT_take (i := 9) (v := .bool false) rfl (by kernel_rfl) (fun _ _ _ h => h) (Or.inl ⟨by rfl, fun w hSw => ?_⟩) HS ?_
                  · (try dsimp only at hSw); go_simp
                  try simp only [Act.put, List.setIfInBounds_toArray, List.set_cons_zero, List.set_cons_succ]
                  refine wpAnyT_take (i := 10) (v := ?vv37) rfl (by kernel_rfl) (fun _ _ _ h => h) (Or.inl ⟨by rfl, fun w hSw => ?yy37⟩) HS ?rr37
                  case yy37 =>
                    (try dsimp only at hSw); go_simp
                    try with_reducible rfl
                  try simp only [Act.put, List.setIfInBounds_toArray, List.set_cons_zero, List.set_cons_succ]
                  refine wpAnyT_take (i := 11) (v := ?vv38) rfl (by kernel_rfl) (fun _ _ _ h => h) (Or.inl ⟨by rfl, fun w hSw => ?yy38⟩) HS ?rr38
                  case yy38 =>
                    (try dsimp only at hSw); go_simp
                    try with_reducible rfl
                  try simp only [Act.put, List.setIfInBounds_toArray, List.set_cons_zero, List.set_cons_succ]
                  refine wpAnyT_take (i := 12) (v := ?vv39) rfl (by kernel_rfl) (fun _ _ _ h => h) (Or.inl ⟨by rfl, fun w hSw => ?yy39⟩) HS ?rr39
                  case yy39 =>
                    (try dsimp only at hSw); go_simp
                    try with_reducible rfl
                  try simp only [Act.put, List.setIfInBounds_toArray, List.set_cons_zero, List.set_cons_succ]
                  refine wpAnyT_take (i := 13) (v := ?vv40) rfl (by kernel_rfl) (fun _ _ _ h => h) (Or.inl ⟨by rfl, fun w hSw => ?yy40⟩) HS ?rr40
                  case yy40 =>
                    (try dsimp only at hSw); go_simp
                    try with_reducible rfl
                  try simp only [Act.put, List.setIfInBounds_toArray, List.set_cons_zero, List.set_cons_succ]
                  refine wpAnyT_take (i := 14) (v := ?vv41) rfl (by kernel_rfl) (fun _ _ _ h => h) (Or.inl ⟨by rfl, fun w hSw => ?yy41⟩) HS ?rr41
                  case yy41 =>
                    (try dsimp only at hSw); go_simp
                    try with_reducible rfl
                  try simp only [Act.put, List.setIfInBounds_toArray, List.set_cons_zero, List.set_cons_succ]
                  refine wpAnyT_take (i := 15) (v := ?vv42) rfl (by kernel_rfl) (fun _ _ _ h => h) (Or.inl ⟨by rfl, fun w hSw => ?yy42⟩) HS ?rr42
                  case yy42 =>
                    (try dsimp only at hSw); go_simp
                    try with_reducible rfl
                  try simp only [Act.put, List.setIfInBounds_toArray, List.set_cons_zero, List.set_cons_succ]
                  refine wpAnyT_take (i := 16) (v := ?vv43) rfl (by kernel_rfl) (fun _ _ _ h => h) (Or.inl ⟨by rfl, fun w hSw => ?yy43⟩) HS ?rr43
                  case yy43 =>
                    (try dsimp only at hSw); go_simp
                    try with_reducible rfl
                  try simp only [Act.put, List.setIfInBounds_toArray, List.set_cons_zero, List.set_cons_succ]
                  refine wpAnyT_take (i := 17) (v := ?vv44) rfl (by kernel_rfl) (fun _ _ _ h => h) (Or.inl ⟨by rfl, fun w hSw => ?yy44⟩) HS ?rr44
                  case yy44 =>
                    (try dsimp only at hSw); go_simp
                    try with_reducible rfl
                  try simp only [Act.put, List.setIfInBounds_toArray, List.set_cons_zero, List.set_cons_succ]
                  refine wpAnyT_one (k := 18) rfl (by kernel_rfl) (by decide) (fun K hK => ?_)
                  go_simp
                  refine (ggalike_any R1 m1 d1 (li L j) R2 m2 d2 (li L y) _ (HS1.out.keep HS.1) (HS2.out.keep HS.1)).mono ?_
                  rintro e yw ⟨rfl, hy1⟩
                  rw [HM.out]
                  have HS : ((fun (W : World) => Below wr.heap.size wr W ∧ (W.cell? ⟨g, j, none⟩ = some (.int .i64 p) ∧ W.cell? ⟨g, y, none⟩ = some (.int .i64 q) ∧ W.cell? ⟨bb, o + j, none⟩ = some (.slice R1 m1 d1) ∧ W.cell? ⟨bb, o + y, none⟩ = some (.slice R2 m2 d2)))) _ := KS _ _ HS hy1
                  refine hK _ _ HS ?_
                  clear hK K
                  try simp only [Act.put, List.setIfInBounds_toArray, List.set_cons_zero, List.set_cons_succ]
                  refine wpAnyT_take (i := 19) (v := ?vv45) rfl (by kernel_rfl) (fun _ _ _ h => h) (Or.inl ⟨by rfl, fun w hSw => ?yy45⟩) HS ?rr45
                  case yy45 =>
                    (try dsimp only at hSw); go_simp
                    try with_reducible rfl
                  try simp only [Act.put, List.setIfInBounds_toArray, List.set_cons_zero, List.set_cons_succ]
                  refine ⟨by kernel_rfl, ?_⟩
                  simp only [List.drop_succ_cons, List.drop_zero]
                  have hsq := HS
                  clear HS KS
                  generalize yw = wq at hsq ⊢
                  have hbq : Below B w wq := bx.trans (hsq.1.mono hzx)
                  have gq := Lib.hid (HG.out.below hsq.1)
                  obtain ⟨hq1, k1, k2, _, _⟩ := hsq
                  have hzq : B ≤ wq.heap.size := Nat.le_trans hzx hq1.size
                  have dd2 := (Below.refl wq.heap.size wq).drew
                  go_upto_region 17 with fail
                  refine wp_region_tail 9 10 (fun (W : World) => Below wq.heap.size wq W ∧ (W.cell? ⟨g, j, none⟩ = some (.int .i64 p) ∧ W.cell? ⟨g, y, none⟩ = some (.int .i64 q))) (by kernel_rfl) (by rfl) (by decide) ?_
                  have HS : ((fun (W : World) => Below wq.heap.size wq W ∧ (W.cell? ⟨g, j, none⟩ = some (.int .i64 p) ∧ W.cell? ⟨g, y, none⟩ = some (.int .i64 q)))) _ := ⟨dd2, k1, k2⟩
                  refine wpAnyT_take (i := 0) (v := ?vv46) rfl (by kernel_rfl) (fun _ _ _ h => h) (Or.inl ⟨by rfl, fun w hSw => ?yy46⟩) HS ?rr46
                  case yy46 =>
                    (try dsimp only at hSw); go_simp
                    try with_reducible rfl
                  try simp only [Act.put, List.setIfInBounds_toArray, List.set_cons_zero, List.set_cons_succ]
                  refine wpAnyT_take (i := 1) (v := ?vv47) rfl (by kernel_rfl) (fun _ _ _ h => h) (Or.inl ⟨by rfl, fun w hSw => ?yy47⟩) HS ?rr47
                  case yy47 =>
                    (try dsimp only at hSw); go_simp
                    try with_reducible rfl
                  try simp only [Act.put, List.setIfInBounds_toArray, List.set_cons_zero, List.set_cons_succ]
                  refine wpAnyT_take (i := 2) (v := ?vv48) rfl (by kernel_rfl) (fun _ _ _ h => h) (Or.inl ⟨by rfl, fun w hSw => ?yy48⟩) HS ?rr48
                  case yy48 =>
                    (try dsimp only at hSw); go_simp
                    try with_reducible rfl
                  try simp only [Act.put, List.setIfInBounds_toArray, List.set_cons_zero, List.set_cons_succ]
                  refine wpAnyT_take (i := 3) (v := ?vv49) rfl (by kernel_rfl) (fun _ _ _ h => h) (Or.inl ⟨by rfl, fun w hSw => ?yy49⟩) HS ?rr49
                  case yy49 =>
                    (try dsimp only at hSw); go_simp
                    try with_reducible rfl
                  try simp only [Act.put, List.setIfInBounds_toArray, List.set_cons_zero, List.set_cons_succ]
                  refine wpAnyT_take (i := 4) (v := ?vv50) rfl (by kernel_rfl) (fun _ _ _ h => h) (Or.inl ⟨by rfl, fun w hSw => ?yy50⟩) HS ?rr50
                  case yy50 =>
                    (try dsimp only at hSw); go_simp
                    try with_reducible rfl
                  try simp only [Act.put, List.setIfInBounds_toArray, List.set_cons_zero, List.set_cons_succ]
                  refine wpAnyT_take (i := 5) (v := ?vv51) rfl (by kernel_rfl) (fun _ _ _ h => h) (Or.inl ⟨by rfl, fun w hSw => ?yy51⟩) HS ?rr51
                  case yy51 =>
                    (try dsimp only at hSw); go_simp
                    try with_reducible rfl
                  try simp only [Act.put, List.setIfInBounds_toArray, List.set_cons_zero, List.set_cons_succ]
                  refine wpAnyT_take (i := 6) (v := ?vv52) rfl (by kernel_rfl) (fun _ _ _ h => h) (Or.inl ⟨by rfl, fun w hSw => ?yy52⟩) HS ?rr52
                  case yy52 =>
                    (try dsimp only at hSw); go_simp
                    try with_reducible rfl
                  try simp only [Act.put, List.setIfInBounds_toArray, List.set_cons_zero, List.set_cons_succ]
                  refine wpAnyT_take (i := 7) (v := ?vv53) rfl (by kernel_rfl) (fun _ _ _ h => h) (Or.inl ⟨by rfl, fun w hSw => ?yy53⟩) HS ?rr53
                  case yy53 =>
                    (try dsimp only at hSw); go_simp
                    try with_reducible rfl
                  try simp only [Act.put, List.setIfInBounds_toArray, List.set_cons_zero, List.set_cons_succ]
                  refine wpAnyT_take (i := 8) (v := ?vv54) rfl (by kernel_rfl) (fun _ _ _ h => h) (Or.inl ⟨by rfl, fun w hSw => ?yy54⟩) HS ?rr54
                  case yy54 =>
                    (try dsimp only at hSw); go_simp
                    try with_reducible rfl
                  try simp only [Act.put, List.setIfInBounds_toArray, List.set_cons_zero, List.set_cons_succ]
                  refine ⟨by kernel_rfl, ?_⟩
                  simp only [List.drop_succ_cons, List.drop_zero]
                  have hsr := HS
                  clear HS
                  generalize wq.drew = wz at hsr ⊢
                  have GZ := Lib.hid (gq.out.below hsr.1)
                  have BZ : Hid (B ≤ wz.heap.size) := Lib.hid (Nat.le_trans hzq hsr.1.size)
                  have bz : Below B w wz := hbq.trans (hsr.1.mono hzq)
                  clear HG gq hsr
                  by_cases hu1 : u = 1
                  · have du : decide (u = 1) = true := decide_eq_true hu1
                    have du' : (u == 1) = true := by simp [hu1]
                    go_wp2_with (go_at_call 22; refine (gmerge_any B g k k s2.1 p q _ GZ.out hgB hn4 WP.out WQ.out BZ.out).mono ?_; rintro e w9 ⟨rfl, hg9, hb9⟩)
                    have hfin := rows_done (m := M) (n := k) (s := startG k) (t := (mgTo s2.1 p q k, u)) (by omega : y < j) hlj (by rw [HS1E.out]; exact HST.out) hu1
                    have hx := HXX.out
                    rw [HMM.out, hfin] at hx
                    have hx : mgTo s2.1 p q k = x := hx
                    rw [hx] at hg9
                    obtain ⟨R, c2, hv2, hsi⟩ := hg9.si
                    cases hv2
                    try simp only [Exit.noGoto, Exit.inBlock, Exit.then]
                    go_ret
                    exact ⟨_, _, _, rfl, hsi, bz.trans (hb9.mono (Nat.le_refl _))⟩
                  · have du : decide (u = 1) = false := decide_eq_false hu1
                    have du' : (u == 1) = false := by simp [hu1]
                    go_wp2_with (go_at_call 22; refine (gmerge_any B g k k s2.1 p q _ GZ.out hgB hn4 WP.out WQ.out BZ.out).mono ?_; rintro e w9 ⟨rfl, hg9, hb9⟩)
                    have HG2 : Hid (Goti w9 B 3 (.slice (some ⟨g, 0, none⟩) k k) k (rowG M j (y + 1) s1).1) := Lib.hid (by rw [HST.out]; exact hg9)
                    have HE : Hid ((rowG M j (y + 1) s1).2 = u) := Lib.hid (by rw [HST.out])
                    have HN2 : Hid (u ≠ 1 ∨ k = 1) := Lib.hid (.inl hu1)
                    have b9 : Below B w w9 := bz.trans hb9
                    clear hg9 hb9
                    go_roundw
                    case rel => exact ⟨y + 1, u, by omega, by go_num, rfl, HE, HG2, HN2, b9⟩
                    case measure => simp [intOf]; omega
            · obtain rfl : y = j := by omega
              have dly : decide (y < y) = false := decide_eq_false (by omega)
              have HG2 : Hid (Goti wr B 3 (.slice (some ⟨g, 0, none⟩) k k) k (rowsG M (y + 1) (startG k)).1) := Lib.hid (by rw [HSU.out]; exact HG.out)
              have HV2 : Hid ((rowsG M (y + 1) (startG k)).2 = v) := Lib.hid (by rw [HSU.out]; exact hv.out)
              rw [← HMM.out] at HG2 HV2
              clear HG hv
              go_wp2_with fail
              go_roundw
              case rel => exact ⟨y + 1, v, by omega, by go_num, rfl, HV2, HG2.out, HN, bx⟩
              case measure => simp [intOf]; omega
        · obtain rfl : j = k := by omega
          have dlj : decide (j < j) = false := decide_eq_false (by omega)
          have hF : (rowsG (matG L) j (startG j)).1 = x := HXX.out
          rw [hF] at hg
          obtain ⟨R, c2, hv2, hsi⟩ := hg.si
          cases hv2
          have HSI := Lib.hid hsi
          clear hg hsi hF
          go_wp2_with fail
          try simp only [Exit.noGoto, Exit.inBlock, Exit.then]
          go_ret
          exact ⟨_, _, _, rfl, HSI.out, by_⟩
end Go.Proofs.Ytbaaglgoodckmaa
