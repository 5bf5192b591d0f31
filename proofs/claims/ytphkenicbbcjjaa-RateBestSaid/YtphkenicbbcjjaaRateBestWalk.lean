/- The walk of the law RateBest. -/
import Derived.Test.YtphkenicbbcjjaaProg
import Derived.Test.YtphkenicbbcjjaaRaAwake
import Derived.Test.YtphkenicbbcjjaaRaRef3
import Derived.Test.YtphkenicbbcjjaaRaBest
import Derived.Test.YtphkenicbbcjjaaTail2
import Derived.StillTail
import Derived.Test.YtphkenicbbcjjaaTail
import Derived.Deep.LoopGhost
import Derived.WalkKit
import Derived.WalkSpells
import Derived.WalkSmall
import Derived.Lib.Hide
import Derived.Below
import Derived.Outline
import Derived.Laws.Tables
import Derived.Laws.Rows
import Derived.OrdersHeld
import Derived.Deep.QuietTactic
import Derived.BigQuiet
import Derived.IntWalk
import Derived.Deep.DeepCutAuto
namespace Go.Proofs.Ytphkenicbbcjjaa.rateBest
open Go.RowKit
set_option linter.unusedVariables false
set_option linter.unusedSimpArgs false

section
variable {w w' : World} {base e n : Nat} {v : Value} {l : List Int}
theorem Goti.below (h : Goti w base e v n l) (hb : Below w.heap.size w w') : Goti w' base e v n l := by
  obtain ⟨⟨h1, h2⟩, h3⟩ := h
  refine ⟨⟨h1, ?_⟩, h3⟩
  rcases h2 with h2 | ⟨g, cap, cur, hv, hg, hh, r⟩
  · exact Or.inl h2
  · exact Or.inr ⟨g, cap, cur, hv, hg, by rw [hb.block g (Array.getElem?_eq_some_iff.1 hh).1]; exact hh, r⟩
theorem Goti.grown {row : Option Nat} (h : Goti w base e v n l) (hg : w.grownBy w' row) (hne : v.ownBlock = none ∨ v.ownBlock ≠ row) : Goti w' base e v n l := ⟨h.row.kept hg hne, h.wide⟩
end

set_option maxRecDepth 100000 in
set_option maxHeartbeats 16000000 in
theorem walk (A1 : Option Addr) (n1 c1 : Nat) (lt : List Int) (A2 : Option Addr) (n2 c2 : Nat) (sz : List Int) (w : World) (h1 : Si w A1 n1 c1 lt) (h2 : Si w A2 n2 c2 sz) :
    Calls Try.prog 4 #[.slice A1 n1 c1, .slice A2 n2 c2] w fun e w' => e = .returned (.bool true) ∧ Below w.heap.size w w' := by
  have HN1 := h1.max; have HN2 := h2.max
  have HM1 := h1.le; have HM2 := h2.le
  unfold maxLen at HN1 HN2
  obtain ⟨B, hB⟩ : ∃ B, w.heap.size = B := ⟨_, rfl⟩
  rw [hB]
  have HB := Lib.hid hB; clear hB
  go_enter Try.func4, Try.ntmps4
  go_wp2_with fail
  refine (raawake_any _).mono ?_
  rintro e w1 ⟨rfl, hb1⟩
  have b1 : Below B w w1 := by rw [← HB.out]; exact hb1
  have k1 := h1.keep hb1; have k2 := h2.keep hb1
  have z1 : B ≤ w1.heap.size := by rw [← HB.out]; exact hb1.size
  clear h1 h2 hb1
  by_cases c1' : 40 < n1
  case pos =>
    have dc1 : decide (40 < n1) = true := decide_eq_true c1'
    go_wp2_with fail
    go_ret
    exact ⟨rfl, b1⟩
  case neg =>
  have dc1 : decide (40 < n1) = false := decide_eq_false c1'
  by_cases c2' : n2 < n1
  case pos =>
    have dc2 : decide (n2 < n1) = true := decide_eq_true c2'
    go_wp2_with fail
    go_ret
    exact ⟨rfl, b1⟩
  case neg =>
  have dc2 : decide (n2 < n1) = false := decide_eq_false c2'
  go_wp2_with fail
  have e2 := Bx.new w1 24 [.int .i64 0, .int .i64 0, .slice none 0 0]
  have b2 := b1.alloc z1 (.cells #[.int .i64 0, .int .i64 0, .slice none 0 0] 24)
  have b2' : Below w1.heap.size w1 (w1.alloc (.cells #[.int .i64 0, .int .i64 0, .slice none 0 0] 24)) := (Below.refl w1.heap.size w1).alloc (Nat.le_refl _) (.cells #[.int .i64 0, .int .i64 0, .slice none 0 0] 24)
  obtain ⟨P, hP⟩ : ∃ P, w1.heap.size = P := ⟨_, rfl⟩
  rw [hP] at e2 z1 b2' ⊢
  generalize w1.alloc (.cells #[.int .i64 0, .int .i64 0, .slice none 0 0] 24) = w2 at e2 b2 b2' ⊢
  obtain ⟨Z, hZ⟩ : ∃ Z, w2.heap.size = Z := ⟨_, rfl⟩
  have hPZ : P < Z := by rw [← hZ]; exact e2.lt
  have HZ := Lib.hid hZ
  have HJ1 := Lib.hid k1; have HJ2 := Lib.hid k2; have HV := Lib.hid hP
  have hBP := z1
  clear k1 k2 hP hZ b1 z1
  go_loopw [7, 8] (fun s7 i wr => ∃ (k : Nat) (tb ta : Int) (T : List Int) (R : Option Addr) (m d : Nat), k ≤ n1 ∧ i = .int .i64 (k : Int) ∧ Hid (Goti wr Z 3 s7 k T) ∧ Bx wr P 24 [.int .i64 tb, .int .i64 ta, .slice R m d] ∧ Sq wr (fun b => b ≠ P ∧ s7.ownBlock ≠ some b) R m d (lastT T) ∧ Below B w wr ∧ Below P w1 wr ∧ Z ≤ wr.heap.size ∧ Hid (TooB T) ∧ 0 ≤ tb ∧ tb ≤ 1000000000 * k ∧ 0 ≤ ta ∧ ta ≤ 1000000000 * k) (fun _ i _ => n1 - (intOf i).toNat)
  case atStart => exact ⟨0, 0, 0, [], none, 0, 0, Nat.zero_le _, rfl, Lib.hid (Goti.nil _ _ _), e2, Sq.none _ _, b2, b2', Nat.le_of_eq HZ.out.symm, Lib.hid (fun x hx => by cases hx), by omega, by omega, by omega, by omega⟩
  case round =>
    obtain ⟨k, tb, ta, T, R, m, d, hkn, rfl, HG, er, sr, bw, br, hsz, HT, u0, u1, u2, u3⟩ := hrel
    clear e2 b2 b2'
    have brw : Below w1.heap.size w1 wr := by rw [HV.out]; exact br
    by_cases hlt : k < n1
    case neg =>
      obtain rfl : k = n1 := by omega
      have hd : decide (k < k) = false := decide_eq_false (by omega)
      go_wp2_with fail
      go_ret
      exact ⟨rfl, bw⟩
    case pos =>
    have hd : decide (k < n1) = true := decide_eq_true hlt
    have hk2 : k < n2 := by omega
    obtain ⟨bl, ol, hAl, hbl, hcl⟩ := (HJ1.out.keep brw).rd.at_ (by omega)
    subst hAl
    obtain ⟨bs, os, hAs, hbs, hcs⟩ := (HJ2.out.keep brw).rd.at_ (by omega)
    subst hAs
    have z1 := hcl k hlt
    have z2 := hcs k hk2
    obtain ⟨p, hp⟩ : ∃ p, it lt k = p := ⟨_, rfl⟩
    obtain ⟨q, hq⟩ : ∃ q, it sz k = q := ⟨_, rfl⟩
    rw [hp] at z1
    rw [hq] at z2
    have HPP := Lib.hid hp; have HQ := Lib.hid hq
    clear hcl hcs hp hq
    by_cases g1 : p < 1
    case pos =>
      have dg1 : decide (p < 1) = true := decide_eq_true g1
      go_wp2_with fail
      go_ret
      exact ⟨rfl, bw⟩
    case neg =>
    have dg1 : decide (p < 1) = false := decide_eq_false g1
    by_cases g2 : 1000000000 < p
    case pos =>
      have dg2 : decide (1000000000 < p) = true := decide_eq_true g2
      go_wp2_with fail
      go_ret
      exact ⟨rfl, bw⟩
    case neg =>
    have dg2 : decide (1000000000 < p) = false := decide_eq_false g2
    by_cases g3 : q < 0
    case pos =>
      have dg3 : decide (q < 0) = true := decide_eq_true g3
      go_wp2_with fail
      go_ret
      exact ⟨rfl, bw⟩
    case neg =>
    have dg3 : decide (q < 0) = false := decide_eq_false g3
    by_cases g4 : 1000000000 < q
    case pos =>
      have dg4 : decide (1000000000 < q) = true := decide_eq_true g4
      go_wp2_with fail
      go_ret
      exact ⟨rfl, bw⟩
    case neg =>
    have dg4 : decide (1000000000 < q) = false := decide_eq_false g4
    obtain ⟨tq, htq⟩ : ∃ t, 1000000 * q / p = t := ⟨_, rfl⟩
    have ht0 : 0 ≤ tq := by rw [← htq]; exact Int.ediv_nonneg (by omega) (by omega)
    have ht1 : tq ≤ 1000000000000000 := by
      rw [← htq]; have := Int.ediv_le_self (a := 1000000 * q) p (by omega); omega
    have hm0 : ramay ⟨tb, ta, lastT T⟩ = true := last_may HT.out u0 (by omega) u2 (by omega)
    have hm1 : ramay ⟨tb + q, ta + p, lastT T⟩ = true := last_may HT.out (by omega) (by omega) (by omega) (by omega)
    have hT2 : TooB (T ++ [tq]) := too_snoc HT.out ht0 ht1
    have hm2 : ramay ⟨tb + q, ta + p, lastT (T ++ [tq])⟩ = true := last_may hT2 (by omega) (by omega) (by omega) (by omega)
    have HX := Lib.hid (came_is (later := p) (b := q) hm0 (by omega) u2 (by omega) (by omega) (by omega) (by omega))
    have hsamp := samp_is (q := tq) hm1 (by omega) u2 u0 (by omega) htq (by omega)
    rw [last_push] at hsamp
    obtain ⟨T', hT'⟩ : ∃ T', T ++ [tq] = T' := ⟨_, rfl⟩
    have hl2 : T'.length = T.length + 1 := by rw [← hT']; simp
    rw [hT'] at hsamp hm2 hT2
    have HTT := Lib.hid hT'; have HL2 := Lib.hid hl2
    have wtq : W64 tq := by unfold W64; omega
    have WT := Lib.hid wtq
    clear hT' hl2 wtq
    have HY := Lib.hid hsamp
    have HZZ := Lib.hid (best_last hm2)
    have HM2K := Lib.hid hm2; have HT2 := Lib.hid hT2
    clear hm0 hm1 hm2 hsamp hT2
    obtain ⟨mm, hmm⟩ : ∃ mm, q * 1000000 = mm := ⟨_, rfl⟩
    have a1 : IntKind.i64.wrap (q * 1000000) = mm := by rw [IntWalk.i64_in _ (by omega), hmm]
    have a2 : IntKind.i64.wrap (mm.tdiv p) = tq := by rw [IntWalk.i64_quo _ _ (by omega), ← htq, ← hmm, Int.mul_comm]
    have a3 : mm.tdiv p = tq := by rw [Int.tdiv_eq_ediv_of_nonneg (by omega), ← htq, ← hmm, Int.mul_comm]
    have hne : (p == 0) = false := by simp; omega
    have A1H := Lib.hid a1; have A2H := Lib.hid a2; have A3H := Lib.hid a3; have HNE := Lib.hid hne
    have hlT : T.length = k := by have := HG.out.row.1; simpa using this
    have HLT := Lib.hid hlT
    clear hmm a1 a2 a3 hne htq hlT
    have HW : Hid (IntKind.i64.wrap (ta + p) = ta + p) := Lib.hid (IntWalk.i64_in _ (by omega))
    have x0 := er.cell 0 rfl; have x1 := er.cell 1 rfl
    have hPr := er.lt
    go_upto_region 13 with fail
    clear x0 x1
    go_cut [11, 12] (fun s11 s12 wx => ∃ Vb R1 m1 d1, s11 = .pointer (some ⟨Vb, 0, none⟩) ∧ s12 = .int .i64 0 ∧ Hid (wr.heap.size ≤ Vb ∧ Bx wx Vb 24 [.int .i64 (tb + q), .int .i64 (ta + p), .slice R1 m1 d1] ∧ Sq wx (fun b => b ≠ P ∧ u7.ownBlock ≠ some b ∧ b ≠ Vb) R1 m1 d1 (lastT T) ∧ Below wr.heap.size wr wx))
    case first =>
      have d0 : Below wr.heap.size wr wr.drew := (Below.refl _ _).drew
      refine wp_region_tail 17 18 (fun (W : World) => W.cell? ⟨bl, ol + k, none⟩ = some (.int .i64 p) ∧ W.cell? ⟨bs, os + k, none⟩ = some (.int .i64 q) ∧ Below wr.heap.size wr W) (by kernel_rfl) (by rfl) (by decide) ?_
      have HS : ((fun (W : World) => W.cell? ⟨bl, ol + k, none⟩ = some (.int .i64 p) ∧ W.cell? ⟨bs, os + k, none⟩ = some (.int .i64 q) ∧ Below wr.heap.size wr W)) _ := ⟨(d0.cell (p := ⟨bl, ol + k, none⟩) hbl).trans z1, (d0.cell (p := ⟨bs, os + k, none⟩) hbs).trans z2, d0⟩
      refine wpAnyT_take (i := 0) (v := .agg #[.int .i64 tb, .int .i64 ta, .slice R m d]) rfl (by kernel_rfl) (fun _ _ _ h => h) (ra_yields (by rfl) (.tmp 6) rfl rfl [.int .i64 tb, .int .i64 ta, .slice R m d] rfl 24 (fun W hW => er.below hW.2.2 er.lt)) HS ?_
      try simp only [Act.put, List.setIfInBounds_toArray, List.set_cons_zero, List.set_cons_succ]
      refine wpAnyT_take (i := 1) (v := ?vv1) rfl (by kernel_rfl) (fun _ _ _ h => h) (Or.inl ⟨by rfl, fun w hSw => ?yy1⟩) HS ?rr1
      case yy1 =>
        (try dsimp only at hSw); go_simp
        try with_reducible rfl
      try simp only [Act.put, List.setIfInBounds_toArray, List.set_cons_zero, List.set_cons_succ]
      refine wpAnyT_take (i := 2) (v := ?vv2) rfl (by kernel_rfl) (fun _ _ _ h => h) (Or.inl ⟨by rfl, fun w hSw => ?yy2⟩) HS ?rr2
      case yy2 =>
        (try dsimp only at hSw); go_simp
        try with_reducible rfl
      try simp only [Act.put, List.setIfInBounds_toArray, List.set_cons_zero, List.set_cons_succ]
      refine wpAnyT_take (i := 3) (v := ?vv3) rfl (by kernel_rfl) (fun _ _ _ h => h) (Or.inl ⟨by rfl, fun w hSw => ?yy3⟩) HS ?rr3
      case yy3 =>
        (try dsimp only at hSw); go_simp
        try with_reducible rfl
      try simp only [Act.put, List.setIfInBounds_toArray, List.set_cons_zero, List.set_cons_succ]
      refine wpAnyT_take (i := 4) (v := ?vv4) rfl (by kernel_rfl) (fun _ _ _ h => h) (Or.inl ⟨by rfl, fun w hSw => ?yy4⟩) HS ?rr4
      case yy4 =>
        (try dsimp only at hSw); go_simp
        try with_reducible rfl
      try simp only [Act.put, List.setIfInBounds_toArray, List.set_cons_zero, List.set_cons_succ]
      refine wpAnyT_take (i := 5) (v := ?vv5) rfl (by kernel_rfl) (fun _ _ _ h => h) (Or.inl ⟨by rfl, fun w hSw => ?yy5⟩) HS ?rr5
      case yy5 =>
        (try dsimp only at hSw); go_simp
        try with_reducible rfl
      try simp only [Act.put, List.setIfInBounds_toArray, List.set_cons_zero, List.set_cons_succ]
      refine wpAnyT_take (i := 6) (v := ?vv6) rfl (by kernel_rfl) (fun _ _ _ h => h) (Or.inl ⟨by rfl, fun w hSw => ?yy6⟩) HS ?rr6
      case yy6 =>
        (try dsimp only at hSw); go_simp
        try with_reducible rfl
      try simp only [Act.put, List.setIfInBounds_toArray, List.set_cons_zero, List.set_cons_succ]
      refine wpAnyT_take (i := 7) (v := ?vv7) rfl (by kernel_rfl) (fun _ _ _ h => h) (Or.inl ⟨by rfl, fun w hSw => ?yy7⟩) HS ?rr7
      case yy7 =>
        (try dsimp only at hSw); go_simp
        try with_reducible rfl
      try simp only [Act.put, List.setIfInBounds_toArray, List.set_cons_zero, List.set_cons_succ]
      refine wpAnyT_take (i := 8) (v := ?vv8) rfl (by kernel_rfl) (fun _ _ _ h => h) (Or.inl ⟨by rfl, fun w hSw => ?yy8⟩) HS ?rr8
      case yy8 =>
        (try dsimp only at hSw); go_simp
        try with_reducible rfl
      try simp only [Act.put, List.setIfInBounds_toArray, List.set_cons_zero, List.set_cons_succ]
      refine wpAnyT_take (i := 9) (v := ?vv9) rfl (by kernel_rfl) (fun _ _ _ h => h) (Or.inl ⟨by rfl, fun w hSw => ?yy9⟩) HS ?rr9
      case yy9 =>
        (try dsimp only at hSw); go_simp
        try with_reducible rfl
      try simp only [Act.put, List.setIfInBounds_toArray, List.set_cons_zero, List.set_cons_succ]
      refine wpAnyT_take (i := 10) (v := ?vv10) rfl (by kernel_rfl) (fun _ _ _ h => h) (Or.inl ⟨by rfl, fun w hSw => ?yy10⟩) HS ?rr10
      case yy10 =>
        (try dsimp only at hSw); go_simp
        try with_reducible rfl
      try simp only [Act.put, List.setIfInBounds_toArray, List.set_cons_zero, List.set_cons_succ]
      refine wpAnyT_two (k1 := 11) (k2 := 15) rfl rfl (by kernel_rfl) (by decide) (by decide) (fun K hK => ?_) (fun K hK => ?_)
      · go_simp
        rw [HW.out]
        refine (ratcame_any tb ta R m d (lastT T) (ta + p) q (fun b => b ≠ P ∧ u7.ownBlock ≠ some b) _ (sr.keep d0) (fun b hb => ⟨by have h1 := d0.size; omega, fun h => by have h1 := d0.size; have h2 := (HG.out.row.lt b h).2; omega⟩)).mono ?_
        rintro e w4 ⟨R1, m1, d1, he, hs4, hb4⟩
        rw [HX.out] at he hs4
        dsimp only at he hs4
        subst he
        have d4 := d0.trans (hb4.mono (Nat.le_refl _))
        have HS : ((fun (W : World) => W.cell? ⟨bl, ol + k, none⟩ = some (.int .i64 p) ∧ W.cell? ⟨bs, os + k, none⟩ = some (.int .i64 q) ∧ Below wr.heap.size wr W)) _ := ⟨(d4.cell (p := ⟨bl, ol + k, none⟩) hbl).trans z1, (d4.cell (p := ⟨bs, os + k, none⟩) hbs).trans z2, d4⟩
        refine hK _ _ HS ?_
        clear hK K
        try simp only [Act.put, List.setIfInBounds_toArray, List.set_cons_zero, List.set_cons_succ]
        refine wpAnyT_take (i := 12) (v := ?vv11) rfl (by kernel_rfl) (fun _ _ _ h => h) (Or.inl ⟨by rfl, fun w hSw => ?yy11⟩) HS ?rr11
        case yy11 =>
          (try dsimp only at hSw); go_simp
          try with_reducible rfl
        try simp only [Act.put, List.setIfInBounds_toArray, List.set_cons_zero, List.set_cons_succ]
        refine wpAnyT_take (i := 13) (v := ?vv12) rfl (by kernel_rfl) (fun _ _ _ h => h) (Or.inl ⟨by rfl, fun w hSw => ?yy12⟩) HS ?rr12
        case yy12 =>
          (try dsimp only at hSw); go_simp
          try with_reducible rfl
        try simp only [Act.put, List.setIfInBounds_toArray, List.set_cons_zero, List.set_cons_succ]
        refine wpAnyT_take (i := 14) (v := ?vv13) rfl (by kernel_rfl) (fun _ _ _ h => h) (Or.inl ⟨by rfl, fun w hSw => ?yy13⟩) HS ?rr13
        case yy13 =>
          (try dsimp only at hSw); go_simp
          try with_reducible rfl
        try simp only [Act.put, List.setIfInBounds_toArray, List.set_cons_zero, List.set_cons_succ]
        have d5 := d4.alloc d4.size (.cells #[.int .i64 0, .int .i64 0, .slice none 0 0] 24)
        have y5 := Bx.new w4 24 [.int .i64 0, .int .i64 0, .slice none 0 0]
        have hs5 := (hs4.fresh (q := (fun b => b ≠ P ∧ u7.ownBlock ≠ some b ∧ b ≠ w4.heap.size)) (fun b hb hlt => ⟨hb.1, hb.2, Nat.ne_of_lt hlt⟩)).alloc (.cells #[.int .i64 0, .int .i64 0, .slice none 0 0] 24)
        refine wpAnyT_one (k := 15) rfl (by kernel_rfl) (by decide) (fun K hK => ?_)
        go_simp
        have HS : ((fun (W : World) => W.cell? ⟨bl, ol + k, none⟩ = some (.int .i64 p) ∧ W.cell? ⟨bs, os + k, none⟩ = some (.int .i64 q) ∧ Below wr.heap.size wr W)) _ := ⟨(d5.cell (p := ⟨bl, ol + k, none⟩) hbl).trans z1, (d5.cell (p := ⟨bs, os + k, none⟩) hbs).trans z2, d5⟩
        refine hK _ _ HS ?_
        clear hK K
        try simp only [Act.put, List.setIfInBounds_toArray, List.set_cons_zero, List.set_cons_succ]
        have d6 := d5.grown (ra_grown (w4.alloc (.cells #[.int .i64 0, .int .i64 0, .slice none 0 0] 24)) w4.heap.size #[.int .i64 (tb + q), .int .i64 (ta + p), .slice R1 m1 d1]) (by have := d5.size; exact this) (fun k hk => by cases hk; exact d4.size)
        refine wpAnyT_one (k := 16) rfl (by kernel_rfl) (by decide) (fun K hK => ?_)
        rw [if_pos (by rfl)]
        refine wp_store_row 24 (.tmp 11) (.tmp 84) rfl w4.heap.size #[.int .i64 (tb + q), .int .i64 (ta + p), .slice R1 m1 d1] (by rfl) (by rfl) 24 _ y5 (by rw [info_ra]; rfl) (by rfl) (by have h : ([.int .i64 (tb + q), .int .i64 (ta + p), .slice R1 m1 d1] : List Value).all (·.oneCell') = true := rfl; simpa using h) ?_
        have HS : ((fun (W : World) => W.cell? ⟨bl, ol + k, none⟩ = some (.int .i64 p) ∧ W.cell? ⟨bs, os + k, none⟩ = some (.int .i64 q) ∧ Below wr.heap.size wr W)) _ := ⟨(d6.cell (p := ⟨bl, ol + k, none⟩) hbl).trans z1, (d6.cell (p := ⟨bs, os + k, none⟩) hbs).trans z2, d6⟩
        refine hK _ _ HS ?_
        clear hK K
        try simp only [Act.put, List.setIfInBounds_toArray, List.set_cons_zero, List.set_cons_succ]
        refine ⟨by kernel_rfl, ?_⟩
        simp only [List.drop_succ_cons, List.drop_zero]
        go_wp2_with fail
        go_meet
        case rel => exact ⟨w4.heap.size, R1, m1, d1, rfl, rfl, ⟨d4.size, ra_put y5 [.int .i64 (tb + q), .int .i64 (ta + p), .slice R1 m1 d1], hs5.grown (ra_grown (w4.alloc (.cells #[.int .i64 0, .int .i64 0, .slice none 0 0] 24)) w4.heap.size #[.int .i64 (tb + q), .int .i64 (ta + p), .slice R1 m1 d1]) (fun b hb e => hb.2.2 (by cases e; rfl)), d6⟩⟩
      · go_simp
        have d4 := d0.alloc (Nat.le_refl _) (.cells #[.int .i64 0, .int .i64 0, .slice none 0 0] 24)
        have y4 := Bx.new wr.drew 24 [.int .i64 0, .int .i64 0, .slice none 0 0]
        have sr4 := (sr.fresh (q := (fun b => b ≠ P ∧ u7.ownBlock ≠ some b ∧ b ≠ wr.drew.heap.size)) (fun b hb hlt => ⟨hb.1, hb.2, Nat.ne_of_lt hlt⟩)).keep d4
        have HS : ((fun (W : World) => W.cell? ⟨bl, ol + k, none⟩ = some (.int .i64 p) ∧ W.cell? ⟨bs, os + k, none⟩ = some (.int .i64 q) ∧ Below wr.heap.size wr W)) _ := ⟨(d4.cell (p := ⟨bl, ol + k, none⟩) hbl).trans z1, (d4.cell (p := ⟨bs, os + k, none⟩) hbs).trans z2, d4⟩
        refine hK _ _ HS ?_
        clear hK K
        try simp only [Act.put, List.setIfInBounds_toArray, List.set_cons_zero, List.set_cons_succ]
        refine wpAnyT_one (k := 11) rfl (by kernel_rfl) (by decide) (fun K hK => ?_)
        go_simp
        rw [HW.out]
        refine (ratcame_any tb ta R m d (lastT T) (ta + p) q (fun b => b ≠ P ∧ u7.ownBlock ≠ some b ∧ b ≠ wr.drew.heap.size) _ (sr4) (fun b hb => ⟨by have h1 := d4.size; omega, fun h => by have h1 := d4.size; have h2 := (HG.out.row.lt b h).2; omega, by have h1 := y4.lt; omega⟩)).mono ?_
        rintro e w5 ⟨R1, m1, d1, he, hs4, hb4⟩
        rw [HX.out] at he hs4
        dsimp only at he hs4
        subst he
        have d5 := d4.trans (hb4.mono d4.size)
        have y5 := y4.kept hb4
        have HS : ((fun (W : World) => W.cell? ⟨bl, ol + k, none⟩ = some (.int .i64 p) ∧ W.cell? ⟨bs, os + k, none⟩ = some (.int .i64 q) ∧ Below wr.heap.size wr W)) _ := ⟨(d5.cell (p := ⟨bl, ol + k, none⟩) hbl).trans z1, (d5.cell (p := ⟨bs, os + k, none⟩) hbs).trans z2, d5⟩
        refine hK _ _ HS ?_
        clear hK K
        try simp only [Act.put, List.setIfInBounds_toArray, List.set_cons_zero, List.set_cons_succ]
        refine wpAnyT_take (i := 12) (v := ?vv14) rfl (by kernel_rfl) (fun _ _ _ h => h) (Or.inl ⟨by rfl, fun w hSw => ?yy14⟩) HS ?rr14
        case yy14 =>
          (try dsimp only at hSw); go_simp
          try with_reducible rfl
        try simp only [Act.put, List.setIfInBounds_toArray, List.set_cons_zero, List.set_cons_succ]
        refine wpAnyT_take (i := 13) (v := ?vv15) rfl (by kernel_rfl) (fun _ _ _ h => h) (Or.inl ⟨by rfl, fun w hSw => ?yy15⟩) HS ?rr15
        case yy15 =>
          (try dsimp only at hSw); go_simp
          try with_reducible rfl
        try simp only [Act.put, List.setIfInBounds_toArray, List.set_cons_zero, List.set_cons_succ]
        refine wpAnyT_take (i := 14) (v := ?vv16) rfl (by kernel_rfl) (fun _ _ _ h => h) (Or.inl ⟨by rfl, fun w hSw => ?yy16⟩) HS ?rr16
        case yy16 =>
          (try dsimp only at hSw); go_simp
          try with_reducible rfl
        try simp only [Act.put, List.setIfInBounds_toArray, List.set_cons_zero, List.set_cons_succ]
        have d6 := d5.grown (ra_grown w5 wr.drew.heap.size #[.int .i64 (tb + q), .int .i64 (ta + p), .slice R1 m1 d1]) d5.size (fun k hk => by cases hk; exact Nat.le_refl _)
        refine wpAnyT_one (k := 16) rfl (by kernel_rfl) (by decide) (fun K hK => ?_)
        rw [if_pos (by rfl)]
        refine wp_store_row 24 (.tmp 11) (.tmp 84) rfl wr.drew.heap.size #[.int .i64 (tb + q), .int .i64 (ta + p), .slice R1 m1 d1] (by rfl) (by rfl) 24 _ y5 (by rw [info_ra]; rfl) (by rfl) (by have h : ([.int .i64 (tb + q), .int .i64 (ta + p), .slice R1 m1 d1] : List Value).all (·.oneCell') = true := rfl; simpa using h) ?_
        have HS : ((fun (W : World) => W.cell? ⟨bl, ol + k, none⟩ = some (.int .i64 p) ∧ W.cell? ⟨bs, os + k, none⟩ = some (.int .i64 q) ∧ Below wr.heap.size wr W)) _ := ⟨(d6.cell (p := ⟨bl, ol + k, none⟩) hbl).trans z1, (d6.cell (p := ⟨bs, os + k, none⟩) hbs).trans z2, d6⟩
        refine hK _ _ HS ?_
        clear hK K
        try simp only [Act.put, List.setIfInBounds_toArray, List.set_cons_zero, List.set_cons_succ]
        refine ⟨by kernel_rfl, ?_⟩
        simp only [List.drop_succ_cons, List.drop_zero]
        go_wp2_with fail
        go_meet
        case rel => exact ⟨wr.drew.heap.size, R1, m1, d1, rfl, rfl, ⟨Nat.le_refl _, ra_put y5 [.int .i64 (tb + q), .int .i64 (ta + p), .slice R1 m1 d1], hs4.grown (ra_grown w5 wr.drew.heap.size #[.int .i64 (tb + q), .int .i64 (ta + p), .slice R1 m1 d1]) (fun b hb e => hb.2.2 (by cases e; rfl)), d6⟩⟩
    case rest =>
    obtain ⟨Vb, R1, m1, d1, rfl, rfl, HC⟩ := hcut
    have e5 := er.kept HC.out.2.2.2
    have n5 := HC.out.2.1
    have s5 := HC.out.2.2.1.imp (q := (fun b => b ≠ P ∧ u7.ownBlock ≠ some b)) (fun b hb => ⟨hb.1, hb.2.1⟩)
    have g5 := Goti.below HG.out HC.out.2.2.2
    have b5 := bw.trans (HC.out.2.2.2.mono (by omega))
    have r5 := br.trans (HC.out.2.2.2.mono (by omega))
    have hsz5 : Z ≤ wc.heap.size := Nat.le_trans hsz HC.out.2.2.2.size
    have v1 : wc.cell? ⟨bl, ol + k, none⟩ = some (.int .i64 p) := (HC.out.2.2.2.cell (p := ⟨bl, ol + k, none⟩) hbl).trans z1
    have v2 : wc.cell? ⟨bs, os + k, none⟩ = some (.int .i64 q) := (HC.out.2.2.2.cell (p := ⟨bs, os + k, none⟩) hbs).trans z2
    have hbl5 : bl < wc.heap.size := Nat.lt_of_lt_of_le hbl HC.out.2.2.2.size
    have hbs5 : bs < wc.heap.size := Nat.lt_of_lt_of_le hbs HC.out.2.2.2.size
    have hP5 := e5.lt
    have HGL : Hid (∀ b, u7.ownBlock = some b → Z ≤ b ∧ b < wc.heap.size) := Lib.hid (fun b h => g5.row.lt b h)
    clear er sr bw br brw z1 z2 hbl hbs HC HG hsz
    go_upto_region 15 with (first
      | (refine ra_load rfl (.tmp 11) rfl rfl n5 rfl ?_)
      | (go_at_call 13; refine (ratsamp_any (tb + q) (ta + p) R1 m1 d1 (lastT T) tb ta (fun b => b ≠ P ∧ u7.ownBlock ≠ some b) _ s5 (fun b hb => ⟨by omega, fun h => by have h2 := (HGL.out b h).2; omega⟩)).mono ?_; rintro e w6 ⟨R2, m2, d2, he, hs6, hb6⟩; rw [HY.out] at he hs6; dsimp only at he hs6; subst he))
    have e6 := (e5.kept hb6).alloc (.cells #[.int .i64 (tb + q), .int .i64 (ta + p), .slice R2 m2 d2] 24)
    have b6 := (b5.trans (hb6.mono (by omega))).alloc (by have := (e5.kept hb6).lt; omega) (.cells #[.int .i64 (tb + q), .int .i64 (ta + p), .slice R2 m2 d2] 24)
    have r6 := (r5.trans (hb6.mono (by omega))).alloc (by have := (e5.kept hb6).lt; omega) (.cells #[.int .i64 (tb + q), .int .i64 (ta + p), .slice R2 m2 d2] 24)
    have g6 := (Goti.below g5 hb6).alloc (.cells #[.int .i64 (tb + q), .int .i64 (ta + p), .slice R2 m2 d2] 24)
    have s6 := hs6.alloc (.cells #[.int .i64 (tb + q), .int .i64 (ta + p), .slice R2 m2 d2] 24)
    have n6 := Bx.new w6 24 [.int .i64 (tb + q), .int .i64 (ta + p), .slice R2 m2 d2]
    have hbz : wc.heap.size ≤ w6.heap.size := hb6.size
    have ba := hb6.alloc hbz (.cells #[.int .i64 (tb + q), .int .i64 (ta + p), .slice R2 m2 d2] 24)
    have v1' := (ba.cell (p := ⟨bl, ol + k, none⟩) hbl5).trans v1
    have v2' := (ba.cell (p := ⟨bs, os + k, none⟩) hbs5).trans v2
    have hsz6 : Z ≤ (w6.alloc (.cells #[.int .i64 (tb + q), .int .i64 (ta + p), .slice R2 m2 d2] 24)).heap.size := by have := ba.size; omega
    have hblz : bl < (w6.alloc (.cells #[.int .i64 (tb + q), .int .i64 (ta + p), .slice R2 m2 d2] 24)).heap.size := Nat.lt_of_lt_of_le hbl5 ba.size
    have hbsz : bs < (w6.alloc (.cells #[.int .i64 (tb + q), .int .i64 (ta + p), .slice R2 m2 d2] 24)).heap.size := Nat.lt_of_lt_of_le hbs5 ba.size
    obtain ⟨Q6, hQ6⟩ : ∃ V, w6.heap.size = V := ⟨_, rfl⟩
    have hQP : P < Q6 := by omega
    rw [hQ6] at n6 ⊢
    generalize w6.alloc (.cells #[.int .i64 (tb + q), .int .i64 (ta + p), .slice R2 m2 d2] 24) = wd at e6 b6 r6 g6 s6 n6 v1' v2' hsz6 hblz hbsz ⊢
    clear hs6 e5 s5 b5 n5 hb6 r5 g5 v1 v2 hbl5 hbs5 hsz5 ba hbz HGL hP5 hQ6
    have hbl6 := hblz; have hbs6 := hbsz
    have dd : Below wd.heap.size wd wd.drew := (Below.refl _ _).drew
    have hne := HNE.out; have a1 := A1H.out; have a2 := A2H.out
    have hn0 : ¬ p = 0 := by omega
    refine wp_region_tail 19 20 (fun (W : World) => W.cell? ⟨bl, ol + k, none⟩ = some (.int .i64 p) ∧ W.cell? ⟨bs, os + k, none⟩ = some (.int .i64 q)) (by kernel_rfl) (by rfl) (by decide) ?_
    have HS : ((fun (W : World) => W.cell? ⟨bl, ol + k, none⟩ = some (.int .i64 p) ∧ W.cell? ⟨bs, os + k, none⟩ = some (.int .i64 q))) _ := ⟨(dd.cell (p := ⟨bl, ol + k, none⟩) hbl6).trans v1', (dd.cell (p := ⟨bs, os + k, none⟩) hbs6).trans v2'⟩
    refine wpAnyT_take (i := 0) (v := ?vv101) rfl (by kernel_rfl) (fun _ _ _ h => h) (Or.inl ⟨by rfl, fun w hSw => ?yy101⟩) HS ?rr101
    case yy101 =>
      (try dsimp only at hSw); go_simp
      try with_reducible rfl
    try simp only [Act.put, List.setIfInBounds_toArray, List.set_cons_zero, List.set_cons_succ]
    refine wpAnyT_take (i := 1) (v := ?vv102) rfl (by kernel_rfl) (fun _ _ _ h => h) (Or.inl ⟨by rfl, fun w hSw => ?yy102⟩) HS ?rr102
    case yy102 =>
      (try dsimp only at hSw); go_simp
      try with_reducible rfl
    try simp only [Act.put, List.setIfInBounds_toArray, List.set_cons_zero, List.set_cons_succ]
    refine wpAnyT_take (i := 2) (v := ?vv103) rfl (by kernel_rfl) (fun _ _ _ h => h) (Or.inl ⟨by rfl, fun w hSw => ?yy103⟩) HS ?rr103
    case yy103 =>
      (try dsimp only at hSw); go_simp
      try with_reducible rfl
    try simp only [Act.put, List.setIfInBounds_toArray, List.set_cons_zero, List.set_cons_succ]
    refine wpAnyT_take (i := 3) (v := ?vv104) rfl (by kernel_rfl) (fun _ _ _ h => h) (Or.inl ⟨by rfl, fun w hSw => ?yy104⟩) HS ?rr104
    case yy104 =>
      (try dsimp only at hSw); go_simp
      try with_reducible rfl
    try simp only [Act.put, List.setIfInBounds_toArray, List.set_cons_zero, List.set_cons_succ]
    refine wpAnyT_take (i := 4) (v := ?vv105) rfl (by kernel_rfl) (fun _ _ _ h => h) (Or.inl ⟨by rfl, fun w hSw => ?yy105⟩) HS ?rr105
    case yy105 =>
      (try dsimp only at hSw); go_simp
      try with_reducible rfl
    try simp only [Act.put, List.setIfInBounds_toArray, List.set_cons_zero, List.set_cons_succ]
    refine wpAnyT_take (i := 5) (v := ?vv106) rfl (by kernel_rfl) (fun _ _ _ h => h) (Or.inl ⟨by rfl, fun w hSw => ?yy106⟩) HS ?rr106
    case yy106 =>
      (try dsimp only at hSw); go_simp
      try with_reducible rfl
    try simp only [Act.put, List.setIfInBounds_toArray, List.set_cons_zero, List.set_cons_succ]
    refine wpAnyT_take (i := 6) (v := ?vv107) rfl (by kernel_rfl) (fun _ _ _ h => h) (Or.inl ⟨by rfl, fun w hSw => ?yy107⟩) HS ?rr107
    case yy107 =>
      (try dsimp only at hSw); go_simp
      try with_reducible rfl
    try simp only [Act.put, List.setIfInBounds_toArray, List.set_cons_zero, List.set_cons_succ]
    refine wpAnyT_take (i := 7) (v := ?vv108) rfl (by kernel_rfl) (fun _ _ _ h => h) (Or.inl ⟨by rfl, fun w hSw => ?yy108⟩) HS ?rr108
    case yy108 =>
      (try dsimp only at hSw); go_simp
      try with_reducible rfl
    try simp only [Act.put, List.setIfInBounds_toArray, List.set_cons_zero, List.set_cons_succ]
    refine wpAnyT_take (i := 8) (v := ?vv109) rfl (by kernel_rfl) (fun _ _ _ h => h) (Or.inl ⟨by rfl, fun w hSw => ?yy109⟩) HS ?rr109
    case yy109 =>
      (try dsimp only at hSw); go_simp
      try with_reducible rfl
    try simp only [Act.put, List.setIfInBounds_toArray, List.set_cons_zero, List.set_cons_succ]
    refine wpAnyT_take (i := 9) (v := ?vv110) rfl (by kernel_rfl) (fun _ _ _ h => h) (Or.inl ⟨by rfl, fun w hSw => ?yy110⟩) HS ?rr110
    case yy110 =>
      (try dsimp only at hSw); go_simp
      try with_reducible rfl
    try simp only [Act.put, List.setIfInBounds_toArray, List.set_cons_zero, List.set_cons_succ]
    refine wpAnyT_take (i := 10) (v := ?vv111) rfl (by kernel_rfl) (fun _ _ _ h => h) (Or.inl ⟨by rfl, fun w hSw => ?yy111⟩) HS ?rr111
    case yy111 =>
      (try dsimp only at hSw); go_simp
      try with_reducible rfl
    try simp only [Act.put, List.setIfInBounds_toArray, List.set_cons_zero, List.set_cons_succ]
    refine wpAnyT_take (i := 11) (v := ?vv112) rfl (by kernel_rfl) (fun _ _ _ h => h) (Or.inl ⟨by rfl, fun w hSw => ?yy112⟩) HS ?rr112
    case yy112 =>
      (try dsimp only at hSw); go_simp
      try with_reducible rfl
    try simp only [Act.put, List.setIfInBounds_toArray, List.set_cons_zero, List.set_cons_succ]
    refine wpAnyT_take (i := 12) (v := ?vv113) rfl (by kernel_rfl) (fun _ _ _ h => h) (Or.inl ⟨by rfl, fun w hSw => ?yy113⟩) HS ?rr113
    case yy113 =>
      (try dsimp only at hSw); go_simp
      try with_reducible rfl
    try simp only [Act.put, List.setIfInBounds_toArray, List.set_cons_zero, List.set_cons_succ]
    refine wpAnyT_take (i := 13) (v := ?vv114) rfl (by kernel_rfl) (fun _ _ _ h => h) (Or.inl ⟨by rfl, fun w hSw => ?yy114⟩) HS ?rr114
    case yy114 =>
      (try dsimp only at hSw); go_simp
      try with_reducible rfl
    try simp only [Act.put, List.setIfInBounds_toArray, List.set_cons_zero, List.set_cons_succ]
    refine wpAnyT_take (i := 14) (v := ?vv115) rfl (by kernel_rfl) (fun _ _ _ h => h) (Or.inl ⟨by rfl, fun w hSw => ?yy115⟩) HS ?rr115
    case yy115 =>
      (try dsimp only at hSw); go_simp
      try with_reducible rfl
    try simp only [Act.put, List.setIfInBounds_toArray, List.set_cons_zero, List.set_cons_succ]
    refine wpAnyT_take (i := 15) (v := ?vv116) rfl (by kernel_rfl) (fun _ _ _ h => h) (Or.inl ⟨by rfl, fun w hSw => ?yy116⟩) HS ?rr116
    case yy116 =>
      (try dsimp only at hSw); go_simp
      try with_reducible rfl
    try simp only [Act.put, List.setIfInBounds_toArray, List.set_cons_zero, List.set_cons_succ]
    refine wpAnyT_take (i := 16) (v := ?vv117) rfl (by kernel_rfl) (fun _ _ _ h => h) (Or.inl ⟨by rfl, fun w hSw => ?yy117⟩) HS ?rr117
    case yy117 =>
      (try dsimp only at hSw); go_simp
      try with_reducible rfl
    try simp only [Act.put, List.setIfInBounds_toArray, List.set_cons_zero, List.set_cons_succ]
    refine wpAnyT_take (i := 17) (v := ?vv118) rfl (by kernel_rfl) (fun _ _ _ h => h) (Or.inl ⟨by rfl, fun w hSw => ?yy118⟩) HS ?rr118
    case yy118 =>
      (try dsimp only at hSw); go_simp
      try with_reducible rfl
    try simp only [Act.put, List.setIfInBounds_toArray, List.set_cons_zero, List.set_cons_succ]
    refine wpAnyT_take (i := 18) (v := ?vv119) rfl (by kernel_rfl) (fun _ _ _ h => h) (Or.inl ⟨by rfl, fun w hSw => ?yy119⟩) HS ?rr119
    case yy119 =>
      (try dsimp only at hSw); go_simp
      try with_reducible rfl
    try simp only [Act.put, List.setIfInBounds_toArray, List.set_cons_zero, List.set_cons_succ]
    refine ⟨by kernel_rfl, ?_⟩
    simp only [List.drop_succ_cons, List.drop_zero]
    have e7 := e6.kept dd; have n7 := n6.kept dd; have s7 := s6.keep dd; have g7 := Goti.below g6 dd
    have b7 := b6.trans (dd.mono (by omega)); have r7 := r6.trans (dd.mono (by omega))
    have hsz7 : Z ≤ wd.drew.heap.size := Nat.le_trans hsz6 dd.size
    clear e6 n6 s6 g6 b6 r6 hsz6 v1' v2' hbl6 hbs6 hblz hbsz a1 a2 hne hn0 HS
    generalize wd.drew = we at e7 n7 s7 g7 b7 r7 hsz7 ⊢
    clear dd
    go_upto_region 18 with (first
      | (refine ra_load rfl (.tmp 13) rfl rfl n7 rfl ?_)
      | (refine ra_store rfl (.tmp 6) (.tmp 114) rfl rfl [.int .i64 (tb + q), .int .i64 (ta + p), .slice R2 m2 d2] rfl e7 rfl rfl rfl ?_))
    have e8 := ra_put e7 [.int .i64 (tb + q), .int .i64 (ta + p), .slice R2 m2 d2]
    have g8 := Goti.grown g7 (ra_grown we P #[.int .i64 (tb + q), .int .i64 (ta + p), .slice R2 m2 d2]) (.inr (fun h => by have := (g7.row.lt P h).1; omega))
    have s8 := s7.grown (ra_grown we P #[.int .i64 (tb + q), .int .i64 (ta + p), .slice R2 m2 d2]) (fun b hb h => hb.1 (by cases h; rfl))
    have b8 := b7.grown (ra_grown we P #[.int .i64 (tb + q), .int .i64 (ta + p), .slice R2 m2 d2]) (by omega) (fun b h => by cases h; exact hBP)
    have r8 := r7.grown (ra_grown we P #[.int .i64 (tb + q), .int .i64 (ta + p), .slice R2 m2 d2]) (by omega) (fun b h => by cases h; exact Nat.le_refl _)
    have hsz8 : Z ≤ (we.setRow P #[.int .i64 (tb + q), .int .i64 (ta + p), .slice R2 m2 d2]).heap.size := by have := (ra_grown we P #[.int .i64 (tb + q), .int .i64 (ta + p), .slice R2 m2 d2]).size; omega
    generalize we.setRow P #[.int .i64 (tb + q), .int .i64 (ta + p), .slice R2 m2 d2] = wf at e8 g8 s8 b8 r8 hsz8 ⊢
    clear e7 n7 s7 g7 b7 r7 hsz7
    go_upto_region 19 with (at_builtin; go_loud (refine wpList_appi _ rfl (.tmp 115) (.tmp 117) 22 rfl Z 3 Try.underlying22 info_int _ _ _ rfl (g8.alloc (.cells #[.int .i64 tq] 3)) rfl (fun h => by cases h) (ri_one wf WT.out 3) (by omega) (by simp; omega) ?_; intro v' w3 hg' hgrow' hown'))
    have hgr : (wf.alloc (.cells #[.int .i64 tq] 3)).grownBy w3 u7.ownBlock := hgrow'
    have how : v'.ownBlock = u7.ownBlock ∨ v'.ownBlock = some (wf.alloc (.cells #[.int .i64 tq] 3)).heap.size := hown'
    rw [HTT.out] at hg'
    have e9 := (e8.alloc (.cells #[.int .i64 tq] 3)).grown hgr (fun h => by have := (g8.row.lt P h.symm).1; omega)
    have s9 := ((s8.alloc (.cells #[.int .i64 tq] 3)).fresh (q := (fun b => b ≠ P ∧ u7.ownBlock ≠ some b ∧ v'.ownBlock ≠ some b)) (fun b hb hlt => ⟨hb.1, hb.2, by
      rcases how with h | h
      · rw [h]; exact hb.2
      · rw [h]; intro e; cases e; exact Nat.lt_irrefl _ hlt⟩)).grown hgr (fun b hb h => hb.2.1 h)
    have s9 := s9.imp (q := (fun b => b ≠ P ∧ v'.ownBlock ≠ some b)) (fun b hb => ⟨hb.1, hb.2.2⟩)
    have b9 := (b8.alloc (by omega) (.cells #[.int .i64 tq] 3)).grown hgr (by simp; omega) (fun b h => by have := (g8.row.lt b h).1; omega)
    have r9 := (r8.alloc (by omega) (.cells #[.int .i64 tq] 3)).grown hgr (by simp; omega) (fun b h => by have := (g8.row.lt b h).1; omega)
    have hsz9 : Z ≤ w3.heap.size := by have := hgr.size; simp at this; omega
    clear hgrow' hown' hgr how e8 s8 b8 r8 g8 hsz8
    obtain ⟨A3, c3, hv3, g3⟩ := hg'.si
    subst hv3
    have HG9 := Lib.hid hg'; have HG3 := Lib.hid g3
    clear hg' g3
    go_wp2_with fail
    go_loopw [16, 17] (fun s16 s17 wz => ∃ (i : Nat) (j : Int), i ≤ k + 1 ∧ k + 1 - 10 ≤ i ∧ j = (i : Int) - 1 ∧ s17 = .int .i64 j ∧ s16 = .int .i64 (mx (T'.drop i)) ∧ w3 = wz) (fun _ j _ => (intOf j + 1).toNat)
    case atStart => exact ⟨k + 1, ((k + 1 : Nat) : Int) - 1, Nat.le_refl _, by omega, rfl, by go_num, by rw [mx_end T' (by rw [HL2.out, HLT.out]; exact Nat.le_refl _)], rfl⟩
    case round =>
      obtain ⟨i, j, hi1, hi2, hj, rfl, rfl, rfl⟩ := hrel
      by_cases hin : 0 ≤ j ∧ (k : Int) + 1 - 10 ≤ j
      case pos =>
        obtain ⟨hj0, hj1⟩ := hin
        obtain ⟨y, rfl⟩ : ∃ y : Nat, j = (y : Int) := ⟨j.toNat, by omega⟩
        obtain rfl : i = y + 1 := by omega
        clear hj
        have d1 : decide (0 ≤ (y : Int)) = true := decide_eq_true hj0
        have d2 : decide ((k : Int) + 1 - 10 ≤ (y : Int)) = true := decide_eq_true hj1
        obtain ⟨b3, o3, hA3, hb3, hc3⟩ := HG3.out.rd.at_ (by omega)
        subst hA3
        have y1 := hc3 y (by omega)
        have hmx := mx_drop (T := T') (i := y) (by rw [HL2.out, HLT.out]; omega)
        obtain ⟨M, hM⟩ : ∃ M, mx (T'.drop (y + 1)) = M := ⟨_, rfl⟩
        obtain ⟨x, hx⟩ : ∃ x, it T' y = x := ⟨_, rfl⟩
        rw [hM, hx] at hmx
        rw [hM]
        rw [hx] at y1
        have HMX := Lib.hid hmx
        clear hc3 hmx hM hx
        by_cases h5 : M < x
        · have d5 : decide (M < x) = true := decide_eq_true h5
          go_wp2_with fail
          go_roundw
          case rel => exact ⟨y, (y : Int) - 1, by omega, by omega, rfl, by go_num, by rw [HMX.out, if_pos h5], by first | trivial | rfl⟩
          case measure => simp [intOf]; try omega
        · have d5 : decide (M < x) = false := decide_eq_false h5
          go_wp2_with fail
          go_roundw
          case rel => exact ⟨y, (y : Int) - 1, by omega, by omega, rfl, by go_num, by rw [HMX.out, if_neg h5], by first | trivial | rfl⟩
          case measure => simp [intOf]; try omega
      case neg =>
      have hbest : bestR ⟨tb + q, ta + p, lastT T'⟩ = mx (T'.drop i) := by
        rw [HZZ.out, HL2.out, HLT.out, show k + 1 - 10 = i by omega]
      have HBE := Lib.hid hbest
      clear hbest
      obtain ⟨M, hM⟩ : ∃ M, mx (T'.drop i) = M := ⟨_, rfl⟩
      rw [hM] at HBE ⊢
      clear hM hj hi1 hi2
      by_cases h1 : 0 ≤ j
      · have d1 : decide (0 ≤ j) = true := decide_eq_true h1
        have dq2 : decide ((k : Int) + 1 - 10 ≤ j) = false := decide_eq_false (by omega)
        go_wp2_with (refine ra_load rfl (.tmp 6) rfl rfl e9 rfl ?_)
        refine (ratbest_any (tb + q) (ta + p) R2 m2 d2 (lastT T') _ s9.si).mono ?_
        rintro e w10 ⟨rfl, hb10⟩
        rw [HBE.out]
        have e10 := e9.kept hb10; have s10 := s9.keep hb10; have g10 := Goti.below HG9.out hb10
        have b10 := b9.trans (hb10.mono (by omega)); have r10 := r9.trans (hb10.mono (by omega)); have hsz10 := Nat.le_trans hsz9 hb10.size
        clear e9 s9 b9 r9
        have y0 := e10.cell 0 rfl; have y1 := e10.cell 1 rfl; have y2 := e10.cell 2 rfl
        go_wp2_with fail
        refine (ratmay_any (tb + q) (ta + p) R2 m2 d2 (lastT T') _ s10.si).mono ?_
        rintro e w11 ⟨rfl, hb11⟩
        rw [HM2K.out]
        have e11 := e10.kept hb11; have s11 := s10.keep hb11; have g11 := Goti.below g10 hb11
        have b11 := b10.trans (hb11.mono (by omega)); have r11 := r10.trans (hb11.mono (by omega)); have hsz11 := Nat.le_trans hsz10 hb11.size
        clear y0 y1 y2
        go_wp2_with fail
        go_roundw
        case rel => exact ⟨k + 1, tb + q, ta + p, T', R2, m2, d2, by omega, by go_num, Lib.hid g11, e11, s11, b11, r11, hsz11, HT2, by omega, by omega, by omega, by omega⟩
        case measure => simp [intOf]; omega
      · have d1 : decide (0 ≤ j) = false := decide_eq_false h1
        go_wp2_with (refine ra_load rfl (.tmp 6) rfl rfl e9 rfl ?_)
        refine (ratbest_any (tb + q) (ta + p) R2 m2 d2 (lastT T') _ s9.si).mono ?_
        rintro e w10 ⟨rfl, hb10⟩
        rw [HBE.out]
        have e10 := e9.kept hb10; have s10 := s9.keep hb10; have g10 := Goti.below HG9.out hb10
        have b10 := b9.trans (hb10.mono (by omega)); have r10 := r9.trans (hb10.mono (by omega)); have hsz10 := Nat.le_trans hsz9 hb10.size
        clear e9 s9 b9 r9
        have y0 := e10.cell 0 rfl; have y1 := e10.cell 1 rfl; have y2 := e10.cell 2 rfl
        go_wp2_with fail
        refine (ratmay_any (tb + q) (ta + p) R2 m2 d2 (lastT T') _ s10.si).mono ?_
        rintro e w11 ⟨rfl, hb11⟩
        rw [HM2K.out]
        have e11 := e10.kept hb11; have s11 := s10.keep hb11; have g11 := Goti.below g10 hb11
        have b11 := b10.trans (hb11.mono (by omega)); have r11 := r10.trans (hb11.mono (by omega)); have hsz11 := Nat.le_trans hsz10 hb11.size
        clear y0 y1 y2
        go_wp2_with fail
        go_roundw
        case rel => exact ⟨k + 1, tb + q, ta + p, T', R2, m2, d2, by omega, by go_num, Lib.hid g11, e11, s11, b11, r11, hsz11, HT2, by omega, by omega, by omega, by omega⟩
        case measure => simp [intOf]; omega
end Go.Proofs.Ytphkenicbbcjjaa.rateBest
