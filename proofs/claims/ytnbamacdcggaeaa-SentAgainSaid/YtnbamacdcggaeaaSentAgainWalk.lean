/- SentAgain: the walk. -/
import Derived.Test.YtnbamacdcggaeaaStAwake
import Derived.Test.YtnbamacdcggaeaaStMath
import Derived.OrdersHeld
import Derived.StillTail
import Derived.Test.YtnbamacdcggaeaaTail
import Derived.WalkKit
import Derived.WalkSpells
import Derived.WalkSmall
import Derived.Lib.Hide
import Derived.Below
import Derived.Outline
import Derived.Deep.QuietTactic
import Derived.BigQuiet
import Derived.IntWalk
import Derived.Deep.DeepCutAuto
import Derived.OwnWalk
namespace Go.Proofs.Ytnbamacdcggaeaa.sentAgain
open Go.RowKit
set_option linter.unusedVariables false
set_option linter.unusedSimpArgs false

theorem again_cases (l : List Prt) (seq a : Int) : (∃ e, e ≠ 0 ∧ againR l seq a = ([], e)) ∨ (∃ k, k < l.length ∧ (ge l k).seq = seq ∧ (ge l k).came = false ∧ (ge l k).tries ≤ 999 ∧ smayB l = true ∧ t60 a = true ∧ againR l seq a = (l.set k (againP (ge l k) a), 0)) := by
  by_cases h : smayB l = true ∧ t60 a = true
  case neg => exact .inl ⟨1, by decide, again_no h⟩
  by_cases hk : findSeq l seq < l.length
  case neg => exact .inl ⟨3, by decide, again_none h hk⟩
  by_cases hb : (ge l (findSeq l seq)).came = true ∨ 1000 ≤ (ge l (findSeq l seq)).tries
  · exact .inl ⟨3, by decide, again_bad h rfl hk hb⟩
  · refine .inr ⟨findSeq l seq, hk, ?_, ?_, by omega, h.1, h.2, again_ok h rfl hk hb⟩
    · have h9 : decide ((l[findSeq l seq]'hk).seq = seq) = true := List.findIdx_getElem (p := fun x : Prt => decide (x.seq = seq)) (w := hk)
      rw [← ge_eq hk] at h9
      exact of_decide_eq_true h9
    · cases hc : (ge l (findSeq l seq)).came with
      | false => rfl
      | true => exact absurd (Or.inl hc) hb
theorem again_may {l : List Prt} {k : Nat} {a : Int} (hk : k < l.length) (hm : smayB l = true) (ha : t60 a = true) (hc : (ge l k).came = false) (ht : (ge l k).tries ≤ 999) : smayB (l.set k (againP (ge l k) a)) = true := by
  obtain ⟨h1, h2⟩ := (smay_iff l).1 hm
  rw [smay_iff, List.length_set]
  refine ⟨h1, fun i hi => ?_⟩
  have hi2 := h2 i hi
  have hseq : ∀ j, (ge (l.set k (againP (ge l k) a)) j).seq = (ge l j).seq ∧ (ge (l.set k (againP (ge l k) a)) j).len = (ge l j).len := fun j => by
    rw [ge_set hk]
    split
    · next e => subst e; exact ⟨rfl, rfl⟩
    · exact ⟨rfl, rfl⟩
  refine ⟨?_, fun h0 => ?_⟩
  · rw [ge_set hk]
    split
    · next e =>
      subst e
      have h := hi2.1
      exact ⟨h.seq, h.dsn, ha, h.total, h.last, by show ((ge l k).came && false) = false; rw [hc]; rfl, h.l1, h.l2, by have := h.t1; show 1 ≤ (ge l k).tries + 1; omega, by show (ge l k).tries + 1 ≤ 1000; omega⟩
    · exact hi2.1
  · have := hi2.2 h0
    unfold endP at this ⊢
    rw [(hseq i).1, (hseq (i - 1)).1, (hseq (i - 1)).2]
    exact this

set_option maxRecDepth 100000 in
set_option maxHeartbeats 16000000 in
theorem walk (A : Option Addr) (n c : Nat) (l : List Prt) (seq a : Int) (w : World) (hs : Se w A n c l) :
    Calls Try.prog 7 #[.slice A n c, .int .i64 seq, .int .i64 a] w fun e w' => e = .returned (.bool true) ∧ Below w.heap.size w w' := by
  obtain ⟨B, hB⟩ : ∃ B, w.heap.size = B := ⟨_, rfl⟩
  rw [hB]
  have hl := hs.rd.len
  have m1 := hs.le; have m2 := hs.max
  unfold maxLen at m2
  have HL := Lib.hid hl; have HA := Lib.hid hs; have HB := Lib.hid hB
  clear hl hs
  go_enter Try.func7, Try.ntmps7
  by_cases hn : 520 < n
  · have d1 : decide ((520 : Int) < (n : Int)) = true := decide_eq_true (by omega)
    have d2 : decide (520 < n) = true := decide_eq_true hn
    go_wp2_with (go_at_call 9; refine (staw_any _).mono ?_; rintro e w1 ⟨rfl, hb1⟩)
    go_ret
    exact ⟨rfl, hB ▸ hb1⟩
  have d1 : decide ((520 : Int) < (n : Int)) = false := decide_eq_false (by omega)
  have d2 : decide (520 < n) = false := decide_eq_false hn
  have hn520 : n ≤ 1000 := by omega
  clear hn m1 m2
  obtain ⟨r, hr⟩ : ∃ r, againR l seq a = r := ⟨_, rfl⟩
  have HR := Lib.hid hr
  clear hr
  go_upto_region 5 with (first
    | (go_at_call 9; refine (staw_any _).mono ?_; rintro e w1 ⟨rfl, hb1⟩)
    | (have hsA := HA.out.keep hb1; go_at_call 13; refine (stagain_any A n c l seq a _ hsA hn520).mono ?_; rintro e w2 ⟨G, m, d, he, ht1, hb2⟩; rw [HR.out] at he ht1; subst he))
  (try dsimp only)
  have b1 : Below B w w1 := hB ▸ hb1
  have b2 : Below B w w2 := b1.trans (hb2.mono (by have := hb1.size; omega))
  have hB2 : B ≤ w2.heap.size := by have := b2.size; omega
  have hm := ht1.se.rd.len
  have HS1 := Lib.hid ht1.se
  clear b1 hb1 hb2 hsA
  rcases again_cases l seq a with ⟨er, her, hre⟩ | ⟨k0, hk0, hq0, hc0, ht0, hmay, ha60, hre⟩
  · rw [HR.out] at hre
    subst hre
    (try dsimp only at hm ⊢)
    obtain rfl : m = 0 := by rw [← hm]; rfl
    have h1 : (er != 0) = true := by simpa using her
    have h2 : (er == 0) = false := by simpa using her
    clear her
    go_wp2_with fail
    go_ret
    exact ⟨rfl, b2⟩
  rw [HR.out] at hre
  subst hre
  (try dsimp only at hm HS1 ⊢)
  obtain rfl : m = n := by rw [← hm, List.length_set, HL.out]
  have hmay2 := again_may hk0 hmay ha60 hc0 ht0
  have hch := ((smay_iff l).1 hmay).2
  have HCH := Lib.hid hch; have HM2 := Lib.hid hmay2; have HK0 := Lib.hid hk0; have HQ0 := Lib.hid hq0; have HC0 := Lib.hid hc0; have HT0 := Lib.hid ht0
  clear hm hch hmay hmay2 hk0 hq0 hc0 ht0 ha60 ht1
  go_wp2_with fail
  go_loopw [10, 11] (fun s i wr => ∃ k : Nat, k ≤ m ∧ i = .int .i64 (k : Int) ∧ s = .int .i64 (if k0 < k then 1 else 0) ∧ Below w2.heap.size w2 wr) (fun _ i _ => m - (intOf i).toNat)
  case atStart => exact ⟨0, Nat.zero_le _, rfl, by rw [if_neg (by omega)], Below.refl _ _⟩
  case round =>
    obtain ⟨k, hkn, rfl, rfl, hb⟩ := hrel
    have br : Below B w wr := b2.trans (hb.mono hB2)
    by_cases hlt : k < m
    · have hsr : Se wr A m c l := HA.out.keep (by rw [HB.out]; exact br)
      have hmr := HS1.out.keep hb
      obtain ⟨b, o, rfl, hbl, hc⟩ := hsr.rd.at_ (by omega)
      obtain ⟨b', o', rfl, hbl', hc'⟩ := hmr.rd.at_ (by omega)
      have X := prt_at hc hlt
      have Y := prt_at hc' hlt
      rw [ge_set HK0.out] at Y
      have hpk := (HCH.out k (by rw [HL.out]; exact hlt)).1
      have hj0 : (k : Int) < (m : Int) := by omega
      have hBr : B ≤ wr.heap.size := by have := br.size; omega
      have hge : ∀ j, k0 = j → ge l j = ge l k0 := fun j e => by rw [e]
      by_cases hk : k0 = k
      · subst hk
        rw [if_pos rfl] at Y
        have hq := HQ0.out; have hcm := HC0.out; have htr := HT0.out
        obtain ⟨p, hp⟩ : ∃ p, ge l k0 = p := ⟨_, rfl⟩
        rw [hp] at X Y hpk hq hcm htr
        have t1 := hpk.t1
        have hs1 : IntKind.i64.wrap (p.tries + 1) = p.tries + 1 := IntWalk.i64_in _ (by omega)
        have f0 : (p.seq == seq) = true := by simp [hq]
        rw [if_neg (Nat.lt_irrefl _)]
        obtain ⟨x0, x1, x2, x3, x4, x5, x6, x7, x8⟩ := X
        have e0 : Bx (wr.alloc (.cells #[.int .i64 p.seq, .int .i64 p.len, .int .i64 p.dsn, .int .i64 p.at_, .int .i64 p.tries, .bool p.came, .bool p.lost, .int .i64 p.total, .int .i64 p.last] 24)) wr.heap.size 24 [.int .i64 p.seq, .int .i64 p.len, .int .i64 p.dsn, .int .i64 p.at_, .int .i64 p.tries, .bool p.came, .bool p.lost, .int .i64 p.total, .int .i64 p.last] := Bx.new wr 24 [.int .i64 p.seq, .int .i64 p.len, .int .i64 p.dsn, .int .i64 p.at_, .int .i64 p.tries, .bool p.came, .bool p.lost, .int .i64 p.total, .int .i64 p.last]
        have ha : Below wr.heap.size wr (wr.alloc (.cells #[.int .i64 p.seq, .int .i64 p.len, .int .i64 p.dsn, .int .i64 p.at_, .int .i64 p.tries, .bool p.came, .bool p.lost, .int .i64 p.total, .int .i64 p.last] 24)) := (Below.refl _ _).alloc (Nat.le_refl _) _
        have X0 := x0; have X5 := x5
        have HX := Lib.hid (show _ ∧ _ from ⟨X0, X5⟩); have HY := Lib.hid Y
        have HCM := Lib.hid hcm
        clear hc hc' hpk hp hq htr Y X0 X5 hsr hmr hcm
        go_upto_region 14 with fail
        clear x0 x1 x2 x3 x4 x5 x6 x7 x8
        obtain ⟨P, hP⟩ : ∃ P, wr.heap.size = P := ⟨_, rfl⟩
        rw [hP] at e0 ha hbl hbl' ⊢
        generalize wr.alloc (.cells #[.int .i64 p.seq, .int .i64 p.len, .int .i64 p.dsn, .int .i64 p.at_, .int .i64 p.tries, .bool p.came, .bool p.lost, .int .i64 p.total, .int .i64 p.last] 24) = wA at e0 ha ⊢
        have c0 := e0.cell 0 rfl; have c3 := e0.cell 3 rfl; have c4 := e0.cell 4 rfl; have c6 := e0.cell 6 rfl
        have g3 := e0.free 3; have g4 := e0.free 4; have g6 := e0.free 6
        go_upto_region 19 with fail
        have eD : Bx (((wA.setCell ⟨P, 3, none⟩ (.int .i64 a)).setCell ⟨P, 4, none⟩ (.int .i64 (p.tries + 1))).setCell ⟨P, 6, none⟩ (.bool false)) P 24 [.int .i64 p.seq, .int .i64 p.len, .int .i64 p.dsn, .int .i64 a, .int .i64 (p.tries + 1), .bool p.came, .bool false, .int .i64 p.total, .int .i64 p.last] := ((e0.set 3 (.int .i64 a)).set 4 (.int .i64 (p.tries + 1))).set 6 (.bool false)
        have hD : Below P wr (((wA.setCell ⟨P, 3, none⟩ (.int .i64 a)).setCell ⟨P, 4, none⟩ (.int .i64 (p.tries + 1))).setCell ⟨P, 6, none⟩ (.bool false)) := ((ha.setCell (p := ⟨P, 3, none⟩) (Nat.le_refl _) _).setCell (p := ⟨P, 4, none⟩) (Nat.le_refl _) _).setCell (p := ⟨P, 6, none⟩) (Nat.le_refl _) _
        clear c0 c3 c4 c6 g3 g4 g6 e0 ha
        generalize ((wA.setCell ⟨P, 3, none⟩ (.int .i64 a)).setCell ⟨P, 4, none⟩ (.int .i64 (p.tries + 1))).setCell ⟨P, 6, none⟩ (.bool false) = wD at eD hD ⊢
        have hBD : Below w2.heap.size w2 wD := hb.trans (hD.mono (by rw [← hP]; exact hb.size))
        have y9 := HY.out.below hD hbl'
        obtain ⟨y0, y1, y2, y3, y4, y5, y6, y7, y8⟩ := y9
        dsimp only [againP] at y0 y1 y2 y3 y4 y5 y6 y7 y8
        have z0 := (hD.cell (p := ⟨b, o + k0 * 9, none⟩) hbl).trans HX.out.1
        have z5 := (hD.cell (p := ⟨b, o + k0 * 9 + 5, none⟩) hbl).trans HX.out.2
        rw [HCM.out] at z5
        clear HX HY hP hb br
        refine wp_region_tail 21 22 (fun (W : World) => ((W.cell? ⟨b', o' + k0 * 9, none⟩ = some (.int .i64 p.seq) ∧ W.cell? ⟨b', o' + k0 * 9 + 1, none⟩ = some (.int .i64 p.len) ∧ W.cell? ⟨b', o' + k0 * 9 + 2, none⟩ = some (.int .i64 p.dsn) ∧ W.cell? ⟨b', o' + k0 * 9 + 3, none⟩ = some (.int .i64 a) ∧ W.cell? ⟨b', o' + k0 * 9 + 4, none⟩ = some (.int .i64 (p.tries + 1)) ∧ W.cell? ⟨b', o' + k0 * 9 + 5, none⟩ = some (.bool p.came) ∧ W.cell? ⟨b', o' + k0 * 9 + 6, none⟩ = some (.bool false) ∧ W.cell? ⟨b', o' + k0 * 9 + 7, none⟩ = some (.int .i64 p.total) ∧ W.cell? ⟨b', o' + k0 * 9 + 8, none⟩ = some (.int .i64 p.last)) ∧ W.cell? ⟨b, o + k0 * 9, none⟩ = some (.int .i64 p.seq) ∧ W.cell? ⟨b, o + k0 * 9 + 5, none⟩ = some (.bool false)) ∧ Bx W P 24 [.int .i64 p.seq, .int .i64 p.len, .int .i64 p.dsn, .int .i64 a, .int .i64 (p.tries + 1), .bool p.came, .bool false, .int .i64 p.total, .int .i64 p.last] ∧ Below w2.heap.size w2 W) (by kernel_rfl) (by rfl) (by decide) ?_
        have HS : ((fun (W : World) => ((W.cell? ⟨b', o' + k0 * 9, none⟩ = some (.int .i64 p.seq) ∧ W.cell? ⟨b', o' + k0 * 9 + 1, none⟩ = some (.int .i64 p.len) ∧ W.cell? ⟨b', o' + k0 * 9 + 2, none⟩ = some (.int .i64 p.dsn) ∧ W.cell? ⟨b', o' + k0 * 9 + 3, none⟩ = some (.int .i64 a) ∧ W.cell? ⟨b', o' + k0 * 9 + 4, none⟩ = some (.int .i64 (p.tries + 1)) ∧ W.cell? ⟨b', o' + k0 * 9 + 5, none⟩ = some (.bool p.came) ∧ W.cell? ⟨b', o' + k0 * 9 + 6, none⟩ = some (.bool false) ∧ W.cell? ⟨b', o' + k0 * 9 + 7, none⟩ = some (.int .i64 p.total) ∧ W.cell? ⟨b', o' + k0 * 9 + 8, none⟩ = some (.int .i64 p.last)) ∧ W.cell? ⟨b, o + k0 * 9, none⟩ = some (.int .i64 p.seq) ∧ W.cell? ⟨b, o + k0 * 9 + 5, none⟩ = some (.bool false)) ∧ Bx W P 24 [.int .i64 p.seq, .int .i64 p.len, .int .i64 p.dsn, .int .i64 a, .int .i64 (p.tries + 1), .bool p.came, .bool false, .int .i64 p.total, .int .i64 p.last] ∧ Below w2.heap.size w2 W)) wD.drew := ⟨⟨⟨y0, y1, y2, y3, y4, y5, y6, y7, y8⟩, z0, z5⟩, eD.drew, hBD.drew⟩
        refine wpAnyT_take (i := 0) (v := ?vv1) rfl (by kernel_rfl) (fun _ _ _ h => h) (Or.inl ⟨by rfl, fun w hSw => ?yy1⟩) HS ?rr1
        case yy1 =>
          (try dsimp only at hSw); go_simp
          try with_reducible rfl
        try simp only [Act.put, List.setIfInBounds_toArray, List.set_cons_zero, List.set_cons_succ]
        refine wpAnyT_take (i := 1) (v := ?vv2) rfl (by kernel_rfl) (fun _ _ _ h => h) (Or.inl ⟨by rfl, fun w hSw => ?yy2⟩) HS ?rr2
        case yy2 =>
          (try dsimp only at hSw); go_simp
          try with_reducible rfl
        try simp only [Act.put, List.setIfInBounds_toArray, List.set_cons_zero, List.set_cons_succ]
        refine wpAnyT_take (i := 2) (v := ?vv3) rfl (by kernel_rfl) (fun _ _ _ h => h) (Or.inl ⟨by rfl, fun w hSw => ?yy3⟩) HS ?rr3
        case yy3 =>
          (try dsimp only at hSw); go_simp
          try with_reducible rfl
        try simp only [Act.put, List.setIfInBounds_toArray, List.set_cons_zero, List.set_cons_succ]
        refine wpAnyT_take (i := 3) (v := ?vv4) rfl (by kernel_rfl) (fun _ _ _ h => h) (Or.inl ⟨by rfl, fun w hSw => ?yy4⟩) HS ?rr4
        case yy4 =>
          (try dsimp only at hSw); go_simp
          try with_reducible rfl
        try simp only [Act.put, List.setIfInBounds_toArray, List.set_cons_zero, List.set_cons_succ]
        refine wpAnyT_take (i := 4) (v := .agg #[.int .i64 p.seq, .int .i64 p.len, .int .i64 p.dsn, .int .i64 a, .int .i64 (p.tries + 1), .bool p.came, .bool false, .int .i64 p.total, .int .i64 p.last]) rfl (by kernel_rfl) (fun _ _ _ h => h) (st_yields (by rfl) (.tmp 12) rfl rfl [.int .i64 p.seq, .int .i64 p.len, .int .i64 p.dsn, .int .i64 a, .int .i64 (p.tries + 1), .bool p.came, .bool false, .int .i64 p.total, .int .i64 p.last] rfl 24 (fun W hW => hW.2.1)) HS ?_
        try simp only [Act.put, List.setIfInBounds_toArray, List.set_cons_zero, List.set_cons_succ]
        refine wpAnyT_take (i := 5) (v := ?vv6) rfl (by kernel_rfl) (fun _ _ _ h => h) (Or.inl ⟨by rfl, fun w hSw => ?yy6⟩) HS ?rr6
        case yy6 =>
          (try dsimp only at hSw); go_simp
          try with_reducible rfl
        try simp only [Act.put, List.setIfInBounds_toArray, List.set_cons_zero, List.set_cons_succ]
        refine wpAnyT_take (i := 6) (v := ?vv7) rfl (by kernel_rfl) (fun _ _ _ h => h) (Or.inl ⟨by rfl, fun w hSw => ?yy7⟩) HS ?rr7
        case yy7 =>
          (try dsimp only at hSw); go_simp
          try with_reducible rfl
        try simp only [Act.put, List.setIfInBounds_toArray, List.set_cons_zero, List.set_cons_succ]
        refine wpAnyT_take (i := 7) (v := ?vv8) rfl (by kernel_rfl) (fun _ _ _ h => h) (Or.inl ⟨by rfl, fun w hSw => ?yy8⟩) HS ?rr8
        case yy8 =>
          (try dsimp only at hSw); go_simp
          try with_reducible rfl
        try simp only [Act.put, List.setIfInBounds_toArray, List.set_cons_zero, List.set_cons_succ]
        refine wpAnyT_take (i := 8) (v := ?vv9) rfl (by kernel_rfl) (fun _ _ _ h => h) (Or.inl ⟨by rfl, fun w hSw => ?yy9⟩) HS ?rr9
        case yy9 =>
          (try dsimp only at hSw); go_simp
          try with_reducible rfl
        try simp only [Act.put, List.setIfInBounds_toArray, List.set_cons_zero, List.set_cons_succ]
        refine wpAnyT_take (i := 9) (v := ?vv10) rfl (by kernel_rfl) (fun _ _ _ h => h) (Or.inl ⟨by rfl, fun w hSw => ?yy10⟩) HS ?rr10
        case yy10 =>
          (try dsimp only at hSw); go_simp
          try with_reducible rfl
        try simp only [Act.put, List.setIfInBounds_toArray, List.set_cons_zero, List.set_cons_succ]
        refine wpAnyT_take (i := 10) (v := ?vv11) rfl (by kernel_rfl) (fun _ _ _ h => h) (Or.inl ⟨by rfl, fun w hSw => ?yy11⟩) HS ?rr11
        case yy11 =>
          (try dsimp only at hSw); go_simp
          try with_reducible rfl
        try simp only [Act.put, List.setIfInBounds_toArray, List.set_cons_zero, List.set_cons_succ]
        refine wpAnyT_take (i := 11) (v := ?vv12) rfl (by kernel_rfl) (fun _ _ _ h => h) (Or.inl ⟨by rfl, fun w hSw => ?yy12⟩) HS ?rr12
        case yy12 =>
          (try dsimp only at hSw); go_simp
          try with_reducible rfl
        try simp only [Act.put, List.setIfInBounds_toArray, List.set_cons_zero, List.set_cons_succ]
        refine wpAnyT_take (i := 12) (v := ?vv13) rfl (by kernel_rfl) (fun _ _ _ h => h) (Or.inl ⟨by rfl, fun w hSw => ?yy13⟩) HS ?rr13
        case yy13 =>
          (try dsimp only at hSw); go_simp
          try with_reducible rfl
        try simp only [Act.put, List.setIfInBounds_toArray, List.set_cons_zero, List.set_cons_succ]
        refine wpAnyT_take (i := 13) (v := ?vv14) rfl (by kernel_rfl) (fun _ _ _ h => h) (Or.inl ⟨by rfl, fun w hSw => ?yy14⟩) HS ?rr14
        case yy14 =>
          (try dsimp only at hSw); go_simp
          try with_reducible rfl
        try simp only [Act.put, List.setIfInBounds_toArray, List.set_cons_zero, List.set_cons_succ]
        refine wpAnyT_take (i := 14) (v := ?vv15) rfl (by kernel_rfl) (fun _ _ _ h => h) (Or.inl ⟨by rfl, fun w hSw => ?yy15⟩) HS ?rr15
        case yy15 =>
          (try dsimp only at hSw); go_simp
          try with_reducible rfl
        try simp only [Act.put, List.setIfInBounds_toArray, List.set_cons_zero, List.set_cons_succ]
        refine wpAnyT_take (i := 15) (v := ?vv16) rfl (by kernel_rfl) (fun _ _ _ h => h) (Or.inl ⟨by rfl, fun w hSw => ?yy16⟩) HS ?rr16
        case yy16 =>
          (try dsimp only at hSw); go_simp
          try with_reducible rfl
        try simp only [Act.put, List.setIfInBounds_toArray, List.set_cons_zero, List.set_cons_succ]
        refine wpAnyT_take (i := 16) (v := ?vv17) rfl (by kernel_rfl) (fun _ _ _ h => h) (Or.inl ⟨by rfl, fun w hSw => ?yy17⟩) HS ?rr17
        case yy17 =>
          (try dsimp only at hSw); go_simp
          try with_reducible rfl
        try simp only [Act.put, List.setIfInBounds_toArray, List.set_cons_zero, List.set_cons_succ]
        refine wpAnyT_take (i := 17) (v := ?vv18) rfl (by kernel_rfl) (fun _ _ _ h => h) (Or.inl ⟨by rfl, fun w hSw => ?yy18⟩) HS ?rr18
        case yy18 =>
          (try dsimp only at hSw); go_simp
          try with_reducible rfl
        try simp only [Act.put, List.setIfInBounds_toArray, List.set_cons_zero, List.set_cons_succ]
        refine wpAnyT_take (i := 18) (v := ?vv19) rfl (by kernel_rfl) (fun _ _ _ h => h) (Or.inl ⟨by rfl, fun w hSw => ?yy19⟩) HS ?rr19
        case yy19 =>
          (try dsimp only at hSw); go_simp
          try with_reducible rfl
        try simp only [Act.put, List.setIfInBounds_toArray, List.set_cons_zero, List.set_cons_succ]
        refine wpAnyT_take (i := 19) (v := ?vv20) rfl (by kernel_rfl) (fun _ _ _ h => h) (Or.inl ⟨by rfl, fun w hSw => ?yy20⟩) HS ?rr20
        case yy20 =>
          (try dsimp only at hSw); go_simp
          try with_reducible rfl
        try simp only [Act.put, List.setIfInBounds_toArray, List.set_cons_zero, List.set_cons_succ]
        refine wpAnyT_take (i := 20) (v := ?vv21) rfl (by kernel_rfl) (fun _ _ _ h => h) (Or.inl ⟨by rfl, fun w hSw => ?yy21⟩) HS ?rr21
        case yy21 =>
          (try dsimp only at hSw); go_simp
          try with_reducible rfl
        try simp only [Act.put, List.setIfInBounds_toArray, List.set_cons_zero, List.set_cons_succ]
        refine ⟨by kernel_rfl, ?_⟩
        simp only [List.drop_succ_cons, List.drop_zero]
        go_wp2_with fail
        go_roundw
        case rel => exact ⟨k0 + 1, by omega, by go_num, by rw [if_pos (by omega)], HS.2.2⟩
        case measure => simp [intOf]; omega
      · rw [if_neg hk] at Y
        have hne : (ge l k).seq ≠ seq := fun e => by
          have h1 := HQ0.out
          rcases Nat.lt_or_gt_of_ne hk with h | h
          · have := seq_lt HCH.out h (by rw [HL.out]; exact hlt); omega
          · have := seq_lt HCH.out h HK0.out; omega
        obtain ⟨p, hp⟩ : ∃ p, ge l k = p := ⟨_, rfl⟩
        rw [hp] at X Y hpk hne
        have f0 : (p.seq == seq) = false := by simpa using hne
        have hif : (if k0 < k + 1 then (1 : Int) else 0) = (if k0 < k then 1 else 0) := by
          by_cases h : k0 < k
          · rw [if_pos h, if_pos (by omega)]
          · rw [if_neg h, if_neg (by omega)]
        have HIF := Lib.hid hif
        obtain ⟨mn, hmn⟩ : ∃ x : Int, (if k0 < k then 1 else 0) = x := ⟨_, rfl⟩
        rw [hmn]
        have HMN := Lib.hid hmn
        obtain ⟨x0, x1, x2, x3, x4, x5, x6, x7, x8⟩ := X
        have e0 : Bx (wr.alloc (.cells #[.int .i64 p.seq, .int .i64 p.len, .int .i64 p.dsn, .int .i64 p.at_, .int .i64 p.tries, .bool p.came, .bool p.lost, .int .i64 p.total, .int .i64 p.last] 24)) wr.heap.size 24 [.int .i64 p.seq, .int .i64 p.len, .int .i64 p.dsn, .int .i64 p.at_, .int .i64 p.tries, .bool p.came, .bool p.lost, .int .i64 p.total, .int .i64 p.last] := Bx.new wr 24 [.int .i64 p.seq, .int .i64 p.len, .int .i64 p.dsn, .int .i64 p.at_, .int .i64 p.tries, .bool p.came, .bool p.lost, .int .i64 p.total, .int .i64 p.last]
        have ha : Below wr.heap.size wr (wr.alloc (.cells #[.int .i64 p.seq, .int .i64 p.len, .int .i64 p.dsn, .int .i64 p.at_, .int .i64 p.tries, .bool p.came, .bool p.lost, .int .i64 p.total, .int .i64 p.last] 24)) := (Below.refl _ _).alloc (Nat.le_refl _) _
        have X0 := x0; have X5 := x5
        have HX := Lib.hid (show _ ∧ _ from ⟨X0, X5⟩); have HY := Lib.hid Y
        have HKK := Lib.hid hk
        clear hc hc' hpk hp hne hif hmn Y X0 X5 hsr hmr hk
        go_upto_region 14 with fail
        clear x0 x1 x2 x3 x4 x5 x6 x7 x8
        obtain ⟨P, hP⟩ : ∃ P, wr.heap.size = P := ⟨_, rfl⟩
        rw [hP] at e0 ha hbl hbl' ⊢
        generalize wr.alloc (.cells #[.int .i64 p.seq, .int .i64 p.len, .int .i64 p.dsn, .int .i64 p.at_, .int .i64 p.tries, .bool p.came, .bool p.lost, .int .i64 p.total, .int .i64 p.last] 24) = wD at e0 ha ⊢
        have c0 := e0.cell 0 rfl
        go_upto_region 19 with fail
        have hBD : Below w2.heap.size w2 wD := hb.trans (ha.mono (by rw [← hP]; exact hb.size))
        have y9 := HY.out.below ha hbl'
        obtain ⟨y0, y1, y2, y3, y4, y5, y6, y7, y8⟩ := y9
        have z0 := (ha.cell (p := ⟨b, o + k * 9, none⟩) hbl).trans HX.out.1
        have z5 : True := trivial
        have eD := e0
        clear HX HY hP hb br c0 e0 ha
        refine wp_region_tail 21 22 (fun (W : World) => ((W.cell? ⟨b', o' + k * 9, none⟩ = some (.int .i64 p.seq) ∧ W.cell? ⟨b', o' + k * 9 + 1, none⟩ = some (.int .i64 p.len) ∧ W.cell? ⟨b', o' + k * 9 + 2, none⟩ = some (.int .i64 p.dsn) ∧ W.cell? ⟨b', o' + k * 9 + 3, none⟩ = some (.int .i64 p.at_) ∧ W.cell? ⟨b', o' + k * 9 + 4, none⟩ = some (.int .i64 p.tries) ∧ W.cell? ⟨b', o' + k * 9 + 5, none⟩ = some (.bool p.came) ∧ W.cell? ⟨b', o' + k * 9 + 6, none⟩ = some (.bool p.lost) ∧ W.cell? ⟨b', o' + k * 9 + 7, none⟩ = some (.int .i64 p.total) ∧ W.cell? ⟨b', o' + k * 9 + 8, none⟩ = some (.int .i64 p.last)) ∧ W.cell? ⟨b, o + k * 9, none⟩ = some (.int .i64 p.seq)) ∧ Bx W P 24 [.int .i64 p.seq, .int .i64 p.len, .int .i64 p.dsn, .int .i64 p.at_, .int .i64 p.tries, .bool p.came, .bool p.lost, .int .i64 p.total, .int .i64 p.last] ∧ Below w2.heap.size w2 W) (by kernel_rfl) (by rfl) (by decide) ?_
        have HS : ((fun (W : World) => ((W.cell? ⟨b', o' + k * 9, none⟩ = some (.int .i64 p.seq) ∧ W.cell? ⟨b', o' + k * 9 + 1, none⟩ = some (.int .i64 p.len) ∧ W.cell? ⟨b', o' + k * 9 + 2, none⟩ = some (.int .i64 p.dsn) ∧ W.cell? ⟨b', o' + k * 9 + 3, none⟩ = some (.int .i64 p.at_) ∧ W.cell? ⟨b', o' + k * 9 + 4, none⟩ = some (.int .i64 p.tries) ∧ W.cell? ⟨b', o' + k * 9 + 5, none⟩ = some (.bool p.came) ∧ W.cell? ⟨b', o' + k * 9 + 6, none⟩ = some (.bool p.lost) ∧ W.cell? ⟨b', o' + k * 9 + 7, none⟩ = some (.int .i64 p.total) ∧ W.cell? ⟨b', o' + k * 9 + 8, none⟩ = some (.int .i64 p.last)) ∧ W.cell? ⟨b, o + k * 9, none⟩ = some (.int .i64 p.seq)) ∧ Bx W P 24 [.int .i64 p.seq, .int .i64 p.len, .int .i64 p.dsn, .int .i64 p.at_, .int .i64 p.tries, .bool p.came, .bool p.lost, .int .i64 p.total, .int .i64 p.last] ∧ Below w2.heap.size w2 W)) wD.drew := ⟨⟨⟨y0, y1, y2, y3, y4, y5, y6, y7, y8⟩, z0⟩, eD.drew, hBD.drew⟩
        refine wpAnyT_take (i := 0) (v := ?vv22) rfl (by kernel_rfl) (fun _ _ _ h => h) (Or.inl ⟨by rfl, fun w hSw => ?yy22⟩) HS ?rr22
        case yy22 =>
          (try dsimp only at hSw); go_simp
          try with_reducible rfl
        try simp only [Act.put, List.setIfInBounds_toArray, List.set_cons_zero, List.set_cons_succ]
        refine wpAnyT_take (i := 1) (v := ?vv23) rfl (by kernel_rfl) (fun _ _ _ h => h) (Or.inl ⟨by rfl, fun w hSw => ?yy23⟩) HS ?rr23
        case yy23 =>
          (try dsimp only at hSw); go_simp
          try with_reducible rfl
        try simp only [Act.put, List.setIfInBounds_toArray, List.set_cons_zero, List.set_cons_succ]
        refine wpAnyT_take (i := 2) (v := ?vv24) rfl (by kernel_rfl) (fun _ _ _ h => h) (Or.inl ⟨by rfl, fun w hSw => ?yy24⟩) HS ?rr24
        case yy24 =>
          (try dsimp only at hSw); go_simp
          try with_reducible rfl
        try simp only [Act.put, List.setIfInBounds_toArray, List.set_cons_zero, List.set_cons_succ]
        refine wpAnyT_take (i := 3) (v := ?vv25) rfl (by kernel_rfl) (fun _ _ _ h => h) (Or.inl ⟨by rfl, fun w hSw => ?yy25⟩) HS ?rr25
        case yy25 =>
          (try dsimp only at hSw); go_simp
          try with_reducible rfl
        try simp only [Act.put, List.setIfInBounds_toArray, List.set_cons_zero, List.set_cons_succ]
        refine wpAnyT_take (i := 4) (v := .agg #[.int .i64 p.seq, .int .i64 p.len, .int .i64 p.dsn, .int .i64 p.at_, .int .i64 p.tries, .bool p.came, .bool p.lost, .int .i64 p.total, .int .i64 p.last]) rfl (by kernel_rfl) (fun _ _ _ h => h) (st_yields (by rfl) (.tmp 12) rfl rfl [.int .i64 p.seq, .int .i64 p.len, .int .i64 p.dsn, .int .i64 p.at_, .int .i64 p.tries, .bool p.came, .bool p.lost, .int .i64 p.total, .int .i64 p.last] rfl 24 (fun W hW => hW.2.1)) HS ?_
        try simp only [Act.put, List.setIfInBounds_toArray, List.set_cons_zero, List.set_cons_succ]
        refine wpAnyT_take (i := 5) (v := ?vv27) rfl (by kernel_rfl) (fun _ _ _ h => h) (Or.inl ⟨by rfl, fun w hSw => ?yy27⟩) HS ?rr27
        case yy27 =>
          (try dsimp only at hSw); go_simp
          try with_reducible rfl
        try simp only [Act.put, List.setIfInBounds_toArray, List.set_cons_zero, List.set_cons_succ]
        refine wpAnyT_take (i := 6) (v := ?vv28) rfl (by kernel_rfl) (fun _ _ _ h => h) (Or.inl ⟨by rfl, fun w hSw => ?yy28⟩) HS ?rr28
        case yy28 =>
          (try dsimp only at hSw); go_simp
          try with_reducible rfl
        try simp only [Act.put, List.setIfInBounds_toArray, List.set_cons_zero, List.set_cons_succ]
        refine wpAnyT_take (i := 7) (v := ?vv29) rfl (by kernel_rfl) (fun _ _ _ h => h) (Or.inl ⟨by rfl, fun w hSw => ?yy29⟩) HS ?rr29
        case yy29 =>
          (try dsimp only at hSw); go_simp
          try with_reducible rfl
        try simp only [Act.put, List.setIfInBounds_toArray, List.set_cons_zero, List.set_cons_succ]
        refine wpAnyT_take (i := 8) (v := ?vv30) rfl (by kernel_rfl) (fun _ _ _ h => h) (Or.inl ⟨by rfl, fun w hSw => ?yy30⟩) HS ?rr30
        case yy30 =>
          (try dsimp only at hSw); go_simp
          try with_reducible rfl
        try simp only [Act.put, List.setIfInBounds_toArray, List.set_cons_zero, List.set_cons_succ]
        refine wpAnyT_take (i := 9) (v := ?vv31) rfl (by kernel_rfl) (fun _ _ _ h => h) (Or.inl ⟨by rfl, fun w hSw => ?yy31⟩) HS ?rr31
        case yy31 =>
          (try dsimp only at hSw); go_simp
          try with_reducible rfl
        try simp only [Act.put, List.setIfInBounds_toArray, List.set_cons_zero, List.set_cons_succ]
        refine wpAnyT_take (i := 10) (v := ?vv32) rfl (by kernel_rfl) (fun _ _ _ h => h) (Or.inl ⟨by rfl, fun w hSw => ?yy32⟩) HS ?rr32
        case yy32 =>
          (try dsimp only at hSw); go_simp
          try with_reducible rfl
        try simp only [Act.put, List.setIfInBounds_toArray, List.set_cons_zero, List.set_cons_succ]
        refine wpAnyT_take (i := 11) (v := ?vv33) rfl (by kernel_rfl) (fun _ _ _ h => h) (Or.inl ⟨by rfl, fun w hSw => ?yy33⟩) HS ?rr33
        case yy33 =>
          (try dsimp only at hSw); go_simp
          try with_reducible rfl
        try simp only [Act.put, List.setIfInBounds_toArray, List.set_cons_zero, List.set_cons_succ]
        refine wpAnyT_take (i := 12) (v := ?vv34) rfl (by kernel_rfl) (fun _ _ _ h => h) (Or.inl ⟨by rfl, fun w hSw => ?yy34⟩) HS ?rr34
        case yy34 =>
          (try dsimp only at hSw); go_simp
          try with_reducible rfl
        try simp only [Act.put, List.setIfInBounds_toArray, List.set_cons_zero, List.set_cons_succ]
        refine wpAnyT_take (i := 13) (v := ?vv35) rfl (by kernel_rfl) (fun _ _ _ h => h) (Or.inl ⟨by rfl, fun w hSw => ?yy35⟩) HS ?rr35
        case yy35 =>
          (try dsimp only at hSw); go_simp
          try with_reducible rfl
        try simp only [Act.put, List.setIfInBounds_toArray, List.set_cons_zero, List.set_cons_succ]
        refine wpAnyT_take (i := 14) (v := ?vv36) rfl (by kernel_rfl) (fun _ _ _ h => h) (Or.inl ⟨by rfl, fun w hSw => ?yy36⟩) HS ?rr36
        case yy36 =>
          (try dsimp only at hSw); go_simp
          try with_reducible rfl
        try simp only [Act.put, List.setIfInBounds_toArray, List.set_cons_zero, List.set_cons_succ]
        refine wpAnyT_take (i := 15) (v := undef) rfl (by kernel_rfl) (fun _ _ _ h => h) (Or.inr ⟨by kernel_rfl, rfl⟩) HS ?_
        try simp only [Act.put, List.setIfInBounds_toArray, List.set_cons_zero, List.set_cons_succ]
        refine wpAnyT_take (i := 16) (v := undef) rfl (by kernel_rfl) (fun _ _ _ h => h) (Or.inr ⟨by kernel_rfl, rfl⟩) HS ?_
        try simp only [Act.put, List.setIfInBounds_toArray, List.set_cons_zero, List.set_cons_succ]
        refine wpAnyT_take (i := 17) (v := undef) rfl (by kernel_rfl) (fun _ _ _ h => h) (Or.inr ⟨by kernel_rfl, rfl⟩) HS ?_
        try simp only [Act.put, List.setIfInBounds_toArray, List.set_cons_zero, List.set_cons_succ]
        refine wpAnyT_take (i := 18) (v := undef) rfl (by kernel_rfl) (fun _ _ _ h => h) (Or.inr ⟨by kernel_rfl, rfl⟩) HS ?_
        try simp only [Act.put, List.setIfInBounds_toArray, List.set_cons_zero, List.set_cons_succ]
        refine wpAnyT_take (i := 19) (v := undef) rfl (by kernel_rfl) (fun _ _ _ h => h) (Or.inr ⟨by kernel_rfl, rfl⟩) HS ?_
        try simp only [Act.put, List.setIfInBounds_toArray, List.set_cons_zero, List.set_cons_succ]
        refine wpAnyT_take (i := 20) (v := ?vv37) rfl (by kernel_rfl) (fun _ _ _ h => h) (Or.inl ⟨by rfl, fun w hSw => ?yy37⟩) HS ?rr37
        case yy37 =>
          (try dsimp only at hSw); go_simp
          try with_reducible rfl
        try simp only [Act.put, List.setIfInBounds_toArray, List.set_cons_zero, List.set_cons_succ]
        refine ⟨by kernel_rfl, ?_⟩
        simp only [List.drop_succ_cons, List.drop_zero]
        go_wp2_with fail
        go_roundw
        case rel => exact ⟨k + 1, by omega, by go_num, by rw [HIF.out, HMN.out], HS.2.2⟩
        case measure => simp [intOf]; omega
    · obtain rfl : k = m := by omega
      have hd : decide (k < k) = false := decide_eq_false (by omega)
      have hmr := HS1.out.keep hb
      rw [if_pos (by have := HK0.out; rw [HL.out] at this; exact this)]
      have hBr : B ≤ wr.heap.size := by have := br.size; omega
      go_wp2_with (go_at_call 17; refine (stmay_any G k d _ _ hmr).mono ?_; rintro e w9 ⟨he, hb9⟩; rw [HM2.out] at he; subst he)
      go_ret
      exact ⟨rfl, br.trans (hb9.mono hBr)⟩
end Go.Proofs.Ytnbamacdcggaeaa.sentAgain
