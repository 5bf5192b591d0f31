/- EcfOrder: the walk. -/
import Derived.Test.YtmclffbjdkoneaaEcAwake
import Derived.Test.YtmclffbjdkoneaaEcMath
import Derived.Test.YtmclffbjdkoneaaTail2
import Derived.Test.YtmclffbjdkoneaaRoT
import Derived.Deep.QuietTactic
import Derived.BigQuiet
import Derived.IntWalk
import Derived.Deep.AppendLies
import Derived.OrdersHeld
import Derived.Deep.DeepCutAuto
namespace Go.Proofs.Ytmclffbjdkoneaa.ecfOrder
open Go.RowKit
set_option linter.unusedVariables false
set_option linter.unusedSimpArgs false

theorem info_chz : (Try.prog.info? 28).map (fun i => (i.zero, i.size, i.bytes)) = some (some (.agg #[.bool false, .int .i64 0, .int .i64 0, .int .i64 0, .int .i64 0]), 5, 40) := by kernel_rfl

set_option maxRecDepth 100000 in
set_option maxHeartbeats 32000000 in
theorem walk (A : Option Addr) (n c : Nat) (l : List Chv) (x : Chv) (bytes mss : Int) (waits : Bool) (w : World) (hs : Se w A n c l) (hx : ChW x) :
    Calls Try.prog 6 #[.slice A n c, .agg #[.bool x.up, .int .i64 x.cwnd, .int .i64 x.flight, .int .i64 x.srtt, .int .i64 x.vr], .int .i64 bytes, .int .i64 mss, .bool waits] w fun e w' => e = .returned (.bool true) ∧ Below w.heap.size w w' := by
  obtain ⟨B, hB⟩ : ∃ B, w.heap.size = B := ⟨_, rfl⟩
  have e0 := Bx.new w 28 [.bool x.up, .int .i64 x.cwnd, .int .i64 x.flight, .int .i64 x.srtt, .int .i64 x.vr]
  rw [hB] at e0 ⊢
  have b0 : Below B w (w.alloc (.cells #[.bool x.up, .int .i64 x.cwnd, .int .i64 x.flight, .int .i64 x.srtt, .int .i64 x.vr] 28)) := by rw [← hB]; exact (Below.refl _ _).alloc (Nat.le_refl _) _
  have HB := Lib.hid hB
  have m1 := hs.le; have m2 := hs.max
  have m3 : n ≤ 9223372036854775807 := by unfold maxLen at m2; omega
  have HSE := Lib.hid hs; have HL := Lib.hid hs.rd.len; have HN := Lib.hid hs.nil; have HXW := Lib.hid hx
  clear hs m1 m2 hx
  go_enter Try.func6, Try.ntmps6
  go_wp2_with fail
  generalize w.alloc (.cells #[.bool x.up, .int .i64 x.cwnd, .int .i64 x.flight, .int .i64 x.srtt, .int .i64 x.vr] 28) = w1 at e0 b0 ⊢
  clear hB
  refine (ecawake_any _).mono ?_
  rintro e w2 ⟨rfl, hb2⟩
  have e2 := e0.kept hb2; have b2 := b0.trans (hb2.mono (Nat.le_of_lt e0.lt))
  clear e0 b0 hb2
  by_cases c0 : 3 < n
  case pos =>
    have d0 : decide ((3 : Int) < (n : Int)) = true := decide_eq_true (by omega)
    have d0' : decide (3 < n) = true := decide_eq_true c0
    go_wp2_with fail
    go_ret
    exact ⟨rfl, b2⟩
  have d0 : decide ((3 : Int) < (n : Int)) = false := decide_eq_false (by omega)
  have d0' : decide (3 < n) = false := decide_eq_false c0
  have hn3 : n ≤ 3 := by omega
  have hk := pick_ok l bytes mss waits
  have hnc := pick_last l x bytes mss waits (by rw [HL.out]; exact hn3)
  obtain ⟨⟨pa, px⟩, hp⟩ : ∃ p, pickR l bytes mss waits = p := ⟨_, rfl⟩
  obtain ⟨⟨qa, qx⟩, hq⟩ : ∃ p, pickR (l ++ [x]) bytes mss waits = p := ⟨_, rfl⟩
  obtain ⟨mv, hmv⟩ : ∃ v, chB x = v := ⟨_, rfl⟩
  rw [hp] at hk hnc
  rw [hq] at hnc
  dsimp only at hk hnc
  have e1 : decide ((n : Int) ≤ pa) = false := decide_eq_false (by have := hk.hi; rw [HL.out] at this; omega)
  have e3 : decide (pa < -1) = false := decide_eq_false (by have := hk.lo; omega)
  have HP := Lib.hid hp; have HQ := Lib.hid hq; have HK := Lib.hid hk; have HNC := Lib.hid hnc; have HMV := Lib.hid hmv
  clear hp hq hk hnc hmv
  have s2 : Se w2 A n c l := HSE.out.keep (by rw [HB.out]; exact b2)
  go_upto_region 4 with fail
  go_wp2_with fail
  refine (ecpick_any A n c l bytes mss waits _ s2).mono ?_
  rw [HP.out]
  rintro e w3 ⟨rfl, hb3⟩
  have e3' := e2.kept hb3; have b3 := b2.trans (hb3.mono (Nat.le_of_lt e2.lt))
  clear s2 hb3 e2 b2 d0 d0' c0
  go_upto_region 5 with fail
  obtain ⟨w4, hw4⟩ : ∃ w4, w3.drew = w4 := ⟨_, rfl⟩
  have e4 : Bx w4 B 28 [.bool x.up, .int .i64 x.cwnd, .int .i64 x.flight, .int .i64 x.srtt, .int .i64 x.vr] := by rw [← hw4]; exact e3'.drew
  have b4 : Below B w w4 := by rw [← hw4]; exact b3.drew
  have hB4 : B < w4.heap.size := e4.lt
  clear e3' b3
  refine wp_region_tail 13 14 (fun (W : World) => Bx W B 28 [.bool x.up, .int .i64 x.cwnd, .int .i64 x.flight, .int .i64 x.srtt, .int .i64 x.vr] ∧ Below B w W) (by kernel_rfl) (by rfl) (by decide) ?_
  rw [hw4]
  have HS : (fun (W : World) => Bx W B 28 [.bool x.up, .int .i64 x.cwnd, .int .i64 x.flight, .int .i64 x.srtt, .int .i64 x.vr] ∧ Below B w W) w4 := ⟨e4, b4⟩
  clear hw4
  refine wpAnyT_take (i := 0) (v := ?vv1) rfl (by kernel_rfl) (fun _ _ _ h => h) (Or.inl ⟨by rfl, fun w hSw => ?yy1⟩) HS ?rr1
  case yy1 =>
    (try dsimp only at hSw); go_simp
    try with_reducible rfl
  try simp only [Act.put, List.setIfInBounds_toArray, List.set_cons_zero, List.set_cons_succ]
  refine wpAnyT_take (i := 2) (v := .agg #[.bool x.up, .int .i64 x.cwnd, .int .i64 x.flight, .int .i64 x.srtt, .int .i64 x.vr]) rfl (by kernel_rfl) (fun _ _ _ h => h) (ch_yields (by rfl) (.tmp 6) rfl rfl [.bool x.up, .int .i64 x.cwnd, .int .i64 x.flight, .int .i64 x.srtt, .int .i64 x.vr] rfl 28 (fun W hW => hW.1)) HS ?_
  try simp only [Act.put, List.setIfInBounds_toArray, List.set_cons_zero, List.set_cons_succ]
  refine wpAnyT_take (i := 5) (v := ?vv2) rfl (by kernel_rfl) (fun _ _ _ h => h) (Or.inl ⟨by rfl, fun w hSw => ?yy2⟩) HS ?rr2
  case yy2 =>
    (try dsimp only at hSw); go_simp
    try with_reducible rfl
  try simp only [Act.put, List.setIfInBounds_toArray, List.set_cons_zero, List.set_cons_succ]
  refine wpAnyT_take (i := 6) (v := ?vv3) rfl (by kernel_rfl) (fun _ _ _ h => h) (Or.inl ⟨by rfl, fun w hSw => ?yy3⟩) HS ?rr3
  case yy3 =>
    (try dsimp only at hSw); go_simp
    try with_reducible rfl
  try simp only [Act.put, List.setIfInBounds_toArray, List.set_cons_zero, List.set_cons_succ]
  refine wpAnyT_take (i := 7) (v := ?vv4) rfl (by kernel_rfl) (fun _ _ _ h => h) (Or.inl ⟨by rfl, fun w hSw => ?yy4⟩) HS ?rr4
  case yy4 =>
    (try dsimp only at hSw); go_simp
    try with_reducible rfl
  try simp only [Act.put, List.setIfInBounds_toArray, List.set_cons_zero, List.set_cons_succ]
  refine wpAnyT_two (k1 := 1) (k2 := 3) rfl rfl (by kernel_rfl) (by decide) (by decide) (fun K hK => ?_) (fun K hK => ?_)
  · refine step_appe w4 (by rfl) (.const (.slice none 0 0)) (.tmp 34) 22 (by rfl) (B + 1) 28 Try.underlying22 (.agg #[.bool false, .int .i64 0, .int .i64 0, .int .i64 0, .int .i64 0]) 40 info_chz (by decide) _ 0 ([] : List Chv) (by rfl) (by rfl) (Goe.none _ _ _) HN.out (HSE.out.keep (by rw [HB.out]; exact b4)).rd (by unfold maxLen; omega) (by omega) (by omega) ?_
    intro v1 wa hg1 hgr1
    have hbx1 : Below w4.heap.size w4 wa := (Below.refl _ _).grown hgr1 (Nat.le_refl _) (fun k hk => by cases hk)
    have HG1 := Lib.hid hg1; clear hg1 hgr1
    have ea := e4.kept hbx1; have ba : Below B w wa := b4.trans (hbx1.mono (Nat.le_of_lt hB4))
    have HS : (fun (W : World) => Bx W B 28 [.bool x.up, .int .i64 x.cwnd, .int .i64 x.flight, .int .i64 x.srtt, .int .i64 x.vr] ∧ Below B w W) wa := ⟨ea, ba⟩
    refine hK _ _ HS ?_
    clear hK K
    try simp only [Act.put, List.setIfInBounds_toArray, List.set_cons_zero, List.set_cons_succ]
    refine wpAnyT_one (k := 3) rfl (by kernel_rfl) (by decide) (fun K hK => ?_)
    go_simp
    have eb := ea.alloc (.cells #[.bool x.up, .int .i64 x.cwnd, .int .i64 x.flight, .int .i64 x.srtt, .int .i64 x.vr] 28); have bb0 := ba.alloc (Nat.le_of_lt ea.lt) (.cells #[.bool x.up, .int .i64 x.cwnd, .int .i64 x.flight, .int .i64 x.srtt, .int .i64 x.vr] 28)
    have HS : (fun (W : World) => Bx W B 28 [.bool x.up, .int .i64 x.cwnd, .int .i64 x.flight, .int .i64 x.srtt, .int .i64 x.vr] ∧ Below B w W) (wa.alloc (.cells #[.bool x.up, .int .i64 x.cwnd, .int .i64 x.flight, .int .i64 x.srtt, .int .i64 x.vr] 28)) := ⟨eb, bb0⟩
    have hlit := se_one wa (x := x) HXW.out 28
    have HG2 := Lib.hid (HG1.out.alloc (.cells #[.bool x.up, .int .i64 x.cwnd, .int .i64 x.flight, .int .i64 x.srtt, .int .i64 x.vr] 28))
    refine hK _ _ HS ?_
    clear hK K HG1 HS
    try simp only [Act.put, List.setIfInBounds_toArray, List.set_cons_zero, List.set_cons_succ]
    change Bx (wa.alloc (.cells #[.bool x.up, .int .i64 x.cwnd, .int .i64 x.flight, .int .i64 x.srtt, .int .i64 x.vr] 28)) _ _ _ at eb
    generalize wa.alloc (.cells #[.bool x.up, .int .i64 x.cwnd, .int .i64 x.flight, .int .i64 x.srtt, .int .i64 x.vr] 28) = wb at eb bb0 hlit HG2 ⊢
    generalize wa.heap.size = P at hlit ⊢
    have HS : (fun (W : World) => Bx W B 28 [.bool x.up, .int .i64 x.cwnd, .int .i64 x.flight, .int .i64 x.srtt, .int .i64 x.vr] ∧ Below B w W) wb := ⟨eb, bb0⟩
    refine wpAnyT_one (k := 4) rfl (by kernel_rfl) (by decide) (fun K hK => ?_)
    refine step_appe wb (by rfl) (.tmp 35) (.tmp 37) 22 (by rfl) (B + 1) 28 Try.underlying22 (.agg #[.bool false, .int .i64 0, .int .i64 0, .int .i64 0, .int .i64 0]) 40 info_chz (by decide) _ (0 + n) ([] ++ l) (by rfl) (by rfl) HG2.out (fun h => by cases h) hlit.rd (by unfold maxLen; omega) (by omega) (by have := eb.lt; omega) ?_
    intro v3 w5 hg3 hgr3
    simp only [Nat.zero_add, List.nil_append] at hg3
    have e5 : Bx w5 B 28 [.bool x.up, .int .i64 x.cwnd, .int .i64 x.flight, .int .i64 x.srtt, .int .i64 x.vr] := eb.grown hgr3 (fun h => by have := (HG2.out.row.lt B h.symm).1; omega)
    have b5 : Below B w w5 := bb0.grown hgr3 (Nat.le_of_lt eb.lt) (fun k hk => by have := (HG2.out.row.lt k hk).1; omega)
    obtain ⟨R5, d5, ev3, hs5⟩ := hg3.se
    subst ev3
    clear hg3 hgr3
    have HS : (fun (W : World) => Bx W B 28 [.bool x.up, .int .i64 x.cwnd, .int .i64 x.flight, .int .i64 x.srtt, .int .i64 x.vr] ∧ Below B w W) _ := ⟨e5, b5⟩
    refine hK _ _ HS ?_
    clear hK K
    try simp only [Act.put, List.setIfInBounds_toArray, List.set_cons_zero, List.set_cons_succ]
    refine wpAnyT_one (k := 8) rfl (by kernel_rfl) (by decide) (fun K hK => ?_)
    go_simp
    refine (ecpick_any R5 (n + 1) d5 (l ++ [x]) bytes mss waits _ hs5).mono ?_
    rw [HQ.out]
    rintro e w6 ⟨rfl, hb6⟩
    have e6 := e5.kept hb6; have b6 := b5.trans (hb6.mono (Nat.le_of_lt e5.lt))
    have HS : (fun (W : World) => Bx W B 28 [.bool x.up, .int .i64 x.cwnd, .int .i64 x.flight, .int .i64 x.srtt, .int .i64 x.vr] ∧ Below B w W) _ := ⟨e6, b6⟩
    refine hK _ _ HS ?_
    clear hK K
    try simp only [Act.put, List.setIfInBounds_toArray, List.set_cons_zero, List.set_cons_succ]
    refine wpAnyT_take (i := 9) (v := ?vv5) rfl (by kernel_rfl) (fun _ _ _ h => h) (Or.inl ⟨by rfl, fun w hSw => ?yy5⟩) HS ?rr5
    case yy5 =>
      (try dsimp only at hSw); go_simp
      try with_reducible rfl
    try simp only [Act.put, List.setIfInBounds_toArray, List.set_cons_zero, List.set_cons_succ]
    refine wpAnyT_take (i := 10) (v := ?vv6) rfl (by kernel_rfl) (fun _ _ _ h => h) (Or.inl ⟨by rfl, fun w hSw => ?yy6⟩) HS ?rr6
    case yy6 =>
      (try dsimp only at hSw); go_simp
      try with_reducible rfl
    try simp only [Act.put, List.setIfInBounds_toArray, List.set_cons_zero, List.set_cons_succ]
    refine wpAnyT_take (i := 11) (v := ?vv7) rfl (by kernel_rfl) (fun _ _ _ h => h) (Or.inl ⟨by rfl, fun w hSw => ?yy7⟩) HS ?rr7
    case yy7 =>
      (try dsimp only at hSw); go_simp
      try with_reducible rfl
    try simp only [Act.put, List.setIfInBounds_toArray, List.set_cons_zero, List.set_cons_succ]
    refine wpAnyT_one (k := 12) rfl (by kernel_rfl) (by decide) (fun K hK => ?_)
    go_simp
    refine hK _ _ HS ?_
    clear hK K HS
    try simp only [Act.put, List.setIfInBounds_toArray, List.set_cons_zero, List.set_cons_succ]
    refine ⟨by kernel_rfl, ?_⟩
    simp only [List.drop_succ_cons, List.drop_zero]
    go_wp2_with fail
    go_upto_region 8 with fail
    cases mv with
    | false =>
      have e6d := e6.drew; have b6d : Below B w w6.drew := b6.drew
      refine wp_region_tail 15 16 (fun (W : World) => Bx W B 28 [.bool x.up, .int .i64 x.cwnd, .int .i64 x.flight, .int .i64 x.srtt, .int .i64 x.vr] ∧ Below B w W ∧ W.cell? ⟨B, 3, none⟩ = some (.int .i64 x.srtt)) (by kernel_rfl) (by rfl) (by decide) ?_
      have HS : ((fun (W : World) => Bx W B 28 [.bool x.up, .int .i64 x.cwnd, .int .i64 x.flight, .int .i64 x.srtt, .int .i64 x.vr] ∧ Below B w W ∧ W.cell? ⟨B, 3, none⟩ = some (.int .i64 x.srtt))) _ := ⟨e6d, b6d, e6d.cell 3 rfl⟩
      refine wpAnyT_take (i := 0) (v := .agg #[.bool x.up, .int .i64 x.cwnd, .int .i64 x.flight, .int .i64 x.srtt, .int .i64 x.vr]) rfl (by kernel_rfl) (fun _ _ _ h => h) (ch_yields (by rfl) (.tmp 6) rfl rfl [.bool x.up, .int .i64 x.cwnd, .int .i64 x.flight, .int .i64 x.srtt, .int .i64 x.vr] rfl 28 (fun W hW => hW.1)) HS ?_
      try simp only [Act.put, List.setIfInBounds_toArray, List.set_cons_zero, List.set_cons_succ]
      refine wpAnyT_one (k := 1) rfl (by kernel_rfl) (by decide) (fun K hK => ?_)
      go_simp
      refine (ecmay_any x _).mono ?_
      rw [HMV.out]
      rintro e w7 ⟨rfl, hb7⟩
      have e7 := e6d.kept hb7; have b7 := b6d.trans (hb7.mono (Nat.le_of_lt e6d.lt))
      have HS : ((fun (W : World) => Bx W B 28 [.bool x.up, .int .i64 x.cwnd, .int .i64 x.flight, .int .i64 x.srtt, .int .i64 x.vr] ∧ Below B w W ∧ W.cell? ⟨B, 3, none⟩ = some (.int .i64 x.srtt))) _ := ⟨e7, b7, e7.cell 3 rfl⟩
      refine hK _ _ HS ?_
      clear hK K
      try simp only [Act.put, List.setIfInBounds_toArray, List.set_cons_zero, List.set_cons_succ]
      refine wpAnyT_take (i := 2) (v := ?vv8) rfl (by kernel_rfl) (fun _ _ _ h => h) (Or.inl ⟨by rfl, fun w hSw => ?yy8⟩) HS ?rr8
      case yy8 =>
        (try dsimp only at hSw); go_simp
        try with_reducible rfl
      try simp only [Act.put, List.setIfInBounds_toArray, List.set_cons_zero, List.set_cons_succ]
      refine wpAnyT_take (i := 3) (v := undef) rfl (by kernel_rfl) (fun _ _ _ h => h) (Or.inr ⟨by kernel_rfl, rfl⟩) HS ?_
      try simp only [Act.put, List.setIfInBounds_toArray, List.set_cons_zero, List.set_cons_succ]
      refine wpAnyT_take (i := 4) (v := undef) rfl (by kernel_rfl) (fun _ _ _ h => h) (Or.inr ⟨by kernel_rfl, rfl⟩) HS ?_
      try simp only [Act.put, List.setIfInBounds_toArray, List.set_cons_zero, List.set_cons_succ]
      refine wpAnyT_take (i := 5) (v := undef) rfl (by kernel_rfl) (fun _ _ _ h => h) (Or.inr ⟨by kernel_rfl, rfl⟩) HS ?_
      try simp only [Act.put, List.setIfInBounds_toArray, List.set_cons_zero, List.set_cons_succ]
      refine wpAnyT_take (i := 6) (v := undef) rfl (by kernel_rfl) (fun _ _ _ h => h) (Or.inr ⟨by kernel_rfl, rfl⟩) HS ?_
      try simp only [Act.put, List.setIfInBounds_toArray, List.set_cons_zero, List.set_cons_succ]
      refine wpAnyT_take (i := 7) (v := undef) rfl (by kernel_rfl) (fun _ _ _ h => h) (Or.inr ⟨by kernel_rfl, rfl⟩) HS ?_
      try simp only [Act.put, List.setIfInBounds_toArray, List.set_cons_zero, List.set_cons_succ]
      refine wpAnyT_take (i := 8) (v := undef) rfl (by kernel_rfl) (fun _ _ _ h => h) (Or.inr ⟨by kernel_rfl, rfl⟩) HS ?_
      try simp only [Act.put, List.setIfInBounds_toArray, List.set_cons_zero, List.set_cons_succ]
      refine wpAnyT_take (i := 9) (v := undef) rfl (by kernel_rfl) (fun _ _ _ h => h) (Or.inr ⟨by kernel_rfl, rfl⟩) HS ?_
      try simp only [Act.put, List.setIfInBounds_toArray, List.set_cons_zero, List.set_cons_succ]
      refine wpAnyT_take (i := 10) (v := undef) rfl (by kernel_rfl) (fun _ _ _ h => h) (Or.inr ⟨by kernel_rfl, rfl⟩) HS ?_
      try simp only [Act.put, List.setIfInBounds_toArray, List.set_cons_zero, List.set_cons_succ]
      refine wpAnyT_take (i := 11) (v := undef) rfl (by kernel_rfl) (fun _ _ _ h => h) (Or.inr ⟨by kernel_rfl, rfl⟩) HS ?_
      try simp only [Act.put, List.setIfInBounds_toArray, List.set_cons_zero, List.set_cons_succ]
      refine wpAnyT_take (i := 12) (v := undef) rfl (by kernel_rfl) (fun _ _ _ h => h) (Or.inr ⟨by kernel_rfl, rfl⟩) HS ?_
      try simp only [Act.put, List.setIfInBounds_toArray, List.set_cons_zero, List.set_cons_succ]
      refine wpAnyT_take (i := 13) (v := undef) rfl (by kernel_rfl) (fun _ _ _ h => h) (Or.inr ⟨by kernel_rfl, rfl⟩) HS ?_
      try simp only [Act.put, List.setIfInBounds_toArray, List.set_cons_zero, List.set_cons_succ]
      refine wpAnyT_take (i := 14) (v := undef) rfl (by kernel_rfl) (fun _ _ _ h => h) (Or.inr ⟨by kernel_rfl, rfl⟩) HS ?_
      try simp only [Act.put, List.setIfInBounds_toArray, List.set_cons_zero, List.set_cons_succ]
      refine ⟨by kernel_rfl, ?_⟩
      simp only [List.drop_succ_cons, List.drop_zero]
      have heq := HNC.out (fun h => by rw [HMV.out] at h; cases h.1)
      cases heq
      have e1 : (pa == pa) = true := by simp
      have e2 : (px == px) = true := by simp
      go_wp2_with fail
      go_ret
      exact ⟨rfl, b7⟩
    | true =>
    by_cases hneg : pa < 0
    case pos =>
      have dn : decide (pa < 0) = true := decide_eq_true hneg
      have e6d := e6.drew; have b6d : Below B w w6.drew := b6.drew
      refine wp_region_tail 15 16 (fun (W : World) => Bx W B 28 [.bool x.up, .int .i64 x.cwnd, .int .i64 x.flight, .int .i64 x.srtt, .int .i64 x.vr] ∧ Below B w W ∧ W.cell? ⟨B, 3, none⟩ = some (.int .i64 x.srtt)) (by kernel_rfl) (by rfl) (by decide) ?_
      have HS : ((fun (W : World) => Bx W B 28 [.bool x.up, .int .i64 x.cwnd, .int .i64 x.flight, .int .i64 x.srtt, .int .i64 x.vr] ∧ Below B w W ∧ W.cell? ⟨B, 3, none⟩ = some (.int .i64 x.srtt))) _ := ⟨e6d, b6d, e6d.cell 3 rfl⟩
      refine wpAnyT_take (i := 0) (v := .agg #[.bool x.up, .int .i64 x.cwnd, .int .i64 x.flight, .int .i64 x.srtt, .int .i64 x.vr]) rfl (by kernel_rfl) (fun _ _ _ h => h) (ch_yields (by rfl) (.tmp 6) rfl rfl [.bool x.up, .int .i64 x.cwnd, .int .i64 x.flight, .int .i64 x.srtt, .int .i64 x.vr] rfl 28 (fun W hW => hW.1)) HS ?_
      try simp only [Act.put, List.setIfInBounds_toArray, List.set_cons_zero, List.set_cons_succ]
      refine wpAnyT_one (k := 1) rfl (by kernel_rfl) (by decide) (fun K hK => ?_)
      go_simp
      refine (ecmay_any x _).mono ?_
      rw [HMV.out]
      rintro e w7 ⟨rfl, hb7⟩
      have e7 := e6d.kept hb7; have b7 := b6d.trans (hb7.mono (Nat.le_of_lt e6d.lt))
      have HS : ((fun (W : World) => Bx W B 28 [.bool x.up, .int .i64 x.cwnd, .int .i64 x.flight, .int .i64 x.srtt, .int .i64 x.vr] ∧ Below B w W ∧ W.cell? ⟨B, 3, none⟩ = some (.int .i64 x.srtt))) _ := ⟨e7, b7, e7.cell 3 rfl⟩
      refine hK _ _ HS ?_
      clear hK K
      try simp only [Act.put, List.setIfInBounds_toArray, List.set_cons_zero, List.set_cons_succ]
      refine wpAnyT_take (i := 2) (v := ?vv9) rfl (by kernel_rfl) (fun _ _ _ h => h) (Or.inl ⟨by rfl, fun w hSw => ?yy9⟩) HS ?rr9
      case yy9 =>
        (try dsimp only at hSw); go_simp
        try with_reducible rfl
      try simp only [Act.put, List.setIfInBounds_toArray, List.set_cons_zero, List.set_cons_succ]
      refine wpAnyT_take (i := 3) (v := ?vv10) rfl (by kernel_rfl) (fun _ _ _ h => h) (Or.inl ⟨by rfl, fun w hSw => ?yy10⟩) HS ?rr10
      case yy10 =>
        (try dsimp only at hSw); go_simp
        try with_reducible rfl
      try simp only [Act.put, List.setIfInBounds_toArray, List.set_cons_zero, List.set_cons_succ]
      refine wpAnyT_take (i := 4) (v := ?vv11) rfl (by kernel_rfl) (fun _ _ _ h => h) (Or.inl ⟨by rfl, fun w hSw => ?yy11⟩) HS ?rr11
      case yy11 =>
        (try dsimp only at hSw); go_simp
        try with_reducible rfl
      try simp only [Act.put, List.setIfInBounds_toArray, List.set_cons_zero, List.set_cons_succ]
      refine wpAnyT_take (i := 5) (v := ?vv12) rfl (by kernel_rfl) (fun _ _ _ h => h) (Or.inl ⟨by rfl, fun w hSw => ?yy12⟩) HS ?rr12
      case yy12 =>
        (try dsimp only at hSw); go_simp
        try with_reducible rfl
      try simp only [Act.put, List.setIfInBounds_toArray, List.set_cons_zero, List.set_cons_succ]
      refine wpAnyT_take (i := 6) (v := undef) rfl (by kernel_rfl) (fun _ _ _ h => h) (Or.inr ⟨by kernel_rfl, rfl⟩) HS ?_
      try simp only [Act.put, List.setIfInBounds_toArray, List.set_cons_zero, List.set_cons_succ]
      refine wpAnyT_take (i := 7) (v := undef) rfl (by kernel_rfl) (fun _ _ _ h => h) (Or.inr ⟨by kernel_rfl, rfl⟩) HS ?_
      try simp only [Act.put, List.setIfInBounds_toArray, List.set_cons_zero, List.set_cons_succ]
      refine wpAnyT_take (i := 8) (v := undef) rfl (by kernel_rfl) (fun _ _ _ h => h) (Or.inr ⟨by kernel_rfl, rfl⟩) HS ?_
      try simp only [Act.put, List.setIfInBounds_toArray, List.set_cons_zero, List.set_cons_succ]
      refine wpAnyT_take (i := 9) (v := undef) rfl (by kernel_rfl) (fun _ _ _ h => h) (Or.inr ⟨by kernel_rfl, rfl⟩) HS ?_
      try simp only [Act.put, List.setIfInBounds_toArray, List.set_cons_zero, List.set_cons_succ]
      refine wpAnyT_take (i := 10) (v := undef) rfl (by kernel_rfl) (fun _ _ _ h => h) (Or.inr ⟨by kernel_rfl, rfl⟩) HS ?_
      try simp only [Act.put, List.setIfInBounds_toArray, List.set_cons_zero, List.set_cons_succ]
      refine wpAnyT_take (i := 11) (v := undef) rfl (by kernel_rfl) (fun _ _ _ h => h) (Or.inr ⟨by kernel_rfl, rfl⟩) HS ?_
      try simp only [Act.put, List.setIfInBounds_toArray, List.set_cons_zero, List.set_cons_succ]
      refine wpAnyT_take (i := 12) (v := undef) rfl (by kernel_rfl) (fun _ _ _ h => h) (Or.inr ⟨by kernel_rfl, rfl⟩) HS ?_
      try simp only [Act.put, List.setIfInBounds_toArray, List.set_cons_zero, List.set_cons_succ]
      refine wpAnyT_take (i := 13) (v := undef) rfl (by kernel_rfl) (fun _ _ _ h => h) (Or.inr ⟨by kernel_rfl, rfl⟩) HS ?_
      try simp only [Act.put, List.setIfInBounds_toArray, List.set_cons_zero, List.set_cons_succ]
      refine wpAnyT_take (i := 14) (v := ?vv13) rfl (by kernel_rfl) (fun _ _ _ h => h) (Or.inl ⟨by rfl, fun w hSw => ?yy13⟩) HS ?rr13
      case yy13 =>
        (try dsimp only at hSw); go_simp
        try with_reducible rfl
      try simp only [Act.put, List.setIfInBounds_toArray, List.set_cons_zero, List.set_cons_succ]
      refine ⟨by kernel_rfl, ?_⟩
      simp only [List.drop_succ_cons, List.drop_zero]
      go_wp2_with fail
      go_ret
      exact ⟨rfl, b7⟩
    case neg =>
      have dn : decide (pa < 0) = false := decide_eq_false hneg
      obtain ⟨s, hps⟩ : ∃ s : Nat, pa = (s : Int) := ⟨pa.toNat, by omega⟩
      subst hps
      have hsn : s < n := by have := HK.out.hi; rw [HL.out] at this; omega
      obtain ⟨bb, o, hA, hbl, hc0⟩ := HSE.out.rd.at_ (by omega)
      have hbB : bb < B := by have := HB.out; omega
      have hcell : ∀ W, Below B w W → ∀ i, i < n → ∀ j u, (El.cells (ge l i))[j]? = some u → W.cell? ⟨bb, o + i * 5 + j, none⟩ = some u := fun W hW i hi j u hu => (hW.cell (p := ⟨bb, o + i * 5 + j, none⟩) hbB).trans (hc0 i hi j u hu)
      have HC := Lib.hid hcell
      subst hA
      clear hc0 hcell hbl
      obtain ⟨z, hz⟩ : ∃ x, ge l s = x := ⟨_, rfl⟩
      have HZE := Lib.hid hz; clear hz
      have e6d := e6.drew; have b6d : Below B w w6.drew := b6.drew
      refine wp_region_tail 15 16 (fun (W : World) => Bx W B 28 [.bool x.up, .int .i64 x.cwnd, .int .i64 x.flight, .int .i64 x.srtt, .int .i64 x.vr] ∧ Below B w W ∧ W.cell? ⟨B, 3, none⟩ = some (.int .i64 x.srtt) ∧ W.cell? ⟨bb, o + s * 5 + 3, none⟩ = some (.int .i64 z.srtt)) (by kernel_rfl) (by rfl) (by decide) ?_
      have HS : ((fun (W : World) => Bx W B 28 [.bool x.up, .int .i64 x.cwnd, .int .i64 x.flight, .int .i64 x.srtt, .int .i64 x.vr] ∧ Below B w W ∧ W.cell? ⟨B, 3, none⟩ = some (.int .i64 x.srtt) ∧ W.cell? ⟨bb, o + s * 5 + 3, none⟩ = some (.int .i64 z.srtt))) _ := ⟨e6d, b6d, e6d.cell 3 rfl, HC.out _ b6d s hsn 3 _ (by rw [HZE.out]; rfl)⟩
      refine wpAnyT_take (i := 0) (v := .agg #[.bool x.up, .int .i64 x.cwnd, .int .i64 x.flight, .int .i64 x.srtt, .int .i64 x.vr]) rfl (by kernel_rfl) (fun _ _ _ h => h) (ch_yields (by rfl) (.tmp 6) rfl rfl [.bool x.up, .int .i64 x.cwnd, .int .i64 x.flight, .int .i64 x.srtt, .int .i64 x.vr] rfl 28 (fun W hW => hW.1)) HS ?_
      try simp only [Act.put, List.setIfInBounds_toArray, List.set_cons_zero, List.set_cons_succ]
      refine wpAnyT_one (k := 1) rfl (by kernel_rfl) (by decide) (fun K hK => ?_)
      go_simp
      refine (ecmay_any x _).mono ?_
      rw [HMV.out]
      rintro e w7 ⟨rfl, hb7⟩
      have e7 := e6d.kept hb7; have b7 := b6d.trans (hb7.mono (Nat.le_of_lt e6d.lt))
      have HS : ((fun (W : World) => Bx W B 28 [.bool x.up, .int .i64 x.cwnd, .int .i64 x.flight, .int .i64 x.srtt, .int .i64 x.vr] ∧ Below B w W ∧ W.cell? ⟨B, 3, none⟩ = some (.int .i64 x.srtt) ∧ W.cell? ⟨bb, o + s * 5 + 3, none⟩ = some (.int .i64 z.srtt))) _ := ⟨e7, b7, e7.cell 3 rfl, HC.out _ b7 s hsn 3 _ (by rw [HZE.out]; rfl)⟩
      refine hK _ _ HS ?_
      clear hK K
      try simp only [Act.put, List.setIfInBounds_toArray, List.set_cons_zero, List.set_cons_succ]
      refine wpAnyT_take (i := 2) (v := ?vv14) rfl (by kernel_rfl) (fun _ _ _ h => h) (Or.inl ⟨by rfl, fun w hSw => ?yy14⟩) HS ?rr14
      case yy14 =>
        (try dsimp only at hSw); go_simp
        try with_reducible rfl
      try simp only [Act.put, List.setIfInBounds_toArray, List.set_cons_zero, List.set_cons_succ]
      refine wpAnyT_take (i := 3) (v := ?vv15) rfl (by kernel_rfl) (fun _ _ _ h => h) (Or.inl ⟨by rfl, fun w hSw => ?yy15⟩) HS ?rr15
      case yy15 =>
        (try dsimp only at hSw); go_simp
        try with_reducible rfl
      try simp only [Act.put, List.setIfInBounds_toArray, List.set_cons_zero, List.set_cons_succ]
      refine wpAnyT_take (i := 4) (v := ?vv16) rfl (by kernel_rfl) (fun _ _ _ h => h) (Or.inl ⟨by rfl, fun w hSw => ?yy16⟩) HS ?rr16
      case yy16 =>
        (try dsimp only at hSw); go_simp
        try with_reducible rfl
      try simp only [Act.put, List.setIfInBounds_toArray, List.set_cons_zero, List.set_cons_succ]
      refine wpAnyT_take (i := 5) (v := ?vv17) rfl (by kernel_rfl) (fun _ _ _ h => h) (Or.inl ⟨by rfl, fun w hSw => ?yy17⟩) HS ?rr17
      case yy17 =>
        (try dsimp only at hSw); go_simp
        try with_reducible rfl
      try simp only [Act.put, List.setIfInBounds_toArray, List.set_cons_zero, List.set_cons_succ]
      refine wpAnyT_take (i := 6) (v := ?vv18) rfl (by kernel_rfl) (fun _ _ _ h => h) (Or.inl ⟨by rfl, fun w hSw => ?yy18⟩) HS ?rr18
      case yy18 =>
        (try dsimp only at hSw); go_simp
        try with_reducible rfl
      try simp only [Act.put, List.setIfInBounds_toArray, List.set_cons_zero, List.set_cons_succ]
      refine wpAnyT_take (i := 7) (v := ?vv19) rfl (by kernel_rfl) (fun _ _ _ h => h) (Or.inl ⟨by rfl, fun w hSw => ?yy19⟩) HS ?rr19
      case yy19 =>
        (try dsimp only at hSw); go_simp
        try with_reducible rfl
      try simp only [Act.put, List.setIfInBounds_toArray, List.set_cons_zero, List.set_cons_succ]
      refine wpAnyT_take (i := 8) (v := ?vv20) rfl (by kernel_rfl) (fun _ _ _ h => h) (Or.inl ⟨by rfl, fun w hSw => ?yy20⟩) HS ?rr20
      case yy20 =>
        (try dsimp only at hSw); go_simp
        try with_reducible rfl
      try simp only [Act.put, List.setIfInBounds_toArray, List.set_cons_zero, List.set_cons_succ]
      refine wpAnyT_take (i := 9) (v := ?vv21) rfl (by kernel_rfl) (fun _ _ _ h => h) (Or.inl ⟨by rfl, fun w hSw => ?yy21⟩) HS ?rr21
      case yy21 =>
        (try dsimp only at hSw); go_simp
        try with_reducible rfl
      try simp only [Act.put, List.setIfInBounds_toArray, List.set_cons_zero, List.set_cons_succ]
      refine wpAnyT_take (i := 10) (v := ?vv22) rfl (by kernel_rfl) (fun _ _ _ h => h) (Or.inl ⟨by rfl, fun w hSw => ?yy22⟩) HS ?rr22
      case yy22 =>
        (try dsimp only at hSw); go_simp
        try with_reducible rfl
      try simp only [Act.put, List.setIfInBounds_toArray, List.set_cons_zero, List.set_cons_succ]
      refine wpAnyT_take (i := 11) (v := ?vv23) rfl (by kernel_rfl) (fun _ _ _ h => h) (Or.inl ⟨by rfl, fun w hSw => ?yy23⟩) HS ?rr23
      case yy23 =>
        (try dsimp only at hSw); go_simp
        try with_reducible rfl
      try simp only [Act.put, List.setIfInBounds_toArray, List.set_cons_zero, List.set_cons_succ]
      refine wpAnyT_take (i := 12) (v := ?vv24) rfl (by kernel_rfl) (fun _ _ _ h => h) (Or.inl ⟨by rfl, fun w hSw => ?yy24⟩) HS ?rr24
      case yy24 =>
        (try dsimp only at hSw); go_simp
        try with_reducible rfl
      try simp only [Act.put, List.setIfInBounds_toArray, List.set_cons_zero, List.set_cons_succ]
      refine wpAnyT_take (i := 13) (v := ?vv25) rfl (by kernel_rfl) (fun _ _ _ h => h) (Or.inl ⟨by rfl, fun w hSw => ?yy25⟩) HS ?rr25
      case yy25 =>
        (try dsimp only at hSw); go_simp
        try with_reducible rfl
      try simp only [Act.put, List.setIfInBounds_toArray, List.set_cons_zero, List.set_cons_succ]
      refine wpAnyT_take (i := 14) (v := ?vv26) rfl (by kernel_rfl) (fun _ _ _ h => h) (Or.inl ⟨by rfl, fun w hSw => ?yy26⟩) HS ?rr26
      case yy26 =>
        (try dsimp only at hSw); go_simp
        try with_reducible rfl
      try simp only [Act.put, List.setIfInBounds_toArray, List.set_cons_zero, List.set_cons_succ]
      refine ⟨by kernel_rfl, ?_⟩
      simp only [List.drop_succ_cons, List.drop_zero]
      by_cases vz : x.srtt < z.srtt
      case pos =>
        have dz : decide (x.srtt < z.srtt) = true := decide_eq_true vz
        go_wp2_with fail
        go_ret
        exact ⟨rfl, b7⟩
      case neg =>
        have dz : decide (x.srtt < z.srtt) = false := decide_eq_false vz
        have heq := HNC.out (fun h => by rcases h.2 with h2 | h2; exact absurd h2 (by omega); rw [Int.toNat_natCast, HZE.out] at h2; exact vz h2)
        cases heq
        have e1 : ((s : Int) == (s : Int)) = true := by simp
        have e2 : (px == px) = true := by simp
        go_wp2_with fail
        go_ret
        exact ⟨rfl, b7⟩
  · go_simp
    have ea := e4.alloc (.cells #[.bool x.up, .int .i64 x.cwnd, .int .i64 x.flight, .int .i64 x.srtt, .int .i64 x.vr] 28); have ba := b4.alloc (Nat.le_of_lt e4.lt) (.cells #[.bool x.up, .int .i64 x.cwnd, .int .i64 x.flight, .int .i64 x.srtt, .int .i64 x.vr] 28)
    have HS : (fun (W : World) => Bx W B 28 [.bool x.up, .int .i64 x.cwnd, .int .i64 x.flight, .int .i64 x.srtt, .int .i64 x.vr] ∧ Below B w W) (w4.alloc (.cells #[.bool x.up, .int .i64 x.cwnd, .int .i64 x.flight, .int .i64 x.srtt, .int .i64 x.vr] 28)) := ⟨ea, ba⟩
    have hlit3 := se_one w4 (x := x) HXW.out 28
    refine hK _ _ HS ?_
    clear hK K HS
    try simp only [Act.put, List.setIfInBounds_toArray, List.set_cons_zero, List.set_cons_succ]
    generalize w4.alloc (.cells #[.bool x.up, .int .i64 x.cwnd, .int .i64 x.flight, .int .i64 x.srtt, .int .i64 x.vr] 28) = wa at ea ba hlit3 ⊢
    generalize w4.heap.size = P at hlit3 ⊢
    have hBa : B < wa.heap.size := ea.lt
    refine wpAnyT_one (k := 1) rfl (by kernel_rfl) (by decide) (fun K hK => ?_)
    refine step_appe wa (by rfl) (.const (.slice none 0 0)) (.tmp 34) 22 (by rfl) (B + 1) 28 Try.underlying22 (.agg #[.bool false, .int .i64 0, .int .i64 0, .int .i64 0, .int .i64 0]) 40 info_chz (by decide) _ 0 ([] : List Chv) (by rfl) (by rfl) (Goe.none _ _ _) HN.out (HSE.out.keep (by rw [HB.out]; exact ba)).rd (by unfold maxLen; omega) (by omega) (by omega) ?_
    intro v1 wb hg1 hgr1
    have hbx1 : Below wa.heap.size wa wb := (Below.refl _ _).grown hgr1 (Nat.le_refl _) (fun k hk => by cases hk)
    have HG1 := Lib.hid hg1; clear hg1 hgr1
    have eb := ea.kept hbx1; have bb0 : Below B w wb := ba.trans (hbx1.mono (Nat.le_of_lt hBa))
    have hlit := hlit3.keep hbx1
    have HG2 := HG1
    have HS : (fun (W : World) => Bx W B 28 [.bool x.up, .int .i64 x.cwnd, .int .i64 x.flight, .int .i64 x.srtt, .int .i64 x.vr] ∧ Below B w W) wb := ⟨eb, bb0⟩
    refine hK _ _ HS ?_
    clear hK K HG1
    try simp only [Act.put, List.setIfInBounds_toArray, List.set_cons_zero, List.set_cons_succ]
    refine wpAnyT_one (k := 4) rfl (by kernel_rfl) (by decide) (fun K hK => ?_)
    refine step_appe wb (by rfl) (.tmp 35) (.tmp 37) 22 (by rfl) (B + 1) 28 Try.underlying22 (.agg #[.bool false, .int .i64 0, .int .i64 0, .int .i64 0, .int .i64 0]) 40 info_chz (by decide) _ (0 + n) ([] ++ l) (by rfl) (by rfl) HG2.out (fun h => by cases h) hlit.rd (by unfold maxLen; omega) (by omega) (by have := eb.lt; omega) ?_
    intro v3 w5 hg3 hgr3
    simp only [Nat.zero_add, List.nil_append] at hg3
    have e5 : Bx w5 B 28 [.bool x.up, .int .i64 x.cwnd, .int .i64 x.flight, .int .i64 x.srtt, .int .i64 x.vr] := eb.grown hgr3 (fun h => by have := (HG2.out.row.lt B h.symm).1; omega)
    have b5 : Below B w w5 := bb0.grown hgr3 (Nat.le_of_lt eb.lt) (fun k hk => by have := (HG2.out.row.lt k hk).1; omega)
    obtain ⟨R5, d5, ev3, hs5⟩ := hg3.se
    subst ev3
    clear hg3 hgr3
    have HS : (fun (W : World) => Bx W B 28 [.bool x.up, .int .i64 x.cwnd, .int .i64 x.flight, .int .i64 x.srtt, .int .i64 x.vr] ∧ Below B w W) _ := ⟨e5, b5⟩
    refine hK _ _ HS ?_
    clear hK K
    try simp only [Act.put, List.setIfInBounds_toArray, List.set_cons_zero, List.set_cons_succ]
    refine wpAnyT_one (k := 8) rfl (by kernel_rfl) (by decide) (fun K hK => ?_)
    go_simp
    refine (ecpick_any R5 (n + 1) d5 (l ++ [x]) bytes mss waits _ hs5).mono ?_
    rw [HQ.out]
    rintro e w6 ⟨rfl, hb6⟩
    have e6 := e5.kept hb6; have b6 := b5.trans (hb6.mono (Nat.le_of_lt e5.lt))
    have HS : (fun (W : World) => Bx W B 28 [.bool x.up, .int .i64 x.cwnd, .int .i64 x.flight, .int .i64 x.srtt, .int .i64 x.vr] ∧ Below B w W) _ := ⟨e6, b6⟩
    refine hK _ _ HS ?_
    clear hK K
    try simp only [Act.put, List.setIfInBounds_toArray, List.set_cons_zero, List.set_cons_succ]
    refine wpAnyT_take (i := 9) (v := ?vv27) rfl (by kernel_rfl) (fun _ _ _ h => h) (Or.inl ⟨by rfl, fun w hSw => ?yy27⟩) HS ?rr27
    case yy27 =>
      (try dsimp only at hSw); go_simp
      try with_reducible rfl
    try simp only [Act.put, List.setIfInBounds_toArray, List.set_cons_zero, List.set_cons_succ]
    refine wpAnyT_take (i := 10) (v := ?vv28) rfl (by kernel_rfl) (fun _ _ _ h => h) (Or.inl ⟨by rfl, fun w hSw => ?yy28⟩) HS ?rr28
    case yy28 =>
      (try dsimp only at hSw); go_simp
      try with_reducible rfl
    try simp only [Act.put, List.setIfInBounds_toArray, List.set_cons_zero, List.set_cons_succ]
    refine wpAnyT_take (i := 11) (v := ?vv29) rfl (by kernel_rfl) (fun _ _ _ h => h) (Or.inl ⟨by rfl, fun w hSw => ?yy29⟩) HS ?rr29
    case yy29 =>
      (try dsimp only at hSw); go_simp
      try with_reducible rfl
    try simp only [Act.put, List.setIfInBounds_toArray, List.set_cons_zero, List.set_cons_succ]
    refine wpAnyT_one (k := 12) rfl (by kernel_rfl) (by decide) (fun K hK => ?_)
    go_simp
    refine hK _ _ HS ?_
    clear hK K HS
    try simp only [Act.put, List.setIfInBounds_toArray, List.set_cons_zero, List.set_cons_succ]
    refine ⟨by kernel_rfl, ?_⟩
    simp only [List.drop_succ_cons, List.drop_zero]
    go_wp2_with fail
    go_upto_region 8 with fail
    cases mv with
    | false =>
      have e6d := e6.drew; have b6d : Below B w w6.drew := b6.drew
      refine wp_region_tail 15 16 (fun (W : World) => Bx W B 28 [.bool x.up, .int .i64 x.cwnd, .int .i64 x.flight, .int .i64 x.srtt, .int .i64 x.vr] ∧ Below B w W ∧ W.cell? ⟨B, 3, none⟩ = some (.int .i64 x.srtt)) (by kernel_rfl) (by rfl) (by decide) ?_
      have HS : ((fun (W : World) => Bx W B 28 [.bool x.up, .int .i64 x.cwnd, .int .i64 x.flight, .int .i64 x.srtt, .int .i64 x.vr] ∧ Below B w W ∧ W.cell? ⟨B, 3, none⟩ = some (.int .i64 x.srtt))) _ := ⟨e6d, b6d, e6d.cell 3 rfl⟩
      refine wpAnyT_take (i := 0) (v := .agg #[.bool x.up, .int .i64 x.cwnd, .int .i64 x.flight, .int .i64 x.srtt, .int .i64 x.vr]) rfl (by kernel_rfl) (fun _ _ _ h => h) (ch_yields (by rfl) (.tmp 6) rfl rfl [.bool x.up, .int .i64 x.cwnd, .int .i64 x.flight, .int .i64 x.srtt, .int .i64 x.vr] rfl 28 (fun W hW => hW.1)) HS ?_
      try simp only [Act.put, List.setIfInBounds_toArray, List.set_cons_zero, List.set_cons_succ]
      refine wpAnyT_one (k := 1) rfl (by kernel_rfl) (by decide) (fun K hK => ?_)
      go_simp
      refine (ecmay_any x _).mono ?_
      rw [HMV.out]
      rintro e w7 ⟨rfl, hb7⟩
      have e7 := e6d.kept hb7; have b7 := b6d.trans (hb7.mono (Nat.le_of_lt e6d.lt))
      have HS : ((fun (W : World) => Bx W B 28 [.bool x.up, .int .i64 x.cwnd, .int .i64 x.flight, .int .i64 x.srtt, .int .i64 x.vr] ∧ Below B w W ∧ W.cell? ⟨B, 3, none⟩ = some (.int .i64 x.srtt))) _ := ⟨e7, b7, e7.cell 3 rfl⟩
      refine hK _ _ HS ?_
      clear hK K
      try simp only [Act.put, List.setIfInBounds_toArray, List.set_cons_zero, List.set_cons_succ]
      refine wpAnyT_take (i := 2) (v := ?vv30) rfl (by kernel_rfl) (fun _ _ _ h => h) (Or.inl ⟨by rfl, fun w hSw => ?yy30⟩) HS ?rr30
      case yy30 =>
        (try dsimp only at hSw); go_simp
        try with_reducible rfl
      try simp only [Act.put, List.setIfInBounds_toArray, List.set_cons_zero, List.set_cons_succ]
      refine wpAnyT_take (i := 3) (v := undef) rfl (by kernel_rfl) (fun _ _ _ h => h) (Or.inr ⟨by kernel_rfl, rfl⟩) HS ?_
      try simp only [Act.put, List.setIfInBounds_toArray, List.set_cons_zero, List.set_cons_succ]
      refine wpAnyT_take (i := 4) (v := undef) rfl (by kernel_rfl) (fun _ _ _ h => h) (Or.inr ⟨by kernel_rfl, rfl⟩) HS ?_
      try simp only [Act.put, List.setIfInBounds_toArray, List.set_cons_zero, List.set_cons_succ]
      refine wpAnyT_take (i := 5) (v := undef) rfl (by kernel_rfl) (fun _ _ _ h => h) (Or.inr ⟨by kernel_rfl, rfl⟩) HS ?_
      try simp only [Act.put, List.setIfInBounds_toArray, List.set_cons_zero, List.set_cons_succ]
      refine wpAnyT_take (i := 6) (v := undef) rfl (by kernel_rfl) (fun _ _ _ h => h) (Or.inr ⟨by kernel_rfl, rfl⟩) HS ?_
      try simp only [Act.put, List.setIfInBounds_toArray, List.set_cons_zero, List.set_cons_succ]
      refine wpAnyT_take (i := 7) (v := undef) rfl (by kernel_rfl) (fun _ _ _ h => h) (Or.inr ⟨by kernel_rfl, rfl⟩) HS ?_
      try simp only [Act.put, List.setIfInBounds_toArray, List.set_cons_zero, List.set_cons_succ]
      refine wpAnyT_take (i := 8) (v := undef) rfl (by kernel_rfl) (fun _ _ _ h => h) (Or.inr ⟨by kernel_rfl, rfl⟩) HS ?_
      try simp only [Act.put, List.setIfInBounds_toArray, List.set_cons_zero, List.set_cons_succ]
      refine wpAnyT_take (i := 9) (v := undef) rfl (by kernel_rfl) (fun _ _ _ h => h) (Or.inr ⟨by kernel_rfl, rfl⟩) HS ?_
      try simp only [Act.put, List.setIfInBounds_toArray, List.set_cons_zero, List.set_cons_succ]
      refine wpAnyT_take (i := 10) (v := undef) rfl (by kernel_rfl) (fun _ _ _ h => h) (Or.inr ⟨by kernel_rfl, rfl⟩) HS ?_
      try simp only [Act.put, List.setIfInBounds_toArray, List.set_cons_zero, List.set_cons_succ]
      refine wpAnyT_take (i := 11) (v := undef) rfl (by kernel_rfl) (fun _ _ _ h => h) (Or.inr ⟨by kernel_rfl, rfl⟩) HS ?_
      try simp only [Act.put, List.setIfInBounds_toArray, List.set_cons_zero, List.set_cons_succ]
      refine wpAnyT_take (i := 12) (v := undef) rfl (by kernel_rfl) (fun _ _ _ h => h) (Or.inr ⟨by kernel_rfl, rfl⟩) HS ?_
      try simp only [Act.put, List.setIfInBounds_toArray, List.set_cons_zero, List.set_cons_succ]
      refine wpAnyT_take (i := 13) (v := undef) rfl (by kernel_rfl) (fun _ _ _ h => h) (Or.inr ⟨by kernel_rfl, rfl⟩) HS ?_
      try simp only [Act.put, List.setIfInBounds_toArray, List.set_cons_zero, List.set_cons_succ]
      refine wpAnyT_take (i := 14) (v := undef) rfl (by kernel_rfl) (fun _ _ _ h => h) (Or.inr ⟨by kernel_rfl, rfl⟩) HS ?_
      try simp only [Act.put, List.setIfInBounds_toArray, List.set_cons_zero, List.set_cons_succ]
      refine ⟨by kernel_rfl, ?_⟩
      simp only [List.drop_succ_cons, List.drop_zero]
      have heq := HNC.out (fun h => by rw [HMV.out] at h; cases h.1)
      cases heq
      have e1 : (pa == pa) = true := by simp
      have e2 : (px == px) = true := by simp
      go_wp2_with fail
      go_ret
      exact ⟨rfl, b7⟩
    | true =>
    by_cases hneg : pa < 0
    case pos =>
      have dn : decide (pa < 0) = true := decide_eq_true hneg
      have e6d := e6.drew; have b6d : Below B w w6.drew := b6.drew
      refine wp_region_tail 15 16 (fun (W : World) => Bx W B 28 [.bool x.up, .int .i64 x.cwnd, .int .i64 x.flight, .int .i64 x.srtt, .int .i64 x.vr] ∧ Below B w W ∧ W.cell? ⟨B, 3, none⟩ = some (.int .i64 x.srtt)) (by kernel_rfl) (by rfl) (by decide) ?_
      have HS : ((fun (W : World) => Bx W B 28 [.bool x.up, .int .i64 x.cwnd, .int .i64 x.flight, .int .i64 x.srtt, .int .i64 x.vr] ∧ Below B w W ∧ W.cell? ⟨B, 3, none⟩ = some (.int .i64 x.srtt))) _ := ⟨e6d, b6d, e6d.cell 3 rfl⟩
      refine wpAnyT_take (i := 0) (v := .agg #[.bool x.up, .int .i64 x.cwnd, .int .i64 x.flight, .int .i64 x.srtt, .int .i64 x.vr]) rfl (by kernel_rfl) (fun _ _ _ h => h) (ch_yields (by rfl) (.tmp 6) rfl rfl [.bool x.up, .int .i64 x.cwnd, .int .i64 x.flight, .int .i64 x.srtt, .int .i64 x.vr] rfl 28 (fun W hW => hW.1)) HS ?_
      try simp only [Act.put, List.setIfInBounds_toArray, List.set_cons_zero, List.set_cons_succ]
      refine wpAnyT_one (k := 1) rfl (by kernel_rfl) (by decide) (fun K hK => ?_)
      go_simp
      refine (ecmay_any x _).mono ?_
      rw [HMV.out]
      rintro e w7 ⟨rfl, hb7⟩
      have e7 := e6d.kept hb7; have b7 := b6d.trans (hb7.mono (Nat.le_of_lt e6d.lt))
      have HS : ((fun (W : World) => Bx W B 28 [.bool x.up, .int .i64 x.cwnd, .int .i64 x.flight, .int .i64 x.srtt, .int .i64 x.vr] ∧ Below B w W ∧ W.cell? ⟨B, 3, none⟩ = some (.int .i64 x.srtt))) _ := ⟨e7, b7, e7.cell 3 rfl⟩
      refine hK _ _ HS ?_
      clear hK K
      try simp only [Act.put, List.setIfInBounds_toArray, List.set_cons_zero, List.set_cons_succ]
      refine wpAnyT_take (i := 2) (v := ?vv31) rfl (by kernel_rfl) (fun _ _ _ h => h) (Or.inl ⟨by rfl, fun w hSw => ?yy31⟩) HS ?rr31
      case yy31 =>
        (try dsimp only at hSw); go_simp
        try with_reducible rfl
      try simp only [Act.put, List.setIfInBounds_toArray, List.set_cons_zero, List.set_cons_succ]
      refine wpAnyT_take (i := 3) (v := ?vv32) rfl (by kernel_rfl) (fun _ _ _ h => h) (Or.inl ⟨by rfl, fun w hSw => ?yy32⟩) HS ?rr32
      case yy32 =>
        (try dsimp only at hSw); go_simp
        try with_reducible rfl
      try simp only [Act.put, List.setIfInBounds_toArray, List.set_cons_zero, List.set_cons_succ]
      refine wpAnyT_take (i := 4) (v := ?vv33) rfl (by kernel_rfl) (fun _ _ _ h => h) (Or.inl ⟨by rfl, fun w hSw => ?yy33⟩) HS ?rr33
      case yy33 =>
        (try dsimp only at hSw); go_simp
        try with_reducible rfl
      try simp only [Act.put, List.setIfInBounds_toArray, List.set_cons_zero, List.set_cons_succ]
      refine wpAnyT_take (i := 5) (v := ?vv34) rfl (by kernel_rfl) (fun _ _ _ h => h) (Or.inl ⟨by rfl, fun w hSw => ?yy34⟩) HS ?rr34
      case yy34 =>
        (try dsimp only at hSw); go_simp
        try with_reducible rfl
      try simp only [Act.put, List.setIfInBounds_toArray, List.set_cons_zero, List.set_cons_succ]
      refine wpAnyT_take (i := 6) (v := undef) rfl (by kernel_rfl) (fun _ _ _ h => h) (Or.inr ⟨by kernel_rfl, rfl⟩) HS ?_
      try simp only [Act.put, List.setIfInBounds_toArray, List.set_cons_zero, List.set_cons_succ]
      refine wpAnyT_take (i := 7) (v := undef) rfl (by kernel_rfl) (fun _ _ _ h => h) (Or.inr ⟨by kernel_rfl, rfl⟩) HS ?_
      try simp only [Act.put, List.setIfInBounds_toArray, List.set_cons_zero, List.set_cons_succ]
      refine wpAnyT_take (i := 8) (v := undef) rfl (by kernel_rfl) (fun _ _ _ h => h) (Or.inr ⟨by kernel_rfl, rfl⟩) HS ?_
      try simp only [Act.put, List.setIfInBounds_toArray, List.set_cons_zero, List.set_cons_succ]
      refine wpAnyT_take (i := 9) (v := undef) rfl (by kernel_rfl) (fun _ _ _ h => h) (Or.inr ⟨by kernel_rfl, rfl⟩) HS ?_
      try simp only [Act.put, List.setIfInBounds_toArray, List.set_cons_zero, List.set_cons_succ]
      refine wpAnyT_take (i := 10) (v := undef) rfl (by kernel_rfl) (fun _ _ _ h => h) (Or.inr ⟨by kernel_rfl, rfl⟩) HS ?_
      try simp only [Act.put, List.setIfInBounds_toArray, List.set_cons_zero, List.set_cons_succ]
      refine wpAnyT_take (i := 11) (v := undef) rfl (by kernel_rfl) (fun _ _ _ h => h) (Or.inr ⟨by kernel_rfl, rfl⟩) HS ?_
      try simp only [Act.put, List.setIfInBounds_toArray, List.set_cons_zero, List.set_cons_succ]
      refine wpAnyT_take (i := 12) (v := undef) rfl (by kernel_rfl) (fun _ _ _ h => h) (Or.inr ⟨by kernel_rfl, rfl⟩) HS ?_
      try simp only [Act.put, List.setIfInBounds_toArray, List.set_cons_zero, List.set_cons_succ]
      refine wpAnyT_take (i := 13) (v := undef) rfl (by kernel_rfl) (fun _ _ _ h => h) (Or.inr ⟨by kernel_rfl, rfl⟩) HS ?_
      try simp only [Act.put, List.setIfInBounds_toArray, List.set_cons_zero, List.set_cons_succ]
      refine wpAnyT_take (i := 14) (v := ?vv35) rfl (by kernel_rfl) (fun _ _ _ h => h) (Or.inl ⟨by rfl, fun w hSw => ?yy35⟩) HS ?rr35
      case yy35 =>
        (try dsimp only at hSw); go_simp
        try with_reducible rfl
      try simp only [Act.put, List.setIfInBounds_toArray, List.set_cons_zero, List.set_cons_succ]
      refine ⟨by kernel_rfl, ?_⟩
      simp only [List.drop_succ_cons, List.drop_zero]
      go_wp2_with fail
      go_ret
      exact ⟨rfl, b7⟩
    case neg =>
      have dn : decide (pa < 0) = false := decide_eq_false hneg
      obtain ⟨s, hps⟩ : ∃ s : Nat, pa = (s : Int) := ⟨pa.toNat, by omega⟩
      subst hps
      have hsn : s < n := by have := HK.out.hi; rw [HL.out] at this; omega
      obtain ⟨bb, o, hA, hbl, hc0⟩ := HSE.out.rd.at_ (by omega)
      have hbB : bb < B := by have := HB.out; omega
      have hcell : ∀ W, Below B w W → ∀ i, i < n → ∀ j u, (El.cells (ge l i))[j]? = some u → W.cell? ⟨bb, o + i * 5 + j, none⟩ = some u := fun W hW i hi j u hu => (hW.cell (p := ⟨bb, o + i * 5 + j, none⟩) hbB).trans (hc0 i hi j u hu)
      have HC := Lib.hid hcell
      subst hA
      clear hc0 hcell hbl
      obtain ⟨z, hz⟩ : ∃ x, ge l s = x := ⟨_, rfl⟩
      have HZE := Lib.hid hz; clear hz
      have e6d := e6.drew; have b6d : Below B w w6.drew := b6.drew
      refine wp_region_tail 15 16 (fun (W : World) => Bx W B 28 [.bool x.up, .int .i64 x.cwnd, .int .i64 x.flight, .int .i64 x.srtt, .int .i64 x.vr] ∧ Below B w W ∧ W.cell? ⟨B, 3, none⟩ = some (.int .i64 x.srtt) ∧ W.cell? ⟨bb, o + s * 5 + 3, none⟩ = some (.int .i64 z.srtt)) (by kernel_rfl) (by rfl) (by decide) ?_
      have HS : ((fun (W : World) => Bx W B 28 [.bool x.up, .int .i64 x.cwnd, .int .i64 x.flight, .int .i64 x.srtt, .int .i64 x.vr] ∧ Below B w W ∧ W.cell? ⟨B, 3, none⟩ = some (.int .i64 x.srtt) ∧ W.cell? ⟨bb, o + s * 5 + 3, none⟩ = some (.int .i64 z.srtt))) _ := ⟨e6d, b6d, e6d.cell 3 rfl, HC.out _ b6d s hsn 3 _ (by rw [HZE.out]; rfl)⟩
      refine wpAnyT_take (i := 0) (v := .agg #[.bool x.up, .int .i64 x.cwnd, .int .i64 x.flight, .int .i64 x.srtt, .int .i64 x.vr]) rfl (by kernel_rfl) (fun _ _ _ h => h) (ch_yields (by rfl) (.tmp 6) rfl rfl [.bool x.up, .int .i64 x.cwnd, .int .i64 x.flight, .int .i64 x.srtt, .int .i64 x.vr] rfl 28 (fun W hW => hW.1)) HS ?_
      try simp only [Act.put, List.setIfInBounds_toArray, List.set_cons_zero, List.set_cons_succ]
      refine wpAnyT_one (k := 1) rfl (by kernel_rfl) (by decide) (fun K hK => ?_)
      go_simp
      refine (ecmay_any x _).mono ?_
      rw [HMV.out]
      rintro e w7 ⟨rfl, hb7⟩
      have e7 := e6d.kept hb7; have b7 := b6d.trans (hb7.mono (Nat.le_of_lt e6d.lt))
      have HS : ((fun (W : World) => Bx W B 28 [.bool x.up, .int .i64 x.cwnd, .int .i64 x.flight, .int .i64 x.srtt, .int .i64 x.vr] ∧ Below B w W ∧ W.cell? ⟨B, 3, none⟩ = some (.int .i64 x.srtt) ∧ W.cell? ⟨bb, o + s * 5 + 3, none⟩ = some (.int .i64 z.srtt))) _ := ⟨e7, b7, e7.cell 3 rfl, HC.out _ b7 s hsn 3 _ (by rw [HZE.out]; rfl)⟩
      refine hK _ _ HS ?_
      clear hK K
      try simp only [Act.put, List.setIfInBounds_toArray, List.set_cons_zero, List.set_cons_succ]
      refine wpAnyT_take (i := 2) (v := ?vv36) rfl (by kernel_rfl) (fun _ _ _ h => h) (Or.inl ⟨by rfl, fun w hSw => ?yy36⟩) HS ?rr36
      case yy36 =>
        (try dsimp only at hSw); go_simp
        try with_reducible rfl
      try simp only [Act.put, List.setIfInBounds_toArray, List.set_cons_zero, List.set_cons_succ]
      refine wpAnyT_take (i := 3) (v := ?vv37) rfl (by kernel_rfl) (fun _ _ _ h => h) (Or.inl ⟨by rfl, fun w hSw => ?yy37⟩) HS ?rr37
      case yy37 =>
        (try dsimp only at hSw); go_simp
        try with_reducible rfl
      try simp only [Act.put, List.setIfInBounds_toArray, List.set_cons_zero, List.set_cons_succ]
      refine wpAnyT_take (i := 4) (v := ?vv38) rfl (by kernel_rfl) (fun _ _ _ h => h) (Or.inl ⟨by rfl, fun w hSw => ?yy38⟩) HS ?rr38
      case yy38 =>
        (try dsimp only at hSw); go_simp
        try with_reducible rfl
      try simp only [Act.put, List.setIfInBounds_toArray, List.set_cons_zero, List.set_cons_succ]
      refine wpAnyT_take (i := 5) (v := ?vv39) rfl (by kernel_rfl) (fun _ _ _ h => h) (Or.inl ⟨by rfl, fun w hSw => ?yy39⟩) HS ?rr39
      case yy39 =>
        (try dsimp only at hSw); go_simp
        try with_reducible rfl
      try simp only [Act.put, List.setIfInBounds_toArray, List.set_cons_zero, List.set_cons_succ]
      refine wpAnyT_take (i := 6) (v := ?vv40) rfl (by kernel_rfl) (fun _ _ _ h => h) (Or.inl ⟨by rfl, fun w hSw => ?yy40⟩) HS ?rr40
      case yy40 =>
        (try dsimp only at hSw); go_simp
        try with_reducible rfl
      try simp only [Act.put, List.setIfInBounds_toArray, List.set_cons_zero, List.set_cons_succ]
      refine wpAnyT_take (i := 7) (v := ?vv41) rfl (by kernel_rfl) (fun _ _ _ h => h) (Or.inl ⟨by rfl, fun w hSw => ?yy41⟩) HS ?rr41
      case yy41 =>
        (try dsimp only at hSw); go_simp
        try with_reducible rfl
      try simp only [Act.put, List.setIfInBounds_toArray, List.set_cons_zero, List.set_cons_succ]
      refine wpAnyT_take (i := 8) (v := ?vv42) rfl (by kernel_rfl) (fun _ _ _ h => h) (Or.inl ⟨by rfl, fun w hSw => ?yy42⟩) HS ?rr42
      case yy42 =>
        (try dsimp only at hSw); go_simp
        try with_reducible rfl
      try simp only [Act.put, List.setIfInBounds_toArray, List.set_cons_zero, List.set_cons_succ]
      refine wpAnyT_take (i := 9) (v := ?vv43) rfl (by kernel_rfl) (fun _ _ _ h => h) (Or.inl ⟨by rfl, fun w hSw => ?yy43⟩) HS ?rr43
      case yy43 =>
        (try dsimp only at hSw); go_simp
        try with_reducible rfl
      try simp only [Act.put, List.setIfInBounds_toArray, List.set_cons_zero, List.set_cons_succ]
      refine wpAnyT_take (i := 10) (v := ?vv44) rfl (by kernel_rfl) (fun _ _ _ h => h) (Or.inl ⟨by rfl, fun w hSw => ?yy44⟩) HS ?rr44
      case yy44 =>
        (try dsimp only at hSw); go_simp
        try with_reducible rfl
      try simp only [Act.put, List.setIfInBounds_toArray, List.set_cons_zero, List.set_cons_succ]
      refine wpAnyT_take (i := 11) (v := ?vv45) rfl (by kernel_rfl) (fun _ _ _ h => h) (Or.inl ⟨by rfl, fun w hSw => ?yy45⟩) HS ?rr45
      case yy45 =>
        (try dsimp only at hSw); go_simp
        try with_reducible rfl
      try simp only [Act.put, List.setIfInBounds_toArray, List.set_cons_zero, List.set_cons_succ]
      refine wpAnyT_take (i := 12) (v := ?vv46) rfl (by kernel_rfl) (fun _ _ _ h => h) (Or.inl ⟨by rfl, fun w hSw => ?yy46⟩) HS ?rr46
      case yy46 =>
        (try dsimp only at hSw); go_simp
        try with_reducible rfl
      try simp only [Act.put, List.setIfInBounds_toArray, List.set_cons_zero, List.set_cons_succ]
      refine wpAnyT_take (i := 13) (v := ?vv47) rfl (by kernel_rfl) (fun _ _ _ h => h) (Or.inl ⟨by rfl, fun w hSw => ?yy47⟩) HS ?rr47
      case yy47 =>
        (try dsimp only at hSw); go_simp
        try with_reducible rfl
      try simp only [Act.put, List.setIfInBounds_toArray, List.set_cons_zero, List.set_cons_succ]
      refine wpAnyT_take (i := 14) (v := ?vv48) rfl (by kernel_rfl) (fun _ _ _ h => h) (Or.inl ⟨by rfl, fun w hSw => ?yy48⟩) HS ?rr48
      case yy48 =>
        (try dsimp only at hSw); go_simp
        try with_reducible rfl
      try simp only [Act.put, List.setIfInBounds_toArray, List.set_cons_zero, List.set_cons_succ]
      refine ⟨by kernel_rfl, ?_⟩
      simp only [List.drop_succ_cons, List.drop_zero]
      by_cases vz : x.srtt < z.srtt
      case pos =>
        have dz : decide (x.srtt < z.srtt) = true := decide_eq_true vz
        go_wp2_with fail
        go_ret
        exact ⟨rfl, b7⟩
      case neg =>
        have dz : decide (x.srtt < z.srtt) = false := decide_eq_false vz
        have heq := HNC.out (fun h => by rcases h.2 with h2 | h2; exact absurd h2 (by omega); rw [Int.toNat_natCast, HZE.out] at h2; exact vz h2)
        cases heq
        have e1 : ((s : Int) == (s : Int)) = true := by simp
        have e2 : (px == px) = true := by simp
        go_wp2_with fail
        go_ret
        exact ⟨rfl, b7⟩
end Go.Proofs.Ytmclffbjdkoneaa.ecfOrder
