/- GroupAdd: the walk. -/
import Derived.Test.YtbaaglgoodckmaaGrAwake
import Derived.Test.YtbaaglgoodckmaaTail2
import Derived.Deep.QuietTactic
import Derived.BigQuiet
import Derived.IntWalk
import Derived.Deep.AppendLies
import Derived.OrdersHeld
import Derived.Deep.DeepCutAuto
namespace Go.Proofs.Ytbaaglgoodckmaa.groupAdd
open Go.RowKit
set_option linter.unusedVariables false
set_option linter.unusedSimpArgs false

set_option maxRecDepth 100000 in
set_option maxHeartbeats 16000000 in
theorem push_may {l : List Int} {d : Int} (h : AddOk l d) : mayG (pushG l d) = true := by
  obtain ⟨h1, h2, h3⟩ := h
  have hm := (mayG_iff l).1 h1
  rw [mayG_iff]
  have hall : ∀ x ∈ pushG l d, d18 x = true := by
    intro x hx
    have hx2 : x ∈ l ++ [d] := by unfold pushG at hx; split at hx; exact List.mem_of_mem_drop hx; exact hx
    rcases List.mem_append.1 hx2 with h4 | h4
    · obtain ⟨i, hi, rfl⟩ := List.getElem_of_mem h4
      have := hm.1 i hi
      rwa [it_eq hi] at this
    · rw [List.mem_singleton] at h4; subst h4; exact (d18_iff _).2 ⟨h2, h3⟩
  refine ⟨fun i hi => hall _ (it_mem hi), ?_⟩
  unfold pushG
  split
  · rw [List.length_drop, List.length_append]; simp; omega
  · rw [List.length_append]; simp; omega

set_option maxRecDepth 100000 in
set_option maxHeartbeats 16000000 in
theorem walk (A : Option Addr) (n c : Nat) (l : List Int) (d : Int) (w : World) (hs : Si w A n c l) :
    Calls Try.prog 6 #[.slice A n c, .int .i64 d] w fun e w' => e = .returned (.bool true) ∧ Below w.heap.size w w' := by
  obtain ⟨B, hB⟩ : ∃ B, w.heap.size = B := ⟨_, rfl⟩
  rw [hB]
  have HB := Lib.hid hB
  have m2 := hs.max
  have hle := hs.le
  have m3 : n ≤ 9223372036854775807 := by unfold maxLen at m2; omega
  have HL : Hid (l.length = n) := Lib.hid hs.rd.len
  have HS := Lib.hid hs
  clear hs hB m2
  go_enter Try.func6, Try.ntmps6
  go_wp2_with fail
  refine (grawake_any _).mono ?_
  rintro e w2 ⟨rfl, b2⟩
  rw [HB.out] at b2
  have z2 : B ≤ w2.heap.size := by have := b2.size; rw [HB.out] at this; exact this
  have s2 : Si w2 A n c l := HS.out.keep (by rw [HB.out]; exact b2)
  by_cases c0 : 40 < n
  case pos =>
    have d0 : decide (40 < n) = true := decide_eq_true c0
    have d0' : decide ((40 : Int) < (n : Int)) = true := decide_eq_true (by omega)
    go_wp2_with fail
    go_ret
    exact ⟨rfl, b2⟩
  case neg =>
  have d0 : decide (40 < n) = false := decide_eq_false c0
  have d0' : decide ((40 : Int) < (n : Int)) = false := decide_eq_false (by omega)
  clear c0
  obtain ⟨mv, hmv⟩ : ∃ v, mayG l = v := ⟨_, rfl⟩
  have HMV := Lib.hid hmv; clear hmv
  obtain ⟨ad, had⟩ : ∃ a, addG l d = a := ⟨_, rfl⟩
  obtain ⟨al, ae⟩ := ad
  have HAD := Lib.hid had
  clear had
  go_wp2_with fail
  refine (ggadd_any A n c l d _ s2).mono ?_
  rintro e w3 ⟨R, m, f, rfl, x3, hb3⟩
  rw [HAD.out] at x3 ⊢
  have b3 := b2.trans (hb3.mono z2); have z3 : B ≤ w3.heap.size := Nat.le_trans z2 hb3.size
  have s3 := s2.keep hb3
  clear s2 b2 z2 hb3
  go_wp2_with fail
  refine (ggmay_any A n c l _ s3).mono ?_
  rintro e w4 ⟨rfl, hb4⟩
  rw [HMV.out]
  have b4 := b3.trans (hb4.mono z3); have z4 : B ≤ w4.heap.size := Nat.le_trans z3 hb4.size
  have s4 := s3.keep hb4; have x4 := x3.keep hb4
  clear s3 b3 z3 x3 hb4
  cases mv with
  | false =>
    have hno : ¬ AddOk l d := fun h => by have h1 := h.1; rw [HMV.out] at h1; cases h1
    have h2 := HAD.out
    rw [add_no hno] at h2
    cases h2
    obtain rfl : m = 0 := x4.rd.len.symm
    clear hno x4
    go_wp2_with fail
    go_ret
    exact ⟨rfl, b4⟩
  | true =>
  by_cases g0 : 0 ≤ d
  case neg =>
    have e0 : decide (0 ≤ d) = false := decide_eq_false g0
    have hno : ¬ AddOk l d := fun h => g0 h.2.1
    have h2 := HAD.out
    rw [add_no hno] at h2
    cases h2
    obtain rfl : m = 0 := x4.rd.len.symm
    clear hno x4
    go_wp2_with fail
    go_ret
    exact ⟨rfl, b4⟩
  case pos =>
  have e0 : decide (0 ≤ d) = true := decide_eq_true g0
  by_cases g1 : d ≤ 262144
  case neg =>
    have e1 : decide (d ≤ 262144) = false := decide_eq_false g1
    have hno : ¬ AddOk l d := fun h => g1 h.2.2
    have h2 := HAD.out
    rw [add_no hno] at h2
    cases h2
    obtain rfl : m = 0 := x4.rd.len.symm
    clear hno x4
    go_wp2_with fail
    go_ret
    exact ⟨rfl, b4⟩
  case pos =>
  have e1 : decide (d ≤ 262144) = true := decide_eq_true g1
  have hok : AddOk l d := ⟨HMV.out, g0, g1⟩
  have h2 := HAD.out
  rw [add_ok hok] at h2
  cases h2
  have hn16 : n ≤ 16 := by have := ((mayG_iff l).1 HMV.out).2; rw [HL.out] at this; exact this
  have hpm := push_may hok
  have HPM := Lib.hid hpm
  clear hok hpm g0 g1
  by_cases hn : n = 16
  case pos =>
    subst hn
    have hp : pushG l d = (l ++ [d]).drop 1 := if_pos (by rw [HL.out]; omega)
    have hp2 : pushG l d = l.drop 1 ++ [d] := by rw [hp, List.drop_append_of_le_length (by rw [HL.out]; omega)]
    have hlen : (l.drop 1).length = 15 := by rw [List.length_drop, HL.out]
    obtain ⟨c1, rfl⟩ : ∃ c1, c = c1 + 1 := ⟨c - 1, by omega⟩
    obtain rfl : m = 15 + 1 := by rw [← x4.rd.len, hp2, List.length_append, hlen]; rfl
    have hlast : it (pushG l d) 15 = d := by
      rw [hp2]; unfold it; rw [List.getD_eq_getElem?_getD, List.getElem?_append_right (by omega), hlen]; simp
    have htake : (pushG l d).take 15 = l.drop 1 := by rw [hp2, ← hlen, List.take_left']; rfl
    obtain ⟨bm, om, hR, hbm, hcm⟩ := x4.rd.at_ (by omega)
    subst hR
    have y1 := hcm 15 (by omega)
    rw [hlast] at y1
    have hf := x4.le
    have hx : ∀ W, Below w4.heap.size w4 W → Si W (some ⟨bm, om, none⟩) 15 f (l.drop 1) := fun W hb => by have := (x4.keep hb).head (k := 15) (by omega); rw [htake] at this; exact this
    have hl : ∀ W, Below w4.heap.size w4 W → Si W (cutI A 1 (c1 + 1)) 15 c1 (l.drop 1) := fun W hb => by have := (s4.keep hb).cut (k := 1) (m := 15) (d := c1) rfl rfl; exact this
    have hh1 : ∀ w, (Instr.slice 25 (.slice (some ⟨bm, om, none⟩) (15 + 1) f) none (some (.int .i64 ((15 : Nat) : Int))) none).run Try.prog w = .ok (.slice (some ⟨bm, om, none⟩) 15 f) w := fun w => run_headI Try.prog 25 3 Try.underlying25 info_int (some ⟨bm, om, none⟩) 15 (15 + 1) f w (by omega)
    have hh2 : ∀ w, (Instr.slice 25 (.slice A 16 (c1 + 1)) (some (.int .i64 1)) none none).run Try.prog w = .ok (.slice (cutI A 1 (c1 + 1)) 15 c1) w := fun w => run_cutI Try.prog 25 3 Try.underlying25 info_int A 1 15 c1 w (by omega) (by omega)
    have HX := Lib.hid hx; have HLL := Lib.hid hl; have X4 := Lib.hid x4
    clear hx hl hcm hp2 hlast htake hlen x4 s4 hp
    have KS : ∀ W W', (fun (W : World) => Below w4.heap.size w4 W ∧ (W.cell? ⟨bm, om + 15, none⟩ = some (.int .i64 d))) W → Below W.heap.size W W' → (fun (W : World) => Below w4.heap.size w4 W ∧ (W.cell? ⟨bm, om + 15, none⟩ = some (.int .i64 d))) W' := fun W W' h hb => ⟨h.1.trans (hb.mono h.1.size), (hb.cell (p := ⟨bm, om + 15, none⟩) (Nat.lt_of_lt_of_le hbm h.1.size)).trans h.2⟩
    go_upto_region 11 with fail
    have w15 : IntKind.i64.wrap 15 = 15 := rfl
    have w16 : IntKind.i64.wrap 16 = 16 := rfl
    have w17 : IntKind.i64.wrap 17 = 17 := rfl
    have hf15 : (15 : Int) ≤ (f : Int) := by omega
    refine wp_region_tail 36 37 (fun (W : World) => Below w4.heap.size w4 W ∧ (W.cell? ⟨bm, om + 15, none⟩ = some (.int .i64 d))) (by kernel_rfl) (by rfl) (by decide) ?_
    have HS : ((fun (W : World) => Below w4.heap.size w4 W ∧ (W.cell? ⟨bm, om + 15, none⟩ = some (.int .i64 d)))) _ := KS _ _ ⟨Below.refl _ _, y1⟩ ((Below.refl _ _).drew)
    refine wpAnyT_take (i := 0) (v := ?vv1) rfl (by kernel_rfl) (fun _ _ _ h => h) (Or.inl ⟨by rfl, fun w hSw => ?yy1⟩) HS ?rr1
    case yy1 =>
      (try dsimp only at hSw); go_simp
      try with_reducible rfl
    try simp only [Act.put, List.setIfInBounds_toArray, List.set_cons_zero, List.set_cons_succ]
    refine wpAnyT_take (i := 1) (v := ?vv2) rfl (by kernel_rfl) (fun _ _ _ h => h) (Or.inl ⟨by rfl, fun w hSw => ?yy2⟩) HS ?rr2
    case yy2 =>
      (try dsimp only at hSw); go_simp
      try with_reducible rfl
    try simp only [Act.put, List.setIfInBounds_toArray, List.set_cons_zero, List.set_cons_succ]
    refine wpAnyT_take (i := 2) (v := ?vv3) rfl (by kernel_rfl) (fun _ _ _ h => h) (Or.inl ⟨by rfl, fun w hSw => ?yy3⟩) HS ?rr3
    case yy3 =>
      (try dsimp only at hSw); go_simp
      try with_reducible rfl
    try simp only [Act.put, List.setIfInBounds_toArray, List.set_cons_zero, List.set_cons_succ]
    refine wpAnyT_take (i := 3) (v := ?vv4) rfl (by kernel_rfl) (fun _ _ _ h => h) (Or.inl ⟨by rfl, fun w hSw => ?yy4⟩) HS ?rr4
    case yy4 =>
      (try dsimp only at hSw); go_simp
      try with_reducible rfl
    try simp only [Act.put, List.setIfInBounds_toArray, List.set_cons_zero, List.set_cons_succ]
    refine wpAnyT_take (i := 4) (v := ?vv5) rfl (by kernel_rfl) (fun _ _ _ h => h) (Or.inl ⟨by rfl, fun w hSw => ?yy5⟩) HS ?rr5
    case yy5 =>
      (try dsimp only at hSw); go_simp
      try with_reducible rfl
    try simp only [Act.put, List.setIfInBounds_toArray, List.set_cons_zero, List.set_cons_succ]
    refine wpAnyT_take (i := 5) (v := ?vv6) rfl (by kernel_rfl) (fun _ _ _ h => h) (Or.inl ⟨by rfl, fun w hSw => ?yy6⟩) HS ?rr6
    case yy6 =>
      (try dsimp only at hSw); go_simp
      try with_reducible rfl
    try simp only [Act.put, List.setIfInBounds_toArray, List.set_cons_zero, List.set_cons_succ]
    refine wpAnyT_take (i := 6) (v := ?vv7) rfl (by kernel_rfl) (fun _ _ _ h => h) (Or.inl ⟨by rfl, fun w hSw => ?yy7⟩) HS ?rr7
    case yy7 =>
      (try dsimp only at hSw); go_simp
      try with_reducible rfl
    try simp only [Act.put, List.setIfInBounds_toArray, List.set_cons_zero, List.set_cons_succ]
    refine wpAnyT_take (i := 7) (v := ?vv8) rfl (by kernel_rfl) (fun _ _ _ h => h) (Or.inl ⟨by rfl, fun w hSw => ?yy8⟩) HS ?rr8
    case yy8 =>
      (try dsimp only at hSw); go_simp
      try with_reducible rfl
    try simp only [Act.put, List.setIfInBounds_toArray, List.set_cons_zero, List.set_cons_succ]
    refine wpAnyT_take (i := 8) (v := ?vv9) rfl (by kernel_rfl) (fun _ _ _ h => h) (Or.inl ⟨by rfl, fun w hSw => ?yy9⟩) HS ?rr9
    case yy9 =>
      (try dsimp only at hSw); go_simp
      try with_reducible rfl
    try simp only [Act.put, List.setIfInBounds_toArray, List.set_cons_zero, List.set_cons_succ]
    refine wpAnyT_take (i := 9) (v := .bool true) rfl (by kernel_rfl) (fun _ _ _ h => h) (Or.inl ⟨by rfl, fun w hSw => ?_⟩) HS ?_
    · (try dsimp only at hSw); go_simp
    try simp only [Act.put, List.setIfInBounds_toArray, List.set_cons_zero, List.set_cons_succ]
    refine wpAnyT_take (i := 10) (v := .bool true) rfl (by kernel_rfl) (fun _ _ _ h => h) (Or.inl ⟨by rfl, fun w hSw => ?_⟩) HS ?_
    · (try dsimp only at hSw); go_simp
    try simp only [Act.put, List.setIfInBounds_toArray, List.set_cons_zero, List.set_cons_succ]
    refine wpAnyT_take (i := 11) (v := ?vv10) rfl (by kernel_rfl) (fun _ _ _ h => h) (Or.inl ⟨by rfl, fun w hSw => ?yy10⟩) HS ?rr10
    case yy10 =>
      (try dsimp only at hSw); go_simp
      try with_reducible rfl
    try simp only [Act.put, List.setIfInBounds_toArray, List.set_cons_zero, List.set_cons_succ]
    refine wpAnyT_take (i := 12) (v := ?vv11) rfl (by kernel_rfl) (fun _ _ _ h => h) (Or.inl ⟨by rfl, fun w hSw => ?yy11⟩) HS ?rr11
    case yy11 =>
      (try dsimp only at hSw); go_simp
      try with_reducible rfl
    try simp only [Act.put, List.setIfInBounds_toArray, List.set_cons_zero, List.set_cons_succ]
    refine wpAnyT_take (i := 13) (v := ?vv12) rfl (by kernel_rfl) (fun _ _ _ h => h) (Or.inl ⟨by rfl, fun w hSw => ?yy12⟩) HS ?rr12
    case yy12 =>
      (try dsimp only at hSw); go_simp
      try with_reducible rfl
    try simp only [Act.put, List.setIfInBounds_toArray, List.set_cons_zero, List.set_cons_succ]
    refine wpAnyT_take (i := 14) (v := ?vv13) rfl (by kernel_rfl) (fun _ _ _ h => h) (Or.inl ⟨by rfl, fun w hSw => ?yy13⟩) HS ?rr13
    case yy13 =>
      (try dsimp only at hSw); go_simp
      try with_reducible rfl
    try simp only [Act.put, List.setIfInBounds_toArray, List.set_cons_zero, List.set_cons_succ]
    refine wpAnyT_take (i := 15) (v := .int .i64 ((15 : Nat) : Int)) rfl (by kernel_rfl) (fun _ _ _ h => h) (Or.inl ⟨by rfl, fun w hSw => ?_⟩) HS ?_
    · (try dsimp only at hSw); go_simp
    try simp only [Act.put, List.setIfInBounds_toArray, List.set_cons_zero, List.set_cons_succ]
    refine wpAnyT_take (i := 16) (v := ?vv14) rfl (by kernel_rfl) (fun _ _ _ h => h) (Or.inl ⟨by rfl, fun w hSw => ?yy14⟩) HS ?rr14
    case yy14 =>
      (try dsimp only at hSw); go_simp
      try with_reducible rfl
    try simp only [Act.put, List.setIfInBounds_toArray, List.set_cons_zero, List.set_cons_succ]
    refine wpAnyT_take (i := 17) (v := ?vv15) rfl (by kernel_rfl) (fun _ _ _ h => h) (Or.inl ⟨by rfl, fun w hSw => ?yy15⟩) HS ?rr15
    case yy15 =>
      (try dsimp only at hSw); go_simp
      try with_reducible rfl
    try simp only [Act.put, List.setIfInBounds_toArray, List.set_cons_zero, List.set_cons_succ]
    refine wpAnyT_take (i := 18) (v := ?vv16) rfl (by kernel_rfl) (fun _ _ _ h => h) (Or.inl ⟨by rfl, fun w hSw => ?yy16⟩) HS ?rr16
    case yy16 =>
      (try dsimp only at hSw); go_simp
      try with_reducible rfl
    try simp only [Act.put, List.setIfInBounds_toArray, List.set_cons_zero, List.set_cons_succ]
    refine wpAnyT_take (i := 19) (v := .bool true) rfl (by kernel_rfl) (fun _ _ _ h => h) (Or.inl ⟨by rfl, fun w hSw => ?_⟩) HS ?_
    · (try dsimp only at hSw); go_simp
    try simp only [Act.put, List.setIfInBounds_toArray, List.set_cons_zero, List.set_cons_succ]
    refine wpAnyT_take (i := 20) (v := .bool true) rfl (by kernel_rfl) (fun _ _ _ h => h) (Or.inl ⟨by rfl, fun w hSw => ?_⟩) HS ?_
    · (try dsimp only at hSw); go_simp
    try simp only [Act.put, List.setIfInBounds_toArray, List.set_cons_zero, List.set_cons_succ]
    refine wpAnyT_take (i := 21) (v := ?vv17) rfl (by kernel_rfl) (fun _ _ _ h => h) (Or.inl ⟨by rfl, fun w hSw => ?yy17⟩) HS ?rr17
    case yy17 =>
      (try dsimp only at hSw); go_simp
      try with_reducible rfl
    try simp only [Act.put, List.setIfInBounds_toArray, List.set_cons_zero, List.set_cons_succ]
    refine wpAnyT_take (i := 22) (v := ?vv18) rfl (by kernel_rfl) (fun _ _ _ h => h) (Or.inl ⟨by rfl, fun w hSw => ?yy18⟩) HS ?rr18
    case yy18 =>
      (try dsimp only at hSw); go_simp
      try with_reducible rfl
    try simp only [Act.put, List.setIfInBounds_toArray, List.set_cons_zero, List.set_cons_succ]
    refine wpAnyT_take (i := 23) (v := ?vv19) rfl (by kernel_rfl) (fun _ _ _ h => h) (Or.inl ⟨by rfl, fun w hSw => ?yy19⟩) HS ?rr19
    case yy19 =>
      (try dsimp only at hSw); go_simp
      try with_reducible rfl
    try simp only [Act.put, List.setIfInBounds_toArray, List.set_cons_zero, List.set_cons_succ]
    refine wpAnyT_take (i := 24) (v := ?vv20) rfl (by kernel_rfl) (fun _ _ _ h => h) (Or.inl ⟨by rfl, fun w hSw => ?yy20⟩) HS ?rr20
    case yy20 =>
      (try dsimp only at hSw); go_simp
      try with_reducible rfl
    try simp only [Act.put, List.setIfInBounds_toArray, List.set_cons_zero, List.set_cons_succ]
    refine wpAnyT_take (i := 25) (v := .int .i64 ((15 : Nat) : Int)) rfl (by kernel_rfl) (fun _ _ _ h => h) (Or.inl ⟨by rfl, fun w hSw => ?_⟩) HS ?_
    · (try dsimp only at hSw); go_simp
    try simp only [Act.put, List.setIfInBounds_toArray, List.set_cons_zero, List.set_cons_succ]
    refine wpAnyT_take (i := 26) (v := .slice (some ⟨bm, om, none⟩) 15 f) rfl (by kernel_rfl) (fun _ _ _ h => h) (Or.inl ⟨by rfl, fun w hSw => ?_⟩) HS ?_
    · (try dsimp only at hSw); go_simp
    try simp only [Act.put, List.setIfInBounds_toArray, List.set_cons_zero, List.set_cons_succ]
    refine wpAnyT_take (i := 27) (v := ?vv21) rfl (by kernel_rfl) (fun _ _ _ h => h) (Or.inl ⟨by rfl, fun w hSw => ?yy21⟩) HS ?rr21
    case yy21 =>
      (try dsimp only at hSw); go_simp
      try with_reducible rfl
    try simp only [Act.put, List.setIfInBounds_toArray, List.set_cons_zero, List.set_cons_succ]
    refine wpAnyT_take (i := 28) (v := ?vv22) rfl (by kernel_rfl) (fun _ _ _ h => h) (Or.inl ⟨by rfl, fun w hSw => ?yy22⟩) HS ?rr22
    case yy22 =>
      (try dsimp only at hSw); go_simp
      try with_reducible rfl
    try simp only [Act.put, List.setIfInBounds_toArray, List.set_cons_zero, List.set_cons_succ]
    refine wpAnyT_take (i := 29) (v := .slice (cutI A 1 (c1 + 1)) 15 c1) rfl (by kernel_rfl) (fun _ _ _ h => h) (Or.inl ⟨by rfl, fun w hSw => ?_⟩) HS ?_
    · (try dsimp only at hSw); go_simp
    try simp only [Act.put, List.setIfInBounds_toArray, List.set_cons_zero, List.set_cons_succ]
    refine wpAnyT_one (k := 30) rfl (by kernel_rfl) (by decide) (fun K hK => ?_)
    go_simp
    refine (ints_any _ _ _ _ _ _ _ _ _ (HX.out _ HS.1) (HLL.out _ HS.1)).mono ?_
    rintro e y1w ⟨rfl, hy1⟩
    rw [decide_eq_true rfl]
    have HS : ((fun (W : World) => Below w4.heap.size w4 W ∧ (W.cell? ⟨bm, om + 15, none⟩ = some (.int .i64 d)))) _ := KS _ _ HS hy1
    refine hK _ _ HS ?_
    clear hK K
    try simp only [Act.put, List.setIfInBounds_toArray, List.set_cons_zero, List.set_cons_succ]
    refine wpAnyT_take (i := 31) (v := .bool true) rfl (by kernel_rfl) (fun _ _ _ h => h) (Or.inl ⟨by rfl, fun w hSw => ?_⟩) HS ?_
    · (try dsimp only at hSw); go_simp
    try simp only [Act.put, List.setIfInBounds_toArray, List.set_cons_zero, List.set_cons_succ]
    refine wpAnyT_take (i := 32) (v := ?vv23) rfl (by kernel_rfl) (fun _ _ _ h => h) (Or.inl ⟨by rfl, fun w hSw => ?yy23⟩) HS ?rr23
    case yy23 =>
      (try dsimp only at hSw); go_simp
      try with_reducible rfl
    try simp only [Act.put, List.setIfInBounds_toArray, List.set_cons_zero, List.set_cons_succ]
    refine wpAnyT_take (i := 33) (v := ?vv24) rfl (by kernel_rfl) (fun _ _ _ h => h) (Or.inl ⟨by rfl, fun w hSw => ?yy24⟩) HS ?rr24
    case yy24 =>
      (try dsimp only at hSw); go_simp
      try with_reducible rfl
    try simp only [Act.put, List.setIfInBounds_toArray, List.set_cons_zero, List.set_cons_succ]
    refine wpAnyT_one (k := 34) rfl (by kernel_rfl) (by decide) (fun K hK => ?_)
    go_simp
    refine (ggmay_any _ _ _ _ _ (X4.out.keep HS.1)).mono ?_
    rintro e y2w ⟨rfl, hy2⟩
    rw [HPM.out]
    have HS : ((fun (W : World) => Below w4.heap.size w4 W ∧ (W.cell? ⟨bm, om + 15, none⟩ = some (.int .i64 d)))) _ := KS _ _ HS hy2
    refine hK _ _ HS ?_
    clear hK K
    try simp only [Act.put, List.setIfInBounds_toArray, List.set_cons_zero, List.set_cons_succ]
    refine wpAnyT_take (i := 35) (v := ?vv25) rfl (by kernel_rfl) (fun _ _ _ h => h) (Or.inl ⟨by rfl, fun w hSw => ?yy25⟩) HS ?rr25
    case yy25 =>
      (try dsimp only at hSw); go_simp
      try with_reducible rfl
    try simp only [Act.put, List.setIfInBounds_toArray, List.set_cons_zero, List.set_cons_succ]
    refine ⟨by kernel_rfl, ?_⟩
    simp only [List.drop_succ_cons, List.drop_zero]
    have bz := b4.trans (HS.1.mono z4)
    clear HS KS
    go_wp2_with fail
    go_ret
    exact ⟨rfl, bz⟩
  case neg =>
  have hp2 : pushG l d = l ++ [d] := if_neg (by rw [HL.out]; omega)
  have hlen : l.length = n := HL.out
  obtain rfl : m = n + 1 := by rw [← x4.rd.len, hp2, List.length_append, hlen]; rfl
  have hlast : it (pushG l d) n = d := by
    rw [hp2]; unfold it; rw [List.getD_eq_getElem?_getD, List.getElem?_append_right (by omega), hlen]; simp
  have htake : (pushG l d).take n = l := by rw [hp2, ← hlen, List.take_left']; rfl
  obtain ⟨bm, om, hR, hbm, hcm⟩ := x4.rd.at_ (by omega)
  subst hR
  have y1 := hcm n (by omega)
  rw [hlast] at y1
  have hf := x4.le
  have hx : ∀ W, Below w4.heap.size w4 W → Si W (some ⟨bm, om, none⟩) n f (l) := fun W hb => by have := (x4.keep hb).head (k := n) (by omega); rw [htake] at this; exact this
  have hl : ∀ W, Below w4.heap.size w4 W → Si W (cutI A 0 c) n c (l) := fun W hb => by have := (s4.keep hb).cut (k := 0) (m := n) (d := c) rfl rfl; rw [List.drop_zero] at this; exact this
  have hh1 : ∀ w, (Instr.slice 25 (.slice (some ⟨bm, om, none⟩) (n + 1) f) none (some (.int .i64 ((n : Nat) : Int))) none).run Try.prog w = .ok (.slice (some ⟨bm, om, none⟩) n f) w := fun w => run_headI Try.prog 25 3 Try.underlying25 info_int (some ⟨bm, om, none⟩) n (n + 1) f w (by omega)
  have hh2 : ∀ w, (Instr.slice 25 (.slice A n c) (some (.int .i64 0)) none none).run Try.prog w = .ok (.slice (cutI A 0 c) n c) w := fun w => run_cutI Try.prog 25 3 Try.underlying25 info_int A 0 n c w (by omega) hle
  have HX := Lib.hid hx; have HLL := Lib.hid hl; have X4 := Lib.hid x4
  clear hx hl hcm hp2 hlast htake hlen x4 s4
  have KS : ∀ W W', (fun (W : World) => Below w4.heap.size w4 W ∧ (W.cell? ⟨bm, om + n, none⟩ = some (.int .i64 d))) W → Below W.heap.size W W' → (fun (W : World) => Below w4.heap.size w4 W ∧ (W.cell? ⟨bm, om + n, none⟩ = some (.int .i64 d))) W' := fun W W' h hb => ⟨h.1.trans (hb.mono h.1.size), (hb.cell (p := ⟨bm, om + n, none⟩) (Nat.lt_of_lt_of_le hbm h.1.size)).trans h.2⟩
  have hd : ((n : Int) == 16) = false := by simp; omega
  have hd' : (n == 16) = false := by simp; omega
  go_upto_region 11 with fail
  have w1 : IntKind.i64.wrap ((n : Int) + 1) = (n : Int) + 1 := IntWalk.i64_in _ (by omega)
  have w2' : IntKind.i64.wrap (n : Int) = (n : Int) := IntWalk.i64_in _ (by omega)
  have hf15 : (n : Int) ≤ (f : Int) := by omega
  have hf16 : (n : Int) < (n : Int) + 1 := by omega
  refine wp_region_tail 36 37 (fun (W : World) => Below w4.heap.size w4 W ∧ (W.cell? ⟨bm, om + n, none⟩ = some (.int .i64 d))) (by kernel_rfl) (by rfl) (by decide) ?_
  have HS : ((fun (W : World) => Below w4.heap.size w4 W ∧ (W.cell? ⟨bm, om + n, none⟩ = some (.int .i64 d)))) _ := KS _ _ ⟨Below.refl _ _, y1⟩ ((Below.refl _ _).drew)
  refine wpAnyT_take (i := 0) (v := ?vv26) rfl (by kernel_rfl) (fun _ _ _ h => h) (Or.inl ⟨by rfl, fun w hSw => ?yy26⟩) HS ?rr26
  case yy26 =>
    (try dsimp only at hSw); go_simp
    try with_reducible rfl
  try simp only [Act.put, List.setIfInBounds_toArray, List.set_cons_zero, List.set_cons_succ]
  refine wpAnyT_take (i := 1) (v := ?vv27) rfl (by kernel_rfl) (fun _ _ _ h => h) (Or.inl ⟨by rfl, fun w hSw => ?yy27⟩) HS ?rr27
  case yy27 =>
    (try dsimp only at hSw); go_simp
    try with_reducible rfl
  try simp only [Act.put, List.setIfInBounds_toArray, List.set_cons_zero, List.set_cons_succ]
  refine wpAnyT_take (i := 2) (v := ?vv28) rfl (by kernel_rfl) (fun _ _ _ h => h) (Or.inl ⟨by rfl, fun w hSw => ?yy28⟩) HS ?rr28
  case yy28 =>
    (try dsimp only at hSw); go_simp
    try with_reducible rfl
  try simp only [Act.put, List.setIfInBounds_toArray, List.set_cons_zero, List.set_cons_succ]
  refine wpAnyT_take (i := 3) (v := ?vv29) rfl (by kernel_rfl) (fun _ _ _ h => h) (Or.inl ⟨by rfl, fun w hSw => ?yy29⟩) HS ?rr29
  case yy29 =>
    (try dsimp only at hSw); go_simp
    try with_reducible rfl
  try simp only [Act.put, List.setIfInBounds_toArray, List.set_cons_zero, List.set_cons_succ]
  refine wpAnyT_take (i := 4) (v := ?vv30) rfl (by kernel_rfl) (fun _ _ _ h => h) (Or.inl ⟨by rfl, fun w hSw => ?yy30⟩) HS ?rr30
  case yy30 =>
    (try dsimp only at hSw); go_simp
    try with_reducible rfl
  try simp only [Act.put, List.setIfInBounds_toArray, List.set_cons_zero, List.set_cons_succ]
  refine wpAnyT_take (i := 5) (v := ?vv31) rfl (by kernel_rfl) (fun _ _ _ h => h) (Or.inl ⟨by rfl, fun w hSw => ?yy31⟩) HS ?rr31
  case yy31 =>
    (try dsimp only at hSw); go_simp
    try with_reducible rfl
  try simp only [Act.put, List.setIfInBounds_toArray, List.set_cons_zero, List.set_cons_succ]
  refine wpAnyT_take (i := 6) (v := ?vv32) rfl (by kernel_rfl) (fun _ _ _ h => h) (Or.inl ⟨by rfl, fun w hSw => ?yy32⟩) HS ?rr32
  case yy32 =>
    (try dsimp only at hSw); go_simp
    try with_reducible rfl
  try simp only [Act.put, List.setIfInBounds_toArray, List.set_cons_zero, List.set_cons_succ]
  refine wpAnyT_take (i := 7) (v := ?vv33) rfl (by kernel_rfl) (fun _ _ _ h => h) (Or.inl ⟨by rfl, fun w hSw => ?yy33⟩) HS ?rr33
  case yy33 =>
    (try dsimp only at hSw); go_simp
    try with_reducible rfl
  try simp only [Act.put, List.setIfInBounds_toArray, List.set_cons_zero, List.set_cons_succ]
  refine wpAnyT_take (i := 8) (v := ?vv34) rfl (by kernel_rfl) (fun _ _ _ h => h) (Or.inl ⟨by rfl, fun w hSw => ?yy34⟩) HS ?rr34
  case yy34 =>
    (try dsimp only at hSw); go_simp
    try with_reducible rfl
  try simp only [Act.put, List.setIfInBounds_toArray, List.set_cons_zero, List.set_cons_succ]
  refine wpAnyT_take (i := 9) (v := .bool true) rfl (by kernel_rfl) (fun _ _ _ h => h) (Or.inl ⟨by rfl, fun w hSw => ?_⟩) HS ?_
  · (try dsimp only at hSw); go_simp
  try simp only [Act.put, List.setIfInBounds_toArray, List.set_cons_zero, List.set_cons_succ]
  refine wpAnyT_take (i := 10) (v := .bool true) rfl (by kernel_rfl) (fun _ _ _ h => h) (Or.inl ⟨by rfl, fun w hSw => ?_⟩) HS ?_
  · (try dsimp only at hSw); go_simp
  try simp only [Act.put, List.setIfInBounds_toArray, List.set_cons_zero, List.set_cons_succ]
  refine wpAnyT_take (i := 11) (v := ?vv35) rfl (by kernel_rfl) (fun _ _ _ h => h) (Or.inl ⟨by rfl, fun w hSw => ?yy35⟩) HS ?rr35
  case yy35 =>
    (try dsimp only at hSw); go_simp
    try with_reducible rfl
  try simp only [Act.put, List.setIfInBounds_toArray, List.set_cons_zero, List.set_cons_succ]
  refine wpAnyT_take (i := 12) (v := ?vv36) rfl (by kernel_rfl) (fun _ _ _ h => h) (Or.inl ⟨by rfl, fun w hSw => ?yy36⟩) HS ?rr36
  case yy36 =>
    (try dsimp only at hSw); go_simp
    try with_reducible rfl
  try simp only [Act.put, List.setIfInBounds_toArray, List.set_cons_zero, List.set_cons_succ]
  refine wpAnyT_take (i := 13) (v := ?vv37) rfl (by kernel_rfl) (fun _ _ _ h => h) (Or.inl ⟨by rfl, fun w hSw => ?yy37⟩) HS ?rr37
  case yy37 =>
    (try dsimp only at hSw); go_simp
    try with_reducible rfl
  try simp only [Act.put, List.setIfInBounds_toArray, List.set_cons_zero, List.set_cons_succ]
  refine wpAnyT_take (i := 14) (v := ?vv38) rfl (by kernel_rfl) (fun _ _ _ h => h) (Or.inl ⟨by rfl, fun w hSw => ?yy38⟩) HS ?rr38
  case yy38 =>
    (try dsimp only at hSw); go_simp
    try with_reducible rfl
  try simp only [Act.put, List.setIfInBounds_toArray, List.set_cons_zero, List.set_cons_succ]
  refine wpAnyT_take (i := 15) (v := .int .i64 ((n : Nat) : Int)) rfl (by kernel_rfl) (fun _ _ _ h => h) (Or.inl ⟨by rfl, fun w hSw => ?_⟩) HS ?_
  · (try dsimp only at hSw); go_simp
  try simp only [Act.put, List.setIfInBounds_toArray, List.set_cons_zero, List.set_cons_succ]
  refine wpAnyT_take (i := 16) (v := ?vv39) rfl (by kernel_rfl) (fun _ _ _ h => h) (Or.inl ⟨by rfl, fun w hSw => ?yy39⟩) HS ?rr39
  case yy39 =>
    (try dsimp only at hSw); go_simp
    try with_reducible rfl
  try simp only [Act.put, List.setIfInBounds_toArray, List.set_cons_zero, List.set_cons_succ]
  refine wpAnyT_take (i := 17) (v := ?vv40) rfl (by kernel_rfl) (fun _ _ _ h => h) (Or.inl ⟨by rfl, fun w hSw => ?yy40⟩) HS ?rr40
  case yy40 =>
    (try dsimp only at hSw); go_simp
    try with_reducible rfl
  try simp only [Act.put, List.setIfInBounds_toArray, List.set_cons_zero, List.set_cons_succ]
  refine wpAnyT_take (i := 18) (v := ?vv41) rfl (by kernel_rfl) (fun _ _ _ h => h) (Or.inl ⟨by rfl, fun w hSw => ?yy41⟩) HS ?rr41
  case yy41 =>
    (try dsimp only at hSw); go_simp
    try with_reducible rfl
  try simp only [Act.put, List.setIfInBounds_toArray, List.set_cons_zero, List.set_cons_succ]
  refine wpAnyT_take (i := 19) (v := .bool true) rfl (by kernel_rfl) (fun _ _ _ h => h) (Or.inl ⟨by rfl, fun w hSw => ?_⟩) HS ?_
  · (try dsimp only at hSw); go_simp
  try simp only [Act.put, List.setIfInBounds_toArray, List.set_cons_zero, List.set_cons_succ]
  refine wpAnyT_take (i := 20) (v := .bool true) rfl (by kernel_rfl) (fun _ _ _ h => h) (Or.inl ⟨by rfl, fun w hSw => ?_⟩) HS ?_
  · (try dsimp only at hSw); go_simp
  try simp only [Act.put, List.setIfInBounds_toArray, List.set_cons_zero, List.set_cons_succ]
  refine wpAnyT_take (i := 21) (v := ?vv42) rfl (by kernel_rfl) (fun _ _ _ h => h) (Or.inl ⟨by rfl, fun w hSw => ?yy42⟩) HS ?rr42
  case yy42 =>
    (try dsimp only at hSw); go_simp
    try with_reducible rfl
  try simp only [Act.put, List.setIfInBounds_toArray, List.set_cons_zero, List.set_cons_succ]
  refine wpAnyT_take (i := 22) (v := ?vv43) rfl (by kernel_rfl) (fun _ _ _ h => h) (Or.inl ⟨by rfl, fun w hSw => ?yy43⟩) HS ?rr43
  case yy43 =>
    (try dsimp only at hSw); go_simp
    try with_reducible rfl
  try simp only [Act.put, List.setIfInBounds_toArray, List.set_cons_zero, List.set_cons_succ]
  refine wpAnyT_take (i := 23) (v := ?vv44) rfl (by kernel_rfl) (fun _ _ _ h => h) (Or.inl ⟨by rfl, fun w hSw => ?yy44⟩) HS ?rr44
  case yy44 =>
    (try dsimp only at hSw); go_simp
    try with_reducible rfl
  try simp only [Act.put, List.setIfInBounds_toArray, List.set_cons_zero, List.set_cons_succ]
  refine wpAnyT_take (i := 24) (v := ?vv45) rfl (by kernel_rfl) (fun _ _ _ h => h) (Or.inl ⟨by rfl, fun w hSw => ?yy45⟩) HS ?rr45
  case yy45 =>
    (try dsimp only at hSw); go_simp
    try with_reducible rfl
  try simp only [Act.put, List.setIfInBounds_toArray, List.set_cons_zero, List.set_cons_succ]
  refine wpAnyT_take (i := 25) (v := .int .i64 ((n : Nat) : Int)) rfl (by kernel_rfl) (fun _ _ _ h => h) (Or.inl ⟨by rfl, fun w hSw => ?_⟩) HS ?_
  · (try dsimp only at hSw); go_simp
  try simp only [Act.put, List.setIfInBounds_toArray, List.set_cons_zero, List.set_cons_succ]
  refine wpAnyT_take (i := 26) (v := .slice (some ⟨bm, om, none⟩) n f) rfl (by kernel_rfl) (fun _ _ _ h => h) (Or.inl ⟨by rfl, fun w hSw => ?_⟩) HS ?_
  · (try dsimp only at hSw); go_simp
  try simp only [Act.put, List.setIfInBounds_toArray, List.set_cons_zero, List.set_cons_succ]
  refine wpAnyT_take (i := 27) (v := ?vv46) rfl (by kernel_rfl) (fun _ _ _ h => h) (Or.inl ⟨by rfl, fun w hSw => ?yy46⟩) HS ?rr46
  case yy46 =>
    (try dsimp only at hSw); go_simp
    try with_reducible rfl
  try simp only [Act.put, List.setIfInBounds_toArray, List.set_cons_zero, List.set_cons_succ]
  refine wpAnyT_take (i := 28) (v := ?vv47) rfl (by kernel_rfl) (fun _ _ _ h => h) (Or.inl ⟨by rfl, fun w hSw => ?yy47⟩) HS ?rr47
  case yy47 =>
    (try dsimp only at hSw); go_simp
    try with_reducible rfl
  try simp only [Act.put, List.setIfInBounds_toArray, List.set_cons_zero, List.set_cons_succ]
  refine wpAnyT_take (i := 29) (v := .slice (cutI A 0 c) n c) rfl (by kernel_rfl) (fun _ _ _ h => h) (Or.inl ⟨by rfl, fun w hSw => ?_⟩) HS ?_
  · (try dsimp only at hSw); go_simp
  try simp only [Act.put, List.setIfInBounds_toArray, List.set_cons_zero, List.set_cons_succ]
  refine wpAnyT_one (k := 30) rfl (by kernel_rfl) (by decide) (fun K hK => ?_)
  go_simp
  refine (ints_any _ _ _ _ _ _ _ _ _ (HX.out _ HS.1) (HLL.out _ HS.1)).mono ?_
  rintro e y1w ⟨rfl, hy1⟩
  rw [decide_eq_true rfl]
  have HS : ((fun (W : World) => Below w4.heap.size w4 W ∧ (W.cell? ⟨bm, om + n, none⟩ = some (.int .i64 d)))) _ := KS _ _ HS hy1
  refine hK _ _ HS ?_
  clear hK K
  try simp only [Act.put, List.setIfInBounds_toArray, List.set_cons_zero, List.set_cons_succ]
  refine wpAnyT_take (i := 31) (v := .bool true) rfl (by kernel_rfl) (fun _ _ _ h => h) (Or.inl ⟨by rfl, fun w hSw => ?_⟩) HS ?_
  · (try dsimp only at hSw); go_simp
  try simp only [Act.put, List.setIfInBounds_toArray, List.set_cons_zero, List.set_cons_succ]
  refine wpAnyT_take (i := 32) (v := ?vv48) rfl (by kernel_rfl) (fun _ _ _ h => h) (Or.inl ⟨by rfl, fun w hSw => ?yy48⟩) HS ?rr48
  case yy48 =>
    (try dsimp only at hSw); go_simp
    try with_reducible rfl
  try simp only [Act.put, List.setIfInBounds_toArray, List.set_cons_zero, List.set_cons_succ]
  refine wpAnyT_take (i := 33) (v := ?vv49) rfl (by kernel_rfl) (fun _ _ _ h => h) (Or.inl ⟨by rfl, fun w hSw => ?yy49⟩) HS ?rr49
  case yy49 =>
    (try dsimp only at hSw); go_simp
    try with_reducible rfl
  try simp only [Act.put, List.setIfInBounds_toArray, List.set_cons_zero, List.set_cons_succ]
  refine wpAnyT_one (k := 34) rfl (by kernel_rfl) (by decide) (fun K hK => ?_)
  go_simp
  refine (ggmay_any _ _ _ _ _ (X4.out.keep HS.1)).mono ?_
  rintro e y2w ⟨rfl, hy2⟩
  rw [HPM.out]
  have HS : ((fun (W : World) => Below w4.heap.size w4 W ∧ (W.cell? ⟨bm, om + n, none⟩ = some (.int .i64 d)))) _ := KS _ _ HS hy2
  refine hK _ _ HS ?_
  clear hK K
  try simp only [Act.put, List.setIfInBounds_toArray, List.set_cons_zero, List.set_cons_succ]
  refine wpAnyT_take (i := 35) (v := ?vv50) rfl (by kernel_rfl) (fun _ _ _ h => h) (Or.inl ⟨by rfl, fun w hSw => ?yy50⟩) HS ?rr50
  case yy50 =>
    (try dsimp only at hSw); go_simp
    try with_reducible rfl
  try simp only [Act.put, List.setIfInBounds_toArray, List.set_cons_zero, List.set_cons_succ]
  refine ⟨by kernel_rfl, ?_⟩
  simp only [List.drop_succ_cons, List.drop_zero]
  have bz := b4.trans (HS.1.mono z4)
  clear HS KS
  go_wp2_with fail
  go_ret
  exact ⟨rfl, bz⟩
end Go.Proofs.Ytbaaglgoodckmaa.groupAdd
