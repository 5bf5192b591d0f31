/- The walk of the law RateTells. -/
import Derived.Test.YtphkenicbbcjjaaProg
import Derived.Test.YtphkenicbbcjjaaRaAwake
import Derived.Test.YtphkenicbbcjjaaRaRef3
import Derived.Test.YtphkenicbbcjjaaTail
import Derived.Deep.LoopGhost
import Derived.WalkKit
import Derived.WalkSpells
import Derived.WalkSmall
import Derived.Lib.Hide
import Derived.Below
import Derived.Outline
import Derived.Laws.Tables
import Derived.Laws.Rows
import Derived.OrdersHeld
import Derived.Deep.QuietTactic
import Derived.BigQuiet
import Derived.IntWalk
import Derived.Deep.DeepCutAuto
namespace Go.Proofs.Ytphkenicbbcjjaa.rateTells
open Go.RowKit
set_option linter.unusedVariables false
set_option linter.unusedSimpArgs false

set_option maxRecDepth 100000 in
set_option maxHeartbeats 8000000 in
theorem walk (total last : Int) (A : Option Addr) (n c : Nat) (l : List Int) (a1 a2 a3 a4 : Int) (w : World) (hs : Si w A n c l) :
    Calls Try.prog 3 #[.agg #[.int .i64 total, .int .i64 last, .slice A n c], .int .i64 a1, .int .i64 a2, .int .i64 a3, .int .i64 a4] w fun e w' => e = .returned (.bool true) ∧ Below w.heap.size w w' := by
  obtain ⟨B, hB⟩ : ∃ B, w.heap.size = B := ⟨_, rfl⟩
  rw [hB]
  have e0 := Bx.new w 24 [.int .i64 total, .int .i64 last, .slice A n c]
  rw [hB] at e0
  have b0 : Below B w (w.alloc (.cells #[.int .i64 total, .int .i64 last, .slice A n c] 24)) := by rw [← hB]; exact (Below.refl _ _).alloc (Nat.le_refl _) _
  have s0 := hs.alloc (.cells #[.int .i64 total, .int .i64 last, .slice A n c] 24)
  go_enter Try.func3, Try.ntmps3
  go_wp2_with fail
  generalize w.alloc (.cells #[.int .i64 total, .int .i64 last, .slice A n c] 24) = w0 at e0 b0 s0 ⊢
  refine (raawake_any _).mono ?_
  rintro e w1 ⟨rfl, hb1⟩
  have e1 := e0.kept hb1
  have s1 := s0.keep hb1
  have b1 := b0.trans (hb1.mono (Nat.le_of_lt e0.lt))
  have x2 := e1.cell 2 rfl
  by_cases hn : n ≤ 40
  case neg =>
    have d0 : decide ((40 : Int) < (n : Int)) = true := decide_eq_true (by omega)
    have HN := Lib.hid hn; clear hn
    go_wp2_with fail
    go_ret
    exact ⟨rfl, b1⟩
  case pos =>
  have d0 : decide ((40 : Int) < (n : Int)) = false := decide_eq_false (by omega)
  have HN := Lib.hid hn; clear hn
  obtain ⟨x, hx⟩ : ∃ x, cameR ⟨total, last, l⟩ a1 a2 = x := ⟨_, rfl⟩
  obtain ⟨x, xe⟩ := x
  obtain ⟨y, hy⟩ : ∃ y, sampR ⟨total, last, l⟩ a3 a4 = y := ⟨_, rfl⟩
  obtain ⟨y, yn, ye⟩ := y
  obtain ⟨bm, hbm⟩ : ∃ t, bestR ⟨total, last, l⟩ = t := ⟨_, rfl⟩
  obtain ⟨mm, hmm⟩ : ∃ t, ramay ⟨total, last, l⟩ = t := ⟨_, rfl⟩
  have HX := Lib.hid hx; have HY := Lib.hid hy; have HBM := Lib.hid hbm; have HMM := Lib.hid hmm; clear hx hy hbm hmm
  go_wp2_with (refine ra_load rfl (.tmp 5) rfl rfl e1 rfl ?_)
  clear x2
  refine (rraown_any total last A n c l _ s1 (by have := HN.out; omega)).mono ?_
  rintro e w2 ⟨R0, d0', rfl, hg0, hb2⟩
  obtain ⟨R0', d0'', hR0, hsn0⟩ := hg0.sni
  cases hR0
  clear hg0
  have e2 := (e1.kept hb2).alloc (.cells #[.int .i64 total, .int .i64 last, .slice R0 n d0'] 24)
  have s2 := (s1.keep hb2).alloc (.cells #[.int .i64 total, .int .i64 last, .slice R0 n d0'] 24)
  have b2 := (b1.trans (hb2.mono (Nat.le_of_lt e1.lt))).alloc (Nat.le_of_lt (e1.kept hb2).lt) (.cells #[.int .i64 total, .int .i64 last, .slice R0 n d0'] 24)
  have o2 := hsn0.si.alloc (.cells #[.int .i64 total, .int .i64 last, .slice R0 n d0'] 24)
  clear hsn0
  obtain ⟨V0, hV0⟩ : ∃ V, w2.heap.size = V := ⟨_, rfl⟩
  have f2 := Bx.new w2 24 [.int .i64 total, .int .i64 last, .slice R0 n d0']
  rw [hV0] at f2
  go_wp2_with (refine ra_load rfl (.tmp 5) rfl rfl e2 rfl ?_)
  refine (ratcame_any total last A n c l a1 a2 (fun _ => True) _ (s2).sq (fun _ _ => trivial)).mono ?_
  rintro e w3 ⟨R1, m1, d1, he, hs1, hb3⟩
  rw [HX.out] at he hs1
  dsimp only at he hs1
  subst he
  have e3 := (e2.kept hb3).alloc (.cells #[.int .i64 x.total, .int .i64 x.last, .slice R1 m1 d1] 24)
  have s3 := (s2.keep hb3).alloc (.cells #[.int .i64 x.total, .int .i64 x.last, .slice R1 m1 d1] 24)
  have f3 := (f2.kept hb3).alloc (.cells #[.int .i64 x.total, .int .i64 x.last, .slice R1 m1 d1] 24)
  have o3 := (o2.keep hb3).alloc (.cells #[.int .i64 x.total, .int .i64 x.last, .slice R1 m1 d1] 24)
  have b3 := (b2.trans (hb3.mono (Nat.le_of_lt e2.lt))).alloc (Nat.le_of_lt (e2.kept hb3).lt) (.cells #[.int .i64 x.total, .int .i64 x.last, .slice R1 m1 d1] 24)
  have pp3 := hs1.si.alloc (.cells #[.int .i64 x.total, .int .i64 x.last, .slice R1 m1 d1] 24)
  clear hs1
  obtain ⟨V1, hV1⟩ : ∃ V, w3.heap.size = V := ⟨_, rfl⟩
  have p3 := Bx.new w3 24 [.int .i64 x.total, .int .i64 x.last, .slice R1 m1 d1]
  rw [hV1] at p3
  go_wp2_with (refine ra_load rfl (.tmp 5) rfl rfl e3 rfl ?_)
  refine (rracame_any total last A n c l a1 a2 _ s3).mono ?_
  rintro e w4 ⟨R2, m2, d2, he, hs2, hb4⟩
  rw [HX.out] at he hs2
  dsimp only at he hs2
  subst he
  have e4 := (e3.kept hb4).alloc (.cells #[.int .i64 x.total, .int .i64 x.last, .slice R2 m2 d2] 24)
  have s4 := (s3.keep hb4).alloc (.cells #[.int .i64 x.total, .int .i64 x.last, .slice R2 m2 d2] 24)
  have f4 := (f3.kept hb4).alloc (.cells #[.int .i64 x.total, .int .i64 x.last, .slice R2 m2 d2] 24)
  have o4 := (o3.keep hb4).alloc (.cells #[.int .i64 x.total, .int .i64 x.last, .slice R2 m2 d2] 24)
  have p4 := (p3.kept hb4).alloc (.cells #[.int .i64 x.total, .int .i64 x.last, .slice R2 m2 d2] 24)
  have pp4 := (pp3.keep hb4).alloc (.cells #[.int .i64 x.total, .int .i64 x.last, .slice R2 m2 d2] 24)
  have b4 := (b3.trans (hb4.mono (Nat.le_of_lt e3.lt))).alloc (Nat.le_of_lt (e3.kept hb4).lt) (.cells #[.int .i64 x.total, .int .i64 x.last, .slice R2 m2 d2] 24)
  have qq4 := hs2.si.alloc (.cells #[.int .i64 x.total, .int .i64 x.last, .slice R2 m2 d2] 24)
  clear hs2
  obtain ⟨V2, hV2⟩ : ∃ V, w4.heap.size = V := ⟨_, rfl⟩
  have q4 := Bx.new w4 24 [.int .i64 x.total, .int .i64 x.last, .slice R2 m2 d2]
  rw [hV2] at q4
  go_wp2_with (first | (refine ra_load rfl (.tmp 13) rfl rfl p4 rfl ?_) | (refine ra_load rfl (.tmp 15) rfl rfl q4 rfl ?_))
  refine (rrasame_yes x.total x.last R1 m1 d1 x.l R2 m2 d2 _ pp4 qq4).mono ?_
  rintro e w5 ⟨rfl, hb5⟩
  have e5 := e4.kept hb5
  have s5 := s4.keep hb5
  have f5 := f4.kept hb5
  have o5 := o4.keep hb5
  have p5 := p4.kept hb5
  have pp5 := pp4.keep hb5
  have q5 := q4.kept hb5
  have qq5 := qq4.keep hb5
  have b5 := b4.trans (hb5.mono (Nat.le_of_lt e4.lt))
  go_wp2_with (refine ra_load rfl (.tmp 5) rfl rfl e5 rfl ?_)
  refine (ratsamp_any total last A n c l a3 a4 (fun _ => True) _ (s5).sq (fun _ _ => trivial)).mono ?_
  rintro e w6 ⟨R3, m3, d3, he, hs3, hb6⟩
  rw [HY.out] at he hs3
  dsimp only at he hs3
  subst he
  have e6 := (e5.kept hb6).alloc (.cells #[.int .i64 y.total, .int .i64 y.last, .slice R3 m3 d3] 24)
  have s6 := (s5.keep hb6).alloc (.cells #[.int .i64 y.total, .int .i64 y.last, .slice R3 m3 d3] 24)
  have f6 := (f5.kept hb6).alloc (.cells #[.int .i64 y.total, .int .i64 y.last, .slice R3 m3 d3] 24)
  have o6 := (o5.keep hb6).alloc (.cells #[.int .i64 y.total, .int .i64 y.last, .slice R3 m3 d3] 24)
  have b6 := (b5.trans (hb6.mono (Nat.le_of_lt e5.lt))).alloc (Nat.le_of_lt (e5.kept hb6).lt) (.cells #[.int .i64 y.total, .int .i64 y.last, .slice R3 m3 d3] 24)
  have rr6 := hs3.si.alloc (.cells #[.int .i64 y.total, .int .i64 y.last, .slice R3 m3 d3] 24)
  clear hs3
  obtain ⟨V3, hV3⟩ : ∃ V, w6.heap.size = V := ⟨_, rfl⟩
  have r6 := Bx.new w6 24 [.int .i64 y.total, .int .i64 y.last, .slice R3 m3 d3]
  rw [hV3] at r6
  go_wp2_with (refine ra_load rfl (.tmp 5) rfl rfl e6 rfl ?_)
  refine (rrasamp_any total last A n c l a3 a4 _ s6).mono ?_
  rintro e w7 ⟨R4, m4, d4, he, hs4, hb7⟩
  rw [HY.out] at he hs4
  dsimp only at he hs4
  subst he
  have e7 := (e6.kept hb7).alloc (.cells #[.int .i64 y.total, .int .i64 y.last, .slice R4 m4 d4] 24)
  have s7 := (s6.keep hb7).alloc (.cells #[.int .i64 y.total, .int .i64 y.last, .slice R4 m4 d4] 24)
  have f7 := (f6.kept hb7).alloc (.cells #[.int .i64 y.total, .int .i64 y.last, .slice R4 m4 d4] 24)
  have o7 := (o6.keep hb7).alloc (.cells #[.int .i64 y.total, .int .i64 y.last, .slice R4 m4 d4] 24)
  have r7 := (r6.kept hb7).alloc (.cells #[.int .i64 y.total, .int .i64 y.last, .slice R4 m4 d4] 24)
  have rr7 := (rr6.keep hb7).alloc (.cells #[.int .i64 y.total, .int .i64 y.last, .slice R4 m4 d4] 24)
  have b7 := (b6.trans (hb7.mono (Nat.le_of_lt e6.lt))).alloc (Nat.le_of_lt (e6.kept hb7).lt) (.cells #[.int .i64 y.total, .int .i64 y.last, .slice R4 m4 d4] 24)
  have tt7 := hs4.si.alloc (.cells #[.int .i64 y.total, .int .i64 y.last, .slice R4 m4 d4] 24)
  clear hs4
  obtain ⟨V4, hV4⟩ : ∃ V, w7.heap.size = V := ⟨_, rfl⟩
  have t7 := Bx.new w7 24 [.int .i64 y.total, .int .i64 y.last, .slice R4 m4 d4]
  rw [hV4] at t7
  go_wp2_with (first | (refine ra_load rfl (.tmp 18) rfl rfl r7 rfl ?_) | (refine ra_load rfl (.tmp 21) rfl rfl t7 rfl ?_))
  refine (rrasame_yes y.total y.last R3 m3 d3 y.l R4 m4 d4 _ rr7 tt7).mono ?_
  rintro e w8 ⟨rfl, hb8⟩
  have e8 := e7.kept hb8
  have s8 := s7.keep hb8
  have f8 := f7.kept hb8
  have o8 := o7.keep hb8
  have r8 := r7.kept hb8
  have rr8 := rr7.keep hb8
  have t8 := t7.kept hb8
  have tt8 := tt7.keep hb8
  have b8 := b7.trans (hb8.mono (Nat.le_of_lt e7.lt))
  go_upto_region 12 with fail
  refine wp_region_tail 20 21 (fun (W : World) => Bx W B 24 [.int .i64 total, .int .i64 last, .slice A n c] ∧ Bx W V0 24 [.int .i64 total, .int .i64 last, .slice R0 n d0'] ∧ Si W A n c l ∧ Si W R0 n d0' l ∧ Below B w W) (by kernel_rfl) (by rfl) (by decide) ?_
  have HS : ((fun (W : World) => Bx W B 24 [.int .i64 total, .int .i64 last, .slice A n c] ∧ Bx W V0 24 [.int .i64 total, .int .i64 last, .slice R0 n d0'] ∧ Si W A n c l ∧ Si W R0 n d0' l ∧ Below B w W)) _ := ⟨e8.drew, f8.drew, s8.keep ((Below.refl _ _).drew), o8.keep ((Below.refl _ _).drew), b8.drew⟩
  refine wpAnyT_take (i := 0) (v := ?vv1) rfl (by kernel_rfl) (fun _ _ _ h => h) (Or.inl ⟨by rfl, fun w hSw => ?yy1⟩) HS ?rr1
  case yy1 =>
    (try dsimp only at hSw); go_simp
    try with_reducible rfl
  try simp only [Act.put, List.setIfInBounds_toArray, List.set_cons_zero, List.set_cons_succ]
  refine wpAnyT_take (i := 1) (v := .bool true) rfl (by kernel_rfl) (fun _ _ _ h => h) (Or.inl ⟨by rfl, fun w hSw => ?_⟩) HS ?_
  · (try dsimp only at hSw); go_simp
  try simp only [Act.put, List.setIfInBounds_toArray, List.set_cons_zero, List.set_cons_succ]
  refine wpAnyT_take (i := 2) (v := .agg #[.int .i64 total, .int .i64 last, .slice A n c]) rfl (by kernel_rfl) (fun _ _ _ h => h) (ra_yields (by rfl) (.tmp 5) rfl rfl [.int .i64 total, .int .i64 last, .slice A n c] rfl 24 (fun W hW => hW.1)) HS ?_
  try simp only [Act.put, List.setIfInBounds_toArray, List.set_cons_zero, List.set_cons_succ]
  refine wpAnyT_take (i := 3) (v := .agg #[.int .i64 total, .int .i64 last, .slice R0 n d0']) rfl (by kernel_rfl) (fun _ _ _ h => h) (ra_yields (by rfl) (.tmp 12) rfl rfl [.int .i64 total, .int .i64 last, .slice R0 n d0'] rfl 24 (fun W hW => hW.2.1)) HS ?_
  try simp only [Act.put, List.setIfInBounds_toArray, List.set_cons_zero, List.set_cons_succ]
  refine wpAnyT_one (k := 4) rfl (by kernel_rfl) (by decide) (fun K hK => ?_)
  go_simp
  refine (rrasame_yes total last A n c l R0 n d0' _ HS.2.2.1 HS.2.2.2.1).mono ?_; rintro e wz4 ⟨rfl, hz4⟩; skip
  have HS : ((fun (W : World) => Bx W B 24 [.int .i64 total, .int .i64 last, .slice A n c] ∧ Bx W V0 24 [.int .i64 total, .int .i64 last, .slice R0 n d0'] ∧ Si W A n c l ∧ Si W R0 n d0' l ∧ Below B w W)) _ := ⟨HS.1.kept hz4, HS.2.1.kept hz4, HS.2.2.1.keep hz4, HS.2.2.2.1.keep hz4, HS.2.2.2.2.trans (hz4.mono (Nat.le_of_lt HS.1.lt))⟩
  refine hK _ _ HS ?_
  clear hK K
  try simp only [Act.put, List.setIfInBounds_toArray, List.set_cons_zero, List.set_cons_succ]
  refine wpAnyT_take (i := 5) (v := .bool true) rfl (by kernel_rfl) (fun _ _ _ h => h) (Or.inl ⟨by rfl, fun w hSw => ?_⟩) HS ?_
  · (try dsimp only at hSw); go_simp
  try simp only [Act.put, List.setIfInBounds_toArray, List.set_cons_zero, List.set_cons_succ]
  refine wpAnyT_take (i := 6) (v := .bool true) rfl (by kernel_rfl) (fun _ _ _ h => h) (Or.inl ⟨by rfl, fun w hSw => ?_⟩) HS ?_
  · (try dsimp only at hSw); go_simp
  try simp only [Act.put, List.setIfInBounds_toArray, List.set_cons_zero, List.set_cons_succ]
  refine wpAnyT_take (i := 7) (v := .agg #[.int .i64 total, .int .i64 last, .slice A n c]) rfl (by kernel_rfl) (fun _ _ _ h => h) (ra_yields (by rfl) (.tmp 5) rfl rfl [.int .i64 total, .int .i64 last, .slice A n c] rfl 24 (fun W hW => hW.1)) HS ?_
  try simp only [Act.put, List.setIfInBounds_toArray, List.set_cons_zero, List.set_cons_succ]
  refine wpAnyT_take (i := 9) (v := .agg #[.int .i64 total, .int .i64 last, .slice A n c]) rfl (by kernel_rfl) (fun _ _ _ h => h) (ra_yields (by rfl) (.tmp 5) rfl rfl [.int .i64 total, .int .i64 last, .slice A n c] rfl 24 (fun W hW => hW.1)) HS ?_
  try simp only [Act.put, List.setIfInBounds_toArray, List.set_cons_zero, List.set_cons_succ]
  refine wpAnyT_one (k := 8) rfl (by kernel_rfl) (by decide) (fun K hK => ?_)
  go_simp
  refine (ratbest_any total last A n c l _ HS.2.2.1).mono ?_; rintro e wz8 ⟨rfl, hz8⟩; rw [HBM.out]
  have HS : ((fun (W : World) => Bx W B 24 [.int .i64 total, .int .i64 last, .slice A n c] ∧ Bx W V0 24 [.int .i64 total, .int .i64 last, .slice R0 n d0'] ∧ Si W A n c l ∧ Si W R0 n d0' l ∧ Below B w W)) _ := ⟨HS.1.kept hz8, HS.2.1.kept hz8, HS.2.2.1.keep hz8, HS.2.2.2.1.keep hz8, HS.2.2.2.2.trans (hz8.mono (Nat.le_of_lt HS.1.lt))⟩
  refine hK _ _ HS ?_
  clear hK K
  try simp only [Act.put, List.setIfInBounds_toArray, List.set_cons_zero, List.set_cons_succ]
  refine wpAnyT_one (k := 10) rfl (by kernel_rfl) (by decide) (fun K hK => ?_)
  go_simp
  refine (rrabest_any total last A n c l _ HS.2.2.1).mono ?_; rintro e wz10 ⟨rfl, hz10⟩; rw [HBM.out]
  have HS : ((fun (W : World) => Bx W B 24 [.int .i64 total, .int .i64 last, .slice A n c] ∧ Bx W V0 24 [.int .i64 total, .int .i64 last, .slice R0 n d0'] ∧ Si W A n c l ∧ Si W R0 n d0' l ∧ Below B w W)) _ := ⟨HS.1.kept hz10, HS.2.1.kept hz10, HS.2.2.1.keep hz10, HS.2.2.2.1.keep hz10, HS.2.2.2.2.trans (hz10.mono (Nat.le_of_lt HS.1.lt))⟩
  refine hK _ _ HS ?_
  clear hK K
  try simp only [Act.put, List.setIfInBounds_toArray, List.set_cons_zero, List.set_cons_succ]
  refine wpAnyT_take (i := 11) (v := .bool true) rfl (by kernel_rfl) (fun _ _ _ h => h) (Or.inl ⟨by rfl, fun w hSw => ?_⟩) HS ?_
  · (try dsimp only at hSw); go_simp
  try simp only [Act.put, List.setIfInBounds_toArray, List.set_cons_zero, List.set_cons_succ]
  refine wpAnyT_take (i := 12) (v := .bool true) rfl (by kernel_rfl) (fun _ _ _ h => h) (Or.inl ⟨by rfl, fun w hSw => ?_⟩) HS ?_
  · (try dsimp only at hSw); go_simp
  try simp only [Act.put, List.setIfInBounds_toArray, List.set_cons_zero, List.set_cons_succ]
  refine wpAnyT_take (i := 13) (v := .bool true) rfl (by kernel_rfl) (fun _ _ _ h => h) (Or.inl ⟨by rfl, fun w hSw => ?_⟩) HS ?_
  · (try dsimp only at hSw); go_simp
  try simp only [Act.put, List.setIfInBounds_toArray, List.set_cons_zero, List.set_cons_succ]
  refine wpAnyT_take (i := 14) (v := .agg #[.int .i64 total, .int .i64 last, .slice A n c]) rfl (by kernel_rfl) (fun _ _ _ h => h) (ra_yields (by rfl) (.tmp 5) rfl rfl [.int .i64 total, .int .i64 last, .slice A n c] rfl 24 (fun W hW => hW.1)) HS ?_
  try simp only [Act.put, List.setIfInBounds_toArray, List.set_cons_zero, List.set_cons_succ]
  refine wpAnyT_take (i := 16) (v := .agg #[.int .i64 total, .int .i64 last, .slice A n c]) rfl (by kernel_rfl) (fun _ _ _ h => h) (ra_yields (by rfl) (.tmp 5) rfl rfl [.int .i64 total, .int .i64 last, .slice A n c] rfl 24 (fun W hW => hW.1)) HS ?_
  try simp only [Act.put, List.setIfInBounds_toArray, List.set_cons_zero, List.set_cons_succ]
  refine wpAnyT_one (k := 15) rfl (by kernel_rfl) (by decide) (fun K hK => ?_)
  go_simp
  refine (ratmay_any total last A n c l _ HS.2.2.1).mono ?_; rintro e wz15 ⟨rfl, hz15⟩; rw [HMM.out]
  have HS : ((fun (W : World) => Bx W B 24 [.int .i64 total, .int .i64 last, .slice A n c] ∧ Bx W V0 24 [.int .i64 total, .int .i64 last, .slice R0 n d0'] ∧ Si W A n c l ∧ Si W R0 n d0' l ∧ Below B w W)) _ := ⟨HS.1.kept hz15, HS.2.1.kept hz15, HS.2.2.1.keep hz15, HS.2.2.2.1.keep hz15, HS.2.2.2.2.trans (hz15.mono (Nat.le_of_lt HS.1.lt))⟩
  refine hK _ _ HS ?_
  clear hK K
  try simp only [Act.put, List.setIfInBounds_toArray, List.set_cons_zero, List.set_cons_succ]
  refine wpAnyT_one (k := 17) rfl (by kernel_rfl) (by decide) (fun K hK => ?_)
  go_simp
  refine (rramay_any total last A n c l _ HS.2.2.1).mono ?_; rintro e wz17 ⟨rfl, hz17⟩; rw [HMM.out]
  have HS : ((fun (W : World) => Bx W B 24 [.int .i64 total, .int .i64 last, .slice A n c] ∧ Bx W V0 24 [.int .i64 total, .int .i64 last, .slice R0 n d0'] ∧ Si W A n c l ∧ Si W R0 n d0' l ∧ Below B w W)) _ := ⟨HS.1.kept hz17, HS.2.1.kept hz17, HS.2.2.1.keep hz17, HS.2.2.2.1.keep hz17, HS.2.2.2.2.trans (hz17.mono (Nat.le_of_lt HS.1.lt))⟩
  refine hK _ _ HS ?_
  clear hK K
  try simp only [Act.put, List.setIfInBounds_toArray, List.set_cons_zero, List.set_cons_succ]
  refine wpAnyT_take (i := 18) (v := .bool true) rfl (by kernel_rfl) (fun _ _ _ h => h) (Or.inl ⟨by rfl, fun w hSw => ?_⟩) HS ?_
  · (try dsimp only at hSw); go_simp
  try simp only [Act.put, List.setIfInBounds_toArray, List.set_cons_zero, List.set_cons_succ]
  refine wpAnyT_take (i := 19) (v := .bool true) rfl (by kernel_rfl) (fun _ _ _ h => h) (Or.inl ⟨by rfl, fun w hSw => ?_⟩) HS ?_
  · (try dsimp only at hSw); go_simp
  try simp only [Act.put, List.setIfInBounds_toArray, List.set_cons_zero, List.set_cons_succ]
  refine ⟨by kernel_rfl, ?_⟩
  simp only [List.drop_succ_cons, List.drop_zero]
  have bz := HS.2.2.2.2
  go_wp2_with fail
  go_ret
  exact ⟨rfl, bz⟩
end Go.Proofs.Ytphkenicbbcjjaa.rateTells
