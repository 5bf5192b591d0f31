/- Package group: the chapter's examples; few. -/
import Derived.Test.YtbaaglgoodckmaaGrL
import Derived.Test.YtbaaglgoodckmaaGrMath
import Derived.Test.YtbaaglgoodckmaaInts
namespace Go.Proofs.Ytbaaglgoodckmaa
open Go.RowKit
set_option linter.unusedVariables false

theorem si_lit (w : World) (l : List Int) (hw : WideI l) (hl : l.length ≤ maxLen) (t : TypeId) : Si (w.alloc (.cells (l.map (Value.int .i64)).toArray t)) (some ⟨w.heap.size, 0, none⟩) l.length l.length l :=
  ⟨Nat.le_refl _, hl, (fun e => by cases e), rfl, hw, fun h0 => ⟨w.heap.size, 0, rfl, by simp, fun i hi => by
    rw [Nat.zero_add, World.cell?_alloc_new, it_eq hi]
    simp [hi]⟩⟩
theorem small_wide {l : List Int} (h : l.all (fun x => decide (0 ≤ x ∧ x ≤ 100)) = true) : WideI l := fun x hx => by
  have := List.all_eq_true.1 h x hx
  rw [decide_eq_true_eq] at this
  unfold W64; omega

set_option maxRecDepth 100000 in
set_option maxHeartbeats 16000000 in
theorem grawake_any (w : World) : Calls Try.prog 8 #[] w fun e w' => e = .returned (.bool true) ∧ Below w.heap.size w w' := by
  have r1 : groupsG [[4, 3, 2, 1], [1, 2, 3, 4], [5, 6, 7, 8]] = [0, 1, 1] := by decide +kernel
  have r2 : alikeG [1, 2, 3, 4] [5, 6, 7, 8] = true := by decide +kernel
  have r3 : alikeG [1, 2, 3, 4] [4, 3, 2, 1] = false := by decide +kernel
  have r4 : alikeG [4, 3, 2, 1] [5, 6, 7, 8] = false := by decide +kernel
  have r5 : mayG [1, 2, 3, 4] = true := by decide +kernel
  have R1 := Lib.hid r1; have R2 := Lib.hid r2; have R3 := Lib.hid r3; have R4 := Lib.hid r4; have R5 := Lib.hid r5
  clear r1 r2 r3 r4 r5
  obtain ⟨B, hB⟩ : ∃ B, w.heap.size = B := ⟨_, rfl⟩
  rw [hB]
  have a0 := si_lit w [1, 2, 3, 4] (small_wide (by decide)) (by unfold maxLen; simp) 3
  have b0 : Below B w (w.alloc (.cells #[.int .i64 1, .int .i64 2, .int .i64 3, .int .i64 4] 3)) := by rw [← hB]; exact (Below.refl _ _).alloc (Nat.le_refl _) _
  have z0 : B ≤ (w.alloc (.cells #[.int .i64 1, .int .i64 2, .int .i64 3, .int .i64 4] 3)).heap.size := by simp; omega
  clear hB
  go_enter Try.func8, Try.ntmps8
  go_upto_region 2 with fail
  obtain ⟨P1, hP⟩ : ∃ P, w.heap.size = P := ⟨_, rfl⟩
  rw [hP] at a0 ⊢
  generalize hW : w.alloc (.cells #[.int .i64 1, .int .i64 2, .int .i64 3, .int .i64 4] 3) = w1 at b0 z0 ⊢
  have a1 : Si w1 (some ⟨P1, 0, none⟩) 4 4 [1, 2, 3, 4] := by rw [← hW]; exact a0
  clear hW hP a0
  have b1 := b0.alloc z0 (.cells #[.int .i64 5, .int .i64 6, .int .i64 7, .int .i64 8] 3); have x1 := si_lit w1 [5, 6, 7, 8] (small_wide (by decide)) (by unfold maxLen; simp) 3
  have a2 := a1.alloc (.cells #[.int .i64 5, .int .i64 6, .int .i64 7, .int .i64 8] 3); have z1 : B ≤ (w1.alloc (.cells #[.int .i64 5, .int .i64 6, .int .i64 7, .int .i64 8] 3)).heap.size := by simp; omega
  clear b0 z0 a1
  go_upto_region 3 with fail
  obtain ⟨P2, hP⟩ : ∃ P, w1.heap.size = P := ⟨_, rfl⟩
  rw [hP] at x1 ⊢
  generalize hW : w1.alloc (.cells #[.int .i64 5, .int .i64 6, .int .i64 7, .int .i64 8] 3) = w2 at b1 z1 a2 ⊢
  have x2 : Si w2 (some ⟨P2, 0, none⟩) 4 4 [5, 6, 7, 8] := by rw [← hW]; exact x1
  clear hW hP x1
  have b2 := b1.alloc z1 (.cells #[.int .i64 4, .int .i64 3, .int .i64 2, .int .i64 1] 3); have y2 := si_lit w2 [4, 3, 2, 1] (small_wide (by decide)) (by unfold maxLen; simp) 3
  have a3 := a2.alloc (.cells #[.int .i64 4, .int .i64 3, .int .i64 2, .int .i64 1] 3); have x3 := x2.alloc (.cells #[.int .i64 4, .int .i64 3, .int .i64 2, .int .i64 1] 3); have z2 : B ≤ (w2.alloc (.cells #[.int .i64 4, .int .i64 3, .int .i64 2, .int .i64 1] 3)).heap.size := by simp; omega
  clear b1 z1 a2 x2
  go_upto_region 4 with fail
  obtain ⟨P3, hP⟩ : ∃ P, w2.heap.size = P := ⟨_, rfl⟩
  rw [hP] at y2 ⊢
  generalize hW : w2.alloc (.cells #[.int .i64 4, .int .i64 3, .int .i64 2, .int .i64 1] 3) = w3 at b2 z2 a3 x3 ⊢
  have y3 : Si w3 (some ⟨P3, 0, none⟩) 4 4 [4, 3, 2, 1] := by rw [← hW]; exact y2
  clear hW hP y2
  have s4 := ll_three y3 a3 x3 25
  have a4 := a3.alloc (.cells #[.slice (some ⟨P3, 0, none⟩) 4 4, .slice (some ⟨P1, 0, none⟩) 4 4, .slice (some ⟨P2, 0, none⟩) 4 4] 25); have x4 := x3.alloc (.cells #[.slice (some ⟨P3, 0, none⟩) 4 4, .slice (some ⟨P1, 0, none⟩) 4 4, .slice (some ⟨P2, 0, none⟩) 4 4] 25); have y4 := y3.alloc (.cells #[.slice (some ⟨P3, 0, none⟩) 4 4, .slice (some ⟨P1, 0, none⟩) 4 4, .slice (some ⟨P2, 0, none⟩) 4 4] 25)
  have b4 := b2.alloc z2 (.cells #[.slice (some ⟨P3, 0, none⟩) 4 4, .slice (some ⟨P1, 0, none⟩) 4 4, .slice (some ⟨P2, 0, none⟩) 4 4] 25); have z4 : B ≤ (w3.alloc (.cells #[.slice (some ⟨P3, 0, none⟩) 4 4, .slice (some ⟨P1, 0, none⟩) 4 4, .slice (some ⟨P2, 0, none⟩) 4 4] 25)).heap.size := by simp; omega
  clear b2 z2 a3 x3 y3
  go_wp2_with fail
  generalize w3.alloc (.cells #[.slice (some ⟨P3, 0, none⟩) 4 4, .slice (some ⟨P1, 0, none⟩) 4 4, .slice (some ⟨P2, 0, none⟩) 4 4] 25) = w4 at a4 x4 y4 b4 z4 s4 ⊢
  refine (ggof_any _ 3 3 _ _ s4).mono ?_
  rintro e w5 ⟨Q, m, f, rfl, q5, hb5⟩
  rw [R1.out] at q5
  have a5 := a4.keep hb5; have x5 := x4.keep hb5; have y5 := y4.keep hb5; have b5 := b4.trans (hb5.mono z4); have z5 : B ≤ w5.heap.size := Nat.le_trans z4 hb5.size
  obtain rfl : m = 3 := q5.rd.len.symm
  clear a4 x4 y4 b4 z4 s4 hb5
  have l6 := si_lit w5 [0, 1, 1] (small_wide (by decide)) (by unfold maxLen; simp) 3
  have a6 := a5.alloc (.cells #[.int .i64 0, .int .i64 1, .int .i64 1] 3); have x6 := x5.alloc (.cells #[.int .i64 0, .int .i64 1, .int .i64 1] 3); have y6 := y5.alloc (.cells #[.int .i64 0, .int .i64 1, .int .i64 1] 3); have q6 := q5.alloc (.cells #[.int .i64 0, .int .i64 1, .int .i64 1] 3); have b6 := b5.alloc z5 (.cells #[.int .i64 0, .int .i64 1, .int .i64 1] 3); have z6 : B ≤ (w5.alloc (.cells #[.int .i64 0, .int .i64 1, .int .i64 1] 3)).heap.size := by simp; omega
  clear a5 x5 y5 b5 z5 q5
  go_wp2_with fail
  obtain ⟨P4, hP⟩ : ∃ P, w5.heap.size = P := ⟨_, rfl⟩
  rw [hP] at l6 ⊢
  generalize hW : w5.alloc (.cells #[.int .i64 0, .int .i64 1, .int .i64 1] 3) = w6 at a6 x6 y6 q6 b6 z6 ⊢
  have k6 : Si w6 (some ⟨P4, 0, none⟩) 3 3 [0, 1, 1] := by rw [← hW]; exact l6
  clear hW hP l6
  refine (ints_any _ _ _ _ _ _ _ _ _ q6 k6).mono ?_
  rintro e w7 ⟨rfl, hb7⟩
  rw [decide_eq_true rfl]
  have a7 := a6.keep hb7; have x7 := x6.keep hb7; have y7 := y6.keep hb7; have b7 := b6.trans (hb7.mono z6); have z7 : B ≤ w7.heap.size := Nat.le_trans z6 hb7.size
  clear a6 x6 y6 q6 k6 b6 z6 hb7
  go_wp2_with fail
  refine (ggalike_any _ _ _ _ _ _ _ _ _ a7 x7).mono ?_
  rintro e w8 ⟨rfl, hb8⟩
  rw [R2.out]
  have a8 := a7.keep hb8; have x8 := x7.keep hb8; have y8 := y7.keep hb8; have b8 := b7.trans (hb8.mono z7); have z8 : B ≤ w8.heap.size := Nat.le_trans z7 hb8.size
  clear a7 x7 y7 b7 z7 hb8
  go_wp2_with fail
  refine (ggalike_any _ _ _ _ _ _ _ _ _ a8 y8).mono ?_
  rintro e w9 ⟨rfl, hb9⟩
  rw [R3.out]
  have a9 := a8.keep hb9; have x9 := x8.keep hb9; have y9 := y8.keep hb9; have b9 := b8.trans (hb9.mono z8); have z9 : B ≤ w9.heap.size := Nat.le_trans z8 hb9.size
  clear a8 x8 y8 b8 z8 hb9
  go_wp2_with fail
  refine (ggalike_any _ _ _ _ _ _ _ _ _ y9 x9).mono ?_
  rintro e wa ⟨rfl, hba⟩
  rw [R4.out]
  have aa := a9.keep hba; have ba := b9.trans (hba.mono z9); have za : B ≤ wa.heap.size := Nat.le_trans z9 hba.size
  clear a9 x9 y9 b9 z9 hba
  go_wp2_with fail
  refine (ggmay_any _ _ _ _ _ aa).mono ?_
  rintro e wb ⟨rfl, hbb⟩
  rw [R5.out]
  have bb := ba.trans (hbb.mono za)
  go_wp2_with fail
  go_ret
  exact ⟨rfl, bb⟩

set_option maxRecDepth 100000 in
set_option maxHeartbeats 16000000 in
theorem few_any (A : Option Addr) (n c : Nat) (Ls : List (List Int)) (w : World) (hs : Ll w A n c Ls) : Calls Try.prog 9 #[.slice A n c] w fun e w' => (∃ q, e = .returned (.bool q) ∧ (q = true → n ≤ 20 ∧ ∀ i, i < n → (li Ls i).length ≤ 40)) ∧ w = w' := by
  have m3 := hs.n9
  have HS := Lib.hid hs
  clear hs
  have hq : (decide (n ≤ 20) = true) ∨ (decide (n ≤ 20) = false) := by cases decide (n ≤ 20) <;> simp
  obtain ⟨v, hv⟩ : ∃ v, decide (n ≤ 20) = v := ⟨_, rfl⟩
  have hv' : decide ((n : Int) ≤ 20) = v := by rw [← hv]; simp; omega
  have HV : Hid (v = true → n ≤ 20) := Lib.hid (fun h => by rw [h] at hv; exact of_decide_eq_true hv)
  clear hq
  go_enter Try.func9, Try.ntmps9
  go_wp2_with fail
  clear hv hv'
  go_loopw [3, 4] (fun ok i wr => ∃ (k : Nat) (x : Bool), k ≤ n ∧ i = .int .i64 (k : Int) ∧ ok = .bool x ∧ Hid (x = true → n ≤ 20 ∧ ∀ j, j < k → (li Ls j).length ≤ 40) ∧ w = wr) (fun _ i _ => n - (intOf i).toNat)
  case atStart => exact ⟨0, v, Nat.zero_le _, rfl, rfl, Lib.hid (fun h => ⟨HV.out h, fun j hj => absurd hj (by omega)⟩), rfl⟩
  case round =>
    obtain ⟨k, x, hk, rfl, rfl, HX, rfl⟩ := hrel
    by_cases hlt : k < n
    · have dlt : decide (k < n) = true := decide_eq_true hlt
      cases x with
      | false =>
        go_wp2_with fail
        go_ret
        exact ⟨⟨_, rfl, fun h => by cases h⟩, rfl⟩
      | true =>
        obtain ⟨b, o, hA, hbl, hc⟩ := HS.out.at_ (by omega)
        subst hA
        obtain ⟨R, m, d, c1, s1⟩ := hc k hlt
        have hm := s1.rd.len
        have s2 := s1.le; have s3 := s1.max
        have m9 : m ≤ 9223372036854775807 := by unfold maxLen at s3; omega
        obtain ⟨u, hu⟩ : ∃ u, decide (m ≤ 40) = u := ⟨_, rfl⟩
        have hu' : decide ((m : Int) ≤ 40) = u := by rw [← hu]; simp; omega
        have HU : Hid (u = true → m ≤ 40) := Lib.hid (fun h => by rw [h] at hu; exact of_decide_eq_true hu)
        have HM := Lib.hid hm
        clear hc s1 s2 s3 hm
        go_wp2_with fail
        go_roundw
        case rel => exact ⟨k + 1, u, by omega, by go_num, rfl, Lib.hid (fun h => ⟨(HX.out rfl).1, fun j hj => by
          by_cases e : j = k
          · subst e; rw [HM.out]; exact HU.out h
          · exact (HX.out rfl).2 j (by omega)⟩), by first | rfl | trivial⟩
        case measure => simp [intOf]; omega
    · obtain rfl : k = n := by omega
      have dlt : decide (k < k) = false := decide_eq_false (by omega)
      go_wp2_with fail
      go_ret
      exact ⟨⟨x, rfl, HX.out⟩, rfl⟩
end Go.Proofs.Ytbaaglgoodckmaa
