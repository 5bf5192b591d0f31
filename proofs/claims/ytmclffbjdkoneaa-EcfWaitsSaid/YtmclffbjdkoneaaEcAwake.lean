/- Package ecf: the chapter's examples. -/
import Derived.Test.YtmclffbjdkoneaaEcL
import Derived.Test.YtmclffbjdkoneaaEcRef2
import Derived.Test.YtmclffbjdkoneaaRoB
namespace Go.Proofs.Ytmclffbjdkoneaa
open Go.RowKit
set_option linter.unusedVariables false
set_option linter.unusedSimpArgs false

set_option maxRecDepth 100000 in
set_option maxHeartbeats 8000000 in
theorem ecawake_any (w : World) : Calls Try.prog 8 #[] w fun e w' => e = .returned (.bool true) ∧ Below w.heap.size w w' := by
  have r1 : pickR [(⟨true, 1000, 0, 10, 0⟩ : Chv)] 5 100 false = (0, false) := by decide +kernel
  have r2 : pickR [(⟨true, 1000, 1000, 10, 0⟩ : Chv), (⟨true, 1000, 0, 1000, 0⟩ : Chv)] 5 100 false = (-1, true) := by decide +kernel
  have r3 : chB (⟨true, 1000, 0, 10, 0⟩ : Chv) = true := by decide +kernel
  have r4 : roomB (⟨true, 1000, 0, 10, 0⟩ : Chv) 1000 = true := by decide +kernel
  have R1 := Lib.hid r1; have R2 := Lib.hid r2; have R3 := Lib.hid r3; have R4 := Lib.hid r4
  clear r1 r2 r3 r4
  have wa : El.ok (⟨true, 1000, 0, 10, 0⟩ : Chv) := ⟨by unfold w64c; simp, by unfold w64c; simp, by unfold w64c; simp, by unfold w64c; simp⟩
  have wb : El.ok (⟨true, 1000, 1000, 10, 0⟩ : Chv) := ⟨by unfold w64c; simp, by unfold w64c; simp, by unfold w64c; simp, by unfold w64c; simp⟩
  have wc : El.ok (⟨true, 1000, 0, 1000, 0⟩ : Chv) := ⟨by unfold w64c; simp, by unfold w64c; simp, by unfold w64c; simp, by unfold w64c; simp⟩
  have WA := Lib.hid wa; have WB := Lib.hid wb; have WC := Lib.hid wc
  clear wa wb wc
  obtain ⟨B, hB⟩ : ∃ B, w.heap.size = B := ⟨_, rfl⟩
  rw [hB]
  have a0 := Bx.new w 28 [.bool true, .int .i64 1000, .int .i64 0, .int .i64 10, .int .i64 0]
  rw [hB] at a0
  have b0 : Below B w (w.alloc (.cells #[.bool true, .int .i64 1000, .int .i64 0, .int .i64 10, .int .i64 0] 28)) := by rw [← hB]; exact (Below.refl _ _).alloc (Nat.le_refl _) _
  go_enter Try.func8, Try.ntmps8
  go_upto_region 2 with fail
  generalize w.alloc (.cells #[.bool true, .int .i64 1000, .int .i64 0, .int .i64 10, .int .i64 0] 28) = w1 at a0 b0 ⊢
  clear hB
  have a1 := a0.alloc (.cells #[.bool true, .int .i64 1000, .int .i64 1000, .int .i64 10, .int .i64 0] 28); have p1 := Bx.new w1 28 [.bool true, .int .i64 1000, .int .i64 1000, .int .i64 10, .int .i64 0]; have b1 := b0.alloc (Nat.le_of_lt a0.lt) (.cells #[.bool true, .int .i64 1000, .int .i64 1000, .int .i64 10, .int .i64 0] 28)
  clear b0
  go_upto_region 3 with fail
  obtain ⟨P, hP⟩ : ∃ P, w1.heap.size = P := ⟨_, rfl⟩
  rw [hP] at p1 ⊢
  generalize w1.alloc (.cells #[.bool true, .int .i64 1000, .int .i64 1000, .int .i64 10, .int .i64 0] 28) = w2 at a1 p1 b1 ⊢
  clear hP a0
  have a2 := a1.alloc (.cells #[.bool true, .int .i64 1000, .int .i64 0, .int .i64 1000, .int .i64 0] 28); have p2 := p1.alloc (.cells #[.bool true, .int .i64 1000, .int .i64 0, .int .i64 1000, .int .i64 0] 28); have q2 := Bx.new w2 28 [.bool true, .int .i64 1000, .int .i64 0, .int .i64 1000, .int .i64 0]; have b2 := b1.alloc (Nat.le_of_lt a1.lt) (.cells #[.bool true, .int .i64 1000, .int .i64 0, .int .i64 1000, .int .i64 0] 28)
  clear b1 p1
  go_upto_region 4 with fail
  obtain ⟨Q, hQ⟩ : ∃ Q, w2.heap.size = Q := ⟨_, rfl⟩
  rw [hQ] at q2 ⊢
  generalize w2.alloc (.cells #[.bool true, .int .i64 1000, .int .i64 0, .int .i64 1000, .int .i64 0] 28) = w3 at a2 p2 q2 b2 ⊢
  clear hQ a1
  have a3 := a2.alloc (.cells #[.bool true, .int .i64 1000, .int .i64 0, .int .i64 10, .int .i64 0] 28); have p3 := p2.alloc (.cells #[.bool true, .int .i64 1000, .int .i64 0, .int .i64 10, .int .i64 0] 28); have q3 := q2.alloc (.cells #[.bool true, .int .i64 1000, .int .i64 0, .int .i64 10, .int .i64 0] 28); have b3 := b2.alloc (Nat.le_of_lt a2.lt) (.cells #[.bool true, .int .i64 1000, .int .i64 0, .int .i64 10, .int .i64 0] 28)
  have s3 := se_one w3 (x := (⟨true, 1000, 0, 10, 0⟩ : Chv)) WA.out 28
  clear b2 p2 q2
  go_wp2_with (refine ch_load rfl (.tmp 1) rfl rfl a2 rfl ?_)
  obtain ⟨R, hR⟩ : ∃ R, w3.heap.size = R := ⟨_, rfl⟩
  rw [hR] at s3 ⊢
  generalize w3.alloc (.cells #[.bool true, .int .i64 1000, .int .i64 0, .int .i64 10, .int .i64 0] 28) = w4 at a3 p3 q3 b3 s3 ⊢
  clear hR a2
  have z4 : B ≤ w4.heap.size := Nat.le_of_lt a3.lt
  refine (ecpick_any _ 1 1 _ 5 100 false _ s3).mono ?_
  rintro e w5 ⟨rfl, hb5⟩
  rw [R1.out]
  have a5 := a3.kept hb5; have p5 := p3.kept hb5; have q5 := q3.kept hb5; have b5 := b3.trans (hb5.mono z4)
  clear a3 p3 q3 b3 s3 hb5 z4
  have a6 := a5.alloc (.cells #[.bool true, .int .i64 1000, .int .i64 1000, .int .i64 10, .int .i64 0, .bool true, .int .i64 1000, .int .i64 0, .int .i64 1000, .int .i64 0] 28); have b6 := b5.alloc (Nat.le_of_lt a5.lt) (.cells #[.bool true, .int .i64 1000, .int .i64 1000, .int .i64 10, .int .i64 0, .bool true, .int .i64 1000, .int .i64 0, .int .i64 1000, .int .i64 0] 28)
  have s6 := bx_se (l := [(⟨true, 1000, 1000, 10, 0⟩ : Chv), (⟨true, 1000, 0, 1000, 0⟩ : Chv)]) (n := 2) (Bx.new w5 28 [.bool true, .int .i64 1000, .int .i64 1000, .int .i64 10, .int .i64 0, .bool true, .int .i64 1000, .int .i64 0, .int .i64 1000, .int .i64 0]) rfl (by unfold maxLen; omega) (fun x hx => by
    rcases List.mem_cons.1 hx with rfl | hx
    · exact WB.out
    · rw [List.mem_singleton] at hx; subst hx; exact WC.out)
  go_upto_region 5 with fail
  go_wp2_with (first | (refine ch_load rfl (.tmp 2) rfl rfl p5 rfl ?_) | (refine ch_load rfl (.tmp 3) rfl rfl q5 rfl ?_))
  obtain ⟨RR, hR⟩ : ∃ R, w5.heap.size = R := ⟨_, rfl⟩
  rw [hR] at s6 ⊢
  generalize w5.alloc (.cells #[.bool true, .int .i64 1000, .int .i64 1000, .int .i64 10, .int .i64 0, .bool true, .int .i64 1000, .int .i64 0, .int .i64 1000, .int .i64 0] 28) = w6 at a6 b6 s6 ⊢
  clear hR a5 p5 q5 b5
  have z6 : B ≤ w6.heap.size := Nat.le_of_lt a6.lt
  refine (ecpick_any _ 2 2 _ 5 100 false _ s6).mono ?_
  rintro e w7 ⟨rfl, hb7⟩
  rw [R2.out]
  have a7 := a6.kept hb7; have b7 := b6.trans (hb7.mono z6)
  clear a6 b6 s6 hb7 z6
  have y0 := a7.cell 0 rfl; have y1 := a7.cell 1 rfl; have y2 := a7.cell 2 rfl; have y3 := a7.cell 3 rfl; have y4 := a7.cell 4 rfl
  have z7 : B ≤ w7.heap.size := Nat.le_of_lt a7.lt
  go_wp2_with fail
  refine (ecmay_any (⟨true, 1000, 0, 10, 0⟩ : Chv) _).mono ?_
  rintro e w8 ⟨rfl, hb8⟩
  rw [R3.out]
  have a8 := a7.kept hb8; have b8 := b7.trans (hb8.mono z7)
  clear y0 y1 y2 y3 y4 a7 b7 hb8 z7
  have y0 := a8.cell 0 rfl; have y1 := a8.cell 1 rfl; have y2 := a8.cell 2 rfl; have y3 := a8.cell 3 rfl; have y4 := a8.cell 4 rfl
  have z8 : B ≤ w8.heap.size := Nat.le_of_lt a8.lt
  go_wp2_with fail
  refine (ecroom_any (⟨true, 1000, 0, 10, 0⟩ : Chv) 1000 _).mono ?_
  rintro e w9 ⟨rfl, hb9⟩
  rw [R4.out]
  have b9 := b8.trans (hb9.mono z8)
  go_wp2_with fail
  go_ret
  exact ⟨rfl, b9⟩
end Go.Proofs.Ytmclffbjdkoneaa
