/- Package vegas: the chapter's example. -/
import Derived.Test.YtjlomjdghmjkmaaVgL
import Derived.Test.YtjlomjdghmjkmaaVgRef2
namespace Go.Proofs.Ytjlomjdghmjkmaa
open Go.RowKit
set_option linter.unusedVariables false

set_option maxRecDepth 100000 in
set_option maxHeartbeats 8000000 in
theorem vgawake_any (w : World) : Calls Try.prog 9 #[] w fun e w' => e = .returned (.bool true) ∧ Below w.heap.size w w' := by
  have r1 : queueR 10000 200 100 1000 = 5 := by decide
  have r2 : alphaR [(3000, 100), (1000, 100)] 0 8 = 6 := by decide
  have r3 : alphaR [(3000, 100), (1000, 100)] 1 8 = 2 := by decide
  have r4 : verdR 1 2 false = 1 := by decide
  have R1 := Lib.hid r1; have R2 := Lib.hid r2; have R3 := Lib.hid r3; have R4 := Lib.hid r4
  clear r1 r2 r3 r4
  have h5 : W64 3000 := by unfold W64; omega
  have h6 : W64 1000 := by unfold W64; omega
  have h1 : W64 100 := by unfold W64; omega
  have s0 := ways_two w h5 h1 h6 h1 38
  have b0 : Below w.heap.size w (w.alloc (.cells #[.int .i64 3000, .int .i64 100, .int .i64 1000, .int .i64 100] 38)) := (Below.refl _ _).alloc (Nat.le_refl _) _
  clear h5 h1 h6
  go_enter Try.func9, Try.ntmps9
  go_wp2_with fail
  obtain ⟨V, hV⟩ : ∃ V, w.heap.size = V := ⟨_, rfl⟩
  rw [hV] at s0 b0 ⊢
  have HV := Lib.hid hV
  generalize w.alloc (.cells #[.int .i64 3000, .int .i64 100, .int .i64 1000, .int .i64 100] 38) = w1 at s0 b0 ⊢
  have hz1 : V ≤ w1.heap.size := by have := b0.size; rw [HV.out] at this; exact this
  clear hV
  refine (vgqueue_any 10000 200 100 1000 _).mono ?_
  rintro e w2 ⟨rfl, hb2⟩
  rw [R1.out]
  have s2 := s0.keep hb2; have b2 := b0.trans (hb2.mono hz1); have hz2 : V ≤ w2.heap.size := Nat.le_trans hz1 hb2.size
  clear s0 b0 hb2 hz1
  go_wp2_with fail
  refine (vgalpha_any _ 2 2 _ 0 8 _ s2).mono ?_
  rintro e w3 ⟨rfl, hb3⟩
  rw [R2.out]
  have s3 := s2.keep hb3; have b3 := b2.trans (hb3.mono hz2); have hz3 : V ≤ w3.heap.size := Nat.le_trans hz2 hb3.size
  clear s2 b2 hb3 hz2
  go_wp2_with fail
  refine (vgalpha_any _ 2 2 _ 1 8 _ s3).mono ?_
  rintro e w4 ⟨rfl, hb4⟩
  rw [R3.out]
  have b4 := b3.trans (hb4.mono hz3); have hz4 : V ≤ w4.heap.size := Nat.le_trans hz3 hb4.size
  clear s3 b3 hb4 hz3
  go_wp2_with fail
  refine (vgverd_any 1 2 false _).mono ?_
  rintro e w5 ⟨rfl, hb5⟩
  rw [R4.out]
  have b5 := b4.trans (hb5.mono hz4)
  go_wp2_with fail
  go_ret
  exact ⟨rfl, by rw [HV.out]; exact b5⟩
end Go.Proofs.Ytjlomjdghmjkmaa
