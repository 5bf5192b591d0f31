/- Package xmp: the chapter's examples. -/
import Derived.Test.YtookmfgnhflpaaaXmL
import Derived.Test.YtookmfgnhflpaaaXmRef3
namespace Go.Proofs.Ytookmfgnhflpaaa
open Go.RowKit
set_option linter.unusedVariables false


set_option maxRecDepth 100000 in
set_option maxHeartbeats 8000000 in
theorem xmawake_any (w : World) : Calls Try.prog 9 #[] w fun e w' => e = .returned (.bool true) ∧ Below w.heap.size w w' := by
  have r1 : cutR 10000 10000 1024 100 100000 = (5000, 5000, 0) := by decide
  have r2 : shareR [(5000, 100), (5000, 100)] 0 100 = 50 := by decide
  have r3 : shareR [(5000, 100), (5000, 100)] 1 100 = 50 := by decide
  have r4 : xmB 5000 5000 100 100000 = true := by decide
  have p1 := fun w => xwcut_any 10000 10000 1024 100 100000 w
  rw [r1] at p1
  have p4 := fun w => xwmay_any 5000 5000 100 100000 w
  rw [r4] at p4
  have R2 := Lib.hid r2; have R3 := Lib.hid r3
  clear r1 r2 r3 r4
  have h5 : W64 5000 := by unfold W64; omega
  have h1 : W64 100 := by unfold W64; omega
  have s0 := ways_two w h5 h1 h5 h1 35
  have b0 : Below w.heap.size w (w.alloc (.cells #[.int .i64 5000, .int .i64 100, .int .i64 5000, .int .i64 100] 35)) := (Below.refl _ _).alloc (Nat.le_refl _) _
  clear h5 h1
  go_enter Try.func9, Try.ntmps9
  go_wp2_with fail
  obtain ⟨V, hV⟩ : ∃ V, w.heap.size = V := ⟨_, rfl⟩
  rw [hV] at s0 b0 ⊢
  have HV := Lib.hid hV
  generalize w.alloc (.cells #[.int .i64 5000, .int .i64 100, .int .i64 5000, .int .i64 100] 35) = w1 at s0 b0 ⊢
  have hz : V ≤ w1.heap.size := by have := b0.size; rw [HV.out] at this; exact this
  clear hV
  refine (p1 _).mono ?_
  rintro e w2 ⟨he, hb2⟩
  dsimp only at he
  subst he
  have s2 := s0.keep hb2
  have b2 := b0.trans (hb2.mono hz)
  have hz2 : V ≤ w2.heap.size := Nat.le_trans hz hb2.size
  clear s0 b0 hb2 hz
  have e3 := Bx.new w2 23 [.int .i64 5000, .int .i64 5000]
  have s3 := s2.alloc (.cells #[.int .i64 5000, .int .i64 5000] 23)
  have b3 := b2.alloc hz2 (.cells #[.int .i64 5000, .int .i64 5000] 23)
  have hz3 : V ≤ (w2.alloc (.cells #[.int .i64 5000, .int .i64 5000] 23)).heap.size := by simp; omega
  go_upto_region 3 with fail
  obtain ⟨U, hU⟩ : ∃ U, w2.heap.size = U := ⟨_, rfl⟩
  rw [hU] at e3 ⊢
  generalize w2.alloc (.cells #[.int .i64 5000, .int .i64 5000] 23) = w3 at e3 s3 b3 hz3 ⊢
  clear s2 b2 hz2 hU
  have x0 := e3.cell 0 rfl; have x1 := e3.cell 1 rfl
  go_wp2_with fail
  refine (xwshare_any _ 2 2 _ 0 100 _ s3).mono ?_
  rintro e w4 ⟨rfl, hb4⟩
  rw [R2.out]
  have e4 := e3.kept hb4; have s4 := s3.keep hb4; have b4 := b3.trans (hb4.mono hz3); have hz4 : V ≤ w4.heap.size := Nat.le_trans hz3 hb4.size
  clear x0 x1 e3 s3 b3 hb4 hz3
  have x0 := e4.cell 0 rfl; have x1 := e4.cell 1 rfl
  go_wp2_with fail
  refine (xwshare_any _ 2 2 _ 1 100 _ s4).mono ?_
  rintro e w5 ⟨rfl, hb5⟩
  rw [R3.out]
  have e5 := e4.kept hb5; have b5 := b4.trans (hb5.mono hz4); have hz5 : V ≤ w5.heap.size := Nat.le_trans hz4 hb5.size
  clear x0 x1 e4 s4 b4 hb5 hz4
  have x0 := e5.cell 0 rfl; have x1 := e5.cell 1 rfl
  go_wp2_with fail
  refine (p4 _).mono ?_
  rintro e w6 ⟨rfl, hb6⟩
  have b6 := b5.trans (hb6.mono hz5)
  go_wp2_with fail
  go_ret
  exact ⟨rfl, by rw [HV.out]; exact b6⟩
end Go.Proofs.Ytookmfgnhflpaaa
