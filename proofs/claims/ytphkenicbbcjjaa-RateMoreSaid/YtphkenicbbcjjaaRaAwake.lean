/- Package rate: awake as a contract of the call. -/
import Derived.Test.YtphkenicbbcjjaaRaL
import Derived.WalkKit
import Derived.WalkSpells
import Derived.WalkSmall
import Derived.Lib.Hide
import Derived.Below
import Derived.Outline
import Derived.Laws.Tables
import Derived.Laws.Rows
import Derived.OrdersHeld
import Derived.Deep.QuietTactic
import Derived.BigQuiet
import Derived.IntWalk
import Derived.Deep.DeepCutAuto
namespace Go.Proofs.Ytphkenicbbcjjaa
open Go.RowKit
set_option linter.unusedVariables false
set_option linter.unusedSimpArgs false

theorem rw1 : cameR ⟨0, 0, []⟩ 10000 1000 = ((⟨1000, 10000, []⟩ : Rv), 0) := by rfl
theorem rw2 : sampR ⟨1000, 10000, []⟩ 0 0 = ((⟨1000, 10000, [100000]⟩ : Rv), 100000, 0) := by rfl
theorem rw3 : bestR ⟨1000, 10000, [100000]⟩ = 100000 := by rfl
theorem rw4 : ramay ⟨1000, 10000, [100000]⟩ = true := by rfl
set_option maxRecDepth 100000 in
set_option maxHeartbeats 2000000 in
theorem raawake_any (w : World) :
    Calls Try.prog 8 #[] w fun e w' => e = .returned (.bool true) ∧ Below w.heap.size w w' := by
  have a1 := Lib.hid rw1; have a2 := Lib.hid rw2; have a3 := Lib.hid rw3; have a4 := Lib.hid rw4
  obtain ⟨B, hB⟩ : ∃ B, w.heap.size = B := ⟨_, rfl⟩
  rw [hB]
  have HB := Lib.hid hB; clear hB
  go_enter Try.func8, Try.ntmps8
  go_wp2_with fail
  refine (ratcame_any 0 0 none 0 0 [] 10000 1000 (fun _ => True) _ (Sq.none _ _) (fun _ _ => trivial)).mono ?_
  rintro e w1 ⟨R, m, d, he, hs1, hb1⟩
  rw [a1.out] at he hs1
  dsimp only at he hs1
  subst he
  have b1 : Below B w w1 := by rw [← HB.out]; exact hb1
  have z1 : B ≤ w1.heap.size := by rw [← HB.out]; exact hb1.size
  have e2 := Bx.new w1 24 [.int .i64 1000, .int .i64 10000, .slice R m d]
  have b2 := b1.alloc z1 (.cells #[.int .i64 1000, .int .i64 10000, .slice R m d] 24)
  have s2 := hs1.alloc (.cells #[.int .i64 1000, .int .i64 10000, .slice R m d] 24)
  clear hb1 hs1
  obtain ⟨C, hC⟩ : ∃ C, w1.heap.size = C := ⟨_, rfl⟩
  rw [hC] at e2 z1
  have HM : Hid (m = 0) := Lib.hid (by have := s2.len; simpa using this.symm)
  go_upto_region 2 with fail
  try rw [hC]
  generalize w1.alloc (.cells #[.int .i64 1000, .int .i64 10000, .slice R m d] 24) = w2 at e2 b2 s2 ⊢
  clear b1 hC
  go_wp2_with (refine ra_load rfl (.tmp 1) rfl rfl e2 rfl ?_)
  have hlt2 := e2.lt
  refine (ratsamp_any 1000 10000 R m d [] 0 0 (fun b => b ≠ C) _ ⟨s2.si, fun h => absurd h (by have := HM.out; omega)⟩ (fun b hb => by omega)).mono ?_
  rintro e w3 ⟨R2, m2, d2, he, hs3, hb3⟩
  rw [a2.out] at he hs3
  dsimp only at he hs3
  subst he
  have e3 := e2.kept hb3
  have b3 := b2.trans (hb3.mono (by omega))
  have z3 : C < w3.heap.size := e3.lt
  clear e2 b2 s2 hb3 hlt2
  go_upto_region 3 with (refine ra_store rfl (.tmp 1) (.tmp 13) rfl rfl [.int .i64 1000, .int .i64 10000, .slice R2 m2 d2] rfl e3 rfl rfl rfl ?_)
  have e4 := ra_put e3 [.int .i64 1000, .int .i64 10000, .slice R2 m2 d2]
  have s4 := hs3.grown (ra_grown w3 C #[.int .i64 1000, .int .i64 10000, .slice R2 m2 d2]) (fun b hb h => hb (by cases h; rfl))
  have b4 := b3.grown (ra_grown w3 C #[.int .i64 1000, .int .i64 10000, .slice R2 m2 d2]) (by omega) (fun k h => by cases h; omega)
  generalize w3.setRow C #[.int .i64 1000, .int .i64 10000, .slice R2 m2 d2] = w4 at e4 s4 b4 ⊢
  clear e3 hs3 b3
  have x0 := e4.cell 0 rfl; have x1 := e4.cell 1 rfl; have x2 := e4.cell 2 rfl
  go_wp2_with fail
  refine (ratbest_any 1000 10000 R2 m2 d2 [100000] _ s4.si).mono ?_
  rintro e w5 ⟨rfl, hb5⟩
  rw [a3.out]
  have e5 := e4.kept hb5; have s5 := s4.keep hb5; have b5 := b4.trans (hb5.mono (by have := e4.lt; omega))
  have y0 := e5.cell 0 rfl; have y1 := e5.cell 1 rfl; have y2 := e5.cell 2 rfl
  go_wp2_with fail
  refine (ratmay_any 1000 10000 R2 m2 d2 [100000] _ s5.si).mono ?_
  rintro e w6 ⟨rfl, hb6⟩
  rw [a4.out]
  have b6 := b5.trans (hb6.mono (by have := e5.lt; omega))
  go_wp2_with fail
  go_ret
  exact ⟨rfl, b6⟩
end Go.Proofs.Ytphkenicbbcjjaa
