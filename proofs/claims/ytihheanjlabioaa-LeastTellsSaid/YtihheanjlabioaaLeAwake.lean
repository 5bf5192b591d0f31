/- Package least: awake as a contract of the call. -/
import Derived.Test.YtihheanjlabioaaLeL
import Derived.WalkKit
import Derived.WalkSpells
import Derived.WalkSmall
import Derived.Lib.Hide
import Derived.Below
import Derived.Outline
namespace Go.Proofs.Ytihheanjlabioaa
open Go.RowKit
set_option linter.unusedVariables false
set_option linter.unusedSimpArgs false

theorem aw1 : metR ⟨10, [], 0⟩ 0 5 = ((⟨10, [(0, 5)], 0⟩ : Lv), false, 0) := by rfl
theorem aw2 : metR ⟨10, [(0, 5)], 0⟩ 4 7 = ((⟨10, [(0, 5), (4, 7)], 0⟩ : Lv), false, 0) := by rfl
theorem aw3 : ofR ⟨10, [(0, 5), (4, 7)], 0⟩ 10 = (5, true) := by rfl
theorem aw4 : ofR ⟨10, [(0, 5), (4, 7)], 0⟩ 11 = (7, true) := by rfl
theorem aw5 : lmay ⟨10, [(0, 5), (4, 7)], 0⟩ = true := by rfl
set_option maxRecDepth 100000 in
set_option maxHeartbeats 2000000 in
theorem leawake_any (w : World) :
    Calls Try.prog 8 #[] w fun e w' => e = .returned (.bool true) ∧ Below w.heap.size w w' := by
  have a1 := Lib.hid aw1; have a2 := Lib.hid aw2; have a3 := Lib.hid aw3; have a4 := Lib.hid aw4; have a5 := Lib.hid aw5
  obtain ⟨B, hB⟩ : ∃ B, w.heap.size = B := ⟨_, rfl⟩
  rw [hB]
  go_enter Try.func8, Try.ntmps8
  go_wp2_with fail
  refine (lemet_any 10 none 0 0 0 [] 0 5 _ (Ss.none _)).mono ?_
  rintro e w1 ⟨R1, m1, d1, he, hs1, hb1⟩
  rw [a1.out] at he hs1
  dsimp only at he hs1
  subst he
  have hb1' : Below B w w1 := by rw [← hB]; exact hb1
  have hsz : B ≤ w1.heap.size := by rw [← hB]; exact hb1'.size
  have e2 := Bx.new w1 24 [.int .i64 10, .slice R1 m1 d1, .int .i64 0]
  have b2 := hb1'.alloc hsz (.cells #[.int .i64 10, .slice R1 m1 d1, .int .i64 0] 24)
  have s2 := hs1.ss.alloc (.cells #[.int .i64 10, .slice R1 m1 d1, .int .i64 0] 24)
  go_wp2_with (refine le_load rfl (.tmp 1) rfl rfl e2 rfl ?_)
  obtain ⟨V, hV⟩ : ∃ V, w1.heap.size = V := ⟨_, rfl⟩
  rw [hV] at e2 ⊢
  generalize w1.alloc (.cells #[.int .i64 10, .slice R1 m1 d1, .int .i64 0] 24) = w2 at e2 b2 s2 ⊢
  refine (lemet_any 10 R1 m1 d1 0 [(0, 5)] 4 7 _ s2).mono ?_
  rintro e w3 ⟨R2, m2, d2, he, hs3, hb3⟩
  rw [a2.out] at he hs3
  dsimp only at he hs3
  subst he
  have e3 := e2.kept hb3; have b3 := b2.trans (hb3.mono (by have := e2.lt; omega))
  have e4 := le_put e3 [.int .i64 10, .slice R2 m2 d2, .int .i64 0]
  have b4 := b3.grown (le_grown w3 V #[.int .i64 10, .slice R2 m2 d2, .int .i64 0]) (by have := e3.lt; omega) (fun k hk => by cases hk; omega)
  have s4 := (hs3.grown (le_grown w3 V #[.int .i64 10, .slice R2 m2 d2, .int .i64 0]) e2.lt).ss
  go_wp2_with (first
    | (refine le_store rfl (.tmp 1) (.tmp 19) rfl rfl [.int .i64 10, .slice R2 m2 d2, .int .i64 0] rfl e3 rfl rfl rfl ?_)
    | (refine le_load rfl (.tmp 1) rfl rfl e4 rfl ?_))
  refine (leof_any 10 R2 m2 d2 0 [(0, 5), (4, 7)] 10 _ s4).mono ?_
  rintro e w5 ⟨rfl, hb5⟩
  rw [a3.out]
  have e5 := e4.kept hb5; have b5 := b4.trans (hb5.mono (by have := e4.lt; omega)); have s5 := s4.keep hb5
  go_wp2_with (refine le_load rfl (.tmp 1) rfl rfl e5 rfl ?_)
  refine (leof_any 10 R2 m2 d2 0 [(0, 5), (4, 7)] 11 _ s5).mono ?_
  rintro e w6 ⟨rfl, hb6⟩
  rw [a4.out]
  have e6 := e5.kept hb6; have b6 := b5.trans (hb6.mono (by have := e5.lt; omega)); have s6 := s5.keep hb6
  have x0 := e6.cell 0 rfl; have x1 := e6.cell 1 rfl; have x2 := e6.cell 2 rfl
  go_wp2_with fail
  refine (lemay_any 10 R2 m2 d2 0 [(0, 5), (4, 7)] _ s6).mono ?_
  rintro e w7 ⟨rfl, hb7⟩
  rw [a5.out]
  go_wp2_with fail
  go_ret
  exact ⟨rfl, b6.trans (hb7.mono (by have := e6.lt; omega))⟩
end Go.Proofs.Ytihheanjlabioaa
