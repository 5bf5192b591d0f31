/- Law 13's own example: awake as a contract of the call. -/
import Derived.Test.YtlanplobdgchaaaProg
import Derived.Test.YtlanplobdgchaaaRkL
import Derived.Test.YtlanplobdgchaaaRkMath
import Derived.Test.YtlanplobdgchaaaRoB
import Derived.WalkKit
import Derived.WalkSpells
import Derived.WalkSmall
import Derived.Lib.Hide
import Derived.Below
import Derived.Outline
import Derived.Deep.QuietTactic
import Derived.BigQuiet
import Derived.IntWalk
import Derived.Deep.DeepCutAuto
import Derived.OrdersHeld
import Derived.StillTail
import Derived.Test.YtlanplobdgchaaaTail
import Derived.Laws.Rows
import Derived.Laws.Tables
namespace Go.Proofs.Ytlanplobdgchaaa
open Go.RowKit
set_option linter.unusedVariables false
set_option linter.unusedSimpArgs false

def re1 : Prt := ⟨0, 5, 0, 0, 1, false, false, 0, 0⟩
def re2 : Prt := ⟨5, 5, 0, 10, 1, false, false, 0, 0⟩
def re3 : Prt := ⟨5, 5, 0, 10, 1, true, false, 0, 0⟩
def re4 : Prt := ⟨0, 5, 0, 0, 1, false, true, 0, 0⟩
def rk1 : Rkv := ⟨10, 10, 90, 10, false, 0⟩
theorem re_came : rkcameR zrk re2 100 0 = (rk1, 0) := by decide
theorem re_l1 : lostR rk1 [re1, re3] 89 0 = ([re1, re3], 0, 90, 0) := by decide
theorem re_l2 : lostR rk1 [re1, re3] 90 0 = ([re4, re3], 1, 0, 0) := by decide
theorem re_may : rkmay rk1 = true := by decide
theorem re_ok : AllOk [re1, re3] := by
  intro x hx
  have : x = re1 ∨ x = re3 := by simpa using hx
  rcases this with rfl | rfl <;> exact ⟨by unfold i64; decide, by unfold i64; decide, by unfold i64; decide, by unfold i64; decide, by unfold i64; decide, by unfold i64; decide, by unfold i64; decide⟩

set_option maxRecDepth 100000 in
set_option maxHeartbeats 8000000 in
theorem rakawake_any (w : World) : Calls Try.prog 8 #[] w fun e w' => e = .returned (.bool true) ∧ Below w.heap.size w w' := by
  obtain ⟨B, hB⟩ : ∃ B, w.heap.size = B := ⟨_, rfl⟩
  rw [hB]
  have e1 := Bx.new w 26 [.int .i64 0, .int .i64 5, .int .i64 0, .int .i64 0, .int .i64 1, .bool false, .bool false, .int .i64 0, .int .i64 0, .int .i64 5, .int .i64 5, .int .i64 0, .int .i64 10, .int .i64 1, .bool false, .bool false, .int .i64 0, .int .i64 0]
  rw [hB] at e1
  have b1 : Below B w (w.alloc (.cells #[.int .i64 0, .int .i64 5, .int .i64 0, .int .i64 0, .int .i64 1, .bool false, .bool false, .int .i64 0, .int .i64 0, .int .i64 5, .int .i64 5, .int .i64 0, .int .i64 10, .int .i64 1, .bool false, .bool false, .int .i64 0, .int .i64 0] 26)) := by rw [← hB]; exact (Below.refl _ _).alloc (Nat.le_refl _) _
  go_enter Try.func8, Try.ntmps8
  go_upto_region 2 with fail
  generalize w.alloc (.cells #[.int .i64 0, .int .i64 5, .int .i64 0, .int .i64 0, .int .i64 1, .bool false, .bool false, .int .i64 0, .int .i64 0, .int .i64 5, .int .i64 5, .int .i64 0, .int .i64 10, .int .i64 1, .bool false, .bool false, .int .i64 0, .int .i64 0] 26) = w1 at e1 b1 ⊢
  have c9 := e1.cell 9 rfl; have c10 := e1.cell 10 rfl; have c11 := e1.cell 11 rfl; have c12 := e1.cell 12 rfl; have c13 := e1.cell 13 rfl; have c14 := e1.cell 14 rfl; have c15 := e1.cell 15 rfl; have c16 := e1.cell 16 rfl; have c17 := e1.cell 17 rfl
  go_upto_region 3 with (go_at_call 9; refine (rakcame_any zrk re2 100 0 _ (by constructor <;> (unfold i64; decide))).mono ?_; rintro e w2 ⟨he, hb2⟩; rw [re_came] at he; dsimp only [rk1] at he; subst he)
  have e2 := (e1.kept hb2).alloc (.cells #[.int .i64 10, .int .i64 10, .int .i64 90, .int .i64 10, .bool false, .int .i64 0] 23)
  have hB2 : B ≤ w2.heap.size := Nat.le_of_lt (e1.kept hb2).lt
  have b2 := (b1.trans (hb2.mono (Nat.le_of_lt e1.lt))).alloc hB2 (.cells #[.int .i64 10, .int .i64 10, .int .i64 90, .int .i64 10, .bool false, .int .i64 0] 23)
  have n2 := Bx.new w2 23 [.int .i64 10, .int .i64 10, .int .i64 90, .int .i64 10, .bool false, .int .i64 0]
  have hq := (e1.kept hb2).lt
  obtain ⟨Q, hQ⟩ : ∃ Q, w2.heap.size = Q := ⟨_, rfl⟩
  rw [hQ] at n2 hq ⊢
  generalize w2.alloc (.cells #[.int .i64 10, .int .i64 10, .int .i64 90, .int .i64 10, .bool false, .int .i64 0] 23) = w3 at e2 b2 n2 ⊢
  clear c9 c10 c11 c12 c13 c14 c15 c16 c17 e1 b1 hb2 hQ hB2
  have z14 := e2.cell 14 rfl; have zf := e2.free 14
  go_upto_region 4 with fail
  have e3 := e2.set 14 (.bool true)
  have n3 := n2.far (p := ⟨B, 14, none⟩) (by show Q ≠ B; omega) (.bool true)
  have b3 := b2.setCell (p := ⟨B, 14, none⟩) (Nat.le_refl _) (.bool true)
  generalize w3.setCell ⟨B, 14, none⟩ (.bool true) = w4 at e3 n3 b3 ⊢
  clear e2 n2 b2 z14 zf
  have s3 : Se w4 (some ⟨B, 0, none⟩) 2 2 [re1, re3] := bx_se (t := 26) e3 rfl (by unfold maxLen; omega) re_ok
  have hB4 : B ≤ w4.heap.size := Nat.le_of_lt e3.lt
  clear e3
  go_wp2_with (refine rk_load rfl (.tmp 2) rfl rfl n3 rfl ?_)
  refine (raklost_any rk1 _ _ _ [re1, re3] _ _ _ s3 (by omega)).mono ?_
  rintro e w5 ⟨G1, m1, d1, he, hs5, hb5⟩
  rw [re_l1] at he hs5
  dsimp only at he hs5
  subst he
  have n5 := n3.kept hb5; have s5 := s3.keep hb5; have b5 := b3.trans (hb5.mono hB4)
  have hB5 : B ≤ w5.heap.size := Nat.le_trans hB4 hb5.size
  clear n3 s3 b3 hb5 hs5
  go_wp2_with (refine rk_load rfl (.tmp 2) rfl rfl n5 rfl ?_)
  refine (raklost_any rk1 _ _ _ [re1, re3] _ _ _ s5 (by omega)).mono ?_
  rintro e w6 ⟨G2, m2, d2, he, hs6, hb6⟩
  rw [re_l2] at he hs6
  dsimp only at he hs6
  subst he
  obtain rfl : 2 = m2 := hs6.se.rd.len
  have n6 := n5.kept hb6; have b6 := b5.trans (hb6.mono hB5)
  have hB6 : B ≤ w6.heap.size := Nat.le_trans hB5 hb6.size
  obtain ⟨b, o, rfl, hbl, hc⟩ := hs6.se.rd.at_ (by omega)
  have X := prt_at hc (show 0 < 2 by omega)
  have c6 : w6.cell? ⟨b, o + 6, none⟩ = some (.bool true) := by have := X.c6; rw [Nat.zero_mul, Nat.add_zero] at this; exact this
  have x0 := n6.cell 0 rfl; have x1 := n6.cell 1 rfl; have x2 := n6.cell 2 rfl; have x3 := n6.cell 3 rfl; have x4 := n6.cell 4 rfl; have x5 := n6.cell 5 rfl
  clear n5 s5 b5 hb6 hs6 hc X
  go_wp2_with fail
  refine (rakmay_any rk1 _).mono ?_
  rintro e w7 ⟨rfl, hb7⟩
  rw [re_may]
  go_wp2_with fail
  go_ret
  exact ⟨rfl, b6.trans (hb7.mono hB6)⟩
end Go.Proofs.Ytlanplobdgchaaa
