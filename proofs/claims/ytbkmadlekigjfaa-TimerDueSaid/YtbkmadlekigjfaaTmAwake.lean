/- Law 14's own example: awake as a contract of the call. -/
import Derived.Test.YtbkmadlekigjfaaProg
import Derived.Test.YtbkmadlekigjfaaTmL
import Derived.Test.YtbkmadlekigjfaaRoB
import Derived.WalkKit
import Derived.WalkSpells
import Derived.WalkSmall
import Derived.Lib.Hide
import Derived.Below
import Derived.Outline
import Derived.Deep.QuietTactic
import Derived.BigQuiet
import Derived.IntWalk
import Derived.Deep.DeepCutAuto
import Derived.OrdersHeld
import Derived.StillTail
import Derived.Test.YtbkmadlekigjfaaTail
import Derived.Laws.Rows
import Derived.Laws.Tables
namespace Go.Proofs.Ytbkmadlekigjfaa
open Go.RowKit
set_option linter.unusedVariables false
set_option linter.unusedSimpArgs false

def te1 : Prt := ⟨0, 1, 0, 100, 1, false, false, 0, 0⟩
def tr1 : Rt := ⟨true, 80000, 40000, 240000, 0⟩
theorem te_ok : AllOk [te1] := by
  intro x hx
  have : x = te1 := by simpa using hx
  subst this
  exact ⟨by unfold i64; decide, by unfold i64; decide, by unfold i64; decide, by unfold i64; decide, by unfold i64; decide, by unfold i64; decide, by unfold i64; decide⟩
theorem tr_ok : RtOk tr1 := ⟨by decide, by decide, by decide, by decide, by decide, by decide, by decide, by decide, Or.inl rfl⟩
theorem tr_wt : wt tr1 1000000 = 240000 := wt_now tr_ok ⟨by decide, by decide⟩ rfl rfl (by decide)
theorem te_set : SetOk tr1 [te1] 100 1000000 := ⟨(rtB_iff _).2 tr_ok, by decide, by decide, by decide, by decide, by decide⟩
theorem te_last : lastR [te1] = 100 := by decide
theorem te_s1 : setR tr1 [te1] false 100 1000000 = (⟨1, 160100⟩, 0) := by
  rw [set_ok te_set]
  unfold setT endAt probeT soonT
  rw [te_last, tr_wt]
  rfl
theorem te_s2 : setR tr1 [te1] true 100 1000000 = (⟨2, 240100⟩, 0) := by
  rw [set_ok te_set]
  unfold setT endAt
  rw [te_last, tr_wt]
  rfl
theorem te_may : tmB ⟨1, 160100⟩ = true := by decide
theorem te_due : tdueR ⟨1, 160100⟩ 160100 = 1 := by decide

set_option maxRecDepth 100000 in
set_option maxHeartbeats 8000000 in
theorem tiawake_any (w : World) : Calls Try.prog 8 #[] w fun e w' => e = .returned (.bool true) ∧ Below w.heap.size w w' := by
  obtain ⟨B, hB⟩ : ∃ B, w.heap.size = B := ⟨_, rfl⟩
  rw [hB]
  have e1 := (Bx.new w 23 [.bool true, .int .i64 80000, .int .i64 40000, .int .i64 240000, .int .i64 0]).alloc (.cells #[.int .i64 0, .int .i64 1, .int .i64 0, .int .i64 100, .int .i64 1, .bool false, .bool false, .int .i64 0, .int .i64 0] 38)
  have p1 := Bx.new (w.alloc (.cells #[.bool true, .int .i64 80000, .int .i64 40000, .int .i64 240000, .int .i64 0] 23)) 38 [.int .i64 0, .int .i64 1, .int .i64 0, .int .i64 100, .int .i64 1, .bool false, .bool false, .int .i64 0, .int .i64 0]
  rw [World.size_alloc] at p1
  have b1 : Below w.heap.size w ((w.alloc (.cells #[.bool true, .int .i64 80000, .int .i64 40000, .int .i64 240000, .int .i64 0] 23)).alloc (.cells #[.int .i64 0, .int .i64 1, .int .i64 0, .int .i64 100, .int .i64 1, .bool false, .bool false, .int .i64 0, .int .i64 0] 38)) := ((Below.refl _ _).alloc (Nat.le_refl _) _).alloc (by simp) _
  rw [hB] at e1 p1 b1
  go_enter Try.func8, Try.ntmps8
  go_upto_region 3 with fail
  generalize (w.alloc (.cells #[.bool true, .int .i64 80000, .int .i64 40000, .int .i64 240000, .int .i64 0] 23)).alloc (.cells #[.int .i64 0, .int .i64 1, .int .i64 0, .int .i64 100, .int .i64 1, .bool false, .bool false, .int .i64 0, .int .i64 0] 38) = w1 at e1 p1 b1 ⊢
  have s1 : Se w1 (some ⟨B + 1, 0, none⟩) 1 1 [te1] := bx_se (t := 38) p1 rfl (by unfold maxLen; omega) te_ok
  have hB1 : B ≤ w1.heap.size := Nat.le_of_lt e1.lt
  clear p1
  go_wp2_with (refine rt_load rfl (.tmp 1) rfl rfl e1 rfl ?_)
  refine (tiset_any tr1 _ _ _ [te1] false 100 1000000 _ s1).mono ?_
  rintro e w2 ⟨he, hb2⟩
  rw [te_s1] at he
  subst he
  have e2 := (e1.kept hb2).alloc (.cells #[.int .i64 1, .int .i64 160100] 28); have s2 := (s1.keep hb2).alloc (.cells #[.int .i64 1, .int .i64 160100] 28)
  have hB2 : B ≤ w2.heap.size := Nat.le_trans hB1 hb2.size
  have b2 := (b1.trans (hb2.mono hB1)).alloc hB2 (.cells #[.int .i64 1, .int .i64 160100] 28)
  have n2 := Bx.new w2 28 [.int .i64 1, .int .i64 160100]
  clear e1 s1 b1 hb2
  go_upto_region 4 with fail
  generalize w2.alloc (.cells #[.int .i64 1, .int .i64 160100] 28) = w3 at e2 s2 b2 n2 ⊢
  have hB3 : B ≤ w3.heap.size := Nat.le_of_lt e2.lt
  go_wp2_with (refine rt_load rfl (.tmp 1) rfl rfl e2 rfl ?_)
  refine (tiset_any tr1 _ _ _ [te1] true 100 1000000 _ s2).mono ?_
  rintro e w4 ⟨he, hb4⟩
  rw [te_s2] at he
  subst he
  have n4 := (n2.kept hb4).alloc (.cells #[.int .i64 2, .int .i64 240100] 28)
  have hB4 : B ≤ w4.heap.size := Nat.le_trans hB3 hb4.size
  have b4 := (b2.trans (hb4.mono hB3)).alloc hB4 (.cells #[.int .i64 2, .int .i64 240100] 28)
  have m4 := Bx.new w4 28 [.int .i64 2, .int .i64 240100]
  clear e2 s2 b2 n2 hb4
  go_upto_region 5 with fail
  generalize w4.alloc (.cells #[.int .i64 2, .int .i64 240100] 28) = w5 at n4 m4 b4 ⊢
  have hB5 : B ≤ w5.heap.size := Nat.le_trans hB4 (by have := m4.lt; omega)
  have x0 := n4.cell 0 rfl; have x1 := n4.cell 1 rfl; have y0 := m4.cell 0 rfl; have y1 := m4.cell 1 rfl
  go_wp2_with (first
    | (go_at_call 11; refine (timay_any ⟨1, 160100⟩ _).mono ?_; rintro e w6 ⟨rfl, hb6⟩; rw [te_may]; have n6 := n4.kept hb6; have b6 := b4.trans (hb6.mono hB5); have hB6 : B ≤ w6.heap.size := Nat.le_trans hB5 hb6.size; have z0 := n6.cell 0 rfl; have z1 := n6.cell 1 rfl)
    | (go_at_call 13; refine (tidue_any ⟨1, 160100⟩ _ _).mono ?_; rintro e w7 ⟨rfl, hb7⟩; rw [te_due]; have b7 := b6.trans (hb7.mono hB6)))
  go_ret
  exact ⟨rfl, b7⟩
end Go.Proofs.Ytbkmadlekigjfaa
