/- The statements' own example: awake as a contract of the call. -/
import Derived.Test.YtnbamacdcggaeaaStL
import Derived.WalkKit
import Derived.WalkSpells
import Derived.WalkSmall
namespace Go.Proofs.Ytnbamacdcggaeaa
open Go.RowKit
set_option linter.unusedVariables false
set_option linter.unusedSimpArgs false

def ex1 : Prt := ⟨0, 10, 0, 0, 1, false, false, 0, 0⟩
def ex2 : Prt := ⟨10, 10, 0, 0, 1, false, false, 0, 0⟩
theorem ex_w (s : Int) (h : i64 s) : PrtW ⟨s, 10, 0, 0, 1, false, false, 0, 0⟩ := ⟨h, by unfold i64; dsimp only; omega, by unfold i64; dsimp only; omega, by unfold i64; dsimp only; omega, by unfold i64; dsimp only; omega, by unfold i64; dsimp only; omega, by unfold i64; dsimp only; omega⟩
theorem ex_s1 : sendR [] ex1 = ([ex1], 0) := by decide
theorem ex_s2 : sendR [ex1] ex2 = ([ex1, ex2], 0) := by decide
theorem ex_h : heardR [ex1, ex2] 10 [] = ([ex2], [ex1], 0) := by decide
theorem ex_f : flightR [ex2] = 10 := by decide
theorem ex_m : smayB [ex2] = true := by decide

set_option maxRecDepth 100000 in
set_option maxHeartbeats 4000000 in
theorem staw_any (w : World) : Calls Try.prog 9 #[] w fun e w' => e = .returned (.bool true) ∧ Below w.heap.size w w' := by
  obtain ⟨B, hB⟩ : ∃ B, w.heap.size = B := ⟨_, rfl⟩
  rw [hB]
  go_enter Try.func9, Try.ntmps9
  go_upto_region 2 with (go_at_call 10; refine (stsend_any none 0 0 [] ex1 _ (Se.none _) (ex_w 0 (by unfold i64; omega)) (by omega)).mono ?_; rintro e w2 ⟨G1, m1, d1, he, hs1, hb1⟩; rw [ex_s1] at he hs1; subst he)
  (try dsimp only at hs1 ⊢)
  obtain rfl : m1 = 1 := hs1.se.rd.len.symm
  have b1 : Below B w w2 := hB ▸ hb1
  have hB1 : B ≤ w2.heap.size := by have := hb1.size; omega
  go_upto_region 3 with (go_at_call 10; refine (stsend_any G1 1 d1 [ex1] ex2 _ hs1.se (ex_w 10 (by unfold i64; omega)) (by omega)).mono ?_; rintro e w3 ⟨G2, m2, d2, he, hs2, hb2⟩; rw [ex_s2] at he hs2; subst he)
  (try dsimp only at hs2 ⊢)
  obtain rfl : m2 = 2 := hs2.se.rd.len.symm
  have b2 : Below B w w3 := b1.trans (hb2.mono hB1)
  have hB2 : B ≤ w3.heap.size := Nat.le_trans hB1 hb2.size
  go_upto_region 4 with (go_at_call 15; refine (stheard_any G2 2 d2 [ex1, ex2] 10 none 0 0 [] _ hs2.se (Ss.none _) (by omega) (by omega)).mono ?_; rintro e w4 ⟨G3, m3, d3, G4, m4, d4, he, hs3, hs4, hb3⟩; rw [ex_h] at he hs3 hs4; subst he)
  (try dsimp only at hs3 hs4 ⊢)
  obtain rfl : m3 = 1 := hs3.se.rd.len.symm
  obtain rfl : m4 = 1 := hs4.se.rd.len.symm
  have b3 : Below B w w4 := b2.trans (hb3.mono hB2)
  have hB3 : B ≤ w4.heap.size := Nat.le_trans hB2 hb3.size
  obtain ⟨b, o, rfl, hbl, hc⟩ := hs4.se.rd.at_ (by omega)
  have X := prt_at hc (show 0 < 1 by omega)
  have c0 : w4.cell? ⟨b, o, none⟩ = some (.int .i64 0) := X.c0
  have hfl := stflight_any G3 1 d3 [ex2] w4 hs3.se
  rw [ex_f] at hfl
  have hse3 := Lib.hid hs3.se
  clear hs1 hs2 hs3 hs4 hc X b1 b2 hb1 hb2 hb3
  go_wp2_with (first
    | (go_at_call 19; refine hfl.mono ?_; rintro e w5 ⟨rfl, hb5⟩; have hm := stmay_any G3 1 d3 [ex2] w5 (hse3.out.keep hb5); rw [ex_m] at hm)
    | (go_at_call 17; refine hm.mono ?_; rintro e w6 ⟨rfl, hb6⟩))
  go_ret
  exact ⟨rfl, (b3.trans (hb5.mono hB3)).trans (hb6.mono (Nat.le_trans hB3 hb5.size))⟩
end Go.Proofs.Ytnbamacdcggaeaa
