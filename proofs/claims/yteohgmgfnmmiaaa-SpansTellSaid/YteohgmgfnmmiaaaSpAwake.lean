/- Package spans: the chapter's example. -/
import Derived.Test.YteohgmgfnmmiaaaSpCut
import Derived.Test.YteohgmgfnmmiaaaSpSame
namespace Go.Proofs.Yteohgmgfnmmiaaa
open Go.RowKit

theorem ss_two (w : World) {a b c d : Int} (ha : W64 a) (hb : W64 b) (hc : W64 c) (hd : W64 d) (t : TypeId) : Ss (w.alloc (.cells #[.int .i64 a, .int .i64 b, .int .i64 c, .int .i64 d] t)) (some ⟨w.heap.size, 0, none⟩) 2 2 [(a, b), (c, d)] :=
  ⟨Nat.le_refl _, by unfold maxLen; omega, (fun e => by cases e), rfl, fun p hp => by
    rcases List.mem_cons.1 hp with rfl | hp
    · exact ⟨ha, hb⟩
    · rw [List.mem_singleton] at hp; subst hp; exact ⟨hc, hd⟩, fun _ => ⟨w.heap.size, 0, rfl, by simp, fun i hi => by
    match i, hi with
    | 0, _ => exact ⟨by rw [World.cell?_alloc_new]; rfl, by rw [World.cell?_alloc_new]; rfl⟩
    | 1, _ => exact ⟨by rw [World.cell?_alloc_new]; rfl, by rw [World.cell?_alloc_new]; rfl⟩⟩⟩

theorem small64 {n : Int} (h : 0 ≤ n) (k : n < 100) : W64 n := by unfold W64; omega

set_option maxRecDepth 100000 in
set_option maxHeartbeats 2000000 in
theorem awake_any (w : World) :
    Calls Try.prog 9 #[] w fun e w' => e = .returned (.bool true) ∧ Below w.heap.size w w' := by
  have r1 : addR [(1, 3), (5, 7)] (3, 5) = ([(1, 7)], 0) := by decide
  have r2 : cutR [(1, 7)] (2, 4) = ([(1, 2), (4, 7)], 0) := by decide
  have r3 : mayB [(1, 2), (4, 7)] = true := by decide
  have h1 := ss_two w (a := 1) (b := 3) (c := 5) (d := 7) (small64 (by omega) (by omega)) (small64 (by omega) (by omega)) (small64 (by omega) (by omega)) (small64 (by omega) (by omega)) 24
  have hadd := add_any _ _ _ _ 3 5 _ h1 (small64 (by omega) (by omega)) (small64 (by omega) (by omega))
  rw [r1] at hadd
  have hb0 : Below w.heap.size w (w.alloc (.cells #[.int .i64 1, .int .i64 3, .int .i64 5, .int .i64 7] 24)) := (Below.refl _ _).alloc (Nat.le_refl _) _
  go_enter Try.func9, Try.ntmps9
  go_wp2_with fail
  refine hadd.mono ?_
  rintro e w1 ⟨R1, n1, c1, rfl, s1, hb1⟩
  have b1 := hb0.trans (hb1.mono hb0.size)
  obtain rfl : n1 = 1 := s1.rd.len.symm
  have hcut := cut_any _ _ _ _ 2 4 _ s1 (small64 (by omega) (by omega)) (small64 (by omega) (by omega))
  rw [r2] at hcut
  go_wp2_with fail
  refine hcut.mono ?_
  rintro e w2 ⟨R2, n2, c2, rfl, s2, hb2⟩
  have b2 := b1.trans (hb2.mono b1.size)
  obtain rfl : n2 = 2 := s2.rd.len.symm
  have s1' := (s1.keep hb2).alloc (.cells #[.int .i64 1, .int .i64 7] 24)
  have hsm := same_yes _ _ _ _ _ _ _ _ s1' (ss_one w2 (p := 1) (q := 7) (small64 (by omega) (by omega)) (small64 (by omega) (by omega)) 24)
  go_wp2_with fail
  refine hsm.mono ?_
  rintro e w3 ⟨rfl, hb3⟩
  have b3' : Below w2.heap.size w2 w3 := ((Below.refl _ _).alloc (Nat.le_refl _) _).trans (hb3.mono (by simp))
  have b3 := b2.trans (b3'.mono b2.size)
  have s2' := s2.keep b3'
  have hsm2 := same_yes _ _ _ _ _ _ _ _ (s2'.alloc (.cells #[.int .i64 1, .int .i64 2, .int .i64 4, .int .i64 7] 24)) (ss_two w3 (a := 1) (b := 2) (c := 4) (d := 7) (small64 (by omega) (by omega)) (small64 (by omega) (by omega)) (small64 (by omega) (by omega)) (small64 (by omega) (by omega)) 24)
  go_wp2_with fail
  refine hsm2.mono ?_
  rintro e w4 ⟨rfl, hb4⟩
  have b4' : Below w3.heap.size w3 w4 := ((Below.refl _ _).alloc (Nat.le_refl _) _).trans (hb4.mono (by simp))
  have b4 := b3.trans (b4'.mono b3.size)
  have hmay := may_any _ _ _ _ _ (s2'.keep b4')
  rw [r3] at hmay
  go_wp2_with fail
  refine hmay.mono ?_
  rintro e w5 ⟨rfl, hb5⟩
  go_wp2_with fail
  go_ret
  exact ⟨rfl, b4.trans (hb5.mono b4.size)⟩
end Go.Proofs.Yteohgmgfnmmiaaa
