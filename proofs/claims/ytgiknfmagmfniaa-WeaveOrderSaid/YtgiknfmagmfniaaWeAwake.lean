/- The laws of package weave: what every law begins with ('awake'), and 'few'. -/
import Derived.Test.YtgiknfmagmfniaaProg
import Derived.Test.YtgiknfmagmfniaaWo7
import Derived.WalkKit
import Derived.WalkSpells
import Derived.WalkSmall
import Derived.Lib.Hide
import Derived.Below
import Derived.Outline
import Derived.Lib.SlBytesConst
namespace Go.Proofs.Ytgiknfmagmfniaa
open Go.RowKit
set_option linter.unusedSimpArgs false
set_option linter.unusedVariables false

theorem sl_two (w : World) {a b : Int} (h : Small [a, b]) : Sl (w.alloc (.cells #[.int .u8 a, .int .u8 b] 5 (2, 3))) (some ⟨w.heap.size, 0, none⟩) 2 2 [a, b] :=
  ⟨Nat.le_refl _, by unfold maxLen; omega, (fun e => by cases e), rfl, h, fun _ => ⟨w.heap.size, 0, rfl, by simp, fun i hi => by
    rw [Nat.zero_add, World.cell?_alloc_mark]
    match i, hi with
    | 0, _ => rfl
    | 1, _ => rfl⟩⟩
theorem lay_two (w : World) (a b : Int) : (convert 22 22 (.slice (some ⟨w.heap.size, 0, none⟩) 2 2)).run Try.prog (w.alloc (.cells #[.int .u8 a, .int .u8 b] 5)) = .ok (.slice (some ⟨w.heap.size, 0, none⟩) 2 2) (w.alloc (.cells #[.int .u8 a, .int .u8 b] 5 (2, 3))) :=
  Lib.run_convert_bytes_const w 22 5 #[.int .u8 a, .int .u8 b] 2 2 Try.underlying22 Try.underlying5
theorem put1_awake : putR ⟨0, [], [], 10, -1⟩ 2 [99, 100] = (⟨0, [0, 0, 99, 100], [(2, 4)], 10, -1⟩, 2, 0) := by rfl
theorem put2_awake : putR ⟨0, [0, 0, 99, 100], [(2, 4)], 10, -1⟩ 0 [97, 98] = (⟨0, [97, 98, 99, 100], [(0, 4)], 10, -1⟩, 2, 0) := by rfl
theorem rdy1_awake : readyR ⟨0, [0, 0, 99, 100], [(2, 4)], 10, -1⟩ = 0 := by rfl
theorem rdy2_awake : readyR ⟨0, [97, 98, 99, 100], [(0, 4)], 10, -1⟩ = 4 := by rfl
theorem may2_awake : wmay ⟨0, [97, 98, 99, 100], [(0, 4)], 10, -1⟩ = true := by rfl
theorem edge2_awake : edgeR ⟨0, [97, 98, 99, 100], [(0, 4)], 10, -1⟩ = 10 := by rfl
theorem new_awake : newR 10 = (⟨0, [], [], 10, -1⟩, 0) := by rfl

def fewW (n m : Nat) : Bool := decide (n ≤ 300) && decide (m ≤ 100)
set_option maxHeartbeats 1000000 in
theorem few_any (base : Int) (A : Option Addr) (n c : Nat) (G : Option Addr) (m d : Nat) (cap en : Int) (w : World) :
    Calls Try.prog 9 #[.agg #[.int .i64 base, .slice A n c, .slice G m d, .int .i64 cap, .int .i64 en]] w fun e w' => e = .returned (.bool (fewW n m)) ∧ Below w.heap.size w w' := by
  have e0 := Bx.new w 25 [.int .i64 base, .slice A n c, .slice G m d, .int .i64 cap, .int .i64 en]
  have x1 := e0.cell 1 rfl
  have x2 := e0.cell 2 rfl
  have hb : Below w.heap.size w (w.alloc (.cells #[.int .i64 base, .slice A n c, .slice G m d, .int .i64 cap, .int .i64 en] 25)) := (Below.refl _ _).alloc (Nat.le_refl _) _
  by_cases h1 : n ≤ 300
  · have d1 : decide ((n : Int) ≤ 300) = true := decide_eq_true (by omega)
    have hf : fewW n m = decide ((m : Int) ≤ 100) := by unfold fewW; rw [decide_eq_true h1, Bool.true_and, decide_eq_decide]; omega
    rw [hf]
    go_enter Try.func9, Try.ntmps9
    go_wp2
    go_ret
    exact ⟨rfl, hb⟩
  · have d1 : decide ((n : Int) ≤ 300) = false := decide_eq_false (by omega)
    have hf : fewW n m = false := by unfold fewW; rw [decide_eq_false h1]; rfl
    rw [hf]
    go_enter Try.func9, Try.ntmps9
    go_wp2
    go_ret
    exact ⟨rfl, hb⟩

set_option maxHeartbeats 4000000 in
theorem awake_any (w : World) : Calls Try.prog 8 #[] w fun e w' => e = .returned (.bool true) ∧ Below w.heap.size w w' := by
  have kc := lay_two
  go_enter Try.func8, Try.ntmps8
  go_wp2_with fail
  refine (wnew_any 10 _).mono ?_
  rintro e w1 h1
  rw [new_awake] at h1
  dsimp only [TellW] at h1
  obtain ⟨R1, m1, d1, G1, k1, q1, rfl, s1, g1, b1⟩ := h1
  obtain rfl : m1 = 0 := s1.sl.rd.len.symm
  obtain rfl : k1 = 0 := g1.ss.rd.len.symm
  have x1 := Bx.new w1 25 [.int .i64 0, .slice R1 0 d1, .slice G1 0 q1, .int .i64 10, .int .i64 (-1)]
  have z1 := b1.alloc b1.size (.cells #[.int .i64 0, .slice R1 0 d1, .slice G1 0 q1, .int .i64 10, .int .i64 (-1)] 25)
  have s2 := s1.sl.alloc (.cells #[.int .i64 0, .slice R1 0 d1, .slice G1 0 q1, .int .i64 10, .int .i64 (-1)] 25)
  have g2 := g1.ss.alloc (.cells #[.int .i64 0, .slice R1 0 d1, .slice G1 0 q1, .int .i64 10, .int .i64 (-1)] 25)
  obtain ⟨v1, hv1⟩ : ∃ v1, w1.alloc (.cells #[.int .i64 0, .slice R1 0 d1, .slice G1 0 q1, .int .i64 10, .int .i64 (-1)] 25) = v1 := ⟨_, rfl⟩
  have ho1 : w1.heap.size < v1.heap.size := by rw [← hv1]; simp
  rw [hv1] at x1 z1 s2 g2
  obtain ⟨n0, hn0⟩ : ∃ n0, w1.heap.size = n0 := ⟨_, rfl⟩
  rw [hn0] at x1 ho1
  have c0 := x1.cell 0 rfl
  have c1 := x1.cell 1 rfl
  have c2 := x1.cell 2 rfl
  have c3 := x1.cell 3 rfl
  have c4 := x1.cell 4 rfl
  go_wp2_with fail
  have x3 := x1.alloc (.cells #[.int .u8 99, .int .u8 100] 5 (2, 3))
  have z3 := z1.alloc z1.size (.cells #[.int .u8 99, .int .u8 100] 5 (2, 3))
  have s3 := s2.alloc (.cells #[.int .u8 99, .int .u8 100] 5 (2, 3))
  have g3 := g2.alloc (.cells #[.int .u8 99, .int .u8 100] 5 (2, 3))
  refine (wput_any 0 R1 0 d1 G1 0 q1 10 (-1) [] [] _ s3 g3 (by omega) 2 _ 2 2 [99, 100] (by unfold W64; omega) (sl_two v1 (by intro x hx; simp at hx; omega)) (by omega)).mono ?_
  rintro e v3 h3
  rw [put1_awake] at h3
  dsimp only [TellP] at h3
  obtain ⟨R3, m3, dd3, G3, k3, q3, rfl, sb3, sq3, b3⟩ := h3
  obtain rfl : m3 = 4 := sb3.sl.rd.len.symm
  obtain rfl : k3 = 1 := sq3.ss.rd.len.symm
  have y3 := x3.kept b3
  have t3 := z3.trans (b3.mono z3.size)
  have hlt3 : n0 < (v1.alloc (.cells #[.int .u8 99, .int .u8 100] 5 (2, 3))).heap.size := by simp; omega
  clear c0 c1 c2 c3 c4
  have c0 := y3.cell 0 rfl
  have c1 := y3.cell 1 rfl
  have c2 := y3.cell 2 rfl
  have c3 := y3.cell 3 rfl
  have c4 := y3.cell 4 rfl
  have f0 := y3.free 0
  have f1 := y3.free 1
  have f2 := y3.free 2
  have f3 := y3.free 3
  have f4 := y3.free 4
  have hn1 : w.heap.size ≤ n0 := by rw [← hn0]; exact b1.size
  have X3 := (((((y3.set 0 (.int .i64 0)).set 1 (.slice R3 4 dd3)).set 2 (.slice G3 1 q3)).set 3 (.int .i64 10)).set 4 (.int .i64 (-1)))
  simp only [List.set_cons_zero, List.set_cons_succ] at X3
  have S3 := (((((sb3.set (p := ⟨n0, 0, none⟩) hlt3 (.int .i64 0)).set (p := ⟨n0, 1, none⟩) hlt3 (.slice R3 4 dd3)).set (p := ⟨n0, 2, none⟩) hlt3 (.slice G3 1 q3)).set (p := ⟨n0, 3, none⟩) hlt3 (.int .i64 10)).set (p := ⟨n0, 4, none⟩) hlt3 (.int .i64 (-1)))
  have Q3 := (((((sq3.set (p := ⟨n0, 0, none⟩) hlt3 (.int .i64 0)).set (p := ⟨n0, 1, none⟩) hlt3 (.slice R3 4 dd3)).set (p := ⟨n0, 2, none⟩) hlt3 (.slice G3 1 q3)).set (p := ⟨n0, 3, none⟩) hlt3 (.int .i64 10)).set (p := ⟨n0, 4, none⟩) hlt3 (.int .i64 (-1)))
  have Z3 := (((((t3.setCell (p := ⟨n0, 0, none⟩) hn1 (.int .i64 0)).setCell (p := ⟨n0, 1, none⟩) hn1 (.slice R3 4 dd3)).setCell (p := ⟨n0, 2, none⟩) hn1 (.slice G3 1 q3)).setCell (p := ⟨n0, 3, none⟩) hn1 (.int .i64 10)).setCell (p := ⟨n0, 4, none⟩) hn1 (.int .i64 (-1)))
  have hs3 : n0 < (((((v3.setCell ⟨n0, 0, none⟩ (.int .i64 0)).setCell ⟨n0, 1, none⟩ (.slice R3 4 dd3)).setCell ⟨n0, 2, none⟩ (.slice G3 1 q3)).setCell ⟨n0, 3, none⟩ (.int .i64 10)).setCell ⟨n0, 4, none⟩ (.int .i64 (-1))).heap.size := X3.lt
  have hg3 := y3.cell 0 rfl; clear hg3
  have C0 := X3.cell 0 rfl
  have C1 := X3.cell 1 rfl
  have C2 := X3.cell 2 rfl
  have C3 := X3.cell 3 rfl
  have C4 := X3.cell 4 rfl
  go_wp2_with fail
  obtain ⟨v4, hv4⟩ : ∃ v4, (((((v3.setCell ⟨n0, 0, none⟩ (.int .i64 0)).setCell ⟨n0, 1, none⟩ (.slice R3 4 dd3)).setCell ⟨n0, 2, none⟩ (.slice G3 1 q3)).setCell ⟨n0, 3, none⟩ (.int .i64 10)).setCell ⟨n0, 4, none⟩ (.int .i64 (-1))) = v4 := ⟨_, rfl⟩
  rw [hv4] at X3 S3 Q3 Z3 hs3 ⊢
  clear c0 c1 c2 c3 c4 f0 f1 f2 f3 f4 C0 C1 C2 C3 C4 y3 x3 z3 s3 g3 sb3 sq3 t3 b3 hlt3
  refine (wready_any 0 R3 4 dd3 G3 1 q3 10 (-1) [0, 0, 99, 100] [(2, 4)] _ S3.sl Q3.ss (by omega)).mono ?_
  rintro e v5 ⟨h5, b5⟩
  rw [rdy1_awake] at h5
  subst h5
  have X5 := X3.kept b5
  have Z5 := Z3.trans (b5.mono Z3.size)
  have S5 := S3.sl.keep b5
  have Q5 := Q3.ss.keep b5
  have c0 := X5.cell 0 rfl
  have c1 := X5.cell 1 rfl
  have c2 := X5.cell 2 rfl
  have c3 := X5.cell 3 rfl
  have c4 := X5.cell 4 rfl
  go_wp2_with fail
  have x6 := X5.alloc (.cells #[.int .u8 97, .int .u8 98] 5 (2, 3))
  have z6 := Z5.alloc Z5.size (.cells #[.int .u8 97, .int .u8 98] 5 (2, 3))
  have s6 := S5.alloc (.cells #[.int .u8 97, .int .u8 98] 5 (2, 3))
  have g6 := Q5.alloc (.cells #[.int .u8 97, .int .u8 98] 5 (2, 3))
  refine (wput_any 0 R3 4 dd3 G3 1 q3 10 (-1) [0, 0, 99, 100] [(2, 4)] _ s6 g6 (by omega) 0 _ 2 2 [97, 98] (by unfold W64; omega) (sl_two v5 (by intro x hx; simp at hx; omega)) (by omega)).mono ?_
  rintro e v6 h6
  rw [put2_awake] at h6
  dsimp only [TellP] at h6
  obtain ⟨R6, m6, dd6, G6, k6, q6, rfl, sb6, sq6, b6⟩ := h6
  obtain rfl : m6 = 4 := sb6.sl.rd.len.symm
  obtain rfl : k6 = 1 := sq6.ss.rd.len.symm
  have y6 := x6.kept b6
  have t6 := z6.trans (b6.mono z6.size)
  have hn5 : n0 < v5.heap.size := X5.lt
  have hlt6 : n0 < (v5.alloc (.cells #[.int .u8 97, .int .u8 98] 5 (2, 3))).heap.size := by simp; omega
  clear c0 c1 c2 c3 c4
  have c0 := y6.cell 0 rfl
  have c1 := y6.cell 1 rfl
  have c2 := y6.cell 2 rfl
  have c3 := y6.cell 3 rfl
  have c4 := y6.cell 4 rfl
  have f0 := y6.free 0
  have f1 := y6.free 1
  have f2 := y6.free 2
  have f3 := y6.free 3
  have f4 := y6.free 4
  have X7 := (((((y6.set 0 (.int .i64 0)).set 1 (.slice R6 4 dd6)).set 2 (.slice G6 1 q6)).set 3 (.int .i64 10)).set 4 (.int .i64 (-1)))
  simp only [List.set_cons_zero, List.set_cons_succ] at X7
  have S7 := (((((sb6.set (p := ⟨n0, 0, none⟩) hlt6 (.int .i64 0)).set (p := ⟨n0, 1, none⟩) hlt6 (.slice R6 4 dd6)).set (p := ⟨n0, 2, none⟩) hlt6 (.slice G6 1 q6)).set (p := ⟨n0, 3, none⟩) hlt6 (.int .i64 10)).set (p := ⟨n0, 4, none⟩) hlt6 (.int .i64 (-1)))
  have Q7 := (((((sq6.set (p := ⟨n0, 0, none⟩) hlt6 (.int .i64 0)).set (p := ⟨n0, 1, none⟩) hlt6 (.slice R6 4 dd6)).set (p := ⟨n0, 2, none⟩) hlt6 (.slice G6 1 q6)).set (p := ⟨n0, 3, none⟩) hlt6 (.int .i64 10)).set (p := ⟨n0, 4, none⟩) hlt6 (.int .i64 (-1)))
  have Z7 := (((((t6.setCell (p := ⟨n0, 0, none⟩) hn1 (.int .i64 0)).setCell (p := ⟨n0, 1, none⟩) hn1 (.slice R6 4 dd6)).setCell (p := ⟨n0, 2, none⟩) hn1 (.slice G6 1 q6)).setCell (p := ⟨n0, 3, none⟩) hn1 (.int .i64 10)).setCell (p := ⟨n0, 4, none⟩) hn1 (.int .i64 (-1)))
  have C0 := X7.cell 0 rfl
  have C1 := X7.cell 1 rfl
  have C2 := X7.cell 2 rfl
  have C3 := X7.cell 3 rfl
  have C4 := X7.cell 4 rfl
  go_wp2_with fail
  obtain ⟨v7, hv7⟩ : ∃ v7, (((((v6.setCell ⟨n0, 0, none⟩ (.int .i64 0)).setCell ⟨n0, 1, none⟩ (.slice R6 4 dd6)).setCell ⟨n0, 2, none⟩ (.slice G6 1 q6)).setCell ⟨n0, 3, none⟩ (.int .i64 10)).setCell ⟨n0, 4, none⟩ (.int .i64 (-1))) = v7 := ⟨_, rfl⟩
  rw [hv7] at X7 S7 Q7 Z7 ⊢
  clear c0 c1 c2 c3 c4 f0 f1 f2 f3 f4 C0 C1 C2 C3 C4
  refine (wready_any 0 R6 4 dd6 G6 1 q6 10 (-1) [97, 98, 99, 100] [(0, 4)] _ S7.sl Q7.ss (by omega)).mono ?_
  rintro e v8 ⟨h8, b8⟩
  rw [rdy2_awake] at h8
  subst h8
  have X8 := X7.kept b8
  have Z8 := Z7.trans (b8.mono Z7.size)
  have S8 := S7.sl.keep b8
  have Q8 := Q7.ss.keep b8
  have c0 := X8.cell 0 rfl
  have c1 := X8.cell 1 rfl
  have c2 := X8.cell 2 rfl
  have c3 := X8.cell 3 rfl
  have c4 := X8.cell 4 rfl
  go_wp2_with fail
  refine (wvmay_any 0 R6 4 dd6 G6 1 q6 10 (-1) [97, 98, 99, 100] [(0, 4)] _ S8 Q8 (by omega)).mono ?_
  rintro e v9 ⟨h9, b9⟩
  rw [may2_awake] at h9
  subst h9
  have X9 := X8.kept b9
  have Z9 := Z8.trans (b9.mono Z8.size)
  have S9 := S8.keep b9
  have Q9 := Q8.keep b9
  clear c0 c1 c2 c3 c4
  have c0 := X9.cell 0 rfl
  have c1 := X9.cell 1 rfl
  have c2 := X9.cell 2 rfl
  have c3 := X9.cell 3 rfl
  have c4 := X9.cell 4 rfl
  go_wp2_with fail
  refine (wedge_any 0 R6 4 dd6 G6 1 q6 10 (-1) [97, 98, 99, 100] [(0, 4)] _ S9 Q9 (by omega)).mono ?_
  rintro e v10 ⟨h10, b10⟩
  rw [edge2_awake] at h10
  subst h10
  have X10 := X9.kept b10
  have Z10 := Z9.trans (b10.mono Z9.size)
  have S10 := S9.keep b10
  have Q10 := Q9.keep b10
  go_wp2_with fail
  go_ret
  exact ⟨rfl, Z10⟩
end Go.Proofs.Ytgiknfmagmfniaa
