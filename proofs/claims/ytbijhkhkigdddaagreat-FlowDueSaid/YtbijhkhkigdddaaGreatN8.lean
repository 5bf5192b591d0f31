/- FoSame. -/
import Derived.Test.YtbijhkhkigdddaaGreatN5
import Derived.Test.YtbijhkhkigdddaaGreatN6
import Derived.Test.YtbijhkhkigdddaaGreatN7
set_option linter.all false
set_option maxRecDepth 100000
set_option maxHeartbeats 32000000
namespace Go.Proofs.YtbijhkhkigdddaaGreat
open Go.RowKit
theorem flsame_yes (p q : Nat → Prop) (s s2 : Fs) (f : Fv) (w : World) (h : FlM w p s f) (h2 : FlM w q s2 f) : Calls Tryz.prog 15 #[.agg (fcs s f).toArray, .agg (fcs s2 f).toArray] w fun e w' => e = .returned (.bool true) ∧ Below w.heap.size w w' := by
 obtain ⟨B, hB⟩ : ∃ B, w.heap.size = B := ⟨_, rfl⟩
 have e1 := (Bx.new w 40 (fcs s f)).alloc (.cells (fcs s2 f).toArray 40)
 have y1 := Bx.new (w.alloc (.cells (fcs s f).toArray 40)) 40 (fcs s2 f)
 rw [World.size_alloc] at y1
 rw [hB] at e1 y1 ⊢
 have b1 : Below B w ((w.alloc (.cells (fcs s f).toArray 40)).alloc (.cells (fcs s2 f).toArray 40)) := by rw [← hB]; exact ((Zb).alloc Zr _).alloc (by simp) _
 have p1 := (h.alloc (.cells (fcs s f).toArray 40)).alloc (.cells (fcs s2 f).toArray 40); have q1 := (h2.alloc (.cells (fcs s f).toArray 40)).alloc (.cells (fcs s2 f).toArray 40)
 clear h h2
 go_enter Tryz.func15, Tryz.ntmps15
 go_upto_region 1 with fail
 generalize (w.alloc (.cells (fcs s f).toArray 40)).alloc (.cells (fcs s2 f).toArray 40) = w1 at e1 y1 b1 p1 q1 ⊢
 clear hB
 have c1 := e1.cell 1 rfl
 have d1 := y1.cell 1 rfl
 go_wp2_with fail
 refine (rstsame_any _ _ _ f.l _ _ _ f.l _ p1.l q1.l).mono ?_
 rintro e w2 ⟨rfl, hb2⟩
 have e2 := e1.kept hb2; have y2 := y1.kept hb2; have b2 := b1.trans (hb2.mono (Zl e1.lt)); have p2 := p1.keep hb2; have q2 := q1.keep hb2
 clear c1 d1 e1 y1 b1 p1 q1 hb2
 go_upto_region 2 with fail
 have c8 := e2.cell 8 rfl; have c9 := e2.cell 9 rfl; have c10 := e2.cell 10 rfl
 have d8 := y2.cell 8 rfl; have d9 := y2.cell 9 rfl; have d10 := y2.cell 10 rfl
 go_wp2_with fail
 refine (rlsame_yes f.b.span _ _ _ f.b.high f.b.l _ _ _ _ p2.b q2.b).mono ?_
 rintro e w3 ⟨rfl, hb3⟩
 have e3 := e2.kept hb3; have y3 := y2.kept hb3; have b3 := b2.trans (hb3.mono (Zl e2.lt)); have p3 := p2.keep hb3; have q3 := q2.keep hb3
 clear c8 d8 c9 d9 c10 d10 e2 y2 b2 p2 q2 hb3
 go_upto_region 3 with fail
 have c16 := e3.cell 16 rfl; have c17 := e3.cell 17 rfl; have c18 := e3.cell 18 rfl
 have d16 := y3.cell 16 rfl; have d17 := y3.cell 17 rfl; have d18 := y3.cell 18 rfl
 go_wp2_with fail
 refine (rrasame_yes f.d.total f.d.last _ _ _ f.d.l _ _ _ _ p3.d q3.d).mono ?_
 rintro e w4 ⟨rfl, hb4⟩
 have e4 := e3.kept hb4; have y4 := y3.kept hb4; have b4 := b3.trans (hb4.mono (Zl e3.lt)); have p4 := p3.keep hb4; have q4 := q3.keep hb4
 clear c16 d16 c17 d17 c18 d18 e3 y3 b3 p3 q3 hb4
 go_upto_region 4 with fail
 have c29 := e4.cell 29 rfl
 have d29 := y4.cell 29 rfl
 go_wp2_with fail
 refine (ints_any _ _ _ f.dl _ _ _ f.dl _ p4.g q4.g).mono ?_
 rintro e w5 ⟨rfl, hb5⟩
 have e5 := e4.kept hb5; have y5 := y4.kept hb5; have b5 := b4.trans (hb5.mono (Zl e4.lt)); have p5 := p4.keep hb5; have q5 := q4.keep hb5
 clear c29 d29 e4 y4 b4 p4 q4 hb5
 go_upto_region 5 with fail
 have c0 := e5.cell 0 rfl; have c2 := e5.cell 2 rfl; have c3 := e5.cell 3 rfl; have c4 := e5.cell 4 rfl; have c5 := e5.cell 5 rfl; have c6 := e5.cell 6 rfl; have c7 := e5.cell 7 rfl; have c11 := e5.cell 11 rfl; have c12 := e5.cell 12 rfl; have c13 := e5.cell 13 rfl; have c14 := e5.cell 14 rfl; have c15 := e5.cell 15 rfl; have c19 := e5.cell 19 rfl; have c20 := e5.cell 20 rfl; have c21 := e5.cell 21 rfl; have c22 := e5.cell 22 rfl; have c23 := e5.cell 23 rfl; have c24 := e5.cell 24 rfl; have c25 := e5.cell 25 rfl; have c26 := e5.cell 26 rfl; have c27 := e5.cell 27 rfl; have c28 := e5.cell 28 rfl
 have d0 := y5.cell 0 rfl; have d2 := y5.cell 2 rfl; have d3 := y5.cell 3 rfl; have d4 := y5.cell 4 rfl; have d5 := y5.cell 5 rfl; have d6 := y5.cell 6 rfl; have d7 := y5.cell 7 rfl; have d11 := y5.cell 11 rfl; have d12 := y5.cell 12 rfl; have d13 := y5.cell 13 rfl; have d14 := y5.cell 14 rfl; have d15 := y5.cell 15 rfl; have d19 := y5.cell 19 rfl; have d20 := y5.cell 20 rfl; have d21 := y5.cell 21 rfl; have d22 := y5.cell 22 rfl; have d23 := y5.cell 23 rfl; have d24 := y5.cell 24 rfl; have d25 := y5.cell 25 rfl; have d26 := y5.cell 26 rfl; have d27 := y5.cell 27 rfl; have d28 := y5.cell 28 rfl
 go_upto_region 6 with fail
 clear c0 d0 c2 d2 c3 d3 c4 d4 c5 d5 c6 d6 c7 d7 c11 d11 c12 d12 c13 d13 c14 d14 c15 d15 c19 d19 c20 d20 c21 d21 c22 d22 c23 d23 c24 d24 c25 d25 c26 d26 c27 d27 c28 d28
 have c30 := e5.cell 30 rfl; have c31 := e5.cell 31 rfl; have c32 := e5.cell 32 rfl
 have d30 := y5.cell 30 rfl; have d31 := y5.cell 31 rfl; have d32 := y5.cell 32 rfl
 have k1 : decide (f.l = f.l) = true := Zt rfl
 have k2 : decide (f.dl = f.dl) = true := Zt rfl
 go_wp2_with fail
 go_ret
 exact ⟨rfl, b5⟩
end Go.Proofs.YtbijhkhkigdddaaGreat
