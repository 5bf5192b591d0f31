/- The walk of the law WireGets. -/
import Derived.Test.YtfglagkpknpgdaaProg
import Derived.Test.YtfglagkpknpgdaaWiAwake
import Derived.Test.YtfglagkpknpgdaaSgIn
import Derived.Test.YtfglagkpknpgdaaSgRef3
import Derived.Test.YtfglagkpknpgdaaSgRef4
import Derived.WalkKit
import Derived.WalkSpells
import Derived.WalkSmall
import Derived.Lib.Hide
import Derived.Below
import Derived.Outline
import Derived.Deep.QuietTactic
import Derived.BigQuiet
namespace Go.Proofs.Ytfglagkpknpgdaa.wireGets
open Go.RowKit
set_option linter.unusedVariables false
set_option linter.unusedSimpArgs false


theorem getR_small (l : List Int) : (getR l).1.sacks.length ≤ 1000000 ∧ (getR l).1.b.length ≤ 1000000 := by
  have hz : zs.sacks.length ≤ 1000000 ∧ zs.b.length ≤ 1000000 := ⟨by simp [zs], by simp [zs]⟩
  have hS : ∀ l : List Int, (getS l).1.sacks.length ≤ 1000000 ∧ (getS l).1.b.length ≤ 1000000 := by
    intro l
    unfold getS
    split
    · next h =>
      have hv := (smay_iff _).1 h.2.2
      exact ⟨Nat.le_trans hv.sacks (by omega), Nat.le_trans hv.bl (by omega)⟩
    · exact hz
  unfold getR
  split
  · split
    · exact hS _
    · exact hz
  · exact hz

set_option maxRecDepth 100000 in
set_option maxHeartbeats 4000000 in
theorem walk (A : Option Addr) (n c : Nat) (l : List Int) (w : World) (h : Sl w A n c l) :
    Calls Try.prog 4 #[.slice A n c] w fun e w' => e = .returned (.bool true) ∧ Below w.heap.size w w' := by
  go_enter Try.func4, Try.ntmps4
  go_wp2_with fail
  refine (awake_any _).mono ?_
  rintro e w1 ⟨rfl, b1⟩
  have s1 := h.keep b1
  by_cases hn : n ≤ 2000
  case neg =>
    have hn' : ¬ ((n : Int) ≤ 2000) := by omega
    go_wp2_with fail
    go_ret
    exact ⟨rfl, b1⟩
  have hn' : (n : Int) ≤ 2000 := by omega
  obtain ⟨x, hx⟩ : ∃ x, getR l = x := ⟨_, rfl⟩
  obtain ⟨y, hy⟩ : ∃ y, getR (seal4 l) = y := ⟨_, rfl⟩
  have hxs := getR_small l
  have hys := getR_small (seal4 l)
  rw [hx] at hxs
  rw [hy] at hys
  obtain ⟨s, ec⟩ := x
  obtain ⟨t, ed⟩ := y
  dsimp only at hxs hys
  have HX := Lib.hid hx; have HY := Lib.hid hy; clear hx hy
  go_wp2_with fail
  refine (lget_any A n c l _ s1 (by omega)).mono ?_
  rintro e w2 h2
  rw [HX.out] at h2
  obtain ⟨G1, m1, d1, R1, k1, q1, rfl, sg1, sl1, hb2⟩ := h2
  dsimp only at sg1 sl1 ⊢
  have b2 := b1.trans (hb2.mono b1.size)
  have o1 : (Obj.cells #[.int .i64 s.kind, .int .i64 s.sub, .bool s.fin, .bool s.ecn, .int .u32 s.seq, .int .u32 s.dsn, .int .u32 s.got, .int .u32 s.dgot, .int .i64 s.win, .int .i64 s.ace, .int .u32 s.ce, .int .u32 s.sent, .int .u32 s.echo, .slice G1 m1 d1, .slice R1 k1 q1] 26) = (Obj.cells #[.int .i64 s.kind, .int .i64 s.sub, .bool s.fin, .bool s.ecn, .int .u32 s.seq, .int .u32 s.dsn, .int .u32 s.got, .int .u32 s.dgot, .int .i64 s.win, .int .i64 s.ace, .int .u32 s.ce, .int .u32 s.sent, .int .u32 s.echo, .slice G1 m1 d1, .slice R1 k1 q1] 26) := rfl
  have v3 := Bx.new w2 26 [.int .i64 s.kind, .int .i64 s.sub, .bool s.fin, .bool s.ecn, .int .u32 s.seq, .int .u32 s.dsn, .int .u32 s.got, .int .u32 s.dgot, .int .i64 s.win, .int .i64 s.ace, .int .u32 s.ce, .int .u32 s.sent, .int .u32 s.echo, .slice G1 m1 d1, .slice R1 k1 q1]
  have b3 := b2.alloc b2.size (.cells #[.int .i64 s.kind, .int .i64 s.sub, .bool s.fin, .bool s.ecn, .int .u32 s.seq, .int .u32 s.dsn, .int .u32 s.got, .int .u32 s.dgot, .int .i64 s.win, .int .i64 s.ace, .int .u32 s.ce, .int .u32 s.sent, .int .u32 s.echo, .slice G1 m1 d1, .slice R1 k1 q1] 26)
  have sg3 := sg1.alloc (.cells #[.int .i64 s.kind, .int .i64 s.sub, .bool s.fin, .bool s.ecn, .int .u32 s.seq, .int .u32 s.dsn, .int .u32 s.got, .int .u32 s.dgot, .int .i64 s.win, .int .i64 s.ace, .int .u32 s.ce, .int .u32 s.sent, .int .u32 s.echo, .slice G1 m1 d1, .slice R1 k1 q1] 26)
  have sl3 := sl1.alloc (.cells #[.int .i64 s.kind, .int .i64 s.sub, .bool s.fin, .bool s.ecn, .int .u32 s.seq, .int .u32 s.dsn, .int .u32 s.got, .int .u32 s.dgot, .int .i64 s.win, .int .i64 s.ace, .int .u32 s.ce, .int .u32 s.sent, .int .u32 s.echo, .slice G1 m1 d1, .slice R1 k1 q1] 26)
  clear o1
  go_wp2_with fail
  obtain ⟨w3, hw3⟩ : ∃ w3, w2.alloc (.cells #[.int .i64 s.kind, .int .i64 s.sub, .bool s.fin, .bool s.ecn, .int .u32 s.seq, .int .u32 s.dsn, .int .u32 s.got, .int .u32 s.dgot, .int .i64 s.win, .int .i64 s.ace, .int .u32 s.ce, .int .u32 s.sent, .int .u32 s.echo, .slice G1 m1 d1, .slice R1 k1 q1] 26) = w3 := ⟨_, rfl⟩
  rw [hw3] at v3 b3 sg3 sl3 ⊢
  clear hw3
  have s3 := h.keep b3
  refine (rsget_any A n c l _ s3 (by omega)).mono ?_
  rintro e w4 h4
  rw [HX.out] at h4
  obtain ⟨G2, m2, d2, R2, k2, q2, rfl, sg4, sl4, hb4⟩ := h4
  dsimp only at sg4 sl4 ⊢
  have b4 := b3.trans (hb4.mono b3.size)
  have v4 := v3.kept hb4
  have sg5 := sg3.keep hb4; have sl5 := sl3.keep hb4
  have v6 := v4.alloc (.cells #[.int .i64 s.kind, .int .i64 s.sub, .bool s.fin, .bool s.ecn, .int .u32 s.seq, .int .u32 s.dsn, .int .u32 s.got, .int .u32 s.dgot, .int .i64 s.win, .int .i64 s.ace, .int .u32 s.ce, .int .u32 s.sent, .int .u32 s.echo, .slice G2 m2 d2, .slice R2 k2 q2] 26)
  have u6 := Bx.new w4 26 [.int .i64 s.kind, .int .i64 s.sub, .bool s.fin, .bool s.ecn, .int .u32 s.seq, .int .u32 s.dsn, .int .u32 s.got, .int .u32 s.dgot, .int .i64 s.win, .int .i64 s.ace, .int .u32 s.ce, .int .u32 s.sent, .int .u32 s.echo, .slice G2 m2 d2, .slice R2 k2 q2]
  have b6 := b4.alloc b4.size (.cells #[.int .i64 s.kind, .int .i64 s.sub, .bool s.fin, .bool s.ecn, .int .u32 s.seq, .int .u32 s.dsn, .int .u32 s.got, .int .u32 s.dgot, .int .i64 s.win, .int .i64 s.ace, .int .u32 s.ce, .int .u32 s.sent, .int .u32 s.echo, .slice G2 m2 d2, .slice R2 k2 q2] 26)
  have A1 := sg5.alloc (.cells #[.int .i64 s.kind, .int .i64 s.sub, .bool s.fin, .bool s.ecn, .int .u32 s.seq, .int .u32 s.dsn, .int .u32 s.got, .int .u32 s.dgot, .int .i64 s.win, .int .i64 s.ace, .int .u32 s.ce, .int .u32 s.sent, .int .u32 s.echo, .slice G2 m2 d2, .slice R2 k2 q2] 26)
  have A2 := sg4.alloc (.cells #[.int .i64 s.kind, .int .i64 s.sub, .bool s.fin, .bool s.ecn, .int .u32 s.seq, .int .u32 s.dsn, .int .u32 s.got, .int .u32 s.dgot, .int .i64 s.win, .int .i64 s.ace, .int .u32 s.ce, .int .u32 s.sent, .int .u32 s.echo, .slice G2 m2 d2, .slice R2 k2 q2] 26)
  have A3 := sl5.alloc (.cells #[.int .i64 s.kind, .int .i64 s.sub, .bool s.fin, .bool s.ecn, .int .u32 s.seq, .int .u32 s.dsn, .int .u32 s.got, .int .u32 s.dgot, .int .i64 s.win, .int .i64 s.ace, .int .u32 s.ce, .int .u32 s.sent, .int .u32 s.echo, .slice G2 m2 d2, .slice R2 k2 q2] 26)
  have A4 := sl4.alloc (.cells #[.int .i64 s.kind, .int .i64 s.sub, .bool s.fin, .bool s.ecn, .int .u32 s.seq, .int .u32 s.dsn, .int .u32 s.got, .int .u32 s.dgot, .int .i64 s.win, .int .i64 s.ace, .int .u32 s.ce, .int .u32 s.sent, .int .u32 s.echo, .slice G2 m2 d2, .slice R2 k2 q2] 26)
  clear v3 v4 sg1 sl1 sg3 sl3 sg4 sl4 sg5 sl5 s1 s3 hb2 hb4
  go_wp2_with (first | (refine Bx.stepLoad rfl (.tmp 4) rfl rfl v6 rfl ?_) | (refine Bx.stepLoad rfl (.tmp 6) rfl rfl u6 rfl ?_))
  refine (sgsame_any s.kind s.sub s.fin s.ecn s.seq s.dsn s.got s.dgot s.win s.ace s.ce s.sent s.echo G1 m1 d1 R1 k1 q1 s.sacks s.b s.kind s.sub s.fin s.ecn s.seq s.dsn s.got s.dgot s.win s.ace s.ce s.sent s.echo G2 m2 d2 R2 k2 q2 s.sacks s.b _ A1 A2 A3 A4 (by rw [← A1.rd.len]; exact hxs.1) (by rw [← A2.rd.len]; exact hxs.1) (by rw [← A3.rd.len]; exact hxs.2)).mono ?_
  rintro e w7 ⟨bq, rfl, hbq, hb7⟩
  obtain rfl := hbq rfl
  have b7 := b6.trans (hb7.mono b6.size)
  clear v6 u6 b6 A1 A2 A3 A4 hb7
  go_wp2_with fail
  have s7 := h.keep b7
  refine (seal_any A n c l _ s7 (by omega)).mono ?_
  rintro e w8 ⟨R8, d8, rfl, s8, hb8⟩
  have b8 := b7.trans (hb8.mono b7.size)
  go_wp2_with fail
  refine (lget_any R8 (n + 4) d8 (seal4 l) _ s8 (by omega)).mono ?_
  rintro e w9 h9
  rw [HY.out] at h9
  obtain ⟨G3, m3, d3, R3, k3, q3, rfl, sg9, sl9, hb9⟩ := h9
  dsimp only at sg9 sl9 ⊢
  have b9 := b8.trans (hb9.mono b8.size)
  have v10 := Bx.new w9 26 [.int .i64 t.kind, .int .i64 t.sub, .bool t.fin, .bool t.ecn, .int .u32 t.seq, .int .u32 t.dsn, .int .u32 t.got, .int .u32 t.dgot, .int .i64 t.win, .int .i64 t.ace, .int .u32 t.ce, .int .u32 t.sent, .int .u32 t.echo, .slice G3 m3 d3, .slice R3 k3 q3]
  have b10 := b9.alloc b9.size (.cells #[.int .i64 t.kind, .int .i64 t.sub, .bool t.fin, .bool t.ecn, .int .u32 t.seq, .int .u32 t.dsn, .int .u32 t.got, .int .u32 t.dgot, .int .i64 t.win, .int .i64 t.ace, .int .u32 t.ce, .int .u32 t.sent, .int .u32 t.echo, .slice G3 m3 d3, .slice R3 k3 q3] 26)
  have sg10 := sg9.alloc (.cells #[.int .i64 t.kind, .int .i64 t.sub, .bool t.fin, .bool t.ecn, .int .u32 t.seq, .int .u32 t.dsn, .int .u32 t.got, .int .u32 t.dgot, .int .i64 t.win, .int .i64 t.ace, .int .u32 t.ce, .int .u32 t.sent, .int .u32 t.echo, .slice G3 m3 d3, .slice R3 k3 q3] 26)
  have sl10 := sl9.alloc (.cells #[.int .i64 t.kind, .int .i64 t.sub, .bool t.fin, .bool t.ecn, .int .u32 t.seq, .int .u32 t.dsn, .int .u32 t.got, .int .u32 t.dgot, .int .i64 t.win, .int .i64 t.ace, .int .u32 t.ce, .int .u32 t.sent, .int .u32 t.echo, .slice G3 m3 d3, .slice R3 k3 q3] 26)
  clear s7 s8 hb8 hb9 sg9 sl9
  go_wp2_with fail
  obtain ⟨w10, hw10⟩ : ∃ w10, w9.alloc (.cells #[.int .i64 t.kind, .int .i64 t.sub, .bool t.fin, .bool t.ecn, .int .u32 t.seq, .int .u32 t.dsn, .int .u32 t.got, .int .u32 t.dgot, .int .i64 t.win, .int .i64 t.ace, .int .u32 t.ce, .int .u32 t.sent, .int .u32 t.echo, .slice G3 m3 d3, .slice R3 k3 q3] 26) = w10 := ⟨_, rfl⟩
  rw [hw10] at v10 b10 sg10 sl10 ⊢
  clear hw10
  have s10 := h.keep b10
  refine (rseal_any A n c l _ s10 (by omega)).mono ?_
  rintro e w11 ⟨R11, d11, rfl, s11, hb11⟩
  have b11 := b10.trans (hb11.mono b10.size)
  have v11 := v10.kept hb11; have sg11 := sg10.keep hb11; have sl11 := sl10.keep hb11
  go_wp2_with fail
  refine (rsget_any R11 (n + 4) d11 (seal4 l) _ s11 (by omega)).mono ?_
  rintro e w12 h12
  rw [HY.out] at h12
  obtain ⟨G4, m4, d4, R4, k4, q4, rfl, sg12, sl12, hb12⟩ := h12
  dsimp only at sg12 sl12 ⊢
  have b12 := b11.trans (hb12.mono b11.size)
  have v13 := (v11.kept hb12).alloc (.cells #[.int .i64 t.kind, .int .i64 t.sub, .bool t.fin, .bool t.ecn, .int .u32 t.seq, .int .u32 t.dsn, .int .u32 t.got, .int .u32 t.dgot, .int .i64 t.win, .int .i64 t.ace, .int .u32 t.ce, .int .u32 t.sent, .int .u32 t.echo, .slice G4 m4 d4, .slice R4 k4 q4] 26)
  have u13 := Bx.new w12 26 [.int .i64 t.kind, .int .i64 t.sub, .bool t.fin, .bool t.ecn, .int .u32 t.seq, .int .u32 t.dsn, .int .u32 t.got, .int .u32 t.dgot, .int .i64 t.win, .int .i64 t.ace, .int .u32 t.ce, .int .u32 t.sent, .int .u32 t.echo, .slice G4 m4 d4, .slice R4 k4 q4]
  have b13 := b12.alloc b12.size (.cells #[.int .i64 t.kind, .int .i64 t.sub, .bool t.fin, .bool t.ecn, .int .u32 t.seq, .int .u32 t.dsn, .int .u32 t.got, .int .u32 t.dgot, .int .i64 t.win, .int .i64 t.ace, .int .u32 t.ce, .int .u32 t.sent, .int .u32 t.echo, .slice G4 m4 d4, .slice R4 k4 q4] 26)
  have A1 := (sg11.keep hb12).alloc (.cells #[.int .i64 t.kind, .int .i64 t.sub, .bool t.fin, .bool t.ecn, .int .u32 t.seq, .int .u32 t.dsn, .int .u32 t.got, .int .u32 t.dgot, .int .i64 t.win, .int .i64 t.ace, .int .u32 t.ce, .int .u32 t.sent, .int .u32 t.echo, .slice G4 m4 d4, .slice R4 k4 q4] 26)
  have A2 := sg12.alloc (.cells #[.int .i64 t.kind, .int .i64 t.sub, .bool t.fin, .bool t.ecn, .int .u32 t.seq, .int .u32 t.dsn, .int .u32 t.got, .int .u32 t.dgot, .int .i64 t.win, .int .i64 t.ace, .int .u32 t.ce, .int .u32 t.sent, .int .u32 t.echo, .slice G4 m4 d4, .slice R4 k4 q4] 26)
  have A3 := (sl11.keep hb12).alloc (.cells #[.int .i64 t.kind, .int .i64 t.sub, .bool t.fin, .bool t.ecn, .int .u32 t.seq, .int .u32 t.dsn, .int .u32 t.got, .int .u32 t.dgot, .int .i64 t.win, .int .i64 t.ace, .int .u32 t.ce, .int .u32 t.sent, .int .u32 t.echo, .slice G4 m4 d4, .slice R4 k4 q4] 26)
  have A4 := sl12.alloc (.cells #[.int .i64 t.kind, .int .i64 t.sub, .bool t.fin, .bool t.ecn, .int .u32 t.seq, .int .u32 t.dsn, .int .u32 t.got, .int .u32 t.dgot, .int .i64 t.win, .int .i64 t.ace, .int .u32 t.ce, .int .u32 t.sent, .int .u32 t.echo, .slice G4 m4 d4, .slice R4 k4 q4] 26)
  clear v10 v11 sg10 sl10 sg11 sl11 sg12 sl12 s10 s11 hb11 hb12
  go_wp2_with (first | (refine Bx.stepLoad rfl (.tmp 9) rfl rfl v13 rfl ?_) | (refine Bx.stepLoad rfl (.tmp 11) rfl rfl u13 rfl ?_))
  refine (sgsame_any t.kind t.sub t.fin t.ecn t.seq t.dsn t.got t.dgot t.win t.ace t.ce t.sent t.echo G3 m3 d3 R3 k3 q3 t.sacks t.b t.kind t.sub t.fin t.ecn t.seq t.dsn t.got t.dgot t.win t.ace t.ce t.sent t.echo G4 m4 d4 R4 k4 q4 t.sacks t.b _ A1 A2 A3 A4 (by rw [← A1.rd.len]; exact hys.1) (by rw [← A2.rd.len]; exact hys.1) (by rw [← A3.rd.len]; exact hys.2)).mono ?_
  rintro e w14 ⟨bq, rfl, hbq, hb14⟩
  obtain rfl := hbq rfl
  have b14 := b13.trans (hb14.mono b13.size)
  clear v13 u13 b13 A1 A2 A3 A4 hb14
  go_wp2_with fail
  go_ret
  exact ⟨by simp, b14⟩
end Go.Proofs.Ytfglagkpknpgdaa.wireGets
