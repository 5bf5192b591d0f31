/- The walk of the law WeaveTwice. -/
import Derived.Test.YtgiknfmagmfniaaProg
import Derived.Test.YtgiknfmagmfniaaWeAwake
import Derived.WalkKit
import Derived.WalkSpells
import Derived.Lib.Hide
import Derived.Below
import Derived.Outline
import Derived.Deep.RegionHeld3
namespace Go.Proofs.Ytgiknfmagmfniaa.weaveTwice
open Go.RowKit
set_option linter.unusedVariables false
set_option linter.unusedSimpArgs false

theorem put_small (w : Wv) (p : Int) (bs : List Int) : (putR w p bs).1.b.length ≤ 65536 := by
  rcases put_cases w p bs with h | h | h | h | h
  · rw [h.1]; exact Nat.zero_le _
  · rw [h.1]; exact Nat.zero_le _
  · rw [h.1]; exact b_small h.2.1.1
  · rw [h.1]; exact Nat.zero_le _
  · rw [h.1]; exact b_small h.2.res
set_option maxRecDepth 100000 in
set_option maxHeartbeats 4000000 in
theorem walk (x0 : Int) (a0 : Option Addr) (n0 c0 : Nat) (g0 : Option Addr) (m0 d0 : Nat) (y0 e0 : Int) (l0 : List Int) (p0 : List Sp) (z1 : Int) (a1 : Option Addr) (n1 c1 : Nat) (l1 : List Int) (a2 : Option Addr) (n2 c2 : Nat) (l2 : List Int) (w : World) (hx : W64 x0) (hy : W64 y0) (he : W64 e0) (h0 : Sl w a0 n0 c0 l0) (hg0 : Ss w g0 m0 d0 p0) (hz1 : W64 z1) (h1 : Sl w a1 n1 c1 l1) (h2 : Sl w a2 n2 c2 l2) :
    Calls Try.prog 6 #[.agg #[.int .i64 x0, .slice a0 n0 c0, .slice g0 m0 d0, .int .i64 y0, .int .i64 e0], .int .i64 z1, .slice a1 n1 c1, .slice a2 n2 c2] w fun e w' => e = .returned (.bool true) ∧ Below w.heap.size w w' := by
  have hl1 := h1.rd.len
  have hl2 := h2.rd.len
  have hx' := hx; have hy' := hy; have he' := he; unfold W64 at hx' hy' he'
  have hl0 := h0.rd.len
  have hp0 := hg0.rd.len
  have x1 := Bx.new w 25 [.int .i64 x0, .slice a0 n0 c0, .slice g0 m0 d0, .int .i64 y0, .int .i64 e0]
  have s2 := h0.alloc (.cells #[.int .i64 x0, .slice a0 n0 c0, .slice g0 m0 d0, .int .i64 y0, .int .i64 e0] 25)
  have s3 := hg0.alloc (.cells #[.int .i64 x0, .slice a0 n0 c0, .slice g0 m0 d0, .int .i64 y0, .int .i64 e0] 25)
  have s4 := h1.alloc (.cells #[.int .i64 x0, .slice a0 n0 c0, .slice g0 m0 d0, .int .i64 y0, .int .i64 e0] 25)
  have s5 := h2.alloc (.cells #[.int .i64 x0, .slice a0 n0 c0, .slice g0 m0 d0, .int .i64 y0, .int .i64 e0] 25)
  have b6 := (Below.refl w.heap.size w).alloc (Nat.le_refl _) (.cells #[.int .i64 x0, .slice a0 n0 c0, .slice g0 m0 d0, .int .i64 y0, .int .i64 e0] 25)
  have c7 := x1.cell 0 rfl
  have c8 := x1.cell 1 rfl
  have c9 := x1.cell 2 rfl
  have c10 := x1.cell 3 rfl
  have c11 := x1.cell 4 rfl
  go_enter Try.func6, Try.ntmps6
  go_wp2_with fail
  clear c7 c8 c9 c10 c11
  obtain ⟨v12, hv13⟩ : ∃ v12, w.alloc (.cells #[.int .i64 x0, .slice a0 n0 c0, .slice g0 m0 d0, .int .i64 y0, .int .i64 e0] 25) = v12 := ⟨_, rfl⟩
  have x1' : Bx v12 w.heap.size 25 [.int .i64 x0, .slice a0 n0 c0, .slice g0 m0 d0, .int .i64 y0, .int .i64 e0] := by rw [← hv13]; exact x1
  rw [hv13] at b6 s2 s3 s4 s5 ⊢
  clear hv13 x1
  refine (awake_any _).mono ?_
  rintro e w15 ⟨rfl, hb14⟩
  have b17 := b6.trans (hb14.mono b6.size)
  have x18 := x1'.kept hb14
  have s19 := s2.keep hb14
  have s20 := s3.keep hb14
  have s21 := s4.keep hb14
  have s22 := s5.keep hb14
  have c23 := x18.cell 0 rfl
  have c24 := x18.cell 1 rfl
  have c25 := x18.cell 2 rfl
  have c26 := x18.cell 3 rfl
  have c27 := x18.cell 4 rfl
  go_wp2_with fail
  refine (few_any x0 a0 n0 c0 g0 m0 d0 y0 e0 _).mono ?_
  rintro e w29 ⟨rfl, hb28⟩
  clear c23 c24 c25 c26 c27
  have b31 := b17.trans (hb28.mono b17.size)
  have x32 := x18.kept hb28
  have s33 := s19.keep hb28
  have s34 := s20.keep hb28
  have s35 := s21.keep hb28
  have s36 := s22.keep hb28
  by_cases D0 : n0 ≤ 300
  case neg =>
    have hf : fewW n0 m0 = false := by unfold fewW; rw [decide_eq_false D0]; rfl
    rw [hf]
    have c37 := x32.cell 0 rfl
    have c38 := x32.cell 1 rfl
    have c39 := x32.cell 2 rfl
    have c40 := x32.cell 3 rfl
    have c41 := x32.cell 4 rfl
    go_wp2_with fail
    go_ret
    exact ⟨rfl, b31⟩
  case pos =>
  by_cases D1 : m0 ≤ 100
  case neg =>
    have hf : fewW n0 m0 = false := by unfold fewW; rw [decide_eq_false D1, Bool.and_false]
    rw [hf]
    have c37 := x32.cell 0 rfl
    have c38 := x32.cell 1 rfl
    have c39 := x32.cell 2 rfl
    have c40 := x32.cell 3 rfl
    have c41 := x32.cell 4 rfl
    go_wp2_with fail
    go_ret
    exact ⟨rfl, b31⟩
  case pos =>
  have hf : fewW n0 m0 = true := by unfold fewW; rw [decide_eq_true D0, decide_eq_true D1]; rfl
  rw [hf]
  by_cases D2 : n1 ≤ 300
  case neg =>
    have D2' : (300 : Int) < (n1 : Int) := by omega
    have c37 := x32.cell 0 rfl
    have c38 := x32.cell 1 rfl
    have c39 := x32.cell 2 rfl
    have c40 := x32.cell 3 rfl
    have c41 := x32.cell 4 rfl
    go_wp2_with fail
    go_ret
    exact ⟨rfl, b31⟩
  case pos =>
  have D2' : ¬ ((300 : Int) < (n1 : Int)) := by omega
  by_cases D3 : n1 = n2
  case neg =>
    have D2' : ¬ ((300 : Int) < (n1 : Int)) := by omega
    have D3' : ((n1 : Int) != (n2 : Int)) = true := bne_iff_ne.2 (by omega)
    have c37 := x32.cell 0 rfl
    have c38 := x32.cell 1 rfl
    have c39 := x32.cell 2 rfl
    have c40 := x32.cell 3 rfl
    have c41 := x32.cell 4 rfl
    go_wp2_with fail
    go_ret
    exact ⟨rfl, b31⟩
  case pos =>
  subst D3
  have c37 := x32.cell 0 rfl
  have c38 := x32.cell 1 rfl
  have c39 := x32.cell 2 rfl
  have c40 := x32.cell 3 rfl
  have c41 := x32.cell 4 rfl
  go_wp2_with fail
  obtain ⟨t1, t2⟩ := twice_spec ⟨x0, l0, p0, y0, e0⟩ z1 l1 l2 (by omega)
  obtain ⟨P, PH⟩ : ∃ P, putR ⟨x0, l0, p0, y0, e0⟩ z1 l1 = P := ⟨_, rfl⟩
  have tb := put_small ⟨x0, l0, p0, y0, e0⟩ z1 l1
  rw [PH] at t1 t2 tb
  obtain ⟨⟨ub, ul, ug, uc, ue⟩, un, ur⟩ := P
  have PQ := Lib.hid PH; clear PH
  dsimp only at t1 t2 tb
  refine (wput_any x0 a0 n0 c0 g0 m0 d0 y0 e0 l0 p0 _ s33 s34 (by omega) z1 a1 n1 c1 l1 hz1 s35 (by omega)).mono ?_
  rintro e w51 h52
  rw [PQ.out] at h52
  obtain ⟨R42, m43, d44, H45, k46, q47, rfl, sb48, sq49, hb50⟩ := h52
  clear c37 c38 c39 c40 c41
  have b53 := b31.trans (hb50.mono b31.size)
  have x54 := x32.kept hb50
  have s55 := s33.keep hb50
  have s56 := s34.keep hb50
  have s57 := s35.keep hb50
  have s58 := s36.keep hb50
  have S1 := sb48.sl
  have S2 := sq49.ss
  dsimp only
  have x59 := Bx.new w51 25 [.int .i64 ub, .slice R42 m43 d44, .slice H45 k46 q47, .int .i64 uc, .int .i64 ue]
  have x60 := x54.alloc (.cells #[.int .i64 ub, .slice R42 m43 d44, .slice H45 k46 q47, .int .i64 uc, .int .i64 ue] 25)
  have s61 := s55.alloc (.cells #[.int .i64 ub, .slice R42 m43 d44, .slice H45 k46 q47, .int .i64 uc, .int .i64 ue] 25)
  have s62 := s56.alloc (.cells #[.int .i64 ub, .slice R42 m43 d44, .slice H45 k46 q47, .int .i64 uc, .int .i64 ue] 25)
  have s63 := s57.alloc (.cells #[.int .i64 ub, .slice R42 m43 d44, .slice H45 k46 q47, .int .i64 uc, .int .i64 ue] 25)
  have s64 := s58.alloc (.cells #[.int .i64 ub, .slice R42 m43 d44, .slice H45 k46 q47, .int .i64 uc, .int .i64 ue] 25)
  have s65 := S1.alloc (.cells #[.int .i64 ub, .slice R42 m43 d44, .slice H45 k46 q47, .int .i64 uc, .int .i64 ue] 25)
  have s66 := S2.alloc (.cells #[.int .i64 ub, .slice R42 m43 d44, .slice H45 k46 q47, .int .i64 uc, .int .i64 ue] 25)
  have b67 := b53.alloc b53.size (.cells #[.int .i64 ub, .slice R42 m43 d44, .slice H45 k46 q47, .int .i64 uc, .int .i64 ue] 25)
  have c68 := x59.cell 0 rfl
  have c69 := x59.cell 1 rfl
  have c70 := x59.cell 2 rfl
  have c71 := x59.cell 3 rfl
  have c72 := x59.cell 4 rfl
  have c73 := x60.cell 0 rfl
  have c74 := x60.cell 1 rfl
  have c75 := x60.cell 2 rfl
  have c76 := x60.cell 3 rfl
  have c77 := x60.cell 4 rfl
  go_wp2_with fail
  clear c68 c69 c70 c71 c72 c73 c74 c75 c76 c77
  obtain ⟨v78, hv79⟩ : ∃ v78, w51.alloc (.cells #[.int .i64 ub, .slice R42 m43 d44, .slice H45 k46 q47, .int .i64 uc, .int .i64 ue] 25) = v78 := ⟨_, rfl⟩
  have x59' : Bx v78 w51.heap.size 25 [.int .i64 ub, .slice R42 m43 d44, .slice H45 k46 q47, .int .i64 uc, .int .i64 ue] := by rw [← hv79]; exact x59
  rw [hv79] at b67 x60 s61 s62 s63 s64 s65 s66 ⊢
  clear hv79 x59
  by_cases E0 : ur = 0
  case neg =>
    obtain ⟨t3, t4⟩ := t1 E0
    subst t3
    obtain ⟨P, PH⟩ : ∃ P, putR ⟨ub, ul, ug, uc, ue⟩ z1 l2 = P := ⟨_, rfl⟩
    rw [PH] at t4
    obtain ⟨⟨vb, vl, vg, vc, ve⟩, vn, vr⟩ := P
    have VQ := Lib.hid PH; clear PH
    dsimp only at t4
    subst t4
    refine (wput_any ub R42 m43 d44 H45 k46 q47 uc ue ul ug _ s65 s66 (by have := s65.rd.len; omega) z1 a2 n1 c2 l2 hz1 s64 (by omega)).mono ?_
    rintro e w89 h90
    rw [VQ.out] at h90
    obtain ⟨R80, m81, d82, H83, k84, q85, rfl, sb86, sq87, hb88⟩ := h90
    have b91 := b67.trans (hb88.mono b67.size)
    have x92 := x60.kept hb88
    have x93 := x59'.kept hb88
    have s94 := s61.keep hb88
    have s95 := s62.keep hb88
    have s96 := s63.keep hb88
    have s97 := s64.keep hb88
    have s98 := s65.keep hb88
    have s99 := s66.keep hb88
    dsimp only
    have x100 := Bx.new w89 25 [.int .i64 vb, .slice R80 m81 d82, .slice H83 k84 q85, .int .i64 vc, .int .i64 ve]
    have x101 := x92.alloc (.cells #[.int .i64 vb, .slice R80 m81 d82, .slice H83 k84 q85, .int .i64 vc, .int .i64 ve] 25)
    have x102 := x93.alloc (.cells #[.int .i64 vb, .slice R80 m81 d82, .slice H83 k84 q85, .int .i64 vc, .int .i64 ve] 25)
    have s103 := s94.alloc (.cells #[.int .i64 vb, .slice R80 m81 d82, .slice H83 k84 q85, .int .i64 vc, .int .i64 ve] 25)
    have s104 := s95.alloc (.cells #[.int .i64 vb, .slice R80 m81 d82, .slice H83 k84 q85, .int .i64 vc, .int .i64 ve] 25)
    have s105 := s96.alloc (.cells #[.int .i64 vb, .slice R80 m81 d82, .slice H83 k84 q85, .int .i64 vc, .int .i64 ve] 25)
    have s106 := s97.alloc (.cells #[.int .i64 vb, .slice R80 m81 d82, .slice H83 k84 q85, .int .i64 vc, .int .i64 ve] 25)
    have s107 := s98.alloc (.cells #[.int .i64 vb, .slice R80 m81 d82, .slice H83 k84 q85, .int .i64 vc, .int .i64 ve] 25)
    have s108 := s99.alloc (.cells #[.int .i64 vb, .slice R80 m81 d82, .slice H83 k84 q85, .int .i64 vc, .int .i64 ve] 25)
    have b109 := b91.alloc b91.size (.cells #[.int .i64 vb, .slice R80 m81 d82, .slice H83 k84 q85, .int .i64 vc, .int .i64 ve] 25)
    have c110 := x102.cell 0 rfl
    have c111 := x102.cell 1 rfl
    have c112 := x102.cell 2 rfl
    have c113 := x102.cell 3 rfl
    have c114 := x102.cell 4 rfl
    have c115 := x101.cell 0 rfl
    have c116 := x101.cell 1 rfl
    have c117 := x101.cell 2 rfl
    have c118 := x101.cell 3 rfl
    have c119 := x101.cell 4 rfl
    have c120 := x100.cell 0 rfl
    have c121 := x100.cell 1 rfl
    have c122 := x100.cell 2 rfl
    have c123 := x100.cell 3 rfl
    have c124 := x100.cell 4 rfl
    go_wp2_with fail
    go_ret
    exact ⟨rfl, b109⟩
  case pos =>
  subst E0
  obtain ⟨t3, t4, t5, t6, t7, t8, t9⟩ := t2 rfl
  refine (wput_any ub R42 m43 d44 H45 k46 q47 uc ue ul ug _ s65 s66 (by have := s65.rd.len; omega) z1 a2 n1 c2 l2 hz1 s64 (by omega)).mono ?_
  rintro e w89 h90
  rw [t3] at h90
  obtain ⟨R80, m81, d82, H83, k84, q85, rfl, sb86, sq87, hb88⟩ := h90
  have b91 := b67.trans (hb88.mono b67.size)
  have x92 := x60.kept hb88
  have x93 := x59'.kept hb88
  have s94 := s61.keep hb88
  have s95 := s62.keep hb88
  have s96 := s63.keep hb88
  have s97 := s64.keep hb88
  have s98 := s65.keep hb88
  have s99 := s66.keep hb88
  have S3 := sb86.sl
  have S4 := sq87.ss
  dsimp only
  have hm1 : m43 = m81 := (s98.rd.len).symm.trans S3.rd.len
  subst hm1
  have hm2 : k46 = k84 := (s99.rd.len).symm.trans S4.rd.len
  subst hm2
  have x100 := Bx.new w89 25 [.int .i64 ub, .slice R80 m43 d82, .slice H83 k46 q85, .int .i64 uc, .int .i64 ue]
  have x101 := x92.alloc (.cells #[.int .i64 ub, .slice R80 m43 d82, .slice H83 k46 q85, .int .i64 uc, .int .i64 ue] 25)
  have x102 := x93.alloc (.cells #[.int .i64 ub, .slice R80 m43 d82, .slice H83 k46 q85, .int .i64 uc, .int .i64 ue] 25)
  have s103 := s94.alloc (.cells #[.int .i64 ub, .slice R80 m43 d82, .slice H83 k46 q85, .int .i64 uc, .int .i64 ue] 25)
  have s104 := s95.alloc (.cells #[.int .i64 ub, .slice R80 m43 d82, .slice H83 k46 q85, .int .i64 uc, .int .i64 ue] 25)
  have s105 := s96.alloc (.cells #[.int .i64 ub, .slice R80 m43 d82, .slice H83 k46 q85, .int .i64 uc, .int .i64 ue] 25)
  have s106 := s97.alloc (.cells #[.int .i64 ub, .slice R80 m43 d82, .slice H83 k46 q85, .int .i64 uc, .int .i64 ue] 25)
  have s107 := s98.alloc (.cells #[.int .i64 ub, .slice R80 m43 d82, .slice H83 k46 q85, .int .i64 uc, .int .i64 ue] 25)
  have s108 := s99.alloc (.cells #[.int .i64 ub, .slice R80 m43 d82, .slice H83 k46 q85, .int .i64 uc, .int .i64 ue] 25)
  have s109 := S3.alloc (.cells #[.int .i64 ub, .slice R80 m43 d82, .slice H83 k46 q85, .int .i64 uc, .int .i64 ue] 25)
  have s110 := S4.alloc (.cells #[.int .i64 ub, .slice R80 m43 d82, .slice H83 k46 q85, .int .i64 uc, .int .i64 ue] 25)
  have b111 := b91.alloc b91.size (.cells #[.int .i64 ub, .slice R80 m43 d82, .slice H83 k46 q85, .int .i64 uc, .int .i64 ue] 25)
  have c112 := x100.cell 0 rfl
  have c113 := x100.cell 1 rfl
  have c114 := x100.cell 2 rfl
  have c115 := x100.cell 3 rfl
  have c116 := x100.cell 4 rfl
  have c117 := x102.cell 0 rfl
  have c118 := x102.cell 1 rfl
  have c119 := x102.cell 2 rfl
  have c120 := x102.cell 3 rfl
  have c121 := x102.cell 4 rfl
  have c122 := x101.cell 0 rfl
  have c123 := x101.cell 1 rfl
  have c124 := x101.cell 2 rfl
  have c125 := x101.cell 3 rfl
  have c126 := x101.cell 4 rfl
  go_wp2_with fail
  clear c112 c113 c114 c115 c116 c117 c118 c119 c120 c121 c122 c123 c124 c125 c126
  obtain ⟨v127, hv128⟩ : ∃ v127, w89.alloc (.cells #[.int .i64 ub, .slice R80 m43 d82, .slice H83 k46 q85, .int .i64 uc, .int .i64 ue] 25) = v127 := ⟨_, rfl⟩
  have x100' : Bx v127 w89.heap.size 25 [.int .i64 ub, .slice R80 m43 d82, .slice H83 k46 q85, .int .i64 uc, .int .i64 ue] := by rw [← hv128]; exact x100
  rw [hv128] at b111 x101 x102 s103 s104 s105 s106 s107 s108 s109 s110 ⊢
  clear hv128 x100
  have t5' : un ≤ (n1 : Int) := by omega
  have t6' := (wmay_iff _).2 t6
  have t7' := (wmay_iff _).2 t7
  have te : edgeR ⟨ub, ul, ug, uc, ue⟩ = edgeR ⟨x0, l0, p0, y0, e0⟩ := by unfold edgeR; rw [if_pos t6', if_pos t7', t8]
  have tr : readyR ⟨x0, l0, p0, y0, e0⟩ ≤ readyR ⟨ub, ul, ug, uc, ue⟩ := by unfold readyR; rw [if_pos t6', if_pos t7']; omega
  obtain ⟨ed, ed1⟩ : ∃ ed, edgeR ⟨x0, l0, p0, y0, e0⟩ = ed := ⟨_, rfl⟩
  rw [ed1] at te
  obtain ⟨ra, ra1⟩ : ∃ ra, readyR ⟨x0, l0, p0, y0, e0⟩ = ra := ⟨_, rfl⟩
  obtain ⟨rb, rb1⟩ : ∃ rb, readyR ⟨ub, ul, ug, uc, ue⟩ = rb := ⟨_, rfl⟩
  rw [ra1, rb1] at tr
  have ED1 := Lib.hid ed1; have RA1 := Lib.hid ra1; have RB1 := Lib.hid rb1; have TE := Lib.hid te; have T6 := Lib.hid t6'; clear ed1 ra1 rb1 te t6' t6 t7 t7' t8 t9
  have x129 := x101.drew
  have x130 := x102.drew
  have x131 := x100'.drew
  have s132 := s103.keep (Below.refl _ _).drew
  have s133 := s104.keep (Below.refl _ _).drew
  have s134 := s105.keep (Below.refl _ _).drew
  have s135 := s106.keep (Below.refl _ _).drew
  have s136 := s107.keep (Below.refl _ _).drew
  have s137 := s108.keep (Below.refl _ _).drew
  have s138 := s109.keep (Below.refl _ _).drew
  have s139 := s110.keep (Below.refl _ _).drew
  have b140 := b111.drew
  go_region_held3 (fun w' : World => w'.cell? ⟨w.heap.size, 0, none⟩ = some (.int .i64 x0) ∧ w'.cell? ⟨w.heap.size, 1, none⟩ = some (.slice a0 n0 c0) ∧ w'.cell? ⟨w.heap.size, 2, none⟩ = some (.slice g0 m0 d0) ∧ w'.cell? ⟨w.heap.size, 3, none⟩ = some (.int .i64 y0) ∧ w'.cell? ⟨w.heap.size, 4, none⟩ = some (.int .i64 e0) ∧ w'.cell? ⟨w51.heap.size, 0, none⟩ = some (.int .i64 ub) ∧ w'.cell? ⟨w51.heap.size, 1, none⟩ = some (.slice R42 m43 d44) ∧ w'.cell? ⟨w51.heap.size, 2, none⟩ = some (.slice H45 k46 q47) ∧ w'.cell? ⟨w51.heap.size, 3, none⟩ = some (.int .i64 uc) ∧ w'.cell? ⟨w51.heap.size, 4, none⟩ = some (.int .i64 ue) ∧ w'.cell? ⟨w89.heap.size, 0, none⟩ = some (.int .i64 ub) ∧ w'.cell? ⟨w89.heap.size, 1, none⟩ = some (.slice R80 m43 d82) ∧ w'.cell? ⟨w89.heap.size, 2, none⟩ = some (.slice H83 k46 q85) ∧ w'.cell? ⟨w89.heap.size, 3, none⟩ = some (.int .i64 uc) ∧ w'.cell? ⟨w89.heap.size, 4, none⟩ = some (.int .i64 ue))
    (first
      | exact ⟨x129.cell 0 rfl, x129.cell 1 rfl, x129.cell 2 rfl, x129.cell 3 rfl, x129.cell 4 rfl, x130.cell 0 rfl, x130.cell 1 rfl, x130.cell 2 rfl, x130.cell 3 rfl, x130.cell 4 rfl, x131.cell 0 rfl, x131.cell 1 rfl, x131.cell 2 rfl, x131.cell 3 rfl, x131.cell 4 rfl⟩
      | exact ⟨x145.cell 0 rfl, x145.cell 1 rfl, x145.cell 2 rfl, x145.cell 3 rfl, x145.cell 4 rfl, x146.cell 0 rfl, x146.cell 1 rfl, x146.cell 2 rfl, x146.cell 3 rfl, x146.cell 4 rfl, x147.cell 0 rfl, x147.cell 1 rfl, x147.cell 2 rfl, x147.cell 3 rfl, x147.cell 4 rfl⟩
      | exact ⟨x160.cell 0 rfl, x160.cell 1 rfl, x160.cell 2 rfl, x160.cell 3 rfl, x160.cell 4 rfl, x161.cell 0 rfl, x161.cell 1 rfl, x161.cell 2 rfl, x161.cell 3 rfl, x161.cell 4 rfl, x162.cell 0 rfl, x162.cell 1 rfl, x162.cell 2 rfl, x162.cell 3 rfl, x162.cell 4 rfl⟩
      | exact ⟨x175.cell 0 rfl, x175.cell 1 rfl, x175.cell 2 rfl, x175.cell 3 rfl, x175.cell 4 rfl, x176.cell 0 rfl, x176.cell 1 rfl, x176.cell 2 rfl, x176.cell 3 rfl, x176.cell 4 rfl, x177.cell 0 rfl, x177.cell 1 rfl, x177.cell 2 rfl, x177.cell 3 rfl, x177.cell 4 rfl⟩
      | exact ⟨x190.cell 0 rfl, x190.cell 1 rfl, x190.cell 2 rfl, x190.cell 3 rfl, x190.cell 4 rfl, x191.cell 0 rfl, x191.cell 1 rfl, x191.cell 2 rfl, x191.cell 3 rfl, x191.cell 4 rfl, x192.cell 0 rfl, x192.cell 1 rfl, x192.cell 2 rfl, x192.cell 3 rfl, x192.cell 4 rfl⟩
      | exact ⟨x205.cell 0 rfl, x205.cell 1 rfl, x205.cell 2 rfl, x205.cell 3 rfl, x205.cell 4 rfl, x206.cell 0 rfl, x206.cell 1 rfl, x206.cell 2 rfl, x206.cell 3 rfl, x206.cell 4 rfl, x207.cell 0 rfl, x207.cell 1 rfl, x207.cell 2 rfl, x207.cell 3 rfl, x207.cell 4 rfl⟩
      | exact ⟨x220.cell 0 rfl, x220.cell 1 rfl, x220.cell 2 rfl, x220.cell 3 rfl, x220.cell 4 rfl, x221.cell 0 rfl, x221.cell 1 rfl, x221.cell 2 rfl, x221.cell 3 rfl, x221.cell 4 rfl, x222.cell 0 rfl, x222.cell 1 rfl, x222.cell 2 rfl, x222.cell 3 rfl, x222.cell 4 rfl⟩
      | go_keep)
    (first
      | (go_at_call 13; refine (wsame_yes ub R42 m43 d44 H45 k46 q47 uc ue ul ug R80 d82 H83 q85 _ s136 s137 s138 s139).mono ?_; rintro e w142 ⟨rfl, hb141⟩; have b144 := b140.trans (hb141.mono b140.size); have x145 := x129.kept hb141; have x146 := x130.kept hb141; have x147 := x131.kept hb141; have s148 := s132.keep hb141; have s149 := s133.keep hb141; have s150 := s134.keep hb141; have s151 := s135.keep hb141; have s152 := s136.keep hb141; have s153 := s137.keep hb141; have s154 := s138.keep hb141; have s155 := s139.keep hb141)
      | (go_at_call 27; refine (wvmay_any ub R42 m43 d44 H45 k46 q47 uc ue ul ug _ s152 s153 (by have := s152.rd.len; omega)).mono ?_; rintro e w157 ⟨h158, hb156⟩; rw [T6.out] at h158; subst h158; have b159 := b144.trans (hb156.mono b144.size); have x160 := x145.kept hb156; have x161 := x146.kept hb156; have x162 := x147.kept hb156; have s163 := s148.keep hb156; have s164 := s149.keep hb156; have s165 := s150.keep hb156; have s166 := s151.keep hb156; have s167 := s152.keep hb156; have s168 := s153.keep hb156; have s169 := s154.keep hb156; have s170 := s155.keep hb156)
      | (go_at_call_of 25 R42; refine (wedge_any ub R42 m43 d44 H45 k46 q47 uc ue ul ug _ s167 s168 (by have := s167.rd.len; omega)).mono ?_; rintro e w172 ⟨h173, hb171⟩; rw [TE.out] at h173; subst h173; have b174 := b159.trans (hb171.mono b159.size); have x175 := x160.kept hb171; have x176 := x161.kept hb171; have x177 := x162.kept hb171; have s178 := s163.keep hb171; have s179 := s164.keep hb171; have s180 := s165.keep hb171; have s181 := s166.keep hb171; have s182 := s167.keep hb171; have s183 := s168.keep hb171; have s184 := s169.keep hb171; have s185 := s170.keep hb171)
      | (go_at_call_of 25 a0; refine (wedge_any x0 a0 n0 c0 g0 m0 d0 y0 e0 l0 p0 _ s178 s179 (by omega)).mono ?_; rintro e w187 ⟨h188, hb186⟩; rw [ED1.out] at h188; subst h188; have b189 := b174.trans (hb186.mono b174.size); have x190 := x175.kept hb186; have x191 := x176.kept hb186; have x192 := x177.kept hb186; have s193 := s178.keep hb186; have s194 := s179.keep hb186; have s195 := s180.keep hb186; have s196 := s181.keep hb186; have s197 := s182.keep hb186; have s198 := s183.keep hb186; have s199 := s184.keep hb186; have s200 := s185.keep hb186)
      | (go_at_call_of 21 R42; refine (wready_any ub R42 m43 d44 H45 k46 q47 uc ue ul ug _ s197 s198 (by have := s197.rd.len; omega)).mono ?_; rintro e w202 ⟨h203, hb201⟩; rw [RB1.out] at h203; subst h203; have b204 := b189.trans (hb201.mono b189.size); have x205 := x190.kept hb201; have x206 := x191.kept hb201; have x207 := x192.kept hb201; have s208 := s193.keep hb201; have s209 := s194.keep hb201; have s210 := s195.keep hb201; have s211 := s196.keep hb201; have s212 := s197.keep hb201; have s213 := s198.keep hb201; have s214 := s199.keep hb201; have s215 := s200.keep hb201)
      | (go_at_call_of 21 a0; refine (wready_any x0 a0 n0 c0 g0 m0 d0 y0 e0 l0 p0 _ s208 s209 (by omega)).mono ?_; rintro e w217 ⟨h218, hb216⟩; rw [RA1.out] at h218; subst h218; have b219 := b204.trans (hb216.mono b204.size); have x220 := x205.kept hb216; have x221 := x206.kept hb216; have x222 := x207.kept hb216; have s223 := s208.keep hb216; have s224 := s209.keep hb216; have s225 := s210.keep hb216; have s226 := s211.keep hb216; have s227 := s212.keep hb216; have s228 := s213.keep hb216; have s229 := s214.keep hb216; have s230 := s215.keep hb216))
  go_wp2_with fail
  go_ret
  exact ⟨rfl, b219⟩
end Go.Proofs.Ytgiknfmagmfniaa.weaveTwice
