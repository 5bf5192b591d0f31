/- The walk of the law WeaveTells. -/
import Derived.Test.YtgiknfmagmfniaaProg
import Derived.Test.YtgiknfmagmfniaaWeAwake
import Derived.Test.YtgiknfmagmfniaaBySame
import Derived.WalkKit
import Derived.WalkSpells
import Derived.Lib.Hide
import Derived.Below
import Derived.Outline
import Derived.Deep.RegionHeld3
namespace Go.Proofs.Ytgiknfmagmfniaa.weaveTells
open Go.RowKit
set_option linter.unusedVariables false
set_option linter.unusedSimpArgs false

set_option maxRecDepth 100000 in
set_option maxHeartbeats 8000000 in
theorem walk (x0 : Int) (a0 : Option Addr) (n0 c0 : Nat) (g0 : Option Addr) (m0 d0 : Nat) (y0 e0 : Int) (l0 : List Int) (p0 : List Sp) (z1 : Int) (a1 : Option Addr) (n1 c1 : Nat) (l1 : List Int) (z2 : Int) (w : World) (hx : W64 x0) (hy : W64 y0) (he : W64 e0) (h0 : Sl w a0 n0 c0 l0) (hg0 : Ss w g0 m0 d0 p0) (hz1 : W64 z1) (h1 : Sl w a1 n1 c1 l1) (hz2 : W64 z2) :
    Calls Try.prog 3 #[.agg #[.int .i64 x0, .slice a0 n0 c0, .slice g0 m0 d0, .int .i64 y0, .int .i64 e0], .int .i64 z1, .slice a1 n1 c1, .int .i64 z2] w fun e w' => e = .returned (.bool true) ∧ Below w.heap.size w w' := by
  have hl1 := h1.rd.len
  have hx' := hx; have hy' := hy; have he' := he; unfold W64 at hx' hy' he'
  have hl0 := h0.rd.len
  have hp0 := hg0.rd.len
  have x1 := Bx.new w 25 [.int .i64 x0, .slice a0 n0 c0, .slice g0 m0 d0, .int .i64 y0, .int .i64 e0]
  have s2 := h0.alloc (.cells #[.int .i64 x0, .slice a0 n0 c0, .slice g0 m0 d0, .int .i64 y0, .int .i64 e0] 25)
  have s3 := hg0.alloc (.cells #[.int .i64 x0, .slice a0 n0 c0, .slice g0 m0 d0, .int .i64 y0, .int .i64 e0] 25)
  have s4 := h1.alloc (.cells #[.int .i64 x0, .slice a0 n0 c0, .slice g0 m0 d0, .int .i64 y0, .int .i64 e0] 25)
  have b5 := (Below.refl w.heap.size w).alloc (Nat.le_refl _) (.cells #[.int .i64 x0, .slice a0 n0 c0, .slice g0 m0 d0, .int .i64 y0, .int .i64 e0] 25)
  have c6 := x1.cell 0 rfl
  have c7 := x1.cell 1 rfl
  have c8 := x1.cell 2 rfl
  have c9 := x1.cell 3 rfl
  have c10 := x1.cell 4 rfl
  go_enter Try.func3, Try.ntmps3
  go_wp2_with fail
  clear c6 c7 c8 c9 c10
  obtain ⟨v11, hv12⟩ : ∃ v11, w.alloc (.cells #[.int .i64 x0, .slice a0 n0 c0, .slice g0 m0 d0, .int .i64 y0, .int .i64 e0] 25) = v11 := ⟨_, rfl⟩
  have x1' : Bx v11 w.heap.size 25 [.int .i64 x0, .slice a0 n0 c0, .slice g0 m0 d0, .int .i64 y0, .int .i64 e0] := by rw [← hv12]; exact x1
  rw [hv12] at b5 s2 s3 s4 ⊢
  clear hv12 x1
  refine (awake_any _).mono ?_
  rintro e w14 ⟨rfl, hb13⟩
  have b16 := b5.trans (hb13.mono b5.size)
  have x17 := x1'.kept hb13
  have s18 := s2.keep hb13
  have s19 := s3.keep hb13
  have s20 := s4.keep hb13
  have c21 := x17.cell 0 rfl
  have c22 := x17.cell 1 rfl
  have c23 := x17.cell 2 rfl
  have c24 := x17.cell 3 rfl
  have c25 := x17.cell 4 rfl
  go_wp2_with fail
  refine (few_any x0 a0 n0 c0 g0 m0 d0 y0 e0 _).mono ?_
  rintro e w27 ⟨rfl, hb26⟩
  clear c21 c22 c23 c24 c25
  have b29 := b16.trans (hb26.mono b16.size)
  have x30 := x17.kept hb26
  have s31 := s18.keep hb26
  have s32 := s19.keep hb26
  have s33 := s20.keep hb26
  by_cases D0 : n0 ≤ 300
  case neg =>
    have hf : fewW n0 m0 = false := by unfold fewW; rw [decide_eq_false D0]; rfl
    rw [hf]
    have c34 := x30.cell 0 rfl
    have c35 := x30.cell 1 rfl
    have c36 := x30.cell 2 rfl
    have c37 := x30.cell 3 rfl
    have c38 := x30.cell 4 rfl
    go_wp2_with fail
    go_ret
    exact ⟨rfl, b29⟩
  case pos =>
  by_cases D1 : m0 ≤ 100
  case neg =>
    have hf : fewW n0 m0 = false := by unfold fewW; rw [decide_eq_false D1, Bool.and_false]
    rw [hf]
    have c34 := x30.cell 0 rfl
    have c35 := x30.cell 1 rfl
    have c36 := x30.cell 2 rfl
    have c37 := x30.cell 3 rfl
    have c38 := x30.cell 4 rfl
    go_wp2_with fail
    go_ret
    exact ⟨rfl, b29⟩
  case pos =>
  have hf : fewW n0 m0 = true := by unfold fewW; rw [decide_eq_true D0, decide_eq_true D1]; rfl
  rw [hf]
  by_cases D2 : n1 ≤ 300
  case neg =>
    have D2' : (300 : Int) < (n1 : Int) := by omega
    have c34 := x30.cell 0 rfl
    have c35 := x30.cell 1 rfl
    have c36 := x30.cell 2 rfl
    have c37 := x30.cell 3 rfl
    have c38 := x30.cell 4 rfl
    go_wp2_with fail
    go_ret
    exact ⟨rfl, b29⟩
  case pos =>
  have D2' : ¬ ((300 : Int) < (n1 : Int)) := by omega
  have c34 := x30.cell 0 rfl
  have c35 := x30.cell 1 rfl
  have c36 := x30.cell 2 rfl
  have c37 := x30.cell 3 rfl
  have c38 := x30.cell 4 rfl
  go_wp2_with fail
  obtain ⟨P, PH⟩ : ∃ P, putR ⟨x0, l0, p0, y0, e0⟩ z1 l1 = P := ⟨_, rfl⟩
  obtain ⟨⟨pb, pl, pg, pc, pe⟩, pn, pr⟩ := P
  have PQ := Lib.hid PH; clear PH
  obtain ⟨S, SH⟩ : ∃ S, wshutR ⟨x0, l0, p0, y0, e0⟩ z1 = S := ⟨_, rfl⟩
  obtain ⟨⟨sb, sl, sg, sc, se⟩, sr⟩ := S
  have SQ := Lib.hid SH; clear SH
  obtain ⟨Y, YH⟩ : ∃ Y, readR ⟨x0, l0, p0, y0, e0⟩ z2 = Y := ⟨_, rfl⟩
  obtain ⟨⟨rb, rl, rg, rc, re⟩, yl, yr⟩ := Y
  have YQ := Lib.hid YH; clear YH
  obtain ⟨M, MH⟩ : ∃ M, newR z2 = M := ⟨_, rfl⟩
  obtain ⟨⟨nb, nl, ng, nc, ne⟩, nr⟩ := M
  have MQ := Lib.hid MH; clear MH
  refine (rwown_any x0 a0 n0 c0 g0 m0 d0 y0 e0 l0 p0 _ s31 s32 (by omega) (by omega)).mono ?_
  rintro e w46 ⟨R39, q40, H41, r42, rfl, got43, sq44, hb45⟩
  clear c34 c35 c36 c37 c38
  have b47 := b29.trans (hb45.mono b29.size)
  have x48 := x30.kept hb45
  have s49 := s31.keep hb45
  have s50 := s32.keep hb45
  have s51 := s33.keep hb45
  have S01 := got43.sb'.sl
  have S02 := sq44.ss
  have x52 := Bx.new w46 25 [.int .i64 x0, .slice R39 n0 q40, .slice H41 m0 r42, .int .i64 y0, .int .i64 e0]
  have x53 := x48.alloc (.cells #[.int .i64 x0, .slice R39 n0 q40, .slice H41 m0 r42, .int .i64 y0, .int .i64 e0] 25)
  have s54 := s49.alloc (.cells #[.int .i64 x0, .slice R39 n0 q40, .slice H41 m0 r42, .int .i64 y0, .int .i64 e0] 25)
  have s55 := s50.alloc (.cells #[.int .i64 x0, .slice R39 n0 q40, .slice H41 m0 r42, .int .i64 y0, .int .i64 e0] 25)
  have s56 := s51.alloc (.cells #[.int .i64 x0, .slice R39 n0 q40, .slice H41 m0 r42, .int .i64 y0, .int .i64 e0] 25)
  have s57 := S01.alloc (.cells #[.int .i64 x0, .slice R39 n0 q40, .slice H41 m0 r42, .int .i64 y0, .int .i64 e0] 25)
  have s58 := S02.alloc (.cells #[.int .i64 x0, .slice R39 n0 q40, .slice H41 m0 r42, .int .i64 y0, .int .i64 e0] 25)
  have b59 := b47.alloc b47.size (.cells #[.int .i64 x0, .slice R39 n0 q40, .slice H41 m0 r42, .int .i64 y0, .int .i64 e0] 25)
  have c60 := x52.cell 0 rfl
  have c61 := x52.cell 1 rfl
  have c62 := x52.cell 2 rfl
  have c63 := x52.cell 3 rfl
  have c64 := x52.cell 4 rfl
  have c65 := x53.cell 0 rfl
  have c66 := x53.cell 1 rfl
  have c67 := x53.cell 2 rfl
  have c68 := x53.cell 3 rfl
  have c69 := x53.cell 4 rfl
  go_wp2_with fail
  clear c60 c61 c62 c63 c64 c65 c66 c67 c68 c69
  obtain ⟨v70, hv71⟩ : ∃ v70, w46.alloc (.cells #[.int .i64 x0, .slice R39 n0 q40, .slice H41 m0 r42, .int .i64 y0, .int .i64 e0] 25) = v70 := ⟨_, rfl⟩
  have x52' : Bx v70 w46.heap.size 25 [.int .i64 x0, .slice R39 n0 q40, .slice H41 m0 r42, .int .i64 y0, .int .i64 e0] := by rw [← hv71]; exact x52
  rw [hv71] at b59 x53 s54 s55 s56 s57 s58 ⊢
  clear hv71 x52
  refine (wput_any x0 a0 n0 c0 g0 m0 d0 y0 e0 l0 p0 _ s54 s55 (by omega) z1 a1 n1 c1 l1 hz1 s56 (by omega)).mono ?_
  rintro e w81 h82
  rw [PQ.out] at h82
  obtain ⟨R72, m73, d74, H75, k76, q77, rfl, sb78, sq79, hb80⟩ := h82
  have b83 := b59.trans (hb80.mono b59.size)
  have x84 := x53.kept hb80
  have x85 := x52'.kept hb80
  have s86 := s54.keep hb80
  have s87 := s55.keep hb80
  have s88 := s56.keep hb80
  have s89 := s57.keep hb80
  have s90 := s58.keep hb80
  dsimp only
  have P1 := sb78.sl
  have P2 := sq79.ss
  have x91 := Bx.new w81 25 [.int .i64 pb, .slice R72 m73 d74, .slice H75 k76 q77, .int .i64 pc, .int .i64 pe]
  have x92 := x84.alloc (.cells #[.int .i64 pb, .slice R72 m73 d74, .slice H75 k76 q77, .int .i64 pc, .int .i64 pe] 25)
  have x93 := x85.alloc (.cells #[.int .i64 pb, .slice R72 m73 d74, .slice H75 k76 q77, .int .i64 pc, .int .i64 pe] 25)
  have s94 := s86.alloc (.cells #[.int .i64 pb, .slice R72 m73 d74, .slice H75 k76 q77, .int .i64 pc, .int .i64 pe] 25)
  have s95 := s87.alloc (.cells #[.int .i64 pb, .slice R72 m73 d74, .slice H75 k76 q77, .int .i64 pc, .int .i64 pe] 25)
  have s96 := s88.alloc (.cells #[.int .i64 pb, .slice R72 m73 d74, .slice H75 k76 q77, .int .i64 pc, .int .i64 pe] 25)
  have s97 := s89.alloc (.cells #[.int .i64 pb, .slice R72 m73 d74, .slice H75 k76 q77, .int .i64 pc, .int .i64 pe] 25)
  have s98 := s90.alloc (.cells #[.int .i64 pb, .slice R72 m73 d74, .slice H75 k76 q77, .int .i64 pc, .int .i64 pe] 25)
  have s99 := P1.alloc (.cells #[.int .i64 pb, .slice R72 m73 d74, .slice H75 k76 q77, .int .i64 pc, .int .i64 pe] 25)
  have s100 := P2.alloc (.cells #[.int .i64 pb, .slice R72 m73 d74, .slice H75 k76 q77, .int .i64 pc, .int .i64 pe] 25)
  have b101 := b83.alloc b83.size (.cells #[.int .i64 pb, .slice R72 m73 d74, .slice H75 k76 q77, .int .i64 pc, .int .i64 pe] 25)
  have c102 := x91.cell 0 rfl
  have c103 := x91.cell 1 rfl
  have c104 := x91.cell 2 rfl
  have c105 := x91.cell 3 rfl
  have c106 := x91.cell 4 rfl
  have c107 := x92.cell 0 rfl
  have c108 := x92.cell 1 rfl
  have c109 := x92.cell 2 rfl
  have c110 := x92.cell 3 rfl
  have c111 := x92.cell 4 rfl
  go_wp2_with fail
  clear c102 c103 c104 c105 c106 c107 c108 c109 c110 c111
  obtain ⟨v112, hv113⟩ : ∃ v112, w81.alloc (.cells #[.int .i64 pb, .slice R72 m73 d74, .slice H75 k76 q77, .int .i64 pc, .int .i64 pe] 25) = v112 := ⟨_, rfl⟩
  have x91' : Bx v112 w81.heap.size 25 [.int .i64 pb, .slice R72 m73 d74, .slice H75 k76 q77, .int .i64 pc, .int .i64 pe] := by rw [← hv113]; exact x91
  rw [hv113] at b101 x92 x93 s94 s95 s96 s97 s98 s99 s100 ⊢
  clear hv113 x91
  refine (rwput_any x0 a0 n0 c0 g0 m0 d0 y0 e0 l0 p0 z1 a1 n1 c1 l1 _ s94 s95 (by omega) hz1.1 hz1.2 s96 (by omega)).mono ?_
  rintro e w123 h124
  rw [PQ.out] at h124
  obtain ⟨R114, m115, d116, H117, k118, q119, rfl, sb120, sq121, hb122⟩ := h124
  have b125 := b101.trans (hb122.mono b101.size)
  have x126 := x92.kept hb122
  have x127 := x93.kept hb122
  have x128 := x91'.kept hb122
  have s129 := s94.keep hb122
  have s130 := s95.keep hb122
  have s131 := s96.keep hb122
  have s132 := s97.keep hb122
  have s133 := s98.keep hb122
  have s134 := s99.keep hb122
  have s135 := s100.keep hb122
  dsimp only
  have P3 := sb120.sl
  have P4 := sq121.ss
  have hmP : m73 = m115 := (s134.rd.len).symm.trans P3.rd.len
  subst hmP
  have hkP : k76 = k118 := (s135.rd.len).symm.trans P4.rd.len
  subst hkP
  have x136 := Bx.new w123 25 [.int .i64 pb, .slice R114 m73 d116, .slice H117 k76 q119, .int .i64 pc, .int .i64 pe]
  have x137 := x126.alloc (.cells #[.int .i64 pb, .slice R114 m73 d116, .slice H117 k76 q119, .int .i64 pc, .int .i64 pe] 25)
  have x138 := x127.alloc (.cells #[.int .i64 pb, .slice R114 m73 d116, .slice H117 k76 q119, .int .i64 pc, .int .i64 pe] 25)
  have x139 := x128.alloc (.cells #[.int .i64 pb, .slice R114 m73 d116, .slice H117 k76 q119, .int .i64 pc, .int .i64 pe] 25)
  have s140 := s129.alloc (.cells #[.int .i64 pb, .slice R114 m73 d116, .slice H117 k76 q119, .int .i64 pc, .int .i64 pe] 25)
  have s141 := s130.alloc (.cells #[.int .i64 pb, .slice R114 m73 d116, .slice H117 k76 q119, .int .i64 pc, .int .i64 pe] 25)
  have s142 := s131.alloc (.cells #[.int .i64 pb, .slice R114 m73 d116, .slice H117 k76 q119, .int .i64 pc, .int .i64 pe] 25)
  have s143 := s132.alloc (.cells #[.int .i64 pb, .slice R114 m73 d116, .slice H117 k76 q119, .int .i64 pc, .int .i64 pe] 25)
  have s144 := s133.alloc (.cells #[.int .i64 pb, .slice R114 m73 d116, .slice H117 k76 q119, .int .i64 pc, .int .i64 pe] 25)
  have s145 := s134.alloc (.cells #[.int .i64 pb, .slice R114 m73 d116, .slice H117 k76 q119, .int .i64 pc, .int .i64 pe] 25)
  have s146 := s135.alloc (.cells #[.int .i64 pb, .slice R114 m73 d116, .slice H117 k76 q119, .int .i64 pc, .int .i64 pe] 25)
  have s147 := P3.alloc (.cells #[.int .i64 pb, .slice R114 m73 d116, .slice H117 k76 q119, .int .i64 pc, .int .i64 pe] 25)
  have s148 := P4.alloc (.cells #[.int .i64 pb, .slice R114 m73 d116, .slice H117 k76 q119, .int .i64 pc, .int .i64 pe] 25)
  have b149 := b125.alloc b125.size (.cells #[.int .i64 pb, .slice R114 m73 d116, .slice H117 k76 q119, .int .i64 pc, .int .i64 pe] 25)
  have c150 := x136.cell 0 rfl
  have c151 := x136.cell 1 rfl
  have c152 := x136.cell 2 rfl
  have c153 := x136.cell 3 rfl
  have c154 := x136.cell 4 rfl
  have c155 := x139.cell 0 rfl
  have c156 := x139.cell 1 rfl
  have c157 := x139.cell 2 rfl
  have c158 := x139.cell 3 rfl
  have c159 := x139.cell 4 rfl
  have c160 := x137.cell 0 rfl
  have c161 := x137.cell 1 rfl
  have c162 := x137.cell 2 rfl
  have c163 := x137.cell 3 rfl
  have c164 := x137.cell 4 rfl
  go_wp2_with fail
  clear c150 c151 c152 c153 c154 c155 c156 c157 c158 c159 c160 c161 c162 c163 c164
  obtain ⟨v165, hv166⟩ : ∃ v165, w123.alloc (.cells #[.int .i64 pb, .slice R114 m73 d116, .slice H117 k76 q119, .int .i64 pc, .int .i64 pe] 25) = v165 := ⟨_, rfl⟩
  have x136' : Bx v165 w123.heap.size 25 [.int .i64 pb, .slice R114 m73 d116, .slice H117 k76 q119, .int .i64 pc, .int .i64 pe] := by rw [← hv166]; exact x136
  rw [hv166] at b149 x137 x138 x139 s140 s141 s142 s143 s144 s145 s146 s147 s148 ⊢
  clear hv166 x136
  refine (wsame_yes pb R72 m73 d74 H75 k76 q77 pc pe pl pg R114 d116 H117 q119 _ s145 s146 s147 s148).mono ?_
  rintro e w168 ⟨rfl, hb167⟩
  have b170 := b149.trans (hb167.mono b149.size)
  have x171 := x137.kept hb167
  have x172 := x138.kept hb167
  have x173 := x139.kept hb167
  have x174 := x136'.kept hb167
  have s175 := s140.keep hb167
  have s176 := s141.keep hb167
  have s177 := s142.keep hb167
  have s178 := s143.keep hb167
  have s179 := s144.keep hb167
  have s180 := s145.keep hb167
  have s181 := s146.keep hb167
  have s182 := s147.keep hb167
  have s183 := s148.keep hb167
  have c184 := x171.cell 0 rfl
  have c185 := x171.cell 1 rfl
  have c186 := x171.cell 2 rfl
  have c187 := x171.cell 3 rfl
  have c188 := x171.cell 4 rfl
  go_wp2_with fail
  refine (wshut_any x0 a0 n0 c0 g0 m0 d0 y0 e0 l0 p0 _ s175 s176 (by omega) z1 hz1).mono ?_
  rintro e w198 h199
  rw [SQ.out] at h199
  obtain ⟨R189, m190, d191, H192, k193, q194, rfl, sb195, sq196, hb197⟩ := h199
  clear c184 c185 c186 c187 c188
  have b200 := b170.trans (hb197.mono b170.size)
  have x201 := x171.kept hb197
  have x202 := x172.kept hb197
  have s203 := s175.keep hb197
  have s204 := s176.keep hb197
  have s205 := s177.keep hb197
  have s206 := s178.keep hb197
  have s207 := s179.keep hb197
  dsimp only
  have S1 := sb195.sl
  have S2 := sq196.ss
  have x208 := Bx.new w198 25 [.int .i64 sb, .slice R189 m190 d191, .slice H192 k193 q194, .int .i64 sc, .int .i64 se]
  have x209 := x201.alloc (.cells #[.int .i64 sb, .slice R189 m190 d191, .slice H192 k193 q194, .int .i64 sc, .int .i64 se] 25)
  have x210 := x202.alloc (.cells #[.int .i64 sb, .slice R189 m190 d191, .slice H192 k193 q194, .int .i64 sc, .int .i64 se] 25)
  have s211 := s203.alloc (.cells #[.int .i64 sb, .slice R189 m190 d191, .slice H192 k193 q194, .int .i64 sc, .int .i64 se] 25)
  have s212 := s204.alloc (.cells #[.int .i64 sb, .slice R189 m190 d191, .slice H192 k193 q194, .int .i64 sc, .int .i64 se] 25)
  have s213 := s205.alloc (.cells #[.int .i64 sb, .slice R189 m190 d191, .slice H192 k193 q194, .int .i64 sc, .int .i64 se] 25)
  have s214 := s206.alloc (.cells #[.int .i64 sb, .slice R189 m190 d191, .slice H192 k193 q194, .int .i64 sc, .int .i64 se] 25)
  have s215 := s207.alloc (.cells #[.int .i64 sb, .slice R189 m190 d191, .slice H192 k193 q194, .int .i64 sc, .int .i64 se] 25)
  have s216 := S1.alloc (.cells #[.int .i64 sb, .slice R189 m190 d191, .slice H192 k193 q194, .int .i64 sc, .int .i64 se] 25)
  have s217 := S2.alloc (.cells #[.int .i64 sb, .slice R189 m190 d191, .slice H192 k193 q194, .int .i64 sc, .int .i64 se] 25)
  have b218 := b200.alloc b200.size (.cells #[.int .i64 sb, .slice R189 m190 d191, .slice H192 k193 q194, .int .i64 sc, .int .i64 se] 25)
  have c219 := x208.cell 0 rfl
  have c220 := x208.cell 1 rfl
  have c221 := x208.cell 2 rfl
  have c222 := x208.cell 3 rfl
  have c223 := x208.cell 4 rfl
  have c224 := x209.cell 0 rfl
  have c225 := x209.cell 1 rfl
  have c226 := x209.cell 2 rfl
  have c227 := x209.cell 3 rfl
  have c228 := x209.cell 4 rfl
  go_wp2_with fail
  clear c219 c220 c221 c222 c223 c224 c225 c226 c227 c228
  obtain ⟨v229, hv230⟩ : ∃ v229, w198.alloc (.cells #[.int .i64 sb, .slice R189 m190 d191, .slice H192 k193 q194, .int .i64 sc, .int .i64 se] 25) = v229 := ⟨_, rfl⟩
  have x208' : Bx v229 w198.heap.size 25 [.int .i64 sb, .slice R189 m190 d191, .slice H192 k193 q194, .int .i64 sc, .int .i64 se] := by rw [← hv230]; exact x208
  rw [hv230] at b218 x209 x210 s211 s212 s213 s214 s215 s216 s217 ⊢
  clear hv230 x208
  refine (rwshut_any x0 a0 n0 c0 g0 m0 d0 y0 e0 l0 p0 z1 _ s211 s212 (by omega)).mono ?_
  rintro e w240 h241
  rw [SQ.out] at h241
  obtain ⟨R231, m232, d233, H234, k235, q236, rfl, sb237, sq238, hb239⟩ := h241
  have b242 := b218.trans (hb239.mono b218.size)
  have x243 := x209.kept hb239
  have x244 := x210.kept hb239
  have x245 := x208'.kept hb239
  have s246 := s211.keep hb239
  have s247 := s212.keep hb239
  have s248 := s213.keep hb239
  have s249 := s214.keep hb239
  have s250 := s215.keep hb239
  have s251 := s216.keep hb239
  have s252 := s217.keep hb239
  dsimp only
  have S3 := sb237.sl
  have S4 := sq238.ss
  have hmS : m190 = m232 := (s251.rd.len).symm.trans S3.rd.len
  subst hmS
  have hkS : k193 = k235 := (s252.rd.len).symm.trans S4.rd.len
  subst hkS
  have x253 := Bx.new w240 25 [.int .i64 sb, .slice R231 m190 d233, .slice H234 k193 q236, .int .i64 sc, .int .i64 se]
  have x254 := x243.alloc (.cells #[.int .i64 sb, .slice R231 m190 d233, .slice H234 k193 q236, .int .i64 sc, .int .i64 se] 25)
  have x255 := x244.alloc (.cells #[.int .i64 sb, .slice R231 m190 d233, .slice H234 k193 q236, .int .i64 sc, .int .i64 se] 25)
  have x256 := x245.alloc (.cells #[.int .i64 sb, .slice R231 m190 d233, .slice H234 k193 q236, .int .i64 sc, .int .i64 se] 25)
  have s257 := s246.alloc (.cells #[.int .i64 sb, .slice R231 m190 d233, .slice H234 k193 q236, .int .i64 sc, .int .i64 se] 25)
  have s258 := s247.alloc (.cells #[.int .i64 sb, .slice R231 m190 d233, .slice H234 k193 q236, .int .i64 sc, .int .i64 se] 25)
  have s259 := s248.alloc (.cells #[.int .i64 sb, .slice R231 m190 d233, .slice H234 k193 q236, .int .i64 sc, .int .i64 se] 25)
  have s260 := s249.alloc (.cells #[.int .i64 sb, .slice R231 m190 d233, .slice H234 k193 q236, .int .i64 sc, .int .i64 se] 25)
  have s261 := s250.alloc (.cells #[.int .i64 sb, .slice R231 m190 d233, .slice H234 k193 q236, .int .i64 sc, .int .i64 se] 25)
  have s262 := s251.alloc (.cells #[.int .i64 sb, .slice R231 m190 d233, .slice H234 k193 q236, .int .i64 sc, .int .i64 se] 25)
  have s263 := s252.alloc (.cells #[.int .i64 sb, .slice R231 m190 d233, .slice H234 k193 q236, .int .i64 sc, .int .i64 se] 25)
  have s264 := S3.alloc (.cells #[.int .i64 sb, .slice R231 m190 d233, .slice H234 k193 q236, .int .i64 sc, .int .i64 se] 25)
  have s265 := S4.alloc (.cells #[.int .i64 sb, .slice R231 m190 d233, .slice H234 k193 q236, .int .i64 sc, .int .i64 se] 25)
  have b266 := b242.alloc b242.size (.cells #[.int .i64 sb, .slice R231 m190 d233, .slice H234 k193 q236, .int .i64 sc, .int .i64 se] 25)
  have c267 := x253.cell 0 rfl
  have c268 := x253.cell 1 rfl
  have c269 := x253.cell 2 rfl
  have c270 := x253.cell 3 rfl
  have c271 := x253.cell 4 rfl
  have c272 := x256.cell 0 rfl
  have c273 := x256.cell 1 rfl
  have c274 := x256.cell 2 rfl
  have c275 := x256.cell 3 rfl
  have c276 := x256.cell 4 rfl
  have c277 := x254.cell 0 rfl
  have c278 := x254.cell 1 rfl
  have c279 := x254.cell 2 rfl
  have c280 := x254.cell 3 rfl
  have c281 := x254.cell 4 rfl
  go_wp2_with fail
  clear c267 c268 c269 c270 c271 c272 c273 c274 c275 c276 c277 c278 c279 c280 c281
  obtain ⟨v282, hv283⟩ : ∃ v282, w240.alloc (.cells #[.int .i64 sb, .slice R231 m190 d233, .slice H234 k193 q236, .int .i64 sc, .int .i64 se] 25) = v282 := ⟨_, rfl⟩
  have x253' : Bx v282 w240.heap.size 25 [.int .i64 sb, .slice R231 m190 d233, .slice H234 k193 q236, .int .i64 sc, .int .i64 se] := by rw [← hv283]; exact x253
  rw [hv283] at b266 x254 x255 x256 s257 s258 s259 s260 s261 s262 s263 s264 s265 ⊢
  clear hv283 x253
  refine (wsame_yes sb R189 m190 d191 H192 k193 q194 sc se sl sg R231 d233 H234 q236 _ s262 s263 s264 s265).mono ?_
  rintro e w285 ⟨rfl, hb284⟩
  have b287 := b266.trans (hb284.mono b266.size)
  have x288 := x254.kept hb284
  have x289 := x255.kept hb284
  have x290 := x256.kept hb284
  have x291 := x253'.kept hb284
  have s292 := s257.keep hb284
  have s293 := s258.keep hb284
  have s294 := s259.keep hb284
  have s295 := s260.keep hb284
  have s296 := s261.keep hb284
  have s297 := s262.keep hb284
  have s298 := s263.keep hb284
  have s299 := s264.keep hb284
  have s300 := s265.keep hb284
  have c301 := x288.cell 0 rfl
  have c302 := x288.cell 1 rfl
  have c303 := x288.cell 2 rfl
  have c304 := x288.cell 3 rfl
  have c305 := x288.cell 4 rfl
  go_wp2_with fail
  refine (wread_any x0 a0 n0 c0 g0 m0 d0 y0 e0 l0 p0 _ s292 s293 (by omega) z2 hz2).mono ?_
  rintro e w315 h316
  rw [YQ.out] at h316
  obtain ⟨R306, m307, d308, H309, k310, q311, S317, t318, u319, rfl, sb312, sq313, sc320, hb314⟩ := h316
  clear c301 c302 c303 c304 c305
  have b321 := b287.trans (hb314.mono b287.size)
  have x322 := x288.kept hb314
  have x323 := x289.kept hb314
  have s324 := s292.keep hb314
  have s325 := s293.keep hb314
  have s326 := s294.keep hb314
  have s327 := s295.keep hb314
  have s328 := s296.keep hb314
  dsimp only
  have Y1 := sb312.sl
  have Y2 := sq313.ss
  have Y5 := sc320.sl
  have x329 := Bx.new w315 25 [.int .i64 rb, .slice R306 m307 d308, .slice H309 k310 q311, .int .i64 rc, .int .i64 re]
  have x330 := x322.alloc (.cells #[.int .i64 rb, .slice R306 m307 d308, .slice H309 k310 q311, .int .i64 rc, .int .i64 re] 25)
  have x331 := x323.alloc (.cells #[.int .i64 rb, .slice R306 m307 d308, .slice H309 k310 q311, .int .i64 rc, .int .i64 re] 25)
  have s332 := s324.alloc (.cells #[.int .i64 rb, .slice R306 m307 d308, .slice H309 k310 q311, .int .i64 rc, .int .i64 re] 25)
  have s333 := s325.alloc (.cells #[.int .i64 rb, .slice R306 m307 d308, .slice H309 k310 q311, .int .i64 rc, .int .i64 re] 25)
  have s334 := s326.alloc (.cells #[.int .i64 rb, .slice R306 m307 d308, .slice H309 k310 q311, .int .i64 rc, .int .i64 re] 25)
  have s335 := s327.alloc (.cells #[.int .i64 rb, .slice R306 m307 d308, .slice H309 k310 q311, .int .i64 rc, .int .i64 re] 25)
  have s336 := s328.alloc (.cells #[.int .i64 rb, .slice R306 m307 d308, .slice H309 k310 q311, .int .i64 rc, .int .i64 re] 25)
  have s337 := Y1.alloc (.cells #[.int .i64 rb, .slice R306 m307 d308, .slice H309 k310 q311, .int .i64 rc, .int .i64 re] 25)
  have s338 := Y2.alloc (.cells #[.int .i64 rb, .slice R306 m307 d308, .slice H309 k310 q311, .int .i64 rc, .int .i64 re] 25)
  have s339 := Y5.alloc (.cells #[.int .i64 rb, .slice R306 m307 d308, .slice H309 k310 q311, .int .i64 rc, .int .i64 re] 25)
  have b340 := b321.alloc b321.size (.cells #[.int .i64 rb, .slice R306 m307 d308, .slice H309 k310 q311, .int .i64 rc, .int .i64 re] 25)
  have c341 := x329.cell 0 rfl
  have c342 := x329.cell 1 rfl
  have c343 := x329.cell 2 rfl
  have c344 := x329.cell 3 rfl
  have c345 := x329.cell 4 rfl
  have c346 := x330.cell 0 rfl
  have c347 := x330.cell 1 rfl
  have c348 := x330.cell 2 rfl
  have c349 := x330.cell 3 rfl
  have c350 := x330.cell 4 rfl
  go_wp2_with fail
  clear c341 c342 c343 c344 c345 c346 c347 c348 c349 c350
  obtain ⟨v351, hv352⟩ : ∃ v351, w315.alloc (.cells #[.int .i64 rb, .slice R306 m307 d308, .slice H309 k310 q311, .int .i64 rc, .int .i64 re] 25) = v351 := ⟨_, rfl⟩
  have x329' : Bx v351 w315.heap.size 25 [.int .i64 rb, .slice R306 m307 d308, .slice H309 k310 q311, .int .i64 rc, .int .i64 re] := by rw [← hv352]; exact x329
  rw [hv352] at b340 x330 x331 s332 s333 s334 s335 s336 s337 s338 s339 ⊢
  clear hv352 x329
  refine (rwread_any x0 a0 n0 c0 g0 m0 d0 y0 e0 l0 p0 z2 _ s332 s333 (by omega) hz2.1 hz2.2).mono ?_
  rintro e w362 h363
  rw [YQ.out] at h363
  obtain ⟨R353, m354, d355, H356, k357, q358, S364, t365, u366, rfl, sb359, sq360, sc367, hb361⟩ := h363
  have b368 := b340.trans (hb361.mono b340.size)
  have x369 := x330.kept hb361
  have x370 := x331.kept hb361
  have x371 := x329'.kept hb361
  have s372 := s332.keep hb361
  have s373 := s333.keep hb361
  have s374 := s334.keep hb361
  have s375 := s335.keep hb361
  have s376 := s336.keep hb361
  have s377 := s337.keep hb361
  have s378 := s338.keep hb361
  have s379 := s339.keep hb361
  dsimp only
  have Y3 := sb359.sl
  have Y4 := sq360.ss
  have hmY : m307 = m354 := (s377.rd.len).symm.trans Y3.rd.len
  subst hmY
  have hkY : k310 = k357 := (s378.rd.len).symm.trans Y4.rd.len
  subst hkY
  have Y6 := sc367.sl
  have hjY : t318 = t365 := (s379.rd.len).symm.trans Y6.rd.len
  subst hjY
  have x380 := Bx.new w362 25 [.int .i64 rb, .slice R353 m307 d355, .slice H356 k310 q358, .int .i64 rc, .int .i64 re]
  have x381 := x369.alloc (.cells #[.int .i64 rb, .slice R353 m307 d355, .slice H356 k310 q358, .int .i64 rc, .int .i64 re] 25)
  have x382 := x370.alloc (.cells #[.int .i64 rb, .slice R353 m307 d355, .slice H356 k310 q358, .int .i64 rc, .int .i64 re] 25)
  have x383 := x371.alloc (.cells #[.int .i64 rb, .slice R353 m307 d355, .slice H356 k310 q358, .int .i64 rc, .int .i64 re] 25)
  have s384 := s372.alloc (.cells #[.int .i64 rb, .slice R353 m307 d355, .slice H356 k310 q358, .int .i64 rc, .int .i64 re] 25)
  have s385 := s373.alloc (.cells #[.int .i64 rb, .slice R353 m307 d355, .slice H356 k310 q358, .int .i64 rc, .int .i64 re] 25)
  have s386 := s374.alloc (.cells #[.int .i64 rb, .slice R353 m307 d355, .slice H356 k310 q358, .int .i64 rc, .int .i64 re] 25)
  have s387 := s375.alloc (.cells #[.int .i64 rb, .slice R353 m307 d355, .slice H356 k310 q358, .int .i64 rc, .int .i64 re] 25)
  have s388 := s376.alloc (.cells #[.int .i64 rb, .slice R353 m307 d355, .slice H356 k310 q358, .int .i64 rc, .int .i64 re] 25)
  have s389 := s377.alloc (.cells #[.int .i64 rb, .slice R353 m307 d355, .slice H356 k310 q358, .int .i64 rc, .int .i64 re] 25)
  have s390 := s378.alloc (.cells #[.int .i64 rb, .slice R353 m307 d355, .slice H356 k310 q358, .int .i64 rc, .int .i64 re] 25)
  have s391 := s379.alloc (.cells #[.int .i64 rb, .slice R353 m307 d355, .slice H356 k310 q358, .int .i64 rc, .int .i64 re] 25)
  have s392 := Y3.alloc (.cells #[.int .i64 rb, .slice R353 m307 d355, .slice H356 k310 q358, .int .i64 rc, .int .i64 re] 25)
  have s393 := Y4.alloc (.cells #[.int .i64 rb, .slice R353 m307 d355, .slice H356 k310 q358, .int .i64 rc, .int .i64 re] 25)
  have s394 := Y6.alloc (.cells #[.int .i64 rb, .slice R353 m307 d355, .slice H356 k310 q358, .int .i64 rc, .int .i64 re] 25)
  have b395 := b368.alloc b368.size (.cells #[.int .i64 rb, .slice R353 m307 d355, .slice H356 k310 q358, .int .i64 rc, .int .i64 re] 25)
  have c396 := x380.cell 0 rfl
  have c397 := x380.cell 1 rfl
  have c398 := x380.cell 2 rfl
  have c399 := x380.cell 3 rfl
  have c400 := x380.cell 4 rfl
  have c401 := x383.cell 0 rfl
  have c402 := x383.cell 1 rfl
  have c403 := x383.cell 2 rfl
  have c404 := x383.cell 3 rfl
  have c405 := x383.cell 4 rfl
  have c406 := x381.cell 0 rfl
  have c407 := x381.cell 1 rfl
  have c408 := x381.cell 2 rfl
  have c409 := x381.cell 3 rfl
  have c410 := x381.cell 4 rfl
  go_wp2_with fail
  clear c396 c397 c398 c399 c400 c401 c402 c403 c404 c405 c406 c407 c408 c409 c410
  obtain ⟨v411, hv412⟩ : ∃ v411, w362.alloc (.cells #[.int .i64 rb, .slice R353 m307 d355, .slice H356 k310 q358, .int .i64 rc, .int .i64 re] 25) = v411 := ⟨_, rfl⟩
  have x380' : Bx v411 w362.heap.size 25 [.int .i64 rb, .slice R353 m307 d355, .slice H356 k310 q358, .int .i64 rc, .int .i64 re] := by rw [← hv412]; exact x380
  rw [hv412] at b395 x381 x382 x383 s384 s385 s386 s387 s388 s389 s390 s391 s392 s393 s394 ⊢
  clear hv412 x380
  refine (wsame_yes rb R306 m307 d308 H309 k310 q311 rc re rl rg R353 d355 H356 q358 _ s389 s390 s392 s393).mono ?_
  rintro e w414 ⟨rfl, hb413⟩
  have b416 := b395.trans (hb413.mono b395.size)
  have x417 := x381.kept hb413
  have x418 := x382.kept hb413
  have x419 := x383.kept hb413
  have x420 := x380'.kept hb413
  have s421 := s384.keep hb413
  have s422 := s385.keep hb413
  have s423 := s386.keep hb413
  have s424 := s387.keep hb413
  have s425 := s388.keep hb413
  have s426 := s389.keep hb413
  have s427 := s390.keep hb413
  have s428 := s391.keep hb413
  have s429 := s392.keep hb413
  have s430 := s393.keep hb413
  have s431 := s394.keep hb413
  have c432 := x419.cell 0 rfl
  have c433 := x419.cell 1 rfl
  have c434 := x419.cell 2 rfl
  have c435 := x419.cell 3 rfl
  have c436 := x419.cell 4 rfl
  have c437 := x420.cell 0 rfl
  have c438 := x420.cell 1 rfl
  have c439 := x420.cell 2 rfl
  have c440 := x420.cell 3 rfl
  have c441 := x420.cell 4 rfl
  have c442 := x417.cell 0 rfl
  have c443 := x417.cell 1 rfl
  have c444 := x417.cell 2 rfl
  have c445 := x417.cell 3 rfl
  have c446 := x417.cell 4 rfl
  go_wp2_with fail
  refine (bsame_yes S317 S364 t318 u319 u366 yl _ s428.rd s431.rd (by have := s428.le; have := s428.big; unfold maxLen at this; omega)).mono ?_
  rintro e w448 ⟨rfl, hb447⟩
  clear c432 c433 c434 c435 c436 c437 c438 c439 c440 c441 c442 c443 c444 c445 c446
  have b450 := b416.trans (hb447.mono b416.size)
  have x451 := x417.kept hb447
  have x452 := x418.kept hb447
  have x453 := x419.kept hb447
  have x454 := x420.kept hb447
  have s455 := s421.keep hb447
  have s456 := s422.keep hb447
  have s457 := s423.keep hb447
  have s458 := s424.keep hb447
  have s459 := s425.keep hb447
  have s460 := s426.keep hb447
  have s461 := s427.keep hb447
  have s462 := s428.keep hb447
  have s463 := s429.keep hb447
  have s464 := s430.keep hb447
  have s465 := s431.keep hb447
  have c466 := x451.cell 0 rfl
  have c467 := x451.cell 1 rfl
  have c468 := x451.cell 2 rfl
  have c469 := x451.cell 3 rfl
  have c470 := x451.cell 4 rfl
  go_wp2_with fail
  refine (wnew_any z2 _).mono ?_
  rintro e w480 h481
  rw [MQ.out] at h481
  obtain ⟨R471, m472, d473, H474, k475, q476, rfl, sb477, sq478, hb479⟩ := h481
  clear c466 c467 c468 c469 c470
  have b482 := b450.trans (hb479.mono b450.size)
  have x483 := x451.kept hb479
  have x484 := x452.kept hb479
  have s485 := s455.keep hb479
  have s486 := s456.keep hb479
  have s487 := s457.keep hb479
  have s488 := s458.keep hb479
  have s489 := s459.keep hb479
  dsimp only
  have M1 := sb477.sl
  have M2 := sq478.ss
  have x490 := Bx.new w480 25 [.int .i64 nb, .slice R471 m472 d473, .slice H474 k475 q476, .int .i64 nc, .int .i64 ne]
  have x491 := x483.alloc (.cells #[.int .i64 nb, .slice R471 m472 d473, .slice H474 k475 q476, .int .i64 nc, .int .i64 ne] 25)
  have x492 := x484.alloc (.cells #[.int .i64 nb, .slice R471 m472 d473, .slice H474 k475 q476, .int .i64 nc, .int .i64 ne] 25)
  have s493 := s485.alloc (.cells #[.int .i64 nb, .slice R471 m472 d473, .slice H474 k475 q476, .int .i64 nc, .int .i64 ne] 25)
  have s494 := s486.alloc (.cells #[.int .i64 nb, .slice R471 m472 d473, .slice H474 k475 q476, .int .i64 nc, .int .i64 ne] 25)
  have s495 := s487.alloc (.cells #[.int .i64 nb, .slice R471 m472 d473, .slice H474 k475 q476, .int .i64 nc, .int .i64 ne] 25)
  have s496 := s488.alloc (.cells #[.int .i64 nb, .slice R471 m472 d473, .slice H474 k475 q476, .int .i64 nc, .int .i64 ne] 25)
  have s497 := s489.alloc (.cells #[.int .i64 nb, .slice R471 m472 d473, .slice H474 k475 q476, .int .i64 nc, .int .i64 ne] 25)
  have s498 := M1.alloc (.cells #[.int .i64 nb, .slice R471 m472 d473, .slice H474 k475 q476, .int .i64 nc, .int .i64 ne] 25)
  have s499 := M2.alloc (.cells #[.int .i64 nb, .slice R471 m472 d473, .slice H474 k475 q476, .int .i64 nc, .int .i64 ne] 25)
  have b500 := b482.alloc b482.size (.cells #[.int .i64 nb, .slice R471 m472 d473, .slice H474 k475 q476, .int .i64 nc, .int .i64 ne] 25)
  have c501 := x490.cell 0 rfl
  have c502 := x490.cell 1 rfl
  have c503 := x490.cell 2 rfl
  have c504 := x490.cell 3 rfl
  have c505 := x490.cell 4 rfl
  have c506 := x491.cell 0 rfl
  have c507 := x491.cell 1 rfl
  have c508 := x491.cell 2 rfl
  have c509 := x491.cell 3 rfl
  have c510 := x491.cell 4 rfl
  go_wp2_with fail
  clear c501 c502 c503 c504 c505 c506 c507 c508 c509 c510
  obtain ⟨v511, hv512⟩ : ∃ v511, w480.alloc (.cells #[.int .i64 nb, .slice R471 m472 d473, .slice H474 k475 q476, .int .i64 nc, .int .i64 ne] 25) = v511 := ⟨_, rfl⟩
  have x490' : Bx v511 w480.heap.size 25 [.int .i64 nb, .slice R471 m472 d473, .slice H474 k475 q476, .int .i64 nc, .int .i64 ne] := by rw [← hv512]; exact x490
  rw [hv512] at b500 x491 x492 s493 s494 s495 s496 s497 s498 s499 ⊢
  clear hv512 x490
  refine (rnew_any z2 _).mono ?_
  rintro e w522 h523
  rw [MQ.out] at h523
  obtain ⟨R513, m514, d515, H516, k517, q518, rfl, sb519, sq520, hb521⟩ := h523
  have b524 := b500.trans (hb521.mono b500.size)
  have x525 := x491.kept hb521
  have x526 := x492.kept hb521
  have x527 := x490'.kept hb521
  have s528 := s493.keep hb521
  have s529 := s494.keep hb521
  have s530 := s495.keep hb521
  have s531 := s496.keep hb521
  have s532 := s497.keep hb521
  have s533 := s498.keep hb521
  have s534 := s499.keep hb521
  dsimp only
  have M3 := sb519.sl
  have M4 := sq520.ss
  have hmM : m472 = m514 := (s533.rd.len).symm.trans M3.rd.len
  subst hmM
  have hkM : k475 = k517 := (s534.rd.len).symm.trans M4.rd.len
  subst hkM
  have x535 := Bx.new w522 25 [.int .i64 nb, .slice R513 m472 d515, .slice H516 k475 q518, .int .i64 nc, .int .i64 ne]
  have x536 := x525.alloc (.cells #[.int .i64 nb, .slice R513 m472 d515, .slice H516 k475 q518, .int .i64 nc, .int .i64 ne] 25)
  have x537 := x526.alloc (.cells #[.int .i64 nb, .slice R513 m472 d515, .slice H516 k475 q518, .int .i64 nc, .int .i64 ne] 25)
  have x538 := x527.alloc (.cells #[.int .i64 nb, .slice R513 m472 d515, .slice H516 k475 q518, .int .i64 nc, .int .i64 ne] 25)
  have s539 := s528.alloc (.cells #[.int .i64 nb, .slice R513 m472 d515, .slice H516 k475 q518, .int .i64 nc, .int .i64 ne] 25)
  have s540 := s529.alloc (.cells #[.int .i64 nb, .slice R513 m472 d515, .slice H516 k475 q518, .int .i64 nc, .int .i64 ne] 25)
  have s541 := s530.alloc (.cells #[.int .i64 nb, .slice R513 m472 d515, .slice H516 k475 q518, .int .i64 nc, .int .i64 ne] 25)
  have s542 := s531.alloc (.cells #[.int .i64 nb, .slice R513 m472 d515, .slice H516 k475 q518, .int .i64 nc, .int .i64 ne] 25)
  have s543 := s532.alloc (.cells #[.int .i64 nb, .slice R513 m472 d515, .slice H516 k475 q518, .int .i64 nc, .int .i64 ne] 25)
  have s544 := s533.alloc (.cells #[.int .i64 nb, .slice R513 m472 d515, .slice H516 k475 q518, .int .i64 nc, .int .i64 ne] 25)
  have s545 := s534.alloc (.cells #[.int .i64 nb, .slice R513 m472 d515, .slice H516 k475 q518, .int .i64 nc, .int .i64 ne] 25)
  have s546 := M3.alloc (.cells #[.int .i64 nb, .slice R513 m472 d515, .slice H516 k475 q518, .int .i64 nc, .int .i64 ne] 25)
  have s547 := M4.alloc (.cells #[.int .i64 nb, .slice R513 m472 d515, .slice H516 k475 q518, .int .i64 nc, .int .i64 ne] 25)
  have b548 := b524.alloc b524.size (.cells #[.int .i64 nb, .slice R513 m472 d515, .slice H516 k475 q518, .int .i64 nc, .int .i64 ne] 25)
  have c549 := x535.cell 0 rfl
  have c550 := x535.cell 1 rfl
  have c551 := x535.cell 2 rfl
  have c552 := x535.cell 3 rfl
  have c553 := x535.cell 4 rfl
  have c554 := x538.cell 0 rfl
  have c555 := x538.cell 1 rfl
  have c556 := x538.cell 2 rfl
  have c557 := x538.cell 3 rfl
  have c558 := x538.cell 4 rfl
  have c559 := x536.cell 0 rfl
  have c560 := x536.cell 1 rfl
  have c561 := x536.cell 2 rfl
  have c562 := x536.cell 3 rfl
  have c563 := x536.cell 4 rfl
  go_wp2_with fail
  clear c549 c550 c551 c552 c553 c554 c555 c556 c557 c558 c559 c560 c561 c562 c563
  obtain ⟨v564, hv565⟩ : ∃ v564, w522.alloc (.cells #[.int .i64 nb, .slice R513 m472 d515, .slice H516 k475 q518, .int .i64 nc, .int .i64 ne] 25) = v564 := ⟨_, rfl⟩
  have x535' : Bx v564 w522.heap.size 25 [.int .i64 nb, .slice R513 m472 d515, .slice H516 k475 q518, .int .i64 nc, .int .i64 ne] := by rw [← hv565]; exact x535
  rw [hv565] at b548 x536 x537 x538 s539 s540 s541 s542 s543 s544 s545 s546 s547 ⊢
  clear hv565 x535
  refine (wsame_yes nb R471 m472 d473 H474 k475 q476 nc ne nl ng R513 d515 H516 q518 _ s544 s545 s546 s547).mono ?_
  rintro e w567 ⟨rfl, hb566⟩
  have b569 := b548.trans (hb566.mono b548.size)
  have x570 := x536.kept hb566
  have x571 := x537.kept hb566
  have x572 := x538.kept hb566
  have x573 := x535'.kept hb566
  have s574 := s539.keep hb566
  have s575 := s540.keep hb566
  have s576 := s541.keep hb566
  have s577 := s542.keep hb566
  have s578 := s543.keep hb566
  have s579 := s544.keep hb566
  have s580 := s545.keep hb566
  have s581 := s546.keep hb566
  have s582 := s547.keep hb566
  have c583 := x570.cell 0 rfl
  have c584 := x570.cell 1 rfl
  have c585 := x570.cell 2 rfl
  have c586 := x570.cell 3 rfl
  have c587 := x570.cell 4 rfl
  go_wp2_with fail
  obtain ⟨vr, VR⟩ : ∃ v, readyR ⟨x0, l0, p0, y0, e0⟩ = v := ⟨_, rfl⟩; have VR' := Lib.hid VR; clear VR
  obtain ⟨vo, VO⟩ : ∃ v, overR ⟨x0, l0, p0, y0, e0⟩ = v := ⟨_, rfl⟩; have VO' := Lib.hid VO; clear VO
  obtain ⟨ve, VE⟩ : ∃ v, edgeR ⟨x0, l0, p0, y0, e0⟩ = v := ⟨_, rfl⟩; have VE' := Lib.hid VE; clear VE
  obtain ⟨vm, VM⟩ : ∃ v, wmay ⟨x0, l0, p0, y0, e0⟩ = v := ⟨_, rfl⟩; have VM' := Lib.hid VM; clear VM
  clear c583 c584 c585 c586 c587
  have x588 := x570.drew
  have x589 := x571.drew
  have s590 := s574.keep (Below.refl _ _).drew
  have s591 := s575.keep (Below.refl _ _).drew
  have s592 := s576.keep (Below.refl _ _).drew
  have s593 := s577.keep (Below.refl _ _).drew
  have s594 := s578.keep (Below.refl _ _).drew
  have b595 := b569.drew
  go_region_held3 (fun w' : World => w'.cell? ⟨w.heap.size, 0, none⟩ = some (.int .i64 x0) ∧ w'.cell? ⟨w.heap.size, 1, none⟩ = some (.slice a0 n0 c0) ∧ w'.cell? ⟨w.heap.size, 2, none⟩ = some (.slice g0 m0 d0) ∧ w'.cell? ⟨w.heap.size, 3, none⟩ = some (.int .i64 y0) ∧ w'.cell? ⟨w.heap.size, 4, none⟩ = some (.int .i64 e0))
    (first
      | exact ⟨x588.cell 0 rfl, x588.cell 1 rfl, x588.cell 2 rfl, x588.cell 3 rfl, x588.cell 4 rfl⟩
      | exact ⟨x600.cell 0 rfl, x600.cell 1 rfl, x600.cell 2 rfl, x600.cell 3 rfl, x600.cell 4 rfl⟩
      | exact ⟨x611.cell 0 rfl, x611.cell 1 rfl, x611.cell 2 rfl, x611.cell 3 rfl, x611.cell 4 rfl⟩
      | exact ⟨x622.cell 0 rfl, x622.cell 1 rfl, x622.cell 2 rfl, x622.cell 3 rfl, x622.cell 4 rfl⟩
      | exact ⟨x633.cell 0 rfl, x633.cell 1 rfl, x633.cell 2 rfl, x633.cell 3 rfl, x633.cell 4 rfl⟩
      | exact ⟨x644.cell 0 rfl, x644.cell 1 rfl, x644.cell 2 rfl, x644.cell 3 rfl, x644.cell 4 rfl⟩
      | exact ⟨x655.cell 0 rfl, x655.cell 1 rfl, x655.cell 2 rfl, x655.cell 3 rfl, x655.cell 4 rfl⟩
      | go_keep)
    (first
      | (go_at_call 21; refine (wready_any x0 a0 n0 c0 g0 m0 d0 y0 e0 l0 p0 _ s590 s591 (by omega)).mono ?_; rintro e w597 ⟨h598, hb596⟩; rw [VR'.out] at h598; subst h598; have b599 := b595.trans (hb596.mono b595.size); have x600 := x588.kept hb596; have x601 := x589.kept hb596; have s602 := s590.keep hb596; have s603 := s591.keep hb596; have s604 := s592.keep hb596; have s605 := s593.keep hb596; have s606 := s594.keep hb596)
      | (go_at_call 22; refine (rwready_any x0 a0 n0 c0 g0 m0 d0 y0 e0 l0 p0 _ s602 s603 (by omega)).mono ?_; rintro e w608 ⟨h609, hb607⟩; rw [VR'.out] at h609; subst h609; have b610 := b599.trans (hb607.mono b599.size); have x611 := x600.kept hb607; have x612 := x601.kept hb607; have s613 := s602.keep hb607; have s614 := s603.keep hb607; have s615 := s604.keep hb607; have s616 := s605.keep hb607; have s617 := s606.keep hb607)
      | (go_at_call 23; refine (wover_any x0 a0 n0 c0 g0 m0 d0 y0 e0 l0 p0 _ s613 s614 (by omega)).mono ?_; rintro e w619 ⟨h620, hb618⟩; rw [VO'.out] at h620; subst h620; have b621 := b610.trans (hb618.mono b610.size); have x622 := x611.kept hb618; have x623 := x612.kept hb618; have s624 := s613.keep hb618; have s625 := s614.keep hb618; have s626 := s615.keep hb618; have s627 := s616.keep hb618; have s628 := s617.keep hb618)
      | (go_at_call 24; refine (rwover_any x0 a0 n0 c0 g0 m0 d0 y0 e0 l0 p0 _ s624 s625 (by omega)).mono ?_; rintro e w630 ⟨h631, hb629⟩; rw [VO'.out] at h631; subst h631; have b632 := b621.trans (hb629.mono b621.size); have x633 := x622.kept hb629; have x634 := x623.kept hb629; have s635 := s624.keep hb629; have s636 := s625.keep hb629; have s637 := s626.keep hb629; have s638 := s627.keep hb629; have s639 := s628.keep hb629)
      | (go_at_call 25; refine (wedge_any x0 a0 n0 c0 g0 m0 d0 y0 e0 l0 p0 _ s635 s636 (by omega)).mono ?_; rintro e w641 ⟨h642, hb640⟩; rw [VE'.out] at h642; subst h642; have b643 := b632.trans (hb640.mono b632.size); have x644 := x633.kept hb640; have x645 := x634.kept hb640; have s646 := s635.keep hb640; have s647 := s636.keep hb640; have s648 := s637.keep hb640; have s649 := s638.keep hb640; have s650 := s639.keep hb640)
      | (go_at_call 26; refine (rwedge_any x0 a0 n0 c0 g0 m0 d0 y0 e0 l0 p0 _ s646 s647 (by omega)).mono ?_; rintro e w652 ⟨h653, hb651⟩; rw [VE'.out] at h653; subst h653; have b654 := b643.trans (hb651.mono b643.size); have x655 := x644.kept hb651; have x656 := x645.kept hb651; have s657 := s646.keep hb651; have s658 := s647.keep hb651; have s659 := s648.keep hb651; have s660 := s649.keep hb651; have s661 := s650.keep hb651))
  go_wp2_with fail
  have x662 := x655.drew
  have x663 := x656.drew
  have s664 := s657.keep (Below.refl _ _).drew
  have s665 := s658.keep (Below.refl _ _).drew
  have s666 := s659.keep (Below.refl _ _).drew
  have s667 := s660.keep (Below.refl _ _).drew
  have s668 := s661.keep (Below.refl _ _).drew
  have b669 := b654.drew
  go_region_held3 (fun w' : World => w'.cell? ⟨w.heap.size, 0, none⟩ = some (.int .i64 x0) ∧ w'.cell? ⟨w.heap.size, 1, none⟩ = some (.slice a0 n0 c0) ∧ w'.cell? ⟨w.heap.size, 2, none⟩ = some (.slice g0 m0 d0) ∧ w'.cell? ⟨w.heap.size, 3, none⟩ = some (.int .i64 y0) ∧ w'.cell? ⟨w.heap.size, 4, none⟩ = some (.int .i64 e0) ∧ w'.cell? ⟨w46.heap.size, 0, none⟩ = some (.int .i64 x0) ∧ w'.cell? ⟨w46.heap.size, 1, none⟩ = some (.slice R39 n0 q40) ∧ w'.cell? ⟨w46.heap.size, 2, none⟩ = some (.slice H41 m0 r42) ∧ w'.cell? ⟨w46.heap.size, 3, none⟩ = some (.int .i64 y0) ∧ w'.cell? ⟨w46.heap.size, 4, none⟩ = some (.int .i64 e0))
    (first
      | exact ⟨x662.cell 0 rfl, x662.cell 1 rfl, x662.cell 2 rfl, x662.cell 3 rfl, x662.cell 4 rfl, x663.cell 0 rfl, x663.cell 1 rfl, x663.cell 2 rfl, x663.cell 3 rfl, x663.cell 4 rfl⟩
      | exact ⟨x674.cell 0 rfl, x674.cell 1 rfl, x674.cell 2 rfl, x674.cell 3 rfl, x674.cell 4 rfl, x675.cell 0 rfl, x675.cell 1 rfl, x675.cell 2 rfl, x675.cell 3 rfl, x675.cell 4 rfl⟩
      | exact ⟨x685.cell 0 rfl, x685.cell 1 rfl, x685.cell 2 rfl, x685.cell 3 rfl, x685.cell 4 rfl, x686.cell 0 rfl, x686.cell 1 rfl, x686.cell 2 rfl, x686.cell 3 rfl, x686.cell 4 rfl⟩
      | exact ⟨x696.cell 0 rfl, x696.cell 1 rfl, x696.cell 2 rfl, x696.cell 3 rfl, x696.cell 4 rfl, x697.cell 0 rfl, x697.cell 1 rfl, x697.cell 2 rfl, x697.cell 3 rfl, x697.cell 4 rfl⟩
      | go_keep)
    (first
      | (go_at_call 13; refine (wsame_yes x0 a0 n0 c0 g0 m0 d0 y0 e0 l0 p0 R39 q40 H41 r42 _ s664 s665 s667 s668).mono ?_; rintro e w671 ⟨rfl, hb670⟩; have b673 := b669.trans (hb670.mono b669.size); have x674 := x662.kept hb670; have x675 := x663.kept hb670; have s676 := s664.keep hb670; have s677 := s665.keep hb670; have s678 := s666.keep hb670; have s679 := s667.keep hb670; have s680 := s668.keep hb670)
      | (go_at_call 27; refine (wvmay_any x0 a0 n0 c0 g0 m0 d0 y0 e0 l0 p0 _ s676 s677 (by omega)).mono ?_; rintro e w682 ⟨h683, hb681⟩; rw [VM'.out] at h683; subst h683; have b684 := b673.trans (hb681.mono b673.size); have x685 := x674.kept hb681; have x686 := x675.kept hb681; have s687 := s676.keep hb681; have s688 := s677.keep hb681; have s689 := s678.keep hb681; have s690 := s679.keep hb681; have s691 := s680.keep hb681)
      | (go_at_call 28; refine (rwmay_any x0 a0 n0 c0 g0 m0 d0 y0 e0 l0 p0 _ s687 s688 (by omega)).mono ?_; rintro e w693 ⟨h694, hb692⟩; rw [VM'.out] at h694; subst h694; have b695 := b684.trans (hb692.mono b684.size); have x696 := x685.kept hb692; have x697 := x686.kept hb692; have s698 := s687.keep hb692; have s699 := s688.keep hb692; have s700 := s689.keep hb692; have s701 := s690.keep hb692; have s702 := s691.keep hb692))
  go_wp2_with fail
  go_ret
  exact ⟨rfl, b695⟩
end Go.Proofs.Ytgiknfmagmfniaa.weaveTells
