/- The walk of the law KeepTells. -/
import Derived.Test.YtmnedaholdacnaaProg
import Derived.Test.YtmnedaholdacnaaKeAwake
import Derived.Test.YtmnedaholdacnaaKeLaw
import Derived.Test.YtmnedaholdacnaaKeRef4
import Derived.WalkKit
import Derived.WalkSpells
import Derived.Lib.Hide
import Derived.Below
import Derived.Outline
import Derived.Deep.RegionHeld3
namespace Go.Proofs.Ytmnedaholdacnaa.keepTells
open Go.RowKit
set_option linter.unusedVariables false
set_option linter.unusedSimpArgs false

set_option maxRecDepth 100000 in
set_option maxHeartbeats 4000000 in
theorem walk (x0 : Int) (a0 : Option Addr) (n0 c0 : Nat) (y0 : Int) (s0 : Bool) (l0 : List Int) (a1 : Option Addr) (n1 c1 : Nat) (l1 : List Int) (z2 z3 : Int) (w : World) (hx : W64 x0) (hy : W64 y0) (h0 : Sl w a0 n0 c0 l0) (h1 : Sl w a1 n1 c1 l1) (hz2 : W64 z2) (hz3 : W64 z3) :
    Calls Try.prog 3 #[.agg #[.int .i64 x0, .slice a0 n0 c0, .int .i64 y0, .bool s0], .slice a1 n1 c1, .int .i64 z2, .int .i64 z3] w fun e w' => e = .returned (.bool true) ∧ Below w.heap.size w w' := by
  unfold W64 at hx hy hz2 hz3
  have hl0 := h0.rd.len
  have x1 := Boxed4.new w 24 (.int .i64 x0) (.slice a0 n0 c0) (.int .i64 y0) (.bool s0)
  have s2 := h0.alloc (.cells #[.int .i64 x0, .slice a0 n0 c0, .int .i64 y0, .bool s0] 24)
  have s3 := h1.alloc (.cells #[.int .i64 x0, .slice a0 n0 c0, .int .i64 y0, .bool s0] 24)
  have b4 := (Below.refl w.heap.size w).alloc (Nat.le_refl _) (.cells #[.int .i64 x0, .slice a0 n0 c0, .int .i64 y0, .bool s0] 24)
  have c5 := x1.c0
  have c6 := x1.c1
  have c7 := x1.c2
  have c8 := x1.c3
  go_enter Try.func3, Try.ntmps3
  go_wp2_with fail
  clear c5 c6 c7 c8
  obtain ⟨v9, hv10⟩ : ∃ v9, w.alloc (.cells #[.int .i64 x0, .slice a0 n0 c0, .int .i64 y0, .bool s0] 24) = v9 := ⟨_, rfl⟩
  rw [hv10] at x1 b4 s2 s3 ⊢
  clear hv10
  refine (awake_any _).mono ?_
  rintro e w12 ⟨rfl, hb11⟩
  have b14 := b4.trans (hb11.mono b4.size)
  have x15 := x1.kept hb11
  have s16 := s2.keep hb11
  have s17 := s3.keep hb11
  have c18 := x15.c0
  have c19 := x15.c1
  have c20 := x15.c2
  have c21 := x15.c3
  by_cases d0 : n0 ≤ 2000
  case neg =>
    have D0 : (2000 : Int) < (n0 : Int) := by omega
    go_wp2_with fail
    go_ret
    exact ⟨rfl, b14⟩
  case pos =>
  have D0 : ¬ ((2000 : Int) < (n0 : Int)) := by omega
  by_cases d1 : n1 ≤ 2000
  case neg =>
    have D1 : (2000 : Int) < (n1 : Int) := by omega
    go_wp2_with fail
    go_ret
    exact ⟨rfl, b14⟩
  case pos =>
  have D1 : ¬ ((2000 : Int) < (n1 : Int)) := by omega
  go_wp2_with fail
  obtain ⟨WB, WH⟩ : ∃ WB, writeR ⟨x0, l0, y0, s0⟩ l1 = WB := ⟨_, rfl⟩
  obtain ⟨⟨Wb, Wl, Wc, Ws⟩, Wn, We⟩ := WB
  have WQ := Lib.hid WH; clear WH
  obtain ⟨AB, AH⟩ : ∃ AB, ackR ⟨x0, l0, y0, s0⟩ z2 = AB := ⟨_, rfl⟩
  obtain ⟨⟨Ab, Al, Ac, As⟩, Ae⟩ := AB
  have AQ := Lib.hid AH; clear AH
  obtain ⟨SB, SH⟩ : ∃ SB, shutR ⟨x0, l0, y0, s0⟩ = SB := ⟨_, rfl⟩
  obtain ⟨⟨Sb', Sl', Sc, Ss⟩, Se⟩ := SB
  have SQ := Lib.hid SH; clear SH
  obtain ⟨PB, PH⟩ : ∃ PB, partR ⟨x0, l0, y0, s0⟩ z2 z3 = PB := ⟨_, rfl⟩
  have PQ := Lib.hid PH; clear PH
  refine (own_any x0 a0 n0 c0 y0 s0 l0 _ s16 (by omega)).mono ?_
  rintro e w26 ⟨R22, d23, rfl, gt24, hb25⟩
  clear c18 c19 c20 c21
  have b27 := b14.trans (hb25.mono b14.size)
  have x28 := x15.kept hb25
  have s29 := s16.keep hb25
  have s30 := s17.keep hb25
  have so := gt24.sb'.sl
  have c31 := x28.c0
  have c32 := x28.c1
  have c33 := x28.c2
  have c34 := x28.c3
  have x35 := Boxed4.new w26 24 (.int .i64 x0) (.slice R22 n0 d23) (.int .i64 y0) (.bool s0)
  have x36 := x28.alloc (.cells #[.int .i64 x0, .slice R22 n0 d23, .int .i64 y0, .bool s0] 24)
  have s37 := s29.alloc (.cells #[.int .i64 x0, .slice R22 n0 d23, .int .i64 y0, .bool s0] 24)
  have s38 := s30.alloc (.cells #[.int .i64 x0, .slice R22 n0 d23, .int .i64 y0, .bool s0] 24)
  have s39 := so.alloc (.cells #[.int .i64 x0, .slice R22 n0 d23, .int .i64 y0, .bool s0] 24)
  have b40 := b27.alloc b27.size (.cells #[.int .i64 x0, .slice R22 n0 d23, .int .i64 y0, .bool s0] 24)
  have c41 := x36.c0
  have c42 := x36.c1
  have c43 := x36.c2
  have c44 := x36.c3
  go_wp2_with fail
  clear c31 c32 c33 c34 c41 c42 c43 c44
  obtain ⟨v45, hv46⟩ : ∃ v45, w26.alloc (.cells #[.int .i64 x0, .slice R22 n0 d23, .int .i64 y0, .bool s0] 24) = v45 := ⟨_, rfl⟩
  rw [hv46] at x35 b40 x36 s37 s38 s39 ⊢
  clear hv46
  refine (write_any x0 a0 n0 c0 y0 s0 l0 a1 n1 c1 l1 _ s37 (by omega) s38 (by omega)).mono ?_
  rintro e w52 h53
  rw [WQ.out] at h53
  obtain ⟨R47, m48, d49, rfl, s50, hb51⟩ := h53
  have b54 := b40.trans (hb51.mono b40.size)
  have x55 := x36.kept hb51
  have x56 := x35.kept hb51
  have s57 := s37.keep hb51
  have s58 := s38.keep hb51
  have s59 := s39.keep hb51
  have hl60 := s50.sl.rd.len
  have s61 := s50.sl
  have c62 := x55.c0
  have c63 := x55.c1
  have c64 := x55.c2
  have c65 := x55.c3
  have x66 := Boxed4.new w52 24 (.int .i64 Wb) (.slice R47 m48 d49) (.int .i64 Wc) (.bool Ws)
  have x67 := x55.alloc (.cells #[.int .i64 Wb, .slice R47 m48 d49, .int .i64 Wc, .bool Ws] 24)
  have x68 := x56.alloc (.cells #[.int .i64 Wb, .slice R47 m48 d49, .int .i64 Wc, .bool Ws] 24)
  have s69 := s57.alloc (.cells #[.int .i64 Wb, .slice R47 m48 d49, .int .i64 Wc, .bool Ws] 24)
  have s70 := s58.alloc (.cells #[.int .i64 Wb, .slice R47 m48 d49, .int .i64 Wc, .bool Ws] 24)
  have s71 := s59.alloc (.cells #[.int .i64 Wb, .slice R47 m48 d49, .int .i64 Wc, .bool Ws] 24)
  have s72 := s61.alloc (.cells #[.int .i64 Wb, .slice R47 m48 d49, .int .i64 Wc, .bool Ws] 24)
  have b73 := b54.alloc b54.size (.cells #[.int .i64 Wb, .slice R47 m48 d49, .int .i64 Wc, .bool Ws] 24)
  have c74 := x67.c0
  have c75 := x67.c1
  have c76 := x67.c2
  have c77 := x67.c3
  go_wp2_with fail
  clear c62 c63 c64 c65 c74 c75 c76 c77
  obtain ⟨v78, hv79⟩ : ∃ v78, w52.alloc (.cells #[.int .i64 Wb, .slice R47 m48 d49, .int .i64 Wc, .bool Ws] 24) = v78 := ⟨_, rfl⟩
  rw [hv79] at x66 b73 x67 x68 s69 s70 s71 s72 ⊢
  clear hv79
  refine (rwrite_any x0 a0 n0 c0 y0 s0 l0 a1 n1 c1 l1 _ s69 (by omega) s70 (by omega)).mono ?_
  rintro e w85 h86
  rw [WQ.out] at h86
  obtain ⟨R80, m81, d82, rfl, s83, hb84⟩ := h86
  have b87 := b73.trans (hb84.mono b73.size)
  have x88 := x67.kept hb84
  have x89 := x68.kept hb84
  have x90 := x66.kept hb84
  have s91 := s69.keep hb84
  have s92 := s70.keep hb84
  have s93 := s71.keep hb84
  have s94 := s72.keep hb84
  have hm95 : m48 = m81 := hl60.symm.trans s83.sl.rd.len
  subst hm95
  have s96 := s83.sl
  have c97 := x90.c0
  have c98 := x90.c1
  have c99 := x90.c2
  have c100 := x90.c3
  have x101 := Boxed4.new w85 24 (.int .i64 Wb) (.slice R80 m48 d82) (.int .i64 Wc) (.bool Ws)
  have x102 := x88.alloc (.cells #[.int .i64 Wb, .slice R80 m48 d82, .int .i64 Wc, .bool Ws] 24)
  have x103 := x89.alloc (.cells #[.int .i64 Wb, .slice R80 m48 d82, .int .i64 Wc, .bool Ws] 24)
  have x104 := x90.alloc (.cells #[.int .i64 Wb, .slice R80 m48 d82, .int .i64 Wc, .bool Ws] 24)
  have s105 := s91.alloc (.cells #[.int .i64 Wb, .slice R80 m48 d82, .int .i64 Wc, .bool Ws] 24)
  have s106 := s92.alloc (.cells #[.int .i64 Wb, .slice R80 m48 d82, .int .i64 Wc, .bool Ws] 24)
  have s107 := s93.alloc (.cells #[.int .i64 Wb, .slice R80 m48 d82, .int .i64 Wc, .bool Ws] 24)
  have s108 := s94.alloc (.cells #[.int .i64 Wb, .slice R80 m48 d82, .int .i64 Wc, .bool Ws] 24)
  have s109 := s96.alloc (.cells #[.int .i64 Wb, .slice R80 m48 d82, .int .i64 Wc, .bool Ws] 24)
  have b110 := b87.alloc b87.size (.cells #[.int .i64 Wb, .slice R80 m48 d82, .int .i64 Wc, .bool Ws] 24)
  have c111 := x104.c0
  have c112 := x104.c1
  have c113 := x104.c2
  have c114 := x104.c3
  have c115 := x101.c0
  have c116 := x101.c1
  have c117 := x101.c2
  have c118 := x101.c3
  go_wp2_with fail
  clear c97 c98 c99 c100 c111 c112 c113 c114 c115 c116 c117 c118
  obtain ⟨v119, hv120⟩ : ∃ v119, w85.alloc (.cells #[.int .i64 Wb, .slice R80 m48 d82, .int .i64 Wc, .bool Ws] 24) = v119 := ⟨_, rfl⟩
  rw [hv120] at x101 b110 x102 x103 x104 s105 s106 s107 s108 s109 ⊢
  clear hv120
  refine (ksame_yes Wb R47 m48 d49 Wc Ws R80 d82 Wl _ s108.rd s109.rd (by have := s108.le; have := s108.big; unfold maxLen at this; omega)).mono ?_
  rintro e w122 ⟨rfl, hb121⟩
  have b124 := b110.trans (hb121.mono b110.size)
  have x125 := x102.kept hb121
  have x126 := x103.kept hb121
  have x127 := x104.kept hb121
  have x128 := x101.kept hb121
  have s129 := s105.keep hb121
  have s130 := s106.keep hb121
  have s131 := s107.keep hb121
  have s132 := s108.keep hb121
  have s133 := s109.keep hb121
  have c134 := x125.c0
  have c135 := x125.c1
  have c136 := x125.c2
  have c137 := x125.c3
  go_wp2_with fail
  refine (ack_any x0 a0 n0 c0 y0 s0 l0 z2 _ s129 (by omega) hz2.1 hz2.2).mono ?_
  rintro e w143 h144
  rw [AQ.out] at h144
  obtain ⟨R138, m139, d140, rfl, s141, hb142⟩ := h144
  clear c134 c135 c136 c137
  have b145 := b124.trans (hb142.mono b124.size)
  have x146 := x125.kept hb142
  have x147 := x126.kept hb142
  have s148 := s129.keep hb142
  have s149 := s130.keep hb142
  have s150 := s131.keep hb142
  have hl151 := s141.sl.rd.len
  have s152 := s141.sl
  have c153 := x146.c0
  have c154 := x146.c1
  have c155 := x146.c2
  have c156 := x146.c3
  have x157 := Boxed4.new w143 24 (.int .i64 Ab) (.slice R138 m139 d140) (.int .i64 Ac) (.bool As)
  have x158 := x146.alloc (.cells #[.int .i64 Ab, .slice R138 m139 d140, .int .i64 Ac, .bool As] 24)
  have x159 := x147.alloc (.cells #[.int .i64 Ab, .slice R138 m139 d140, .int .i64 Ac, .bool As] 24)
  have s160 := s148.alloc (.cells #[.int .i64 Ab, .slice R138 m139 d140, .int .i64 Ac, .bool As] 24)
  have s161 := s149.alloc (.cells #[.int .i64 Ab, .slice R138 m139 d140, .int .i64 Ac, .bool As] 24)
  have s162 := s150.alloc (.cells #[.int .i64 Ab, .slice R138 m139 d140, .int .i64 Ac, .bool As] 24)
  have s163 := s152.alloc (.cells #[.int .i64 Ab, .slice R138 m139 d140, .int .i64 Ac, .bool As] 24)
  have b164 := b145.alloc b145.size (.cells #[.int .i64 Ab, .slice R138 m139 d140, .int .i64 Ac, .bool As] 24)
  have c165 := x158.c0
  have c166 := x158.c1
  have c167 := x158.c2
  have c168 := x158.c3
  go_wp2_with fail
  clear c153 c154 c155 c156 c165 c166 c167 c168
  obtain ⟨v169, hv170⟩ : ∃ v169, w143.alloc (.cells #[.int .i64 Ab, .slice R138 m139 d140, .int .i64 Ac, .bool As] 24) = v169 := ⟨_, rfl⟩
  rw [hv170] at x157 b164 x158 x159 s160 s161 s162 s163 ⊢
  clear hv170
  refine (rack_any x0 a0 n0 c0 y0 s0 l0 z2 _ s160 (by omega) hz2.1 hz2.2).mono ?_
  rintro e w176 h177
  rw [AQ.out] at h177
  obtain ⟨R171, m172, d173, rfl, s174, hb175⟩ := h177
  have b178 := b164.trans (hb175.mono b164.size)
  have x179 := x158.kept hb175
  have x180 := x159.kept hb175
  have x181 := x157.kept hb175
  have s182 := s160.keep hb175
  have s183 := s161.keep hb175
  have s184 := s162.keep hb175
  have s185 := s163.keep hb175
  have hm186 : m139 = m172 := hl151.symm.trans s174.sl.rd.len
  subst hm186
  have s187 := s174.sl
  have c188 := x181.c0
  have c189 := x181.c1
  have c190 := x181.c2
  have c191 := x181.c3
  have x192 := Boxed4.new w176 24 (.int .i64 Ab) (.slice R171 m139 d173) (.int .i64 Ac) (.bool As)
  have x193 := x179.alloc (.cells #[.int .i64 Ab, .slice R171 m139 d173, .int .i64 Ac, .bool As] 24)
  have x194 := x180.alloc (.cells #[.int .i64 Ab, .slice R171 m139 d173, .int .i64 Ac, .bool As] 24)
  have x195 := x181.alloc (.cells #[.int .i64 Ab, .slice R171 m139 d173, .int .i64 Ac, .bool As] 24)
  have s196 := s182.alloc (.cells #[.int .i64 Ab, .slice R171 m139 d173, .int .i64 Ac, .bool As] 24)
  have s197 := s183.alloc (.cells #[.int .i64 Ab, .slice R171 m139 d173, .int .i64 Ac, .bool As] 24)
  have s198 := s184.alloc (.cells #[.int .i64 Ab, .slice R171 m139 d173, .int .i64 Ac, .bool As] 24)
  have s199 := s185.alloc (.cells #[.int .i64 Ab, .slice R171 m139 d173, .int .i64 Ac, .bool As] 24)
  have s200 := s187.alloc (.cells #[.int .i64 Ab, .slice R171 m139 d173, .int .i64 Ac, .bool As] 24)
  have b201 := b178.alloc b178.size (.cells #[.int .i64 Ab, .slice R171 m139 d173, .int .i64 Ac, .bool As] 24)
  have c202 := x195.c0
  have c203 := x195.c1
  have c204 := x195.c2
  have c205 := x195.c3
  have c206 := x192.c0
  have c207 := x192.c1
  have c208 := x192.c2
  have c209 := x192.c3
  go_wp2_with fail
  clear c188 c189 c190 c191 c202 c203 c204 c205 c206 c207 c208 c209
  obtain ⟨v210, hv211⟩ : ∃ v210, w176.alloc (.cells #[.int .i64 Ab, .slice R171 m139 d173, .int .i64 Ac, .bool As] 24) = v210 := ⟨_, rfl⟩
  rw [hv211] at x192 b201 x193 x194 x195 s196 s197 s198 s199 s200 ⊢
  clear hv211
  refine (ksame_yes Ab R138 m139 d140 Ac As R171 d173 Al _ s199.rd s200.rd (by have := s199.le; have := s199.big; unfold maxLen at this; omega)).mono ?_
  rintro e w213 ⟨rfl, hb212⟩
  have b215 := b201.trans (hb212.mono b201.size)
  have x216 := x193.kept hb212
  have x217 := x194.kept hb212
  have x218 := x195.kept hb212
  have x219 := x192.kept hb212
  have s220 := s196.keep hb212
  have s221 := s197.keep hb212
  have s222 := s198.keep hb212
  have s223 := s199.keep hb212
  have s224 := s200.keep hb212
  have c225 := x216.c0
  have c226 := x216.c1
  have c227 := x216.c2
  have c228 := x216.c3
  go_wp2_with fail
  refine (shut_any x0 a0 n0 c0 y0 s0 l0 _ s220 (by omega)).mono ?_
  rintro e w234 h235
  rw [SQ.out] at h235
  obtain ⟨R229, m230, d231, rfl, s232, hb233⟩ := h235
  clear c225 c226 c227 c228
  have b236 := b215.trans (hb233.mono b215.size)
  have x237 := x216.kept hb233
  have x238 := x217.kept hb233
  have s239 := s220.keep hb233
  have s240 := s221.keep hb233
  have s241 := s222.keep hb233
  have hl242 := s232.sl.rd.len
  have s243 := s232.sl
  have c244 := x237.c0
  have c245 := x237.c1
  have c246 := x237.c2
  have c247 := x237.c3
  have x248 := Boxed4.new w234 24 (.int .i64 Sb') (.slice R229 m230 d231) (.int .i64 Sc) (.bool Ss)
  have x249 := x237.alloc (.cells #[.int .i64 Sb', .slice R229 m230 d231, .int .i64 Sc, .bool Ss] 24)
  have x250 := x238.alloc (.cells #[.int .i64 Sb', .slice R229 m230 d231, .int .i64 Sc, .bool Ss] 24)
  have s251 := s239.alloc (.cells #[.int .i64 Sb', .slice R229 m230 d231, .int .i64 Sc, .bool Ss] 24)
  have s252 := s240.alloc (.cells #[.int .i64 Sb', .slice R229 m230 d231, .int .i64 Sc, .bool Ss] 24)
  have s253 := s241.alloc (.cells #[.int .i64 Sb', .slice R229 m230 d231, .int .i64 Sc, .bool Ss] 24)
  have s254 := s243.alloc (.cells #[.int .i64 Sb', .slice R229 m230 d231, .int .i64 Sc, .bool Ss] 24)
  have b255 := b236.alloc b236.size (.cells #[.int .i64 Sb', .slice R229 m230 d231, .int .i64 Sc, .bool Ss] 24)
  have c256 := x249.c0
  have c257 := x249.c1
  have c258 := x249.c2
  have c259 := x249.c3
  go_wp2_with fail
  clear c244 c245 c246 c247 c256 c257 c258 c259
  obtain ⟨v260, hv261⟩ : ∃ v260, w234.alloc (.cells #[.int .i64 Sb', .slice R229 m230 d231, .int .i64 Sc, .bool Ss] 24) = v260 := ⟨_, rfl⟩
  rw [hv261] at x248 b255 x249 x250 s251 s252 s253 s254 ⊢
  clear hv261
  refine (rshut_any x0 a0 n0 c0 y0 s0 l0 _ s251 (by omega)).mono ?_
  rintro e w267 h268
  rw [SQ.out] at h268
  obtain ⟨R262, m263, d264, rfl, s265, hb266⟩ := h268
  have b269 := b255.trans (hb266.mono b255.size)
  have x270 := x249.kept hb266
  have x271 := x250.kept hb266
  have x272 := x248.kept hb266
  have s273 := s251.keep hb266
  have s274 := s252.keep hb266
  have s275 := s253.keep hb266
  have s276 := s254.keep hb266
  have hm277 : m230 = m263 := hl242.symm.trans s265.sl.rd.len
  subst hm277
  have s278 := s265.sl
  have c279 := x272.c0
  have c280 := x272.c1
  have c281 := x272.c2
  have c282 := x272.c3
  have x283 := Boxed4.new w267 24 (.int .i64 Sb') (.slice R262 m230 d264) (.int .i64 Sc) (.bool Ss)
  have x284 := x270.alloc (.cells #[.int .i64 Sb', .slice R262 m230 d264, .int .i64 Sc, .bool Ss] 24)
  have x285 := x271.alloc (.cells #[.int .i64 Sb', .slice R262 m230 d264, .int .i64 Sc, .bool Ss] 24)
  have x286 := x272.alloc (.cells #[.int .i64 Sb', .slice R262 m230 d264, .int .i64 Sc, .bool Ss] 24)
  have s287 := s273.alloc (.cells #[.int .i64 Sb', .slice R262 m230 d264, .int .i64 Sc, .bool Ss] 24)
  have s288 := s274.alloc (.cells #[.int .i64 Sb', .slice R262 m230 d264, .int .i64 Sc, .bool Ss] 24)
  have s289 := s275.alloc (.cells #[.int .i64 Sb', .slice R262 m230 d264, .int .i64 Sc, .bool Ss] 24)
  have s290 := s276.alloc (.cells #[.int .i64 Sb', .slice R262 m230 d264, .int .i64 Sc, .bool Ss] 24)
  have s291 := s278.alloc (.cells #[.int .i64 Sb', .slice R262 m230 d264, .int .i64 Sc, .bool Ss] 24)
  have b292 := b269.alloc b269.size (.cells #[.int .i64 Sb', .slice R262 m230 d264, .int .i64 Sc, .bool Ss] 24)
  have c293 := x286.c0
  have c294 := x286.c1
  have c295 := x286.c2
  have c296 := x286.c3
  have c297 := x283.c0
  have c298 := x283.c1
  have c299 := x283.c2
  have c300 := x283.c3
  go_wp2_with fail
  clear c279 c280 c281 c282 c293 c294 c295 c296 c297 c298 c299 c300
  obtain ⟨v301, hv302⟩ : ∃ v301, w267.alloc (.cells #[.int .i64 Sb', .slice R262 m230 d264, .int .i64 Sc, .bool Ss] 24) = v301 := ⟨_, rfl⟩
  rw [hv302] at x283 b292 x284 x285 x286 s287 s288 s289 s290 s291 ⊢
  clear hv302
  refine (ksame_yes Sb' R229 m230 d231 Sc Ss R262 d264 Sl' _ s290.rd s291.rd (by have := s290.le; have := s290.big; unfold maxLen at this; omega)).mono ?_
  rintro e w304 ⟨rfl, hb303⟩
  have b306 := b292.trans (hb303.mono b292.size)
  have x307 := x284.kept hb303
  have x308 := x285.kept hb303
  have x309 := x286.kept hb303
  have x310 := x283.kept hb303
  have s311 := s287.keep hb303
  have s312 := s288.keep hb303
  have s313 := s289.keep hb303
  have s314 := s290.keep hb303
  have s315 := s291.keep hb303
  have c316 := x307.c0
  have c317 := x307.c1
  have c318 := x307.c2
  have c319 := x307.c3
  go_wp2_with fail
  clear c316 c317 c318 c319
  have x320 := x307.drew
  have x321 := x308.drew
  have s322 := s311.keep (Below.refl _ _).drew
  have s323 := s312.keep (Below.refl _ _).drew
  have s324 := s313.keep (Below.refl _ _).drew
  have b325 := b306.drew
  go_region_held3 (fun w' => w'.cell? ⟨w.heap.size, 0, none⟩ = some (.int .i64 x0) ∧ w'.cell? ⟨w.heap.size, 1, none⟩ = some (.slice a0 n0 c0) ∧ w'.cell? ⟨w.heap.size, 2, none⟩ = some (.int .i64 y0) ∧ w'.cell? ⟨w.heap.size, 3, none⟩ = some (.bool s0))
    (first
      | exact ⟨x320.c0, x320.c1, x320.c2, x320.c3⟩
      | exact ⟨x334.c0, x334.c1, x334.c2, x334.c3⟩
      | exact ⟨x347.c0, x347.c1, x347.c2, x347.c3⟩
      | exact ⟨x357.c0, x357.c1, x357.c2, x357.c3⟩
      | go_keep)
    (first
      | (go_at_call 17; refine (part_any x0 a0 n0 c0 y0 s0 l0 z2 z3 _ s322 (by omega) hz2.1 hz2.2 hz3.2).mono ?_; rintro e w331 h332; rw [PQ.out] at h332; obtain ⟨R326, m327, d328, rfl, s329, hb330⟩ := h332; have b333 := b325.trans (hb330.mono b325.size); have x334 := x320.kept hb330; have x335 := x321.kept hb330; have s336 := s322.keep hb330; have s337 := s323.keep hb330; have s338 := s324.keep hb330; have hlP := s329.sl.rd.len; have sP1 := s329.sl)
      | (go_at_call 18; refine (rpart_any x0 a0 n0 c0 y0 s0 l0 z2 z3 _ s336 (by omega) hz2.1 hz2.2 hz3.2).mono ?_; rintro e w344 h345; rw [PQ.out] at h345; obtain ⟨R339, m340, d341, rfl, s342, hb343⟩ := h345; have b346 := b333.trans (hb343.mono b333.size); have x347 := x334.kept hb343; have x348 := x335.kept hb343; have s349 := s336.keep hb343; have s350 := s337.keep hb343; have s351 := s338.keep hb343; have s352 := sP1.keep hb343; have hmP : m327 = m340 := hlP.symm.trans s342.sl.rd.len; subst hmP; have sP2 := s342.sl)
      | (go_at_call 16; refine (same_yes _ _ _ _ _ PB _ s352.rd sP2.rd (by have := s352.le; have := s352.big; unfold maxLen at this; omega)).mono ?_; rintro e w354 ⟨rfl, hb353⟩; have b356 := b346.trans (hb353.mono b346.size); have x357 := x347.kept hb353; have x358 := x348.kept hb353; have s359 := s349.keep hb353; have s360 := s350.keep hb353; have s361 := s351.keep hb353; have s362 := s352.keep hb353; have s363 := sP2.keep hb353))
  go_wp2_with fail
  have x364 := x357.drew
  have x365 := x358.drew
  have s366 := s359.keep (Below.refl _ _).drew
  have s367 := s360.keep (Below.refl _ _).drew
  have s368 := s361.keep (Below.refl _ _).drew
  have b369 := b356.drew
  go_region_held3 (fun w' => w'.cell? ⟨w.heap.size, 0, none⟩ = some (.int .i64 x0) ∧ w'.cell? ⟨w.heap.size, 1, none⟩ = some (.slice a0 n0 c0) ∧ w'.cell? ⟨w.heap.size, 2, none⟩ = some (.int .i64 y0) ∧ w'.cell? ⟨w.heap.size, 3, none⟩ = some (.bool s0) ∧ w'.cell? ⟨w26.heap.size, 0, none⟩ = some (.int .i64 x0) ∧ w'.cell? ⟨w26.heap.size, 1, none⟩ = some (.slice R22 n0 d23) ∧ w'.cell? ⟨w26.heap.size, 2, none⟩ = some (.int .i64 y0) ∧ w'.cell? ⟨w26.heap.size, 3, none⟩ = some (.bool s0))
    (first
      | exact ⟨x364.c0, x364.c1, x364.c2, x364.c3, x365.c0, x365.c1, x365.c2, x365.c3⟩
      | exact ⟨x374.c0, x374.c1, x374.c2, x374.c3, x375.c0, x375.c1, x375.c2, x375.c3⟩
      | exact ⟨x383.c0, x383.c1, x383.c2, x383.c3, x384.c0, x384.c1, x384.c2, x384.c3⟩
      | exact ⟨x392.c0, x392.c1, x392.c2, x392.c3, x393.c0, x393.c1, x393.c2, x393.c3⟩
      | exact ⟨x401.c0, x401.c1, x401.c2, x401.c3, x402.c0, x402.c1, x402.c2, x402.c3⟩
      | exact ⟨x410.c0, x410.c1, x410.c2, x410.c3, x411.c0, x411.c1, x411.c2, x411.c3⟩
      | go_keep)
    (first
      | (go_at_call 11; refine (ksame_yes x0 a0 n0 c0 y0 s0 R22 d23 l0 _ s366.rd s368.rd (by omega)).mono ?_; rintro e w371 ⟨rfl, hb370⟩; have b373 := b369.trans (hb370.mono b369.size); have x374 := x364.kept hb370; have x375 := x365.kept hb370; have s376 := s366.keep hb370; have s377 := s367.keep hb370; have s378 := s368.keep hb370)
      | (go_at_call 19; refine (may_any x0 a0 n0 c0 y0 s0 l0 _ hl0 (by omega)).mono ?_; rintro e w380 ⟨rfl, hb379⟩; have b382 := b373.trans (hb379.mono b373.size); have x383 := x374.kept hb379; have x384 := x375.kept hb379; have s385 := s376.keep hb379; have s386 := s377.keep hb379; have s387 := s378.keep hb379)
      | (go_at_call 20; refine (rmay_any x0 a0 n0 c0 y0 s0 l0 _ hl0 (by omega)).mono ?_; rintro e w389 ⟨rfl, hb388⟩; have b391 := b382.trans (hb388.mono b382.size); have x392 := x383.kept hb388; have x393 := x384.kept hb388; have s394 := s385.keep hb388; have s395 := s386.keep hb388; have s396 := s387.keep hb388)
      | (go_at_call 21; refine (end_any x0 a0 n0 c0 y0 s0 l0 _ hl0 (by omega)).mono ?_; rintro e w398 ⟨rfl, hb397⟩; have b400 := b391.trans (hb397.mono b391.size); have x401 := x392.kept hb397; have x402 := x393.kept hb397; have s403 := s394.keep hb397; have s404 := s395.keep hb397; have s405 := s396.keep hb397)
      | (go_at_call 22; refine (rend_any x0 a0 n0 c0 y0 s0 l0 _ hl0 (by omega)).mono ?_; rintro e w407 ⟨rfl, hb406⟩; have b409 := b400.trans (hb406.mono b400.size); have x410 := x401.kept hb406; have x411 := x402.kept hb406; have s412 := s403.keep hb406; have s413 := s404.keep hb406; have s414 := s405.keep hb406))
  go_wp2_with fail
  go_ret
  exact ⟨rfl, b409⟩
end Go.Proofs.Ytmnedaholdacnaa.keepTells
