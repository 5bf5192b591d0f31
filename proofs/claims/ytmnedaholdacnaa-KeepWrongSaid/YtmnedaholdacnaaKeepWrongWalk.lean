/- The walk of the law KeepWrong. -/
import Derived.Test.YtmnedaholdacnaaProg
import Derived.Test.YtmnedaholdacnaaKeAwake
import Derived.Test.YtmnedaholdacnaaKeLaw
import Derived.WalkKit
import Derived.WalkSpells
import Derived.Lib.Hide
import Derived.Below
import Derived.Outline
namespace Go.Proofs.Ytmnedaholdacnaa.keepWrong
open Go.RowKit
set_option linter.unusedVariables false
set_option linter.unusedSimpArgs false

set_option maxHeartbeats 2000000 in
theorem walk (x0 : Int) (a0 : Option Addr) (n0 c0 : Nat) (y0 : Int) (s0 : Bool) (l0 : List Int) (a1 : Option Addr) (n1 c1 : Nat) (l1 : List Int) (z2 : Int) (w : World) (hx : W64 x0) (hy : W64 y0) (h0 : Sl w a0 n0 c0 l0) (h1 : Sl w a1 n1 c1 l1) (hz : W64 z2) :
    Calls Try.prog 6 #[.agg #[.int .i64 x0, .slice a0 n0 c0, .int .i64 y0, .bool s0], .slice a1 n1 c1, .int .i64 z2] w fun e w' => e = .returned (.bool true) ∧ Below w.heap.size w w' := by
  unfold W64 at hx hy hz
  have hl0 := h0.rd.len
  have x1 := Boxed4.new w 24 (.int .i64 x0) (.slice a0 n0 c0) (.int .i64 y0) (.bool s0)
  have s2 := h0.alloc (.cells #[.int .i64 x0, .slice a0 n0 c0, .int .i64 y0, .bool s0] 24)
  have s3 := h1.alloc (.cells #[.int .i64 x0, .slice a0 n0 c0, .int .i64 y0, .bool s0] 24)
  have b4 := (Below.refl w.heap.size w).alloc (Nat.le_refl _) (.cells #[.int .i64 x0, .slice a0 n0 c0, .int .i64 y0, .bool s0] 24)
  have c5 := x1.c0
  have c6 := x1.c1
  have c7 := x1.c2
  have c8 := x1.c3
  go_enter Try.func6, Try.ntmps6
  go_wp2_with fail
  clear c5 c6 c7 c8
  obtain ⟨v9, hv10⟩ : ∃ v9, w.alloc (.cells #[.int .i64 x0, .slice a0 n0 c0, .int .i64 y0, .bool s0] 24) = v9 := ⟨_, rfl⟩
  rw [hv10] at x1 b4 s2 s3 ⊢
  clear hv10
  refine (awake_any _).mono ?_
  rintro e w12 ⟨rfl, hb11⟩
  have b14 := b4.trans (hb11.mono b4.size)
  have x15 := x1.kept hb11
  have s16 := s2.keep hb11
  have s17 := s3.keep hb11
  have c18 := x15.c0
  have c19 := x15.c1
  have c20 := x15.c2
  have c21 := x15.c3
  by_cases d0 : n0 ≤ 2000
  case neg =>
    have D0 : (2000 : Int) < (n0 : Int) := by omega
    go_wp2_with fail
    go_ret
    exact ⟨rfl, b14⟩
  case pos =>
  have D0 : ¬ ((2000 : Int) < (n0 : Int)) := by omega
  by_cases d1 : n1 ≤ 2000
  case neg =>
    have D1 : (2000 : Int) < (n1 : Int) := by omega
    go_wp2_with fail
    go_ret
    exact ⟨rfl, b14⟩
  case pos =>
  have D1 : ¬ ((2000 : Int) < (n1 : Int)) := by omega
  go_wp2_with fail
  cases hk : kmay ⟨x0, l0, y0, s0⟩ with
  | true =>
    refine (may_any x0 a0 n0 c0 y0 s0 l0 _ hl0 (by omega)).mono ?_
    rintro e w23 ⟨h24, hb22⟩
    rw [hk] at h24
    subst h24
    clear c18 c19 c20 c21
    have b25 := b14.trans (hb22.mono b14.size)
    have x26 := x15.kept hb22
    have s27 := s16.keep hb22
    have s28 := s17.keep hb22
    go_wp2_with fail
    go_ret
    exact ⟨rfl, b25⟩
  | false =>
    refine (may_any x0 a0 n0 c0 y0 s0 l0 _ hl0 (by omega)).mono ?_
    rintro e w23 ⟨h24, hb22⟩
    rw [hk] at h24
    subst h24
    clear c18 c19 c20 c21
    have b25 := b14.trans (hb22.mono b14.size)
    have x26 := x15.kept hb22
    have s27 := s16.keep hb22
    have s28 := s17.keep hb22
    have c29 := x26.c0
    have c30 := x26.c1
    have c31 := x26.c2
    have c32 := x26.c3
    go_wp2_with fail
    refine (write_any x0 a0 n0 c0 y0 s0 l0 a1 n1 c1 l1 _ s27 (by omega) s28 (by omega)).mono ?_
    rintro e w38 h39
    rw [write_bad hk] at h39
    obtain ⟨R33, m34, d35, rfl, s36, hb37⟩ := h39
    clear c29 c30 c31 c32
    have b40 := b25.trans (hb37.mono b25.size)
    have x41 := x26.kept hb37
    have s42 := s27.keep hb37
    have s43 := s28.keep hb37
    obtain rfl : m34 = 0 := s36.sl.rd.len.symm
    have c44 := x41.c0
    have c45 := x41.c1
    have c46 := x41.c2
    have c47 := x41.c3
    have x48 := Boxed4.new w38 24 (.int .i64 0) (.slice R33 0 d35) (.int .i64 0) (.bool false)
    have x49 := x41.alloc (.cells #[.int .i64 0, .slice R33 0 d35, .int .i64 0, .bool false] 24)
    have s50 := s42.alloc (.cells #[.int .i64 0, .slice R33 0 d35, .int .i64 0, .bool false] 24)
    have s51 := s43.alloc (.cells #[.int .i64 0, .slice R33 0 d35, .int .i64 0, .bool false] 24)
    have b52 := b40.alloc b40.size (.cells #[.int .i64 0, .slice R33 0 d35, .int .i64 0, .bool false] 24)
    have c53 := x48.c0
    have c54 := x48.c1
    have c55 := x48.c2
    have c56 := x48.c3
    have c57 := x49.c0
    have c58 := x49.c1
    have c59 := x49.c2
    have c60 := x49.c3
    go_wp2_with fail
    clear c44 c45 c46 c47 c53 c54 c55 c56 c57 c58 c59 c60
    obtain ⟨v61, hv62⟩ : ∃ v61, w38.alloc (.cells #[.int .i64 0, .slice R33 0 d35, .int .i64 0, .bool false] 24) = v61 := ⟨_, rfl⟩
    rw [hv62] at x48 b52 x49 s50 s51 ⊢
    clear hv62
    refine (ack_any x0 a0 n0 c0 y0 s0 l0 z2 _ s50 (by omega) hz.1 hz.2).mono ?_
    rintro e w68 h69
    rw [ack_bad hk] at h69
    obtain ⟨R63, m64, d65, rfl, s66, hb67⟩ := h69
    have b70 := b52.trans (hb67.mono b52.size)
    have x71 := x49.kept hb67
    have x72 := x48.kept hb67
    have s73 := s50.keep hb67
    have s74 := s51.keep hb67
    obtain rfl : m64 = 0 := s66.sl.rd.len.symm
    have c75 := x71.c0
    have c76 := x71.c1
    have c77 := x71.c2
    have c78 := x71.c3
    have x79 := Boxed4.new w68 24 (.int .i64 0) (.slice R63 0 d65) (.int .i64 0) (.bool false)
    have x80 := x71.alloc (.cells #[.int .i64 0, .slice R63 0 d65, .int .i64 0, .bool false] 24)
    have x81 := x72.alloc (.cells #[.int .i64 0, .slice R63 0 d65, .int .i64 0, .bool false] 24)
    have s82 := s73.alloc (.cells #[.int .i64 0, .slice R63 0 d65, .int .i64 0, .bool false] 24)
    have s83 := s74.alloc (.cells #[.int .i64 0, .slice R63 0 d65, .int .i64 0, .bool false] 24)
    have b84 := b70.alloc b70.size (.cells #[.int .i64 0, .slice R63 0 d65, .int .i64 0, .bool false] 24)
    have c85 := x80.c0
    have c86 := x80.c1
    have c87 := x80.c2
    have c88 := x80.c3
    go_wp2_with fail
    clear c75 c76 c77 c78 c85 c86 c87 c88
    obtain ⟨v89, hv90⟩ : ∃ v89, w68.alloc (.cells #[.int .i64 0, .slice R63 0 d65, .int .i64 0, .bool false] 24) = v89 := ⟨_, rfl⟩
    rw [hv90] at x79 b84 x80 x81 s82 s83 ⊢
    clear hv90
    refine (shut_any x0 a0 n0 c0 y0 s0 l0 _ s82 (by omega)).mono ?_
    rintro e w96 h97
    rw [shut_bad hk] at h97
    obtain ⟨R91, m92, d93, rfl, s94, hb95⟩ := h97
    have b98 := b84.trans (hb95.mono b84.size)
    have x99 := x80.kept hb95
    have x100 := x81.kept hb95
    have x101 := x79.kept hb95
    have s102 := s82.keep hb95
    have s103 := s83.keep hb95
    obtain rfl : m92 = 0 := s94.sl.rd.len.symm
    have x104 := Boxed4.new w96 24 (.int .i64 0) (.slice R91 0 d93) (.int .i64 0) (.bool false)
    have x105 := x99.alloc (.cells #[.int .i64 0, .slice R91 0 d93, .int .i64 0, .bool false] 24)
    have x106 := x100.alloc (.cells #[.int .i64 0, .slice R91 0 d93, .int .i64 0, .bool false] 24)
    have x107 := x101.alloc (.cells #[.int .i64 0, .slice R91 0 d93, .int .i64 0, .bool false] 24)
    have s108 := s102.alloc (.cells #[.int .i64 0, .slice R91 0 d93, .int .i64 0, .bool false] 24)
    have s109 := s103.alloc (.cells #[.int .i64 0, .slice R91 0 d93, .int .i64 0, .bool false] 24)
    have b110 := b98.alloc b98.size (.cells #[.int .i64 0, .slice R91 0 d93, .int .i64 0, .bool false] 24)
    have c111 := x105.c0
    have c112 := x105.c1
    have c113 := x105.c2
    have c114 := x105.c3
    have c115 := x106.c0
    have c116 := x106.c1
    have c117 := x106.c2
    have c118 := x106.c3
    have c119 := x107.c0
    have c120 := x107.c1
    have c121 := x107.c2
    have c122 := x107.c3
    have c123 := x104.c0
    have c124 := x104.c1
    have c125 := x104.c2
    have c126 := x104.c3
    go_wp2_with fail
    clear c111 c112 c113 c114 c115 c116 c117 c118 c119 c120 c121 c122 c123 c124 c125 c126
    obtain ⟨v127, hv128⟩ : ∃ v127, w96.alloc (.cells #[.int .i64 0, .slice R91 0 d93, .int .i64 0, .bool false] 24) = v127 := ⟨_, rfl⟩
    rw [hv128] at x104 b110 x105 x106 x107 s108 s109 ⊢
    clear hv128
    refine (part_any x0 a0 n0 c0 y0 s0 l0 z2 9 _ s108 (by omega) hz.1 hz.2 (by omega)).mono ?_
    rintro e w134 h135
    rw [part_bad hk] at h135
    obtain ⟨R129, m130, d131, rfl, s132, hb133⟩ := h135
    have b136 := b110.trans (hb133.mono b110.size)
    have x137 := x105.kept hb133
    have x138 := x106.kept hb133
    have x139 := x107.kept hb133
    have x140 := x104.kept hb133
    have s141 := s108.keep hb133
    have s142 := s109.keep hb133
    obtain rfl : m130 = 0 := s132.sl.rd.len.symm
    have c143 := x137.c0
    have c144 := x137.c1
    have c145 := x137.c2
    have c146 := x137.c3
    go_wp2_with fail
    refine (end_any x0 a0 n0 c0 y0 s0 l0 _ hl0 (by omega)).mono ?_
    rintro e w148 ⟨h149, hb147⟩
    rw [end_bad hk] at h149
    subst h149
    clear c143 c144 c145 c146
    have b150 := b136.trans (hb147.mono b136.size)
    have x151 := x137.kept hb147
    have x152 := x138.kept hb147
    have x153 := x139.kept hb147
    have x154 := x140.kept hb147
    have s155 := s141.keep hb147
    have s156 := s142.keep hb147
    go_wp2_with fail
    go_ret
    exact ⟨rfl, b150⟩
end Go.Proofs.Ytmnedaholdacnaa.keepWrong
