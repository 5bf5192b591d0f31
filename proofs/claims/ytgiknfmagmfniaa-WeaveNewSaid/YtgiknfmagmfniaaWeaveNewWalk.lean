/- The walk of the law WeaveNew. -/
import Derived.Test.YtgiknfmagmfniaaProg
import Derived.Test.YtgiknfmagmfniaaWeAwake
import Derived.WalkKit
import Derived.WalkSpells
import Derived.Lib.Hide
import Derived.Below
import Derived.Outline
namespace Go.Proofs.Ytgiknfmagmfniaa.weaveNew
open Go.RowKit
set_option linter.unusedVariables false
set_option linter.unusedSimpArgs false

set_option maxHeartbeats 2000000 in
theorem walk (z0 z1 : Int) (w : World) (hz0 : W64 z0) (hz1 : W64 z1) :
    Calls Try.prog 7 #[.int .i64 z0, .int .i64 z1] w fun e w' => e = .returned (.bool true) ∧ Below w.heap.size w w' := by
  have hz0' := hz0; have hz1' := hz1; unfold W64 at hz0' hz1'
  go_enter Try.func7, Try.ntmps7
  go_wp2_with fail
  refine (awake_any _).mono ?_
  rintro e w2 ⟨rfl, hb1⟩
  have b4 := hb1
  by_cases h0 : 0 ≤ z0 ∧ z0 ≤ 65536
  case neg =>
    have hx : newR z0 = (zw, 1) := if_neg h0
    go_wp2_with fail
    refine (wnew_any z0 _).mono ?_
    rintro e w14 h15
    rw [hx] at h15
    obtain ⟨R5, m6, d7, H8, k9, q10, rfl, sb11, sq12, hb13⟩ := h15
    have b16 := b4.trans (hb13.mono b4.size)
    simp only [show zw.base = 0 from rfl, show zw.cap = 0 from rfl, show zw.en = 0 from rfl]
    by_cases hn : z0 < 0
    case pos =>
      have x17 := Bx.new w14 25 [.int .i64 0, .slice R5 m6 d7, .slice H8 k9 q10, .int .i64 0, .int .i64 0]
      have b18 := b16.alloc b16.size (.cells #[.int .i64 0, .slice R5 m6 d7, .slice H8 k9 q10, .int .i64 0, .int .i64 0] 25)
      have c19 := x17.cell 0 rfl
      have c20 := x17.cell 1 rfl
      have c21 := x17.cell 2 rfl
      have c22 := x17.cell 3 rfl
      have c23 := x17.cell 4 rfl
      go_wp2_with fail
      go_ret
      exact ⟨rfl, b18⟩
    case neg =>
      have hn2 : 65536 < z0 := by omega
      have x17 := Bx.new w14 25 [.int .i64 0, .slice R5 m6 d7, .slice H8 k9 q10, .int .i64 0, .int .i64 0]
      have b18 := b16.alloc b16.size (.cells #[.int .i64 0, .slice R5 m6 d7, .slice H8 k9 q10, .int .i64 0, .int .i64 0] 25)
      have c19 := x17.cell 0 rfl
      have c20 := x17.cell 1 rfl
      have c21 := x17.cell 2 rfl
      have c22 := x17.cell 3 rfl
      have c23 := x17.cell 4 rfl
      go_wp2_with fail
      go_ret
      exact ⟨rfl, b18⟩
  case pos =>
  have hx : newR z0 = (⟨0, [], [], z0, -1⟩, 0) := if_pos h0
  go_wp2_with fail
  refine (wnew_any z0 _).mono ?_
  rintro e w14 h15
  rw [hx] at h15
  obtain ⟨R5, m6, d7, H8, k9, q10, rfl, sb11, sq12, hb13⟩ := h15
  have b16 := b4.trans (hb13.mono b4.size)
  have S1 := sb11.sl
  have S2 := sq12.ss
  obtain rfl : m6 = 0 := S1.rd.len.symm
  obtain rfl : k9 = 0 := S2.rd.len.symm
  dsimp only
  obtain ⟨n1, n2, n3, n4⟩ := new_ready h0.1 h0.2
  have x17 := Bx.new w14 25 [.int .i64 0, .slice R5 0 d7, .slice H8 0 q10, .int .i64 z0, .int .i64 (-1)]
  have s18 := S1.alloc (.cells #[.int .i64 0, .slice R5 0 d7, .slice H8 0 q10, .int .i64 z0, .int .i64 (-1)] 25)
  have s19 := S2.alloc (.cells #[.int .i64 0, .slice R5 0 d7, .slice H8 0 q10, .int .i64 z0, .int .i64 (-1)] 25)
  have b20 := b16.alloc b16.size (.cells #[.int .i64 0, .slice R5 0 d7, .slice H8 0 q10, .int .i64 z0, .int .i64 (-1)] 25)
  have c21 := x17.cell 0 rfl
  have c22 := x17.cell 1 rfl
  have c23 := x17.cell 2 rfl
  have c24 := x17.cell 3 rfl
  have c25 := x17.cell 4 rfl
  go_wp2_with fail
  clear c21 c22 c23 c24 c25
  obtain ⟨v26, hv27⟩ : ∃ v26, w14.alloc (.cells #[.int .i64 0, .slice R5 0 d7, .slice H8 0 q10, .int .i64 z0, .int .i64 (-1)] 25) = v26 := ⟨_, rfl⟩
  have x17' : Bx v26 w14.heap.size 25 [.int .i64 0, .slice R5 0 d7, .slice H8 0 q10, .int .i64 z0, .int .i64 (-1)] := by rw [← hv27]; exact x17
  rw [hv27] at b20 s18 s19 ⊢
  clear hv27 x17
  have hsh := new_shut h0.1 h0.2 z1
  by_cases h1 : 0 ≤ z1 ∧ z1 ≤ 2305843009213693952
  case pos =>
    obtain ⟨hs1, hs2⟩ := hsh.1 h1
    refine (wshut_any 0 R5 0 d7 H8 0 q10 z0 (-1) [] [] _ s18 s19 (by omega) z1 hz1).mono ?_
    rintro e w37 h38
    rw [hs1] at h38
    obtain ⟨R28, m29, d30, H31, k32, q33, rfl, sb34, sq35, hb36⟩ := h38
    have b39 := b20.trans (hb36.mono b20.size)
    have x40 := x17'.kept hb36
    have s41 := s18.keep hb36
    have s42 := s19.keep hb36
    have S3 := sb34.sl
    have S4 := sq35.ss
    obtain rfl : m29 = 0 := S3.rd.len.symm
    obtain rfl : k32 = 0 := S4.rd.len.symm
    dsimp only
    have x43 := Bx.new w37 25 [.int .i64 0, .slice R28 0 d30, .slice H31 0 q33, .int .i64 z0, .int .i64 z1]
    have x44 := x40.alloc (.cells #[.int .i64 0, .slice R28 0 d30, .slice H31 0 q33, .int .i64 z0, .int .i64 z1] 25)
    have s45 := s41.alloc (.cells #[.int .i64 0, .slice R28 0 d30, .slice H31 0 q33, .int .i64 z0, .int .i64 z1] 25)
    have s46 := s42.alloc (.cells #[.int .i64 0, .slice R28 0 d30, .slice H31 0 q33, .int .i64 z0, .int .i64 z1] 25)
    have s47 := S3.alloc (.cells #[.int .i64 0, .slice R28 0 d30, .slice H31 0 q33, .int .i64 z0, .int .i64 z1] 25)
    have s48 := S4.alloc (.cells #[.int .i64 0, .slice R28 0 d30, .slice H31 0 q33, .int .i64 z0, .int .i64 z1] 25)
    have b49 := b39.alloc b39.size (.cells #[.int .i64 0, .slice R28 0 d30, .slice H31 0 q33, .int .i64 z0, .int .i64 z1] 25)
    have c50 := x43.cell 0 rfl
    have c51 := x43.cell 1 rfl
    have c52 := x43.cell 2 rfl
    have c53 := x43.cell 3 rfl
    have c54 := x43.cell 4 rfl
    have c55 := x44.cell 0 rfl
    have c56 := x44.cell 1 rfl
    have c57 := x44.cell 2 rfl
    have c58 := x44.cell 3 rfl
    have c59 := x44.cell 4 rfl
    go_wp2_with fail
    clear c50 c51 c52 c53 c54 c55 c56 c57 c58 c59
    obtain ⟨v60, hv61⟩ : ∃ v60, w37.alloc (.cells #[.int .i64 0, .slice R28 0 d30, .slice H31 0 q33, .int .i64 z0, .int .i64 z1] 25) = v60 := ⟨_, rfl⟩
    have x43' : Bx v60 w37.heap.size 25 [.int .i64 0, .slice R28 0 d30, .slice H31 0 q33, .int .i64 z0, .int .i64 z1] := by rw [← hv61]; exact x43
    rw [hv61] at b49 x44 s45 s46 s47 s48 ⊢
    clear hv61 x43
    by_cases h2 : z1 = 0
    case pos =>
      rw [decide_eq_true h2] at hs2
      refine (wover_any 0 R28 0 d30 H31 0 q33 z0 z1 [] [] _ s47 s48 (by omega)).mono ?_
      rintro e w63 ⟨h64, hb62⟩
      rw [hs2] at h64
      subst h64
      have b65 := b49.trans (hb62.mono b49.size)
      have x66 := x44.kept hb62
      have x67 := x43'.kept hb62
      have s68 := s45.keep hb62
      have s69 := s46.keep hb62
      have s70 := s47.keep hb62
      have s71 := s48.keep hb62
      have c72 := x66.cell 0 rfl
      have c73 := x66.cell 1 rfl
      have c74 := x66.cell 2 rfl
      have c75 := x66.cell 3 rfl
      have c76 := x66.cell 4 rfl
      go_wp2_with fail
      refine (wvmay_any 0 R5 0 d7 H8 0 q10 z0 (-1) [] [] _ s68 s69 (by omega)).mono ?_
      rintro e w78 ⟨h79, hb77⟩
      rw [n4] at h79
      subst h79
      clear c72 c73 c74 c75 c76
      have b80 := b65.trans (hb77.mono b65.size)
      have x81 := x66.kept hb77
      have x82 := x67.kept hb77
      have s83 := s68.keep hb77
      have s84 := s69.keep hb77
      have s85 := s70.keep hb77
      have s86 := s71.keep hb77
      have c87 := x81.cell 0 rfl
      have c88 := x81.cell 1 rfl
      have c89 := x81.cell 2 rfl
      have c90 := x81.cell 3 rfl
      have c91 := x81.cell 4 rfl
      go_wp2_with fail
      refine (wedge_any 0 R5 0 d7 H8 0 q10 z0 (-1) [] [] _ s83 s84 (by omega)).mono ?_
      rintro e w93 ⟨h94, hb92⟩
      rw [n2] at h94
      subst h94
      clear c87 c88 c89 c90 c91
      have b95 := b80.trans (hb92.mono b80.size)
      have x96 := x81.kept hb92
      have x97 := x82.kept hb92
      have s98 := s83.keep hb92
      have s99 := s84.keep hb92
      have s100 := s85.keep hb92
      have s101 := s86.keep hb92
      have c102 := x96.cell 0 rfl
      have c103 := x96.cell 1 rfl
      have c104 := x96.cell 2 rfl
      have c105 := x96.cell 3 rfl
      have c106 := x96.cell 4 rfl
      go_wp2_with fail
      refine (wready_any 0 R5 0 d7 H8 0 q10 z0 (-1) [] [] _ s98 s99 (by omega)).mono ?_
      rintro e w108 ⟨h109, hb107⟩
      rw [n1] at h109
      subst h109
      clear c102 c103 c104 c105 c106
      have b110 := b95.trans (hb107.mono b95.size)
      have x111 := x96.kept hb107
      have x112 := x97.kept hb107
      have s113 := s98.keep hb107
      have s114 := s99.keep hb107
      have s115 := s100.keep hb107
      have s116 := s101.keep hb107
      have c117 := x111.cell 0 rfl
      have c118 := x111.cell 1 rfl
      have c119 := x111.cell 2 rfl
      have c120 := x111.cell 3 rfl
      have c121 := x111.cell 4 rfl
      go_wp2_with fail
      refine (wover_any 0 R5 0 d7 H8 0 q10 z0 (-1) [] [] _ s113 s114 (by omega)).mono ?_
      rintro e w123 ⟨h124, hb122⟩
      rw [n3] at h124
      subst h124
      clear c117 c118 c119 c120 c121
      have b125 := b110.trans (hb122.mono b110.size)
      have x126 := x111.kept hb122
      have x127 := x112.kept hb122
      have s128 := s113.keep hb122
      have s129 := s114.keep hb122
      have s130 := s115.keep hb122
      have s131 := s116.keep hb122
      have c132 := x126.cell 0 rfl
      have c133 := x126.cell 1 rfl
      have c134 := x126.cell 2 rfl
      have c135 := x126.cell 3 rfl
      have c136 := x126.cell 4 rfl
      go_wp2_with fail
      go_ret
      exact ⟨rfl, b125⟩
    case neg =>
      rw [decide_eq_false h2] at hs2
      refine (wover_any 0 R28 0 d30 H31 0 q33 z0 z1 [] [] _ s47 s48 (by omega)).mono ?_
      rintro e w63 ⟨h64, hb62⟩
      rw [hs2] at h64
      subst h64
      have b65 := b49.trans (hb62.mono b49.size)
      have x66 := x44.kept hb62
      have x67 := x43'.kept hb62
      have s68 := s45.keep hb62
      have s69 := s46.keep hb62
      have s70 := s47.keep hb62
      have s71 := s48.keep hb62
      have c72 := x66.cell 0 rfl
      have c73 := x66.cell 1 rfl
      have c74 := x66.cell 2 rfl
      have c75 := x66.cell 3 rfl
      have c76 := x66.cell 4 rfl
      go_wp2_with fail
      refine (wvmay_any 0 R5 0 d7 H8 0 q10 z0 (-1) [] [] _ s68 s69 (by omega)).mono ?_
      rintro e w78 ⟨h79, hb77⟩
      rw [n4] at h79
      subst h79
      clear c72 c73 c74 c75 c76
      have b80 := b65.trans (hb77.mono b65.size)
      have x81 := x66.kept hb77
      have x82 := x67.kept hb77
      have s83 := s68.keep hb77
      have s84 := s69.keep hb77
      have s85 := s70.keep hb77
      have s86 := s71.keep hb77
      have c87 := x81.cell 0 rfl
      have c88 := x81.cell 1 rfl
      have c89 := x81.cell 2 rfl
      have c90 := x81.cell 3 rfl
      have c91 := x81.cell 4 rfl
      go_wp2_with fail
      refine (wedge_any 0 R5 0 d7 H8 0 q10 z0 (-1) [] [] _ s83 s84 (by omega)).mono ?_
      rintro e w93 ⟨h94, hb92⟩
      rw [n2] at h94
      subst h94
      clear c87 c88 c89 c90 c91
      have b95 := b80.trans (hb92.mono b80.size)
      have x96 := x81.kept hb92
      have x97 := x82.kept hb92
      have s98 := s83.keep hb92
      have s99 := s84.keep hb92
      have s100 := s85.keep hb92
      have s101 := s86.keep hb92
      have c102 := x96.cell 0 rfl
      have c103 := x96.cell 1 rfl
      have c104 := x96.cell 2 rfl
      have c105 := x96.cell 3 rfl
      have c106 := x96.cell 4 rfl
      go_wp2_with fail
      refine (wready_any 0 R5 0 d7 H8 0 q10 z0 (-1) [] [] _ s98 s99 (by omega)).mono ?_
      rintro e w108 ⟨h109, hb107⟩
      rw [n1] at h109
      subst h109
      clear c102 c103 c104 c105 c106
      have b110 := b95.trans (hb107.mono b95.size)
      have x111 := x96.kept hb107
      have x112 := x97.kept hb107
      have s113 := s98.keep hb107
      have s114 := s99.keep hb107
      have s115 := s100.keep hb107
      have s116 := s101.keep hb107
      have c117 := x111.cell 0 rfl
      have c118 := x111.cell 1 rfl
      have c119 := x111.cell 2 rfl
      have c120 := x111.cell 3 rfl
      have c121 := x111.cell 4 rfl
      go_wp2_with fail
      refine (wover_any 0 R5 0 d7 H8 0 q10 z0 (-1) [] [] _ s113 s114 (by omega)).mono ?_
      rintro e w123 ⟨h124, hb122⟩
      rw [n3] at h124
      subst h124
      clear c117 c118 c119 c120 c121
      have b125 := b110.trans (hb122.mono b110.size)
      have x126 := x111.kept hb122
      have x127 := x112.kept hb122
      have s128 := s113.keep hb122
      have s129 := s114.keep hb122
      have s130 := s115.keep hb122
      have s131 := s116.keep hb122
      have c132 := x126.cell 0 rfl
      have c133 := x126.cell 1 rfl
      have c134 := x126.cell 2 rfl
      have c135 := x126.cell 3 rfl
      have c136 := x126.cell 4 rfl
      go_wp2_with fail
      go_ret
      exact ⟨rfl, b125⟩
  case neg =>
    have hs1 := hsh.2 h1
    refine (wshut_any 0 R5 0 d7 H8 0 q10 z0 (-1) [] [] _ s18 s19 (by omega) z1 hz1).mono ?_
    rintro e w37 h38
    rw [hs1] at h38
    obtain ⟨R28, m29, d30, H31, k32, q33, rfl, sb34, sq35, hb36⟩ := h38
    have b39 := b20.trans (hb36.mono b20.size)
    have x40 := x17'.kept hb36
    have s41 := s18.keep hb36
    have s42 := s19.keep hb36
    by_cases h2 : z1 < 0
    case pos =>
      simp only [show zw.base = 0 from rfl, show zw.cap = 0 from rfl, show zw.en = 0 from rfl]
      have x43 := Bx.new w37 25 [.int .i64 0, .slice R28 m29 d30, .slice H31 k32 q33, .int .i64 0, .int .i64 0]
      have x44 := x40.alloc (.cells #[.int .i64 0, .slice R28 m29 d30, .slice H31 k32 q33, .int .i64 0, .int .i64 0] 25)
      have s45 := s41.alloc (.cells #[.int .i64 0, .slice R28 m29 d30, .slice H31 k32 q33, .int .i64 0, .int .i64 0] 25)
      have s46 := s42.alloc (.cells #[.int .i64 0, .slice R28 m29 d30, .slice H31 k32 q33, .int .i64 0, .int .i64 0] 25)
      have b47 := b39.alloc b39.size (.cells #[.int .i64 0, .slice R28 m29 d30, .slice H31 k32 q33, .int .i64 0, .int .i64 0] 25)
      have c48 := x43.cell 0 rfl
      have c49 := x43.cell 1 rfl
      have c50 := x43.cell 2 rfl
      have c51 := x43.cell 3 rfl
      have c52 := x43.cell 4 rfl
      have c53 := x44.cell 0 rfl
      have c54 := x44.cell 1 rfl
      have c55 := x44.cell 2 rfl
      have c56 := x44.cell 3 rfl
      have c57 := x44.cell 4 rfl
      go_wp2_with fail
      clear c48 c49 c50 c51 c52 c53 c54 c55 c56 c57
      obtain ⟨v58, hv59⟩ : ∃ v58, w37.alloc (.cells #[.int .i64 0, .slice R28 m29 d30, .slice H31 k32 q33, .int .i64 0, .int .i64 0] 25) = v58 := ⟨_, rfl⟩
      have x43' : Bx v58 w37.heap.size 25 [.int .i64 0, .slice R28 m29 d30, .slice H31 k32 q33, .int .i64 0, .int .i64 0] := by rw [← hv59]; exact x43
      rw [hv59] at b47 x44 s45 s46 ⊢
      clear hv59 x43
      refine (wvmay_any 0 R5 0 d7 H8 0 q10 z0 (-1) [] [] _ s45 s46 (by omega)).mono ?_
      rintro e w61 ⟨h62, hb60⟩
      rw [n4] at h62
      subst h62
      have b63 := b47.trans (hb60.mono b47.size)
      have x64 := x44.kept hb60
      have x65 := x43'.kept hb60
      have s66 := s45.keep hb60
      have s67 := s46.keep hb60
      have c68 := x64.cell 0 rfl
      have c69 := x64.cell 1 rfl
      have c70 := x64.cell 2 rfl
      have c71 := x64.cell 3 rfl
      have c72 := x64.cell 4 rfl
      go_wp2_with fail
      refine (wedge_any 0 R5 0 d7 H8 0 q10 z0 (-1) [] [] _ s66 s67 (by omega)).mono ?_
      rintro e w74 ⟨h75, hb73⟩
      rw [n2] at h75
      subst h75
      clear c68 c69 c70 c71 c72
      have b76 := b63.trans (hb73.mono b63.size)
      have x77 := x64.kept hb73
      have x78 := x65.kept hb73
      have s79 := s66.keep hb73
      have s80 := s67.keep hb73
      have c81 := x77.cell 0 rfl
      have c82 := x77.cell 1 rfl
      have c83 := x77.cell 2 rfl
      have c84 := x77.cell 3 rfl
      have c85 := x77.cell 4 rfl
      go_wp2_with fail
      refine (wready_any 0 R5 0 d7 H8 0 q10 z0 (-1) [] [] _ s79 s80 (by omega)).mono ?_
      rintro e w87 ⟨h88, hb86⟩
      rw [n1] at h88
      subst h88
      clear c81 c82 c83 c84 c85
      have b89 := b76.trans (hb86.mono b76.size)
      have x90 := x77.kept hb86
      have x91 := x78.kept hb86
      have s92 := s79.keep hb86
      have s93 := s80.keep hb86
      have c94 := x90.cell 0 rfl
      have c95 := x90.cell 1 rfl
      have c96 := x90.cell 2 rfl
      have c97 := x90.cell 3 rfl
      have c98 := x90.cell 4 rfl
      go_wp2_with fail
      refine (wover_any 0 R5 0 d7 H8 0 q10 z0 (-1) [] [] _ s92 s93 (by omega)).mono ?_
      rintro e w100 ⟨h101, hb99⟩
      rw [n3] at h101
      subst h101
      clear c94 c95 c96 c97 c98
      have b102 := b89.trans (hb99.mono b89.size)
      have x103 := x90.kept hb99
      have x104 := x91.kept hb99
      have s105 := s92.keep hb99
      have s106 := s93.keep hb99
      have c107 := x103.cell 0 rfl
      have c108 := x103.cell 1 rfl
      have c109 := x103.cell 2 rfl
      have c110 := x103.cell 3 rfl
      have c111 := x103.cell 4 rfl
      go_wp2_with fail
      go_ret
      exact ⟨rfl, b102⟩
    case neg =>
      have h3 : 2305843009213693952 < z1 := by omega
      simp only [show zw.base = 0 from rfl, show zw.cap = 0 from rfl, show zw.en = 0 from rfl]
      have x43 := Bx.new w37 25 [.int .i64 0, .slice R28 m29 d30, .slice H31 k32 q33, .int .i64 0, .int .i64 0]
      have x44 := x40.alloc (.cells #[.int .i64 0, .slice R28 m29 d30, .slice H31 k32 q33, .int .i64 0, .int .i64 0] 25)
      have s45 := s41.alloc (.cells #[.int .i64 0, .slice R28 m29 d30, .slice H31 k32 q33, .int .i64 0, .int .i64 0] 25)
      have s46 := s42.alloc (.cells #[.int .i64 0, .slice R28 m29 d30, .slice H31 k32 q33, .int .i64 0, .int .i64 0] 25)
      have b47 := b39.alloc b39.size (.cells #[.int .i64 0, .slice R28 m29 d30, .slice H31 k32 q33, .int .i64 0, .int .i64 0] 25)
      have c48 := x43.cell 0 rfl
      have c49 := x43.cell 1 rfl
      have c50 := x43.cell 2 rfl
      have c51 := x43.cell 3 rfl
      have c52 := x43.cell 4 rfl
      have c53 := x44.cell 0 rfl
      have c54 := x44.cell 1 rfl
      have c55 := x44.cell 2 rfl
      have c56 := x44.cell 3 rfl
      have c57 := x44.cell 4 rfl
      go_wp2_with fail
      clear c48 c49 c50 c51 c52 c53 c54 c55 c56 c57
      obtain ⟨v58, hv59⟩ : ∃ v58, w37.alloc (.cells #[.int .i64 0, .slice R28 m29 d30, .slice H31 k32 q33, .int .i64 0, .int .i64 0] 25) = v58 := ⟨_, rfl⟩
      have x43' : Bx v58 w37.heap.size 25 [.int .i64 0, .slice R28 m29 d30, .slice H31 k32 q33, .int .i64 0, .int .i64 0] := by rw [← hv59]; exact x43
      rw [hv59] at b47 x44 s45 s46 ⊢
      clear hv59 x43
      refine (wvmay_any 0 R5 0 d7 H8 0 q10 z0 (-1) [] [] _ s45 s46 (by omega)).mono ?_
      rintro e w61 ⟨h62, hb60⟩
      rw [n4] at h62
      subst h62
      have b63 := b47.trans (hb60.mono b47.size)
      have x64 := x44.kept hb60
      have x65 := x43'.kept hb60
      have s66 := s45.keep hb60
      have s67 := s46.keep hb60
      have c68 := x64.cell 0 rfl
      have c69 := x64.cell 1 rfl
      have c70 := x64.cell 2 rfl
      have c71 := x64.cell 3 rfl
      have c72 := x64.cell 4 rfl
      go_wp2_with fail
      refine (wedge_any 0 R5 0 d7 H8 0 q10 z0 (-1) [] [] _ s66 s67 (by omega)).mono ?_
      rintro e w74 ⟨h75, hb73⟩
      rw [n2] at h75
      subst h75
      clear c68 c69 c70 c71 c72
      have b76 := b63.trans (hb73.mono b63.size)
      have x77 := x64.kept hb73
      have x78 := x65.kept hb73
      have s79 := s66.keep hb73
      have s80 := s67.keep hb73
      have c81 := x77.cell 0 rfl
      have c82 := x77.cell 1 rfl
      have c83 := x77.cell 2 rfl
      have c84 := x77.cell 3 rfl
      have c85 := x77.cell 4 rfl
      go_wp2_with fail
      refine (wready_any 0 R5 0 d7 H8 0 q10 z0 (-1) [] [] _ s79 s80 (by omega)).mono ?_
      rintro e w87 ⟨h88, hb86⟩
      rw [n1] at h88
      subst h88
      clear c81 c82 c83 c84 c85
      have b89 := b76.trans (hb86.mono b76.size)
      have x90 := x77.kept hb86
      have x91 := x78.kept hb86
      have s92 := s79.keep hb86
      have s93 := s80.keep hb86
      have c94 := x90.cell 0 rfl
      have c95 := x90.cell 1 rfl
      have c96 := x90.cell 2 rfl
      have c97 := x90.cell 3 rfl
      have c98 := x90.cell 4 rfl
      go_wp2_with fail
      refine (wover_any 0 R5 0 d7 H8 0 q10 z0 (-1) [] [] _ s92 s93 (by omega)).mono ?_
      rintro e w100 ⟨h101, hb99⟩
      rw [n3] at h101
      subst h101
      clear c94 c95 c96 c97 c98
      have b102 := b89.trans (hb99.mono b89.size)
      have x103 := x90.kept hb99
      have x104 := x91.kept hb99
      have s105 := s92.keep hb99
      have s106 := s93.keep hb99
      have c107 := x103.cell 0 rfl
      have c108 := x103.cell 1 rfl
      have c109 := x103.cell 2 rfl
      have c110 := x103.cell 3 rfl
      have c111 := x103.cell 4 rfl
      go_wp2_with fail
      go_ret
      exact ⟨rfl, b102⟩
end Go.Proofs.Ytgiknfmagmfniaa.weaveNew
