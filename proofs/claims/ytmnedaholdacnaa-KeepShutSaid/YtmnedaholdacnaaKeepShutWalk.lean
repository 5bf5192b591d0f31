/- The walk of the law KeepShut. -/
import Derived.Test.YtmnedaholdacnaaProg
import Derived.Test.YtmnedaholdacnaaKeAwake
import Derived.Test.YtmnedaholdacnaaKeLaw
import Derived.WalkKit
import Derived.WalkSpells
import Derived.Lib.Hide
import Derived.Below
import Derived.Outline
import Derived.Deep.RegionHeld3
namespace Go.Proofs.Ytmnedaholdacnaa.keepShut
open Go.RowKit
set_option linter.unusedVariables false
set_option linter.unusedSimpArgs false

set_option maxRecDepth 100000 in
set_option maxHeartbeats 2000000 in
theorem walk (x0 : Int) (a0 : Option Addr) (n0 c0 : Nat) (y0 : Int) (s0 : Bool) (l0 : List Int) (a1 : Option Addr) (n1 c1 : Nat) (l1 : List Int) (z2 : Int) (w : World) (hx : W64 x0) (hy : W64 y0) (h0 : Sl w a0 n0 c0 l0) (h1 : Sl w a1 n1 c1 l1) (hz : W64 z2) :
    Calls Try.prog 5 #[.agg #[.int .i64 x0, .slice a0 n0 c0, .int .i64 y0, .bool s0], .slice a1 n1 c1, .int .i64 z2] w fun e w' => e = .returned (.bool true) ∧ Below w.heap.size w w' := by
  unfold W64 at hx hy hz
  have hl0 := h0.rd.len
  have x1 := Boxed4.new w 24 (.int .i64 x0) (.slice a0 n0 c0) (.int .i64 y0) (.bool s0)
  have s2 := h0.alloc (.cells #[.int .i64 x0, .slice a0 n0 c0, .int .i64 y0, .bool s0] 24)
  have s3 := h1.alloc (.cells #[.int .i64 x0, .slice a0 n0 c0, .int .i64 y0, .bool s0] 24)
  have b4 := (Below.refl w.heap.size w).alloc (Nat.le_refl _) (.cells #[.int .i64 x0, .slice a0 n0 c0, .int .i64 y0, .bool s0] 24)
  have c5 := x1.c0
  have c6 := x1.c1
  have c7 := x1.c2
  have c8 := x1.c3
  go_enter Try.func5, Try.ntmps5
  go_wp2_with fail
  clear c5 c6 c7 c8
  obtain ⟨v9, hv10⟩ : ∃ v9, w.alloc (.cells #[.int .i64 x0, .slice a0 n0 c0, .int .i64 y0, .bool s0] 24) = v9 := ⟨_, rfl⟩
  rw [hv10] at x1 b4 s2 s3 ⊢
  clear hv10
  refine (awake_any _).mono ?_
  rintro e w12 ⟨rfl, hb11⟩
  have b14 := b4.trans (hb11.mono b4.size)
  have x15 := x1.kept hb11
  have s16 := s2.keep hb11
  have s17 := s3.keep hb11
  have c18 := x15.c0
  have c19 := x15.c1
  have c20 := x15.c2
  have c21 := x15.c3
  by_cases d0 : n0 ≤ 2000
  case neg =>
    have D0 : (2000 : Int) < (n0 : Int) := by omega
    go_wp2_with fail
    go_ret
    exact ⟨rfl, b14⟩
  case pos =>
  have D0 : ¬ ((2000 : Int) < (n0 : Int)) := by omega
  by_cases d1 : n1 ≤ 2000
  case neg =>
    have D1 : (2000 : Int) < (n1 : Int) := by omega
    go_wp2_with fail
    go_ret
    exact ⟨rfl, b14⟩
  case pos =>
  have D1 : ¬ ((2000 : Int) < (n1 : Int)) := by omega
  go_wp2_with fail
  cases hk : kmay ⟨x0, l0, y0, s0⟩ with
  | false =>
    refine (may_any x0 a0 n0 c0 y0 s0 l0 _ hl0 (by omega)).mono ?_
    rintro e w23 ⟨h24, hb22⟩
    rw [hk] at h24
    subst h24
    clear c18 c19 c20 c21
    have b25 := b14.trans (hb22.mono b14.size)
    have x26 := x15.kept hb22
    have s27 := s16.keep hb22
    have s28 := s17.keep hb22
    go_wp2_with fail
    go_ret
    exact ⟨rfl, b25⟩
  | true =>
    refine (may_any x0 a0 n0 c0 y0 s0 l0 _ hl0 (by omega)).mono ?_
    rintro e w23 ⟨h24, hb22⟩
    rw [hk] at h24
    subst h24
    clear c18 c19 c20 c21
    have b25 := b14.trans (hb22.mono b14.size)
    have x26 := x15.kept hb22
    have s27 := s16.keep hb22
    have s28 := s17.keep hb22
    have c29 := x26.c0
    have c30 := x26.c1
    have c31 := x26.c2
    have c32 := x26.c3
    go_wp2_with fail
    refine (shut_any x0 a0 n0 c0 y0 s0 l0 _ s27 (by omega)).mono ?_
    rintro e w38 h39
    rw [shut_ok hk] at h39
    obtain ⟨R33, m34, d35, rfl, s36, hb37⟩ := h39
    clear c29 c30 c31 c32
    have b40 := b25.trans (hb37.mono b25.size)
    have x41 := x26.kept hb37
    have s42 := s27.keep hb37
    have s43 := s28.keep hb37
    have hm44 : n0 = m34 := hl0.symm.trans s36.sl.rd.len
    subst hm44
    have c45 := x41.c0
    have c46 := x41.c1
    have c47 := x41.c2
    have c48 := x41.c3
    have s1 := s36.sl
    have x49 := Boxed4.new w38 24 (.int .i64 x0) (.slice R33 n0 d35) (.int .i64 y0) (.bool true)
    have x50 := x41.alloc (.cells #[.int .i64 x0, .slice R33 n0 d35, .int .i64 y0, .bool true] 24)
    have s51 := s42.alloc (.cells #[.int .i64 x0, .slice R33 n0 d35, .int .i64 y0, .bool true] 24)
    have s52 := s43.alloc (.cells #[.int .i64 x0, .slice R33 n0 d35, .int .i64 y0, .bool true] 24)
    have s53 := s1.alloc (.cells #[.int .i64 x0, .slice R33 n0 d35, .int .i64 y0, .bool true] 24)
    have b54 := b40.alloc b40.size (.cells #[.int .i64 x0, .slice R33 n0 d35, .int .i64 y0, .bool true] 24)
    have c55 := x49.c0
    have c56 := x49.c1
    have c57 := x49.c2
    have c58 := x49.c3
    go_wp2_with fail
    clear c45 c46 c47 c48 c55 c56 c57 c58
    obtain ⟨v59, hv60⟩ : ∃ v59, w38.alloc (.cells #[.int .i64 x0, .slice R33 n0 d35, .int .i64 y0, .bool true] 24) = v59 := ⟨_, rfl⟩
    rw [hv60] at x49 b54 x50 s51 s52 s53 ⊢
    clear hv60
    refine (write_any x0 R33 n0 d35 y0 true l0 a1 n1 c1 l1 _ s53 (by omega) s52 (by omega)).mono ?_
    rintro e w66 h67
    rw [write_shut hk] at h67
    obtain ⟨R61, m62, d63, rfl, s64, hb65⟩ := h67
    have b68 := b54.trans (hb65.mono b54.size)
    have x69 := x50.kept hb65
    have x70 := x49.kept hb65
    have s71 := s51.keep hb65
    have s72 := s52.keep hb65
    have s73 := s53.keep hb65
    obtain rfl : m62 = 0 := s64.sl.rd.len.symm
    have c74 := x70.c0
    have c75 := x70.c1
    have c76 := x70.c2
    have c77 := x70.c3
    have x78 := Boxed4.new w66 24 (.int .i64 0) (.slice R61 0 d63) (.int .i64 0) (.bool false)
    have x79 := x69.alloc (.cells #[.int .i64 0, .slice R61 0 d63, .int .i64 0, .bool false] 24)
    have x80 := x70.alloc (.cells #[.int .i64 0, .slice R61 0 d63, .int .i64 0, .bool false] 24)
    have s81 := s71.alloc (.cells #[.int .i64 0, .slice R61 0 d63, .int .i64 0, .bool false] 24)
    have s82 := s72.alloc (.cells #[.int .i64 0, .slice R61 0 d63, .int .i64 0, .bool false] 24)
    have s83 := s73.alloc (.cells #[.int .i64 0, .slice R61 0 d63, .int .i64 0, .bool false] 24)
    have b84 := b68.alloc b68.size (.cells #[.int .i64 0, .slice R61 0 d63, .int .i64 0, .bool false] 24)
    have c85 := x80.c0
    have c86 := x80.c1
    have c87 := x80.c2
    have c88 := x80.c3
    go_wp2_with fail
    clear c74 c75 c76 c77 c85 c86 c87 c88
    obtain ⟨v89, hv90⟩ : ∃ v89, w66.alloc (.cells #[.int .i64 0, .slice R61 0 d63, .int .i64 0, .bool false] 24) = v89 := ⟨_, rfl⟩
    rw [hv90] at x78 b84 x79 x80 s81 s82 s83 ⊢
    clear hv90
    by_cases hu : x0 + l0.length < z2
    case pos =>
      refine (ack_any x0 R33 n0 d35 y0 true l0 z2 _ s83 (by omega) hz.1 hz.2).mono ?_
      rintro e w96 h97
      rw [ack_none (u := z2) true hk (by omega)] at h97
      obtain ⟨R91, m92, d93, rfl, s94, hb95⟩ := h97
      have b98 := b84.trans (hb95.mono b84.size)
      have x99 := x79.kept hb95
      have x100 := x80.kept hb95
      have x101 := x78.kept hb95
      have s102 := s81.keep hb95
      have s103 := s82.keep hb95
      have s104 := s83.keep hb95
      have hlp := s94.sl.rd.len
      have c105 := x99.c0
      have c106 := x99.c1
      have c107 := x99.c2
      have c108 := x99.c3
      have s2 := s94.sl
      obtain rfl : m92 = 0 := hlp.symm
      have x109 := Boxed4.new w96 24 (.int .i64 0) (.slice R91 0 d93) (.int .i64 0) (.bool false)
      have x110 := x99.alloc (.cells #[.int .i64 0, .slice R91 0 d93, .int .i64 0, .bool false] 24)
      have x111 := x100.alloc (.cells #[.int .i64 0, .slice R91 0 d93, .int .i64 0, .bool false] 24)
      have x112 := x101.alloc (.cells #[.int .i64 0, .slice R91 0 d93, .int .i64 0, .bool false] 24)
      have s113 := s102.alloc (.cells #[.int .i64 0, .slice R91 0 d93, .int .i64 0, .bool false] 24)
      have s114 := s103.alloc (.cells #[.int .i64 0, .slice R91 0 d93, .int .i64 0, .bool false] 24)
      have s115 := s104.alloc (.cells #[.int .i64 0, .slice R91 0 d93, .int .i64 0, .bool false] 24)
      have s116 := s2.alloc (.cells #[.int .i64 0, .slice R91 0 d93, .int .i64 0, .bool false] 24)
      have b117 := b98.alloc b98.size (.cells #[.int .i64 0, .slice R91 0 d93, .int .i64 0, .bool false] 24)
      have c118 := x110.c0
      have c119 := x110.c1
      have c120 := x110.c2
      have c121 := x110.c3
      go_wp2_with fail
      clear c105 c106 c107 c108 c118 c119 c120 c121
      obtain ⟨v122, hv123⟩ : ∃ v122, w96.alloc (.cells #[.int .i64 0, .slice R91 0 d93, .int .i64 0, .bool false] 24) = v122 := ⟨_, rfl⟩
      rw [hv123] at x109 b117 x110 x111 x112 s113 s114 s115 s116 ⊢
      clear hv123
      refine (ack_any x0 a0 n0 c0 y0 s0 l0 z2 _ s113 (by omega) hz.1 hz.2).mono ?_
      rintro e w125 h126
      rw [ack_none (u := z2) s0 hk (by omega)] at h126
      obtain ⟨R127, m128, d129, rfl, s130, hb124⟩ := h126
      have b131 := b117.trans (hb124.mono b117.size)
      have x132 := x110.kept hb124
      have x133 := x111.kept hb124
      have x134 := x112.kept hb124
      have x135 := x109.kept hb124
      have s136 := s113.keep hb124
      have s137 := s114.keep hb124
      have s138 := s115.keep hb124
      have s139 := s116.keep hb124
      obtain rfl : m128 = 0 := s130.sl.rd.len.symm
      have s3 := s130.sl
      have x140 := Boxed4.new w125 24 (.int .i64 0) (.slice R127 0 d129) (.int .i64 0) (.bool false)
      have x141 := x132.alloc (.cells #[.int .i64 0, .slice R127 0 d129, .int .i64 0, .bool false] 24)
      have x142 := x133.alloc (.cells #[.int .i64 0, .slice R127 0 d129, .int .i64 0, .bool false] 24)
      have x143 := x134.alloc (.cells #[.int .i64 0, .slice R127 0 d129, .int .i64 0, .bool false] 24)
      have x144 := x135.alloc (.cells #[.int .i64 0, .slice R127 0 d129, .int .i64 0, .bool false] 24)
      have s145 := s136.alloc (.cells #[.int .i64 0, .slice R127 0 d129, .int .i64 0, .bool false] 24)
      have s146 := s137.alloc (.cells #[.int .i64 0, .slice R127 0 d129, .int .i64 0, .bool false] 24)
      have s147 := s138.alloc (.cells #[.int .i64 0, .slice R127 0 d129, .int .i64 0, .bool false] 24)
      have s148 := s139.alloc (.cells #[.int .i64 0, .slice R127 0 d129, .int .i64 0, .bool false] 24)
      have s149 := s3.alloc (.cells #[.int .i64 0, .slice R127 0 d129, .int .i64 0, .bool false] 24)
      have b150 := b131.alloc b131.size (.cells #[.int .i64 0, .slice R127 0 d129, .int .i64 0, .bool false] 24)
      go_wp2_with fail
      obtain ⟨v151, hv152⟩ : ∃ v151, w125.alloc (.cells #[.int .i64 0, .slice R127 0 d129, .int .i64 0, .bool false] 24) = v151 := ⟨_, rfl⟩
      rw [hv152] at x140 b150 x141 x142 x143 x144 s145 s146 s147 s148 s149 ⊢
      clear hv152
      have hmn : 0 ≤ 1000000 := by rw [← hlp]; simp
      have x153 := x141.drew
      have x154 := x142.drew
      have x155 := x143.drew
      have x156 := x144.drew
      have x157 := x140.drew
      have s158 := s145.keep (Below.refl _ _).drew
      have s159 := s146.keep (Below.refl _ _).drew
      have s160 := s147.keep (Below.refl _ _).drew
      have s161 := s148.keep (Below.refl _ _).drew
      have s162 := s149.keep (Below.refl _ _).drew
      have b163 := b150.drew
      go_region_held3 (fun w' => w'.cell? ⟨w96.heap.size, 0, none⟩ = some (.int .i64 0) ∧ w'.cell? ⟨w96.heap.size, 1, none⟩ = some (.slice R91 0 d93) ∧ w'.cell? ⟨w96.heap.size, 2, none⟩ = some (.int .i64 0) ∧ w'.cell? ⟨w96.heap.size, 3, none⟩ = some (.bool false) ∧ w'.cell? ⟨w125.heap.size, 0, none⟩ = some (.int .i64 0) ∧ w'.cell? ⟨w125.heap.size, 1, none⟩ = some (.slice R127 0 d129) ∧ w'.cell? ⟨w125.heap.size, 2, none⟩ = some (.int .i64 0) ∧ w'.cell? ⟨w125.heap.size, 3, none⟩ = some (.bool false) ∧ w'.cell? ⟨w38.heap.size, 0, none⟩ = some (.int .i64 x0) ∧ w'.cell? ⟨w38.heap.size, 1, none⟩ = some (.slice R33 n0 d35) ∧ w'.cell? ⟨w38.heap.size, 2, none⟩ = some (.int .i64 y0) ∧ w'.cell? ⟨w38.heap.size, 3, none⟩ = some (.bool true) ∧ w'.cell? ⟨w.heap.size, 0, none⟩ = some (.int .i64 x0) ∧ w'.cell? ⟨w.heap.size, 1, none⟩ = some (.slice a0 n0 c0) ∧ w'.cell? ⟨w.heap.size, 2, none⟩ = some (.int .i64 y0) ∧ w'.cell? ⟨w.heap.size, 3, none⟩ = some (.bool s0))
        (first
          | exact ⟨x156.c0, x156.c1, x156.c2, x156.c3, x157.c0, x157.c1, x157.c2, x157.c3, x154.c0, x154.c1, x154.c2, x154.c3, x153.c0, x153.c1, x153.c2, x153.c3⟩
          | exact ⟨x171.c0, x171.c1, x171.c2, x171.c3, x172.c0, x172.c1, x172.c2, x172.c3, x169.c0, x169.c1, x169.c2, x169.c3, x168.c0, x168.c1, x168.c2, x168.c3⟩
          | exact ⟨x185.c0, x185.c1, x185.c2, x185.c3, x186.c0, x186.c1, x186.c2, x186.c3, x183.c0, x183.c1, x183.c2, x183.c3, x182.c0, x182.c1, x182.c2, x182.c3⟩
          | exact ⟨x199.c0, x199.c1, x199.c2, x199.c3, x200.c0, x200.c1, x200.c2, x200.c3, x197.c0, x197.c1, x197.c2, x197.c3, x196.c0, x196.c1, x196.c2, x196.c3⟩
          | go_keep)
        (first
          | (go_at_call 11; refine (ksame_yes 0 R91 0 d93 0 false R127 d129 [] _ s161.rd s162.rd (by omega)).mono ?_; rintro e w165 ⟨rfl, hb164⟩; have b167 := b163.trans (hb164.mono b163.size); have x168 := x153.kept hb164; have x169 := x154.kept hb164; have x170 := x155.kept hb164; have x171 := x156.kept hb164; have x172 := x157.kept hb164; have s173 := s158.keep hb164; have s174 := s159.keep hb164; have s175 := s160.keep hb164; have s176 := s161.keep hb164; have s177 := s162.keep hb164)
          | (go_at_call_of 21 R33; refine (end_any x0 R33 n0 d35 y0 true l0 _ hl0 (by omega)).mono ?_; rintro e w179 ⟨h180, hb178⟩; rw [end_ok true hk] at h180; subst h180; have b181 := b167.trans (hb178.mono b167.size); have x182 := x168.kept hb178; have x183 := x169.kept hb178; have x184 := x170.kept hb178; have x185 := x171.kept hb178; have x186 := x172.kept hb178; have s187 := s173.keep hb178; have s188 := s174.keep hb178; have s189 := s175.keep hb178; have s190 := s176.keep hb178; have s191 := s177.keep hb178)
          | (go_at_call_of 21 a0; refine (end_any x0 a0 n0 c0 y0 s0 l0 _ hl0 (by omega)).mono ?_; rintro e w193 ⟨h194, hb192⟩; rw [end_ok s0 hk] at h194; subst h194; have b195 := b181.trans (hb192.mono b181.size); have x196 := x182.kept hb192; have x197 := x183.kept hb192; have x198 := x184.kept hb192; have x199 := x185.kept hb192; have x200 := x186.kept hb192; have s201 := s187.keep hb192; have s202 := s188.keep hb192; have s203 := s189.keep hb192; have s204 := s190.keep hb192; have s205 := s191.keep hb192))
      go_wp2_with fail
      go_ret
      exact ⟨rfl, b195⟩
    case neg =>
      refine (ack_any x0 R33 n0 d35 y0 true l0 z2 _ s83 (by omega) hz.1 hz.2).mono ?_
      rintro e w96 h97
      rw [ack_ok (u := z2) true hk (by omega)] at h97
      obtain ⟨R91, m92, d93, rfl, s94, hb95⟩ := h97
      have b98 := b84.trans (hb95.mono b84.size)
      have x99 := x79.kept hb95
      have x100 := x80.kept hb95
      have x101 := x78.kept hb95
      have s102 := s81.keep hb95
      have s103 := s82.keep hb95
      have s104 := s83.keep hb95
      have hlp := s94.sl.rd.len
      have c105 := x99.c0
      have c106 := x99.c1
      have c107 := x99.c2
      have c108 := x99.c3
      have s2 := s94.sl
      obtain ⟨M, hM⟩ : ∃ M, max x0 z2 = M := ⟨_, rfl⟩
      rw [hM]
      have x109 := Boxed4.new w96 24 (.int .i64 M) (.slice R91 m92 d93) (.int .i64 y0) (.bool true)
      have x110 := x99.alloc (.cells #[.int .i64 M, .slice R91 m92 d93, .int .i64 y0, .bool true] 24)
      have x111 := x100.alloc (.cells #[.int .i64 M, .slice R91 m92 d93, .int .i64 y0, .bool true] 24)
      have x112 := x101.alloc (.cells #[.int .i64 M, .slice R91 m92 d93, .int .i64 y0, .bool true] 24)
      have s113 := s102.alloc (.cells #[.int .i64 M, .slice R91 m92 d93, .int .i64 y0, .bool true] 24)
      have s114 := s103.alloc (.cells #[.int .i64 M, .slice R91 m92 d93, .int .i64 y0, .bool true] 24)
      have s115 := s104.alloc (.cells #[.int .i64 M, .slice R91 m92 d93, .int .i64 y0, .bool true] 24)
      have s116 := s2.alloc (.cells #[.int .i64 M, .slice R91 m92 d93, .int .i64 y0, .bool true] 24)
      have b117 := b98.alloc b98.size (.cells #[.int .i64 M, .slice R91 m92 d93, .int .i64 y0, .bool true] 24)
      have c118 := x110.c0
      have c119 := x110.c1
      have c120 := x110.c2
      have c121 := x110.c3
      go_wp2_with fail
      clear c105 c106 c107 c108 c118 c119 c120 c121
      obtain ⟨v122, hv123⟩ : ∃ v122, w96.alloc (.cells #[.int .i64 M, .slice R91 m92 d93, .int .i64 y0, .bool true] 24) = v122 := ⟨_, rfl⟩
      rw [hv123] at x109 b117 x110 x111 x112 s113 s114 s115 s116 ⊢
      clear hv123
      refine (ack_any x0 a0 n0 c0 y0 s0 l0 z2 _ s113 (by omega) hz.1 hz.2).mono ?_
      rintro e w125 h126
      rw [ack_ok (u := z2) s0 hk (by omega)] at h126
      rw [hM] at h126
      obtain ⟨R127, m128, d129, rfl, s130, hb124⟩ := h126
      have b131 := b117.trans (hb124.mono b117.size)
      have x132 := x110.kept hb124
      have x133 := x111.kept hb124
      have x134 := x112.kept hb124
      have x135 := x109.kept hb124
      have s136 := s113.keep hb124
      have s137 := s114.keep hb124
      have s138 := s115.keep hb124
      have s139 := s116.keep hb124
      have hmq : m92 = m128 := hlp.symm.trans s130.sl.rd.len
      subst hmq
      have s3 := s130.sl
      have x140 := Boxed4.new w125 24 (.int .i64 M) (.slice R127 m92 d129) (.int .i64 y0) (.bool s0)
      have c141 := x140.free 3
      have c142 := x140.c3
      have x143 := Boxed4.new w125 24 (.int .i64 M) (.slice R127 m92 d129) (.int .i64 y0) (.bool true)
      have x144 := x132.alloc (.cells #[.int .i64 M, .slice R127 m92 d129, .int .i64 y0, .bool true] 24)
      have x145 := x133.alloc (.cells #[.int .i64 M, .slice R127 m92 d129, .int .i64 y0, .bool true] 24)
      have x146 := x134.alloc (.cells #[.int .i64 M, .slice R127 m92 d129, .int .i64 y0, .bool true] 24)
      have x147 := x135.alloc (.cells #[.int .i64 M, .slice R127 m92 d129, .int .i64 y0, .bool true] 24)
      have s148 := s136.alloc (.cells #[.int .i64 M, .slice R127 m92 d129, .int .i64 y0, .bool true] 24)
      have s149 := s137.alloc (.cells #[.int .i64 M, .slice R127 m92 d129, .int .i64 y0, .bool true] 24)
      have s150 := s138.alloc (.cells #[.int .i64 M, .slice R127 m92 d129, .int .i64 y0, .bool true] 24)
      have s151 := s139.alloc (.cells #[.int .i64 M, .slice R127 m92 d129, .int .i64 y0, .bool true] 24)
      have s152 := s3.alloc (.cells #[.int .i64 M, .slice R127 m92 d129, .int .i64 y0, .bool true] 24)
      have b153 := b131.alloc b131.size (.cells #[.int .i64 M, .slice R127 m92 d129, .int .i64 y0, .bool true] 24)
      go_wp2_with fail
      clear c141 c142
      obtain ⟨v154, hv155⟩ : ∃ v154, w125.alloc (.cells #[.int .i64 M, .slice R127 m92 d129, .int .i64 y0, .bool true] 24) = v154 := ⟨_, rfl⟩
      rw [hv155] at x143 b153 x144 x145 x146 x147 s148 s149 s150 s151 s152 ⊢
      clear hv155
      have hmn : m92 ≤ 1000000 := by rw [← hlp]; rw [List.length_drop]; omega
      have x156 := x144.drew
      have x157 := x145.drew
      have x158 := x146.drew
      have x159 := x147.drew
      have x160 := x143.drew
      have s161 := s148.keep (Below.refl _ _).drew
      have s162 := s149.keep (Below.refl _ _).drew
      have s163 := s150.keep (Below.refl _ _).drew
      have s164 := s151.keep (Below.refl _ _).drew
      have s165 := s152.keep (Below.refl _ _).drew
      have b166 := b153.drew
      go_region_held3 (fun w' => w'.cell? ⟨w96.heap.size, 0, none⟩ = some (.int .i64 M) ∧ w'.cell? ⟨w96.heap.size, 1, none⟩ = some (.slice R91 m92 d93) ∧ w'.cell? ⟨w96.heap.size, 2, none⟩ = some (.int .i64 y0) ∧ w'.cell? ⟨w96.heap.size, 3, none⟩ = some (.bool true) ∧ w'.cell? ⟨w125.heap.size, 0, none⟩ = some (.int .i64 M) ∧ w'.cell? ⟨w125.heap.size, 1, none⟩ = some (.slice R127 m92 d129) ∧ w'.cell? ⟨w125.heap.size, 2, none⟩ = some (.int .i64 y0) ∧ w'.cell? ⟨w125.heap.size, 3, none⟩ = some (.bool true) ∧ w'.cell? ⟨w38.heap.size, 0, none⟩ = some (.int .i64 x0) ∧ w'.cell? ⟨w38.heap.size, 1, none⟩ = some (.slice R33 n0 d35) ∧ w'.cell? ⟨w38.heap.size, 2, none⟩ = some (.int .i64 y0) ∧ w'.cell? ⟨w38.heap.size, 3, none⟩ = some (.bool true) ∧ w'.cell? ⟨w.heap.size, 0, none⟩ = some (.int .i64 x0) ∧ w'.cell? ⟨w.heap.size, 1, none⟩ = some (.slice a0 n0 c0) ∧ w'.cell? ⟨w.heap.size, 2, none⟩ = some (.int .i64 y0) ∧ w'.cell? ⟨w.heap.size, 3, none⟩ = some (.bool s0))
        (first
          | exact ⟨x159.c0, x159.c1, x159.c2, x159.c3, x160.c0, x160.c1, x160.c2, x160.c3, x157.c0, x157.c1, x157.c2, x157.c3, x156.c0, x156.c1, x156.c2, x156.c3⟩
          | exact ⟨x174.c0, x174.c1, x174.c2, x174.c3, x175.c0, x175.c1, x175.c2, x175.c3, x172.c0, x172.c1, x172.c2, x172.c3, x171.c0, x171.c1, x171.c2, x171.c3⟩
          | exact ⟨x188.c0, x188.c1, x188.c2, x188.c3, x189.c0, x189.c1, x189.c2, x189.c3, x186.c0, x186.c1, x186.c2, x186.c3, x185.c0, x185.c1, x185.c2, x185.c3⟩
          | exact ⟨x202.c0, x202.c1, x202.c2, x202.c3, x203.c0, x203.c1, x203.c2, x203.c3, x200.c0, x200.c1, x200.c2, x200.c3, x199.c0, x199.c1, x199.c2, x199.c3⟩
          | go_keep)
        (first
          | (go_at_call 11; refine (ksame_yes M R91 m92 d93 y0 true R127 d129 (l0.drop (z2 - x0).toNat) _ s164.rd s165.rd (by omega)).mono ?_; rintro e w168 ⟨rfl, hb167⟩; have b170 := b166.trans (hb167.mono b166.size); have x171 := x156.kept hb167; have x172 := x157.kept hb167; have x173 := x158.kept hb167; have x174 := x159.kept hb167; have x175 := x160.kept hb167; have s176 := s161.keep hb167; have s177 := s162.keep hb167; have s178 := s163.keep hb167; have s179 := s164.keep hb167; have s180 := s165.keep hb167)
          | (go_at_call_of 21 R33; refine (end_any x0 R33 n0 d35 y0 true l0 _ hl0 (by omega)).mono ?_; rintro e w182 ⟨h183, hb181⟩; rw [end_ok true hk] at h183; subst h183; have b184 := b170.trans (hb181.mono b170.size); have x185 := x171.kept hb181; have x186 := x172.kept hb181; have x187 := x173.kept hb181; have x188 := x174.kept hb181; have x189 := x175.kept hb181; have s190 := s176.keep hb181; have s191 := s177.keep hb181; have s192 := s178.keep hb181; have s193 := s179.keep hb181; have s194 := s180.keep hb181)
          | (go_at_call_of 21 a0; refine (end_any x0 a0 n0 c0 y0 s0 l0 _ hl0 (by omega)).mono ?_; rintro e w196 ⟨h197, hb195⟩; rw [end_ok s0 hk] at h197; subst h197; have b198 := b184.trans (hb195.mono b184.size); have x199 := x185.kept hb195; have x200 := x186.kept hb195; have x201 := x187.kept hb195; have x202 := x188.kept hb195; have x203 := x189.kept hb195; have s204 := s190.keep hb195; have s205 := s191.keep hb195; have s206 := s192.keep hb195; have s207 := s193.keep hb195; have s208 := s194.keep hb195))
      go_wp2_with fail
      go_ret
      exact ⟨rfl, b198⟩
end Go.Proofs.Ytmnedaholdacnaa.keepShut
