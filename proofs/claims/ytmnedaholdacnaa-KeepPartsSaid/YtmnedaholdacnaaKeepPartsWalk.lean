/- The walk of the law KeepParts. -/
import Derived.Test.YtmnedaholdacnaaProg
import Derived.Test.YtmnedaholdacnaaKeAwake
import Derived.Test.YtmnedaholdacnaaKeLaw
import Derived.WalkKit
import Derived.WalkSpells
import Derived.Lib.Hide
import Derived.Below
import Derived.Outline
namespace Go.Proofs.Ytmnedaholdacnaa.keepParts
open Go.RowKit
set_option linter.unusedVariables false
set_option linter.unusedSimpArgs false

theorem parts_app {x y : Int} {l : List Int} {s : Bool} {p a b : Int} (hk : kmay ⟨x, l, y, s⟩ = true) (hp : x ≤ p) (ha : 0 ≤ a) (hb : 0 ≤ b) : partR ⟨x, l, y, s⟩ p (a + b) = partR ⟨x, l, y, s⟩ p a ++ partR ⟨x, l, y, s⟩ (p + a) b := by
  unfold partR
  rw [if_pos ⟨hk, hp, by omega⟩, if_pos ⟨hk, hp, ha⟩, if_pos ⟨hk, (by show x ≤ p + a; omega), hb⟩]
  show List.take (a + b).toNat (List.drop (p - x).toNat l) = List.take a.toNat (List.drop (p - x).toNat l) ++ List.take b.toNat (List.drop (p + a - x).toNat l)
  rw [show (a + b).toNat = a.toNat + b.toNat by omega, List.take_add, List.drop_drop, show (p - x).toNat + a.toNat = (p + a - x).toNat by omega]
theorem part_len {k : Kp} {p a : Int} (ha : 0 ≤ a) : ((partR k p a).length : Int) ≤ a := by
  unfold partR
  split
  · rw [List.length_take]; omega
  · simp; omega

set_option maxRecDepth 100000 in
set_option maxHeartbeats 2000000 in
theorem walk (x0 : Int) (a0 : Option Addr) (n0 c0 : Nat) (y0 : Int) (s0 : Bool) (l0 : List Int) (z1 z2 z3 : Int) (w : World) (hx : W64 x0) (hy : W64 y0) (h0 : Sl w a0 n0 c0 l0) (hz1 : W64 z1) (hz2 : W64 z2) (hz3 : W64 z3) :
    Calls Try.prog 4 #[.agg #[.int .i64 x0, .slice a0 n0 c0, .int .i64 y0, .bool s0], .int .i64 z1, .int .i64 z2, .int .i64 z3] w fun e w' => e = .returned (.bool true) ∧ Below w.heap.size w w' := by
  unfold W64 at hx hy hz1 hz2 hz3
  have hl0 := h0.rd.len
  have x1 := Boxed4.new w 24 (.int .i64 x0) (.slice a0 n0 c0) (.int .i64 y0) (.bool s0)
  have s2 := h0.alloc (.cells #[.int .i64 x0, .slice a0 n0 c0, .int .i64 y0, .bool s0] 24)
  have b3 := (Below.refl w.heap.size w).alloc (Nat.le_refl _) (.cells #[.int .i64 x0, .slice a0 n0 c0, .int .i64 y0, .bool s0] 24)
  have c4 := x1.c0
  have c5 := x1.c1
  have c6 := x1.c2
  have c7 := x1.c3
  go_enter Try.func4, Try.ntmps4
  go_wp2_with fail
  clear c4 c5 c6 c7
  obtain ⟨v8, hv9⟩ : ∃ v8, w.alloc (.cells #[.int .i64 x0, .slice a0 n0 c0, .int .i64 y0, .bool s0] 24) = v8 := ⟨_, rfl⟩
  rw [hv9] at x1 b3 s2 ⊢
  clear hv9
  refine (awake_any _).mono ?_
  rintro e w11 ⟨rfl, hb10⟩
  have b13 := b3.trans (hb10.mono b3.size)
  have x14 := x1.kept hb10
  have s15 := s2.keep hb10
  have c16 := x14.c0
  have c17 := x14.c1
  have c18 := x14.c2
  have c19 := x14.c3
  by_cases d0 : n0 ≤ 2000
  case neg =>
    have D0 : (2000 : Int) < (n0 : Int) := by omega
    go_wp2_with fail
    go_ret
    exact ⟨rfl, b13⟩
  case pos =>
  have D0 : ¬ ((2000 : Int) < (n0 : Int)) := by omega
  go_wp2_with fail
  cases hk : kmay ⟨x0, l0, y0, s0⟩ with
  | false =>
    refine (may_any x0 a0 n0 c0 y0 s0 l0 _ hl0 (by omega)).mono ?_
    rintro e w21 ⟨h22, hb20⟩
    rw [hk] at h22
    subst h22
    clear c16 c17 c18 c19
    have b23 := b13.trans (hb20.mono b13.size)
    have x24 := x14.kept hb20
    have s25 := s15.keep hb20
    go_wp2_with fail
    go_ret
    exact ⟨rfl, b23⟩
  | true =>
    have hk' := kmay_iff.1 hk
    simp only [hl0] at hk'
    obtain ⟨k2, k3, k4, k0, k1⟩ := hk'
    refine (may_any x0 a0 n0 c0 y0 s0 l0 _ hl0 (by omega)).mono ?_
    rintro e w21 ⟨h22, hb20⟩
    rw [hk] at h22
    subst h22
    clear c16 c17 c18 c19
    have b23 := b13.trans (hb20.mono b13.size)
    have x24 := x14.kept hb20
    have s25 := s15.keep hb20
    have c26 := x24.c0
    have c27 := x24.c1
    have c28 := x24.c2
    have c29 := x24.c3
    by_cases e0 : z2 < 0
    case pos =>
      go_wp2_with fail
      go_ret
      exact ⟨rfl, b23⟩
    case neg =>
    by_cases e1 : z3 < 0
    case pos =>
      go_wp2_with fail
      go_ret
      exact ⟨rfl, b23⟩
    case neg =>
    by_cases e2 : 4000 < z2
    case pos =>
      go_wp2_with fail
      go_ret
      exact ⟨rfl, b23⟩
    case neg =>
    by_cases e3 : 4000 < z3
    case pos =>
      go_wp2_with fail
      go_ret
      exact ⟨rfl, b23⟩
    case neg =>
    by_cases e4 : z1 < x0
    case pos =>
      go_wp2_with fail
      go_ret
      exact ⟨rfl, b23⟩
    case neg =>
    by_cases e5 : x0 + 4000 < z1
    case pos =>
      go_wp2_with fail
      go_ret
      exact ⟨rfl, b23⟩
    case neg =>
    have happ := parts_app (p := z1) (a := z2) (b := z3) hk (by omega) (by omega) (by omega)
    have hxl := part_len (k := ⟨x0, l0, y0, s0⟩) (p := z1) (a := z2) (by omega)
    have hyl := part_len (k := ⟨x0, l0, y0, s0⟩) (p := z1 + z2) (a := z3) (by omega)
    obtain ⟨X, hX⟩ : ∃ X, partR ⟨x0, l0, y0, s0⟩ z1 z2 = X := ⟨_, rfl⟩
    obtain ⟨Y, hY⟩ : ∃ Y, partR ⟨x0, l0, y0, s0⟩ (z1 + z2) z3 = Y := ⟨_, rfl⟩
    rw [hX] at happ hxl
    rw [hY] at happ hyl
    have HX := Lib.hid hX; clear hX
    have HY := Lib.hid hY; clear hY
    have HA := Lib.hid happ; clear happ
    go_wp2_with fail
    refine (part_any x0 a0 n0 c0 y0 s0 l0 z1 z2 _ s25 (by omega) (by omega) (by omega) (by omega)).mono ?_
    rintro e w35 h36
    rw [HX.out] at h36
    obtain ⟨R30, m31, d32, rfl, s33, hb34⟩ := h36
    clear c26 c27 c28 c29
    have b37 := b23.trans (hb34.mono b23.size)
    have x38 := x24.kept hb34
    have s39 := s25.keep hb34
    have hlx := s33.sl.rd.len
    rw [hlx] at hxl
    have sx := s33.sl
    have c40 := x38.c0
    have c41 := x38.c1
    have c42 := x38.c2
    have c43 := x38.c3
    go_wp2_with fail
    refine (part_any x0 a0 n0 c0 y0 s0 l0 (z1 + z2) z3 _ s39 (by omega) (by omega) (by omega) (by omega)).mono ?_
    rintro e w49 h50
    rw [HY.out] at h50
    obtain ⟨R44, m45, d46, rfl, s47, hb48⟩ := h50
    clear c40 c41 c42 c43
    have b51 := b37.trans (hb48.mono b37.size)
    have x52 := x38.kept hb48
    have s53 := s39.keep hb48
    have s54 := sx.keep hb48
    have hly := s47.sl.rd.len
    rw [hly] at hyl
    have sy := s47.sl
    have c55 := x52.c0
    have c56 := x52.c1
    have c57 := x52.c2
    have c58 := x52.c3
    go_wp2_with fail
    refine (part_any x0 a0 n0 c0 y0 s0 l0 z1 (z2 + z3) _ s53 (by omega) (by omega) (by omega) (by omega)).mono ?_
    rintro e w64 h65
    rw [HA.out] at h65
    obtain ⟨R59, m60, d61, rfl, s62, hb63⟩ := h65
    clear c55 c56 c57 c58
    have b66 := b51.trans (hb63.mono b51.size)
    have x67 := x52.kept hb63
    have s68 := s53.keep hb63
    have s69 := s54.keep hb63
    have s70 := sy.keep hb63
    have hlz := s62.sl.rd.len
    rw [List.length_append, hlx, hly] at hlz
    subst hlz
    have sz := s62.sl
    go_wp2_with (first
      | (at_builtin; refine wpList_app _ rfl (.const (.slice none 0 0)) (.tmp 75) 22 rfl w64.heap.size 5 Try.underlying22 info_u8 _ 0 [] rfl (World.ownsRow_nil _ _ _ _) rfl s69.nil s69.rd (by omega) (Nat.le_refl _) ?_; intro v1 u1 hown1 hgrow1 hat1; simp only [Nat.zero_add, List.nil_append] at hown1; have hb1 := (Below.refl w64.heap.size w64).grown hgrow1 (Nat.le_refl _) (fun k hk => (by cases hk)); have sy1 := s70.keep hb1)
      | (at_builtin; refine wpList_app _ rfl (.tmp 76) (.tmp 77) 22 rfl w64.heap.size 5 Try.underlying22 info_u8 _ m31 X rfl hown1 rfl sy1.nil sy1.rd (by omega) hb1.size ?_; intro v2 u2 hown2 hgrow2 hat2; have hb2 := hb1.grown hgrow2 hb1.size (fun k hk => (hown1.lt k hk).1); obtain ⟨R5, d5, rfl, s5⟩ := (⟨hown2, small_app s69.rd.small s70.rd.small⟩ : Got u2 w64.heap.size v2 (m31 + m45) (X ++ Y)).sl; have sz2 := sz.keep hb2)
      | (go_at_call 16; refine (same_yes _ _ _ _ _ (X ++ Y) _ sz2.rd s5.rd (by omega)).mono ?_; rintro e u3 ⟨rfl, hb3⟩))
    go_ret
    exact ⟨rfl, b66.trans ((hb2.mono b66.size).trans (hb3.mono (Nat.le_trans b66.size hb2.size)))⟩
end Go.Proofs.Ytmnedaholdacnaa.keepParts
