/- Package check: bytes.Clone and Open as contracts of the calls. -/
import Derived.Test.YtfglagkpknpgdaaProg
import Derived.Test.YtfglagkpknpgdaaCkSeal
import Derived.WalkKit
import Derived.WalkSpells
import Derived.Lib.Hide
import Derived.WalkSmall
import Derived.Below
import Derived.Outline
import Derived.Deep.QuietTactic
import Derived.BigQuiet
namespace Go.Proofs.Ytfglagkpknpgdaa
open Go.RowKit

set_option maxHeartbeats 1000000 in
theorem clone_any (A : Option Addr) (n c : Nat) (l : List Int) (w : World) (hr : Sl w A n c l) (hn : n ≤ 1000000) :
    Calls Try.prog 31 #[.slice A n c] w fun e w' => ∃ R d, e = .returned (.slice R n d) ∧ Sl w' R n d l ∧ Below w.heap.size w w' := by
  have qn := fun (w : World) (a : Option Addr) (n c n' c' : Nat) => Lib.run_eql_slice_nil (P := Try.prog) w _ _ a n c n' c' Try.underlying24
  cases A with
  | none =>
    have hc := hr.nil rfl
    have hle := hr.le
    obtain rfl : n = 0 := by omega
    have hz := hr.rd.len
    obtain rfl : l = [] := List.eq_nil_of_length_eq_zero hz
    clear hc hle hz
    go_enter Try.func31, Try.ntmps31
    go_wp2
    go_ret
    exact ⟨none, 0, rfl, ⟨Nat.le_refl _, by unfold maxLen; omega, fun _ => rfl, Rd.empty _ _⟩, Below.refl _ _⟩
  | some a =>
    have hmade : (w.alloc (.cells #[] 5)).ownsRow w.heap.size 5 1 (.slice (some ⟨w.heap.size, 0, none⟩) 0 0) 0 (List.map (Value.int .u8) []) := World.ownsRow_made w #[] 0 (Nat.le_refl _) (Nat.zero_le _) rfl
    go_enter Try.func31, Try.ntmps31
    go_wp2_with (at_builtin; refine wpList_app _ rfl (.tmp 5) (.tmp 6) 24 rfl w.heap.size 5 Try.underlying24 info_u8 _ 0 [] rfl hmade rfl hr.nil (hr.rd.alloc _) (by omega) (by simp) ?_; intro v1 w1 hown1 hgrow1 hat1)
    have b1 : Below w.heap.size w w1 := ((Below.refl _ _).alloc (Nat.le_refl _) _).grown hgrow1 (by simp) (fun k hk => (hmade.lt k hk).1)
    have hg : Got w1 w.heap.size v1 n l := ⟨by simpa using hown1, hr.rd.small⟩
    obtain ⟨R, d, rfl, hsl⟩ := hg.sl
    go_wp2
    go_ret
    exact ⟨R, d, rfl, hsl, b1⟩

set_option maxHeartbeats 1000000 in
theorem open_short (A : Option Addr) (n c : Nat) (w : World) (hn : n < 4) :
    Calls Try.prog 24 #[.slice A n c] w fun e w' => e = .returned (.tuple #[.slice none 0 0, .int .i64 7]) ∧ w = w' := by
  go_enter Try.func24, Try.ntmps24
  go_wp2
  go_ret2
  exact ⟨rfl, rfl⟩

/-- the number in the first four bytes -/
def num4 (l : List Int) : Int := byt l 0 * 16777216 + byt l 1 * 65536 + byt l 2 * 256 + byt l 3

theorem join24 {b a : Int} (h0 : 0 ≤ b) (h1 : b < 256) (h2 : 0 ≤ a) (h3 : a < 256) : bits .or .u32 (b * 16777216) (a * 65536) = b * 16777216 + a * 65536 := by
  obtain ⟨b, rfl⟩ := Int.eq_ofNat_of_zero_le h0
  obtain ⟨a, rfl⟩ := Int.eq_ofNat_of_zero_le h2
  have := u32_join 24 (b * 16777216) (a * 65536) (by omega) (by omega) (by omega)
  rw [show (b : Int) * 16777216 = ((b * 16777216 : Nat) : Int) by omega, show (a : Int) * 65536 = ((a * 65536 : Nat) : Int) by omega, this]; omega
theorem join8 {s a : Int} (h0 : 0 ≤ s) (h1 : s < 4294967296) (hm : s % 65536 = 0) (h2 : 0 ≤ a) (h3 : a < 256) : bits .or .u32 s (a * 256) = s + a * 256 := by
  obtain ⟨s, rfl⟩ := Int.eq_ofNat_of_zero_le h0
  obtain ⟨a, rfl⟩ := Int.eq_ofNat_of_zero_le h2
  have := u32_join 16 s (a * 256) (by omega) (by omega) (by omega)
  rw [show (a : Int) * 256 = ((a * 256 : Nat) : Int) by omega, this]; omega
theorem join0 {s a : Int} (h0 : 0 ≤ s) (h1 : s < 4294967296) (hm : s % 256 = 0) (h2 : 0 ≤ a) (h3 : a < 256) : bits .or .u32 s a = s + a := by
  obtain ⟨s, rfl⟩ := Int.eq_ofNat_of_zero_le h0
  obtain ⟨a, rfl⟩ := Int.eq_ofNat_of_zero_le h2
  rw [u32_join 8 s a (by omega) (by omega) (by omega)]; omega

set_option maxHeartbeats 2000000 in
theorem open_bad (A : Option Addr) (m d : Nat) (l : List Int) (w : World) (hr : Sl w A (m + 4) (d + 4) l) (hn : m ≤ 1000000) (hne : num4 l ≠ adler (l.drop 4)) :
    Calls Try.prog 24 #[.slice A (m + 4) (d + 4)] w fun e w' => e = .returned (.tuple #[.slice none 0 0, .int .i64 8]) ∧ Below w.heap.size w w' := by
  have hcut := fun w => run_cut Try.prog 24 5 Try.underlying24 info_u8 A m d w
  obtain ⟨b, o, hA, hbl, hc⟩ := hr.rd.spot (by omega)
  subst hA
  have z0 := byt_bd hr.rd.small 0
  have z1 := byt_bd hr.rd.small 1
  have z2 := byt_bd hr.rd.small 2
  have z3 := byt_bd hr.rd.small 3
  have c0 := hc.out 0 (by omega)
  have c1 := hc.out 1 (by omega)
  have c2 := hc.out 2 (by omega)
  have c3 := hc.out 3 (by omega)
  have hs := hr.cut
  obtain ⟨s0, s1⟩ := adler_bd (l.drop 4)
  unfold num4 at hne
  obtain ⟨x0, e0⟩ : ∃ x, byt l 0 = x := ⟨_, rfl⟩
  obtain ⟨x1, e1⟩ : ∃ x, byt l 1 = x := ⟨_, rfl⟩
  obtain ⟨x2, e2⟩ : ∃ x, byt l 2 = x := ⟨_, rfl⟩
  obtain ⟨x3, e3⟩ : ∃ x, byt l 3 = x := ⟨_, rfl⟩
  rw [e0] at c0 z0 hne
  rw [e1] at c1 z1 hne
  rw [e2] at c2 z2 hne
  rw [e3] at c3 z3 hne
  clear e0 e1 e2 e3 hc
  obtain ⟨p0, q0⟩ := z0
  obtain ⟨p1, q1⟩ := z1
  obtain ⟨p2, q2⟩ := z2
  obtain ⟨p3, q3⟩ := z3
  have j1 := join24 p0 q0 p1 q1
  have j2 := join8 (s := x0 * 16777216 + x1 * 65536) (by omega) (by omega) (by omega) p2 q2
  have j3 := join0 (s := x0 * 16777216 + x1 * 65536 + x2 * 256) (by omega) (by omega) (by omega) p3 q3
  have hb : ((x0 * 16777216 + x1 * 65536 + x2 * 256 + x3) != adler (l.drop 4)) = true := by simpa using hne
  rw [Nat.add_zero] at c0
  have m0 : (4 : Int) ≤ ((m + 4 : Nat) : Int) := by omega
  have m1 : decide ((m : Int) + 4 < 4) = false := by simp; omega
  have HO := Lib.hid (fun q => (hs.keep (below_drewN (Below.refl _ w) q)).one 24)
  have HS := Lib.hid hs; clear hs
  clear hne
  go_enter Try.func24, Try.ntmps24
  go_wp2_with fail
  go_quiet (fail)
  go_wp2_with ((go_at_call 28; refine (sum1_any _ _ (l.drop 4) _ (HO.out _)).mono ?_; rintro e w1 ⟨rfl, hb1⟩))
  go_ret2
  exact ⟨rfl, ((below_drewN (Below.refl _ w) _).alloc (Nat.le_refl _) _).trans (hb1.mono (by simp))⟩

set_option maxHeartbeats 2000000 in
theorem open_ok (A : Option Addr) (m d : Nat) (l : List Int) (w : World) (hr : Sl w A (m + 4) (d + 4) l) (hn : m ≤ 1000000) (hne : num4 l = adler (l.drop 4)) :
    Calls Try.prog 24 #[.slice A (m + 4) (d + 4)] w fun e w' => ∃ R d', e = .returned (.tuple #[.slice R m d', .int .i64 0]) ∧ Sl w' R m d' (l.drop 4) ∧ Below w.heap.size w w' := by
  have hcut := fun w => run_cut Try.prog 24 5 Try.underlying24 info_u8 A m d w
  obtain ⟨b, o, hA, hbl, hc⟩ := hr.rd.spot (by omega)
  subst hA
  have z0 := byt_bd hr.rd.small 0
  have z1 := byt_bd hr.rd.small 1
  have z2 := byt_bd hr.rd.small 2
  have z3 := byt_bd hr.rd.small 3
  have c0 := hc.out 0 (by omega)
  have c1 := hc.out 1 (by omega)
  have c2 := hc.out 2 (by omega)
  have c3 := hc.out 3 (by omega)
  have hs := hr.cut
  obtain ⟨s0, s1⟩ := adler_bd (l.drop 4)
  unfold num4 at hne
  obtain ⟨x0, e0⟩ : ∃ x, byt l 0 = x := ⟨_, rfl⟩
  obtain ⟨x1, e1⟩ : ∃ x, byt l 1 = x := ⟨_, rfl⟩
  obtain ⟨x2, e2⟩ : ∃ x, byt l 2 = x := ⟨_, rfl⟩
  obtain ⟨x3, e3⟩ : ∃ x, byt l 3 = x := ⟨_, rfl⟩
  rw [e0] at c0 z0 hne
  rw [e1] at c1 z1 hne
  rw [e2] at c2 z2 hne
  rw [e3] at c3 z3 hne
  clear e0 e1 e2 e3 hc
  obtain ⟨p0, q0⟩ := z0
  obtain ⟨p1, q1⟩ := z1
  obtain ⟨p2, q2⟩ := z2
  obtain ⟨p3, q3⟩ := z3
  have j1 := join24 p0 q0 p1 q1
  have j2 := join8 (s := x0 * 16777216 + x1 * 65536) (by omega) (by omega) (by omega) p2 q2
  have j3 := join0 (s := x0 * 16777216 + x1 * 65536 + x2 * 256) (by omega) (by omega) (by omega) p3 q3
  have hb : ((x0 * 16777216 + x1 * 65536 + x2 * 256 + x3) != adler (l.drop 4)) = false := by simpa using hne
  rw [Nat.add_zero] at c0
  have m0 : (4 : Int) ≤ ((m + 4 : Nat) : Int) := by omega
  have m1 : decide ((m : Int) + 4 < 4) = false := by simp; omega
  have HO := Lib.hid (fun q => (hs.keep (below_drewN (Below.refl _ w) q)).one 24)
  have HS := Lib.hid hs; clear hs
  clear hne
  go_enter Try.func24, Try.ntmps24
  go_wp2_with fail
  go_quiet (fail)
  go_wp2_with (first
    | (go_at_call 28; refine (sum1_any _ _ (l.drop 4) _ (HO.out _)).mono ?_; rintro e w1 ⟨rfl, hb1⟩; have b1 : Below w.heap.size w w1 := ((below_drewN (Below.refl _ w) _).alloc (Nat.le_refl _) _).trans (hb1.mono (by simp)); have s1 := HS.out.keep b1)
    | (go_at_call 31; refine (clone_any _ _ _ _ _ s1 hn).mono ?_; rintro e w2 ⟨R, d2, rfl, s2, hb2⟩))
  go_ret2
  exact ⟨R, d2, rfl, s2, b1.trans (hb2.mono b1.size)⟩

end Go.Proofs.Ytfglagkpknpgdaa
