/- VegasAlphas: the walk. -/
import Derived.Test.YtjlomjdghmjkmaaVgAwake
import Derived.Deep.QuietTactic
import Derived.BigQuiet
import Derived.IntWalk
import Derived.Deep.AppendLies
namespace Go.Proofs.Ytjlomjdghmjkmaa.vegasAlphas
open Go.RowKit
set_option linter.unusedVariables false
set_option linter.unusedSimpArgs false

set_option maxRecDepth 100000 in
set_option maxHeartbeats 16000000 in
theorem walk (A : Option Addr) (n cc : Nat) (l : List Sp) (total : Int) (w : World) (hs : Ss w A n cc l) :
    Calls Try.prog 4 #[.slice A n cc, .int .i64 total] w fun e w' => e = .returned (.bool true) ∧ Below w.heap.size w w' := by
  obtain ⟨B, hB⟩ : ∃ B, w.heap.size = B := ⟨_, rfl⟩
  rw [hB]
  have HB := Lib.hid hB
  have hl := hs.rd.len
  have m1 := hs.le
  have m2 := hs.max
  have m3 : n ≤ 9223372036854775807 := by unfold maxLen at m2; omega
  clear m1 m2 hB
  have HL := Lib.hid hl; have HS := Lib.hid hs
  clear hl hs
  go_enter Try.func4, Try.ntmps4
  go_wp2_with fail
  refine (vgawake_any _).mono ?_
  rintro e w2 ⟨rfl, b2⟩
  rw [HB.out] at b2
  have hz2 : B ≤ w2.heap.size := by have := b2.size; rw [HB.out] at this; exact this
  by_cases c0 : 4 < n
  case pos =>
    have d0 : decide (4 < n) = true := decide_eq_true c0
    have x0 : decide ((4 : Int) < (n : Int)) = true := decide_eq_true (by omega)
    go_wp2_with fail
    go_ret
    exact ⟨rfl, b2⟩
  case neg =>
  have d0 : decide (4 < n) = false := decide_eq_false c0
  have x0 : decide ((4 : Int) < (n : Int)) = false := decide_eq_false (by omega)
  by_cases c1 : total < 1
  case pos =>
    have d1 : decide (total < 1) = true := decide_eq_true c1
    go_wp2_with fail
    go_ret
    exact ⟨rfl, b2⟩
  case neg =>
  have d1 : decide (total < 1) = false := decide_eq_false c1
  by_cases c2 : 1048576 < total
  case pos =>
    have d2 : decide (1048576 < total) = true := decide_eq_true c2
    go_wp2_with fail
    go_ret
    exact ⟨rfl, b2⟩
  case neg =>
  have d2 : decide (1048576 < total) = false := decide_eq_false c2
  have hn4 : n ≤ 4 := by omega
  have hm0 : 1 ≤ total := by omega
  have hm1 : total ≤ 1048576 := by omega
  have h4 : l.length ≤ 4 := by rw [HL.out]; exact hn4
  have H4 := Lib.hid h4
  clear c0 c1 c2 m3 h4
  go_wp2_with fail
  go_loopw [6, 7] (fun s i wr => ∃ k : Nat, k ≤ n ∧ i = .int .i64 (k : Int) ∧ s = .int .i64 (alSum l total k) ∧ Below B w wr) (fun _ i _ => n - (intOf i).toNat)
  case atStart => exact ⟨0, Nat.zero_le _, rfl, rfl, b2⟩
  case round =>
    obtain ⟨k, hkn, rfl, rfl, br⟩ := hrel
    have hzr : B ≤ wr.heap.size := by have := br.size; rw [HB.out] at this; exact this
    have hsr : Ss wr A n cc l := HS.out.keep (by rw [HB.out]; exact br)
    have hb0 := al_k H4.out hm0 hm1 (k := k) (by rw [HL.out]; exact hkn)
    by_cases hlt : k < n
    · have dlt : decide (k < n) = true := decide_eq_true hlt
      have hb1 := alpha_bd (l := l) (i := k) (total := total) (by rw [HL.out]; exact hlt) H4.out hm0 hm1
      have hsn : alSum l total (k + 1) = alSum l total k + alphaR l (k : Int) total := rfl
      obtain ⟨S, hS⟩ : ∃ S, alSum l total k = S := ⟨_, rfl⟩
      obtain ⟨v, hv⟩ : ∃ v, alphaR l (k : Int) total = v := ⟨_, rfl⟩
      have pp := fun w hs => vgalpha_any A n cc l (k : Int) total w hs
      rw [hv] at hsn hb1 pp
      rw [hS] at hsn hb0 ⊢
      have i1 : IntKind.i64.wrap (S + v) = S + v := IntWalk.i64_in _ (by omega)
      have dv0 : decide (v < 1) = false := decide_eq_false (by omega)
      have dv1 : decide (total < v) = false := decide_eq_false (by omega)
      have v0 := hb1.1; have v1 := hb1.2.1; have s0 := hb0.1; have s1 := hb0.2
      have HSN := Lib.hid hsn
      clear hS hv hsn hb0 hb1
      go_wp2_with fail
      refine (pp _ hsr).mono ?_
      rintro e wx ⟨rfl, hbx⟩
      have bx : Below B w wx := br.trans (hbx.mono hzr)
      clear hbx br hsr hzr pp
      go_wp2_with fail
      go_roundw
      case rel => exact ⟨k + 1, by omega, by go_num, by rw [HSN.out], bx⟩
      case measure => simp [intOf]; omega
    · obtain rfl : k = n := by omega
      have dlt : decide (k < k) = false := decide_eq_false (by omega)
      have hle := al_sum H4.out hm0 hm1
      rw [HL.out] at hle
      have a0 : alphaR l (k : Int) total = 0 := alpha_no (fun h => by have h1 := HL.out; have h2 := h.2.1; omega)
      have a1 : alphaR l (-1) total = 0 := alpha_no (fun h => by have h2 := h.1; omega)
      have A0 := Lib.hid a0; have A1 := Lib.hid a1
      obtain ⟨S, hS⟩ : ∃ S, alSum l total k = S := ⟨_, rfl⟩
      rw [hS] at hle hb0 ⊢
      have i1 : IntKind.i64.wrap (total + (k : Int)) = total + (k : Int) := IntWalk.i64_in _ (by omega)
      have ds : decide (S ≤ total + (k : Int)) = true := decide_eq_true hle
      have hb : Below B w wr := br
      clear hS hle hb0 a0 a1
      go_wp2_with fail
      refine (vgalpha_any A k cc l _ total _ hsr).mono ?_
      rintro e wx ⟨rfl, hbx⟩
      rw [A0.out]
      have bx : Below B w wx := br.trans (hbx.mono hzr)
      have hsx : Ss wx A k cc l := HS.out.keep (by rw [HB.out]; exact bx)
      have hzx : B ≤ wx.heap.size := Nat.le_trans hzr hbx.size
      clear hbx hsr
      go_wp2_with fail
      refine (vgalpha_any A k cc l (-1) total _ hsx).mono ?_
      rintro e wy ⟨rfl, hby⟩
      rw [A1.out]
      have by_ : Below B w wy := bx.trans (hby.mono hzx)
      go_wp2_with fail
      go_ret
      exact ⟨rfl, by_⟩
end Go.Proofs.Ytjlomjdghmjkmaa.vegasAlphas
