/- VegasShare: the walk. -/
import Derived.Test.YtjlomjdghmjkmaaVgAwake
import Derived.Deep.QuietTactic
import Derived.BigQuiet
import Derived.IntWalk
import Derived.Deep.AppendLies
namespace Go.Proofs.Ytjlomjdghmjkmaa.vegasShare
open Go.RowKit
set_option linter.unusedVariables false
set_option linter.unusedSimpArgs false

set_option maxRecDepth 100000 in
set_option maxHeartbeats 16000000 in
theorem walk (A : Option Addr) (n cc : Nat) (l : List Sp) (i k total : Int) (w : World) (hs : Ss w A n cc l) :
    Calls Try.prog 8 #[.slice A n cc, .int .i64 i, .int .i64 k, .int .i64 total] w fun e w' => e = .returned (.bool true) ∧ Below w.heap.size w w' := by
  obtain ⟨B, hB⟩ : ∃ B, w.heap.size = B := ⟨_, rfl⟩
  rw [hB]
  have HB := Lib.hid hB
  have hl := hs.rd.len
  have m1 := hs.le
  have m2 := hs.max
  have m3 : n ≤ 9223372036854775807 := by unfold maxLen at m2; omega
  clear m1 m2 hB
  have HL := Lib.hid hl; have HS := Lib.hid hs
  clear hl hs
  go_enter Try.func8, Try.ntmps8
  go_wp2_with fail
  refine (vgawake_any _).mono ?_
  rintro e w2 ⟨rfl, b2⟩
  rw [HB.out] at b2
  have hz2 : B ≤ w2.heap.size := by have := b2.size; rw [HB.out] at this; exact this
  by_cases c0 : 4 < n
  case pos =>
    have d0 : decide (4 < n) = true := decide_eq_true c0
    have x0 : decide ((4 : Int) < (n : Int)) = true := decide_eq_true (by omega)
    go_wp2_with fail
    go_ret
    exact ⟨rfl, b2⟩
  case neg =>
  have d0 : decide (4 < n) = false := decide_eq_false c0
  have x0 : decide ((4 : Int) < (n : Int)) = false := decide_eq_false (by omega)
  by_cases c1 : i < 0
  case pos =>
    have d1 : decide (i < 0) = true := decide_eq_true c1
    go_wp2_with fail
    go_ret
    exact ⟨rfl, b2⟩
  case neg =>
  have d1 : decide (i < 0) = false := decide_eq_false c1
  by_cases c2 : k < 0
  case pos =>
    have d2 : decide (k < 0) = true := decide_eq_true c2
    go_wp2_with fail
    go_ret
    exact ⟨rfl, b2⟩
  case neg =>
  have d2 : decide (k < 0) = false := decide_eq_false c2
  by_cases c3 : (n : Int) ≤ i
  case pos =>
    have d3 : decide ((n : Int) ≤ i) = true := decide_eq_true c3
    go_wp2_with fail
    go_ret
    exact ⟨rfl, b2⟩
  case neg =>
  have d3 : decide ((n : Int) ≤ i) = false := decide_eq_false c3
  by_cases c4 : (n : Int) ≤ k
  case pos =>
    have d4 : decide ((n : Int) ≤ k) = true := decide_eq_true c4
    go_wp2_with fail
    go_ret
    exact ⟨rfl, b2⟩
  case neg =>
  have d4 : decide ((n : Int) ≤ k) = false := decide_eq_false c4
  by_cases c5 : total < 1
  case pos =>
    have d5 : decide (total < 1) = true := decide_eq_true c5
    go_wp2_with fail
    go_ret
    exact ⟨rfl, b2⟩
  case neg =>
  have d5 : decide (total < 1) = false := decide_eq_false c5
  by_cases c6 : 1000000 < total
  case pos =>
    have d6 : decide (1000000 < total) = true := decide_eq_true c6
    go_wp2_with fail
    go_ret
    exact ⟨rfl, b2⟩
  case neg =>
  have d6 : decide (1000000 < total) = false := decide_eq_false c6
  go_upto_region 4 with fail
  obtain ⟨i, rfl⟩ : ∃ j : Nat, i = (j : Int) := ⟨i.toNat, by omega⟩
  obtain ⟨k, rfl⟩ : ∃ j : Nat, k = (j : Int) := ⟨k.toNat, by omega⟩
  have hn4 : n ≤ 4 := by omega
  have hi : i < n := by omega
  have hk : k < n := by omega
  have hil : i < l.length := by have := HL.out; omega
  have hkl : k < l.length := by have := HL.out; omega
  have h4 : l.length ≤ 4 := by have := HL.out; omega
  have t1 := alpha_more (l := l) (i := i) (total := total) hil h4 (by omega) (by omega)
  have t2 : ∀ p r, l.length = 1 → sp l i = (p, r) → (1 ≤ p ∧ p ≤ 1073741824) → (1 ≤ r ∧ r ≤ 1048576) → alphaR l (i : Int) total = total := fun p r h1 e1 hp hr => by
    have e0 : i = 0 := by omega
    rw [e0] at e1 ⊢
    exact alpha_alone h1 (by omega) (by omega) e1 hp hr
  have t3 : ∀ p q r, sp l i = (p, r) → sp l k = (q, r) → (1 ≤ p ∧ p ≤ 1073741824) → (1 ≤ r ∧ r ≤ 1048576) → q ≤ p → alphaR l (k : Int) total ≤ alphaR l (i : Int) total := fun p q r e1 e2 hp hr hq => alpha_mono hil hkl h4 (by omega) (by omega) e1 e2 hp hr hq
  obtain ⟨a, ha⟩ : ∃ x, alphaR l (i : Int) total = x := ⟨_, rfl⟩
  obtain ⟨b, hb⟩ : ∃ x, alphaR l (k : Int) total = x := ⟨_, rfl⟩
  obtain ⟨c, hc⟩ : ∃ x, alphaR l (i : Int) (total + 1) = x := ⟨_, rfl⟩
  rw [ha] at t1 t2 t3
  rw [hb] at t3
  rw [hc] at t1
  have HA := Lib.hid ha; have HBb := Lib.hid hb; have HC := Lib.hid hc; have T2 := Lib.hid t2; have T3 := Lib.hid t3
  have dca : decide (a ≤ c) = true := decide_eq_true t1
  have it : IntKind.i64.wrap (total + 1) = total + 1 := IntWalk.i64_in _ (by omega)
  clear ha hb hc t1 t2 t3 c0 c1 c2 c3 c4 c5 c6 d0 d1 d2 d3 d4 d5 d6 x0 hil hkl h4
  have s2 : Ss w2 A n cc l := HS.out.keep (by rw [HB.out]; exact b2)
  go_wp2_with fail
  refine (vgalpha_any A n cc l _ total _ s2).mono ?_
  rintro e w3 ⟨rfl, hb3⟩
  rw [HA.out]
  have b3 := b2.trans (hb3.mono hz2)
  have hz3 : B ≤ w3.heap.size := Nat.le_trans hz2 hb3.size
  have s3 : Ss w3 A n cc l := HS.out.keep (by rw [HB.out]; exact b3)
  clear hb3 s2
  go_wp2_with fail
  refine (vgalpha_any A n cc l _ total _ s3).mono ?_
  rintro e w4 ⟨rfl, hb4⟩
  rw [HBb.out]
  have b4 := b3.trans (hb4.mono hz3)
  have hz4 : B ≤ w4.heap.size := Nat.le_trans hz3 hb4.size
  have s4 : Ss w4 A n cc l := HS.out.keep (by rw [HB.out]; exact b4)
  clear hb4 s3
  go_wp2_with fail
  refine (vgalpha_any A n cc l _ (total + 1) _ s4).mono ?_
  rintro e w5 ⟨rfl, hb5⟩
  rw [HC.out]
  have b5 := b4.trans (hb5.mono hz4)
  have hz5 : B ≤ w5.heap.size := Nat.le_trans hz4 hb5.size
  have s5 : Ss w5 A n cc l := HS.out.keep (by rw [HB.out]; exact b5)
  clear hb5 s4
  obtain ⟨bb, o, hA, hbl, hcl⟩ := s5.rd.at_ (by omega)
  subst hA
  obtain ⟨y0, y1⟩ := hcl i hi
  obtain ⟨x0, x1⟩ := hcl k hk
  obtain ⟨⟨p, r⟩, hp⟩ : ∃ p, sp l i = p := ⟨_, rfl⟩
  obtain ⟨⟨q, r2⟩, hq⟩ : ∃ p, sp l k = p := ⟨_, rfl⟩
  rw [hp] at y0 y1
  rw [hq] at x0 x1
  simp only at y0 y1 x0 x1
  have HPI := Lib.hid hp; have HPK := Lib.hid hq
  clear hp hq hcl hbl s5
  by_cases f0 : 1 ≤ p
  case neg =>
    have g0 : decide (1 ≤ p) = false := decide_eq_false f0
    by_cases h1 : 1 < n
    case pos =>
      have dh : decide (1 < n) = true := decide_eq_true h1
      go_upto_region 9 with fail
      go_quiet (fail)
      go_wp2_with fail
      go_ret
      exact ⟨rfl, below_drewN b5 _⟩
    case neg =>
      have dh : decide (1 < n) = false := decide_eq_false h1
      go_upto_region 9 with fail
      go_quiet (fail)
      go_wp2_with fail
      go_ret
      exact ⟨rfl, below_drewN b5 _⟩
  case pos =>
  have g0 : decide (1 ≤ p) = true := decide_eq_true f0
  by_cases f1 : p ≤ 1073741824
  case neg =>
    have g1 : decide (p ≤ 1073741824) = false := decide_eq_false f1
    by_cases h1 : 1 < n
    case pos =>
      have dh : decide (1 < n) = true := decide_eq_true h1
      go_upto_region 9 with fail
      go_quiet (fail)
      go_wp2_with fail
      go_ret
      exact ⟨rfl, below_drewN b5 _⟩
    case neg =>
      have dh : decide (1 < n) = false := decide_eq_false h1
      go_upto_region 9 with fail
      go_quiet (fail)
      go_wp2_with fail
      go_ret
      exact ⟨rfl, below_drewN b5 _⟩
  case pos =>
  have g1 : decide (p ≤ 1073741824) = true := decide_eq_true f1
  by_cases f2 : 1 ≤ r
  case neg =>
    have g2 : decide (1 ≤ r) = false := decide_eq_false f2
    by_cases h1 : 1 < n
    case pos =>
      have dh : decide (1 < n) = true := decide_eq_true h1
      go_upto_region 9 with fail
      go_quiet (fail)
      go_wp2_with fail
      go_ret
      exact ⟨rfl, below_drewN b5 _⟩
    case neg =>
      have dh : decide (1 < n) = false := decide_eq_false h1
      go_upto_region 9 with fail
      go_quiet (fail)
      go_wp2_with fail
      go_ret
      exact ⟨rfl, below_drewN b5 _⟩
  case pos =>
  have g2 : decide (1 ≤ r) = true := decide_eq_true f2
  by_cases f3 : r ≤ 1048576
  case neg =>
    have g3 : decide (r ≤ 1048576) = false := decide_eq_false f3
    by_cases h1 : 1 < n
    case pos =>
      have dh : decide (1 < n) = true := decide_eq_true h1
      go_upto_region 9 with fail
      go_quiet (fail)
      go_wp2_with fail
      go_ret
      exact ⟨rfl, below_drewN b5 _⟩
    case neg =>
      have dh : decide (1 < n) = false := decide_eq_false h1
      go_upto_region 9 with fail
      go_quiet (fail)
      go_wp2_with fail
      go_ret
      exact ⟨rfl, below_drewN b5 _⟩
  case pos =>
  have g3 : decide (r ≤ 1048576) = true := decide_eq_true f3
  by_cases h1 : 1 < n
  case pos =>
    have dh : decide (1 < n) = true := decide_eq_true h1
    by_cases c4 : r = r2
    case neg =>
      have d4 : (r != r2) = true := by simpa using c4
      clear c4
      go_upto_region 9 with fail
      go_quiet (fail)
      go_wp2_with fail
      go_ret
      exact ⟨rfl, below_drewN b5 _⟩
    case pos =>
    have d4 : (r != r2) = false := by simpa using c4
    by_cases c5 : p < q
    case pos =>
      have d5 : decide (p < q) = true := decide_eq_true c5
      clear c4
      go_upto_region 9 with fail
      go_quiet (fail)
      go_wp2_with fail
      go_ret
      exact ⟨rfl, below_drewN b5 _⟩
    case neg =>
    have d5 : decide (p < q) = false := decide_eq_false c5
    have d6 : decide (b ≤ a) = true := decide_eq_true (T3.out p q r HPI.out (by rw [HPK.out, c4]) ⟨f0, f1⟩ ⟨f2, f3⟩ (by omega))
    clear c4
    go_upto_region 9 with fail
    go_quiet (fail)
    go_wp2_with fail
    go_ret
    exact ⟨rfl, below_drewN b5 _⟩
  case neg =>
    have dh : decide (1 < n) = false := decide_eq_false h1
    have ea : a = total := T2.out p r (by have := HL.out; omega) HPI.out ⟨f0, f1⟩ ⟨f2, f3⟩
    have da : (a == total) = true := by simpa using ea
    clear ea
    by_cases c4 : r = r2
    case neg =>
      have d4 : (r != r2) = true := by simpa using c4
      clear c4
      go_upto_region 9 with fail
      go_quiet (fail)
      go_wp2_with fail
      go_ret
      exact ⟨rfl, below_drewN b5 _⟩
    case pos =>
    have d4 : (r != r2) = false := by simpa using c4
    by_cases c5 : p < q
    case pos =>
      have d5 : decide (p < q) = true := decide_eq_true c5
      clear c4
      go_upto_region 9 with fail
      go_quiet (fail)
      go_wp2_with fail
      go_ret
      exact ⟨rfl, below_drewN b5 _⟩
    case neg =>
    have d5 : decide (p < q) = false := decide_eq_false c5
    have d6 : decide (b ≤ a) = true := decide_eq_true (T3.out p q r HPI.out (by rw [HPK.out, c4]) ⟨f0, f1⟩ ⟨f2, f3⟩ (by omega))
    clear c4
    go_upto_region 9 with fail
    go_quiet (fail)
    go_wp2_with fail
    go_ret
    exact ⟨rfl, below_drewN b5 _⟩
end Go.Proofs.Ytjlomjdghmjkmaa.vegasShare
