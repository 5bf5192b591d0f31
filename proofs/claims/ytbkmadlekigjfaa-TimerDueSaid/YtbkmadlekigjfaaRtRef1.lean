/- The reference of package rtt: May as a contract of the call. -/
import Derived.Test.YtbkmadlekigjfaaProg
import Derived.Test.YtbkmadlekigjfaaRt
import Derived.Test.YtbkmadlekigjfaaBx
import Derived.WalkKit
import Derived.WalkSpells
import Derived.WalkSmall
import Derived.Lib.Hide
import Derived.Below
import Derived.Outline
namespace Go.Proofs.Ytbkmadlekigjfaa
open Go.RowKit
set_option linter.unusedVariables false
set_option linter.unusedSimpArgs false

set_option maxRecDepth 100000 in
set_option maxHeartbeats 4000000 in
theorem rrmay_any (has : Bool) (srtt vr rto shift : Int) (w : World) :
    Calls Try.prog 22 #[.agg #[.bool has, .int .i64 srtt, .int .i64 vr, .int .i64 rto, .int .i64 shift]] w fun e w' => e = .returned (.bool (rtB ⟨has, srtt, vr, rto, shift⟩)) ∧ Below w.heap.size w w' := by
  have e0 := Bx.new w 23 [.bool has, .int .i64 srtt, .int .i64 vr, .int .i64 rto, .int .i64 shift]
  have hb0 : Below w.heap.size w (w.alloc (.cells #[.bool has, .int .i64 srtt, .int .i64 vr, .int .i64 rto, .int .i64 shift] 23)) := (Below.refl _ _).alloc (Nat.le_refl _) _
  have x0 := e0.cell 0 rfl; have x1 := e0.cell 1 rfl; have x2 := e0.cell 2 rfl; have x3 := e0.cell 3 rfl; have x4 := e0.cell 4 rfl
  clear e0
  by_cases c0 : srtt < 0
  case pos =>
    have d0 : decide (srtt < 0) = true := decide_eq_true c0
    have hF : rtB ⟨has, srtt, vr, rto, shift⟩ = false := rtB_false (fun h => by have := h.s0; dsimp only at this; omega)
    rw [hF]
    clear hF
    go_enter Try.func22, Try.ntmps22
    go_wp2
    go_ret
    exact ⟨rfl, hb0⟩
  case neg =>
  have d0 : decide (srtt < 0) = false := decide_eq_false c0
  by_cases c1 : 1152921504606846976 < srtt
  case pos =>
    have d1 : decide (1152921504606846976 < srtt) = true := decide_eq_true c1
    have hF : rtB ⟨has, srtt, vr, rto, shift⟩ = false := rtB_false (fun h => by have := h.s1; dsimp only at this; omega)
    rw [hF]
    clear hF
    go_enter Try.func22, Try.ntmps22
    go_wp2
    go_ret
    exact ⟨rfl, hb0⟩
  case neg =>
  have d1 : decide (1152921504606846976 < srtt) = false := decide_eq_false c1
  by_cases c2 : vr < 0
  case pos =>
    have d2 : decide (vr < 0) = true := decide_eq_true c2
    have hF : rtB ⟨has, srtt, vr, rto, shift⟩ = false := rtB_false (fun h => by have := h.v0; dsimp only at this; omega)
    rw [hF]
    clear hF
    go_enter Try.func22, Try.ntmps22
    go_wp2
    go_ret
    exact ⟨rfl, hb0⟩
  case neg =>
  have d2 : decide (vr < 0) = false := decide_eq_false c2
  by_cases c3 : 1152921504606846976 < vr
  case pos =>
    have d3 : decide (1152921504606846976 < vr) = true := decide_eq_true c3
    have hF : rtB ⟨has, srtt, vr, rto, shift⟩ = false := rtB_false (fun h => by have := h.v1; dsimp only at this; omega)
    rw [hF]
    clear hF
    go_enter Try.func22, Try.ntmps22
    go_wp2
    go_ret
    exact ⟨rfl, hb0⟩
  case neg =>
  have d3 : decide (1152921504606846976 < vr) = false := decide_eq_false c3
  by_cases c4 : rto < 0
  case pos =>
    have d4 : decide (rto < 0) = true := decide_eq_true c4
    have hF : rtB ⟨has, srtt, vr, rto, shift⟩ = false := rtB_false (fun h => by have := h.o0; dsimp only at this; omega)
    rw [hF]
    clear hF
    go_enter Try.func22, Try.ntmps22
    go_wp2
    go_ret
    exact ⟨rfl, hb0⟩
  case neg =>
  have d4 : decide (rto < 0) = false := decide_eq_false c4
  by_cases c5 : 1152921504606846976 < rto
  case pos =>
    have d5 : decide (1152921504606846976 < rto) = true := decide_eq_true c5
    have hF : rtB ⟨has, srtt, vr, rto, shift⟩ = false := rtB_false (fun h => by have := h.o1; dsimp only at this; omega)
    rw [hF]
    clear hF
    go_enter Try.func22, Try.ntmps22
    go_wp2
    go_ret
    exact ⟨rfl, hb0⟩
  case neg =>
  have d5 : decide (1152921504606846976 < rto) = false := decide_eq_false c5
  by_cases c6 : 0 ≤ shift
  case neg =>
    have d6 : decide (0 ≤ shift) = false := decide_eq_false c6
    have hF : rtB ⟨has, srtt, vr, rto, shift⟩ = false := rtB_false (fun h => by have := h.h0; dsimp only at this; omega)
    rw [hF]
    clear hF
    go_enter Try.func22, Try.ntmps22
    go_wp2
    go_ret
    exact ⟨rfl, hb0⟩
  case pos =>
  have d6 : decide (0 ≤ shift) = true := decide_eq_true c6
  by_cases c7 : shift ≤ 16
  case neg =>
    have d7 : decide (shift ≤ 16) = false := decide_eq_false c7
    have hF : rtB ⟨has, srtt, vr, rto, shift⟩ = false := rtB_false (fun h => by have := h.h1; dsimp only at this; omega)
    rw [hF]
    clear hF
    go_enter Try.func22, Try.ntmps22
    go_wp2
    go_ret
    exact ⟨rfl, hb0⟩
  case pos =>
  have d7 : decide (shift ≤ 16) = true := decide_eq_true c7
  cases has with
  | true =>
    have hF : rtB ⟨true, srtt, vr, rto, shift⟩ = true := (rtB_iff _).2 ⟨by dsimp only; omega, by dsimp only; omega, by dsimp only; omega, by dsimp only; omega, by dsimp only; omega, by dsimp only; omega, by dsimp only; omega, by dsimp only; omega, Or.inl rfl⟩
    rw [hF]
    clear hF
    go_enter Try.func22, Try.ntmps22
    go_wp2
    go_ret
    exact ⟨rfl, hb0⟩
  | false =>
    by_cases c8 : srtt = 0
    · subst c8
      by_cases c9 : vr = 0
      · subst c9
        have hF : rtB ⟨false, 0, 0, rto, shift⟩ = true := (rtB_iff _).2 ⟨by dsimp only; omega, by dsimp only; omega, by dsimp only; omega, by dsimp only; omega, by dsimp only; omega, by dsimp only; omega, by dsimp only; omega, by dsimp only; omega, Or.inr ⟨rfl, rfl⟩⟩
        rw [hF]
        clear hF
        go_enter Try.func22, Try.ntmps22
        go_wp2
        go_ret
        exact ⟨rfl, hb0⟩
      · have d9 : (vr == 0) = false := by simpa using c9
        have hF : rtB ⟨false, 0, vr, rto, shift⟩ = false := rtB_false (fun h => by have := h.z; dsimp only at this; simp at this; exact c9 this)
        rw [hF]
        clear hF
        go_enter Try.func22, Try.ntmps22
        go_wp2
        go_ret
        exact ⟨rfl, hb0⟩
    · have d8 : (srtt == 0) = false := by simpa using c8
      have hF : rtB ⟨false, srtt, vr, rto, shift⟩ = false := rtB_false (fun h => by have := h.z; dsimp only at this; simp at this; exact c8 this.1)
      rw [hF]
      clear hF
      go_enter Try.func22, Try.ntmps22
      go_wp2
      go_ret
      exact ⟨rfl, hb0⟩
end Go.Proofs.Ytbkmadlekigjfaa
