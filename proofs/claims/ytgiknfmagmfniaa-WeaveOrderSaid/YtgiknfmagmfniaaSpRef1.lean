/- The reference's One, May, In, Has, Size, Gap: every list. -/
import Derived.Test.YtgiknfmagmfniaaSpAsk
import Derived.Test.YtgiknfmagmfniaaSpSame
import Derived.Deep.RegionHeld3
import Derived.IntWalk
namespace Go.Proofs.Ytgiknfmagmfniaa
open Go.RowKit

theorem bool_false {x : Bool} (h : ¬ x = true) : x = false := by simpa using h

set_option maxHeartbeats 1000000 in
theorem rone_any (a b : Int) (w : World) :
    Calls Try.prog 55 #[.agg #[.int .i64 a, .int .i64 b]] w fun e w' => e = .returned (.bool (vld a b)) ∧ Below w.heap.size w w' := by
  have e : vld a b = (decide (0 ≤ a) && (decide (a < b) && decide (b ≤ 4611686018427387904))) := rfl
  have hx := Boxed2.new w 52 (.int .i64 a) (.int .i64 b)
  have hx1 := hx.fst
  have hx2 := hx.snd
  have hb : Below w.heap.size w (w.alloc (.cells #[.int .i64 a, .int .i64 b] 52)) := (Below.refl _ _).alloc (Nat.le_refl _) _
  by_cases h1 : 0 ≤ a
  · by_cases h2 : a < b
    · by_cases h3 : b ≤ 4611686018427387904
      · rw [decide_eq_true h1, decide_eq_true h2, decide_eq_true h3] at e
        rw [e]
        go_enter Try.func55, Try.ntmps55
        go_wp2
        go_ret
        exact ⟨rfl, hb⟩
      · rw [decide_eq_true h1, decide_eq_true h2, decide_eq_false h3] at e
        rw [e]
        go_enter Try.func55, Try.ntmps55
        go_wp2
        go_ret
        exact ⟨rfl, hb⟩
    · rw [decide_eq_true h1, decide_eq_false h2] at e
      rw [e]
      have h2' : b ≤ a := by omega
      go_enter Try.func55, Try.ntmps55
      go_wp2
      go_ret
      exact ⟨rfl, hb⟩
  · rw [decide_eq_false h1] at e
    rw [e]
    have h1' : a < 0 := by omega
    go_enter Try.func55, Try.ntmps55
    go_wp2
    go_ret
    exact ⟨rfl, hb⟩

set_option maxHeartbeats 2000000 in
theorem rin_any (A : Option Addr) (n c : Nat) (l : List Sp) (x : Int) (w : World) (hs : Ss w A n c l) :
    Calls Try.prog 37 #[.slice A n c, .int .i64 x] w fun e w' => e = .returned (.bool (inB l x)) ∧ w = w' := by
  have hl := hs.rd.len
  have m1 := hs.le
  have m2 := hs.max
  have m3 : n ≤ 9223372036854775807 := by unfold maxLen at m2; omega
  clear m1 m2
  have HA := Lib.hid hs; clear hs
  go_enter Try.func37, Try.ntmps37
  go_wp2
  go_loopw [5] (fun i wr => ∃ k : Nat, k ≤ n ∧ i = .int .i64 k ∧ inB (l.take k) x = false ∧ w = wr) (fun i _ => n - (intOf i).toNat)
  case atStart => exact ⟨0, Nat.zero_le _, rfl, rfl, rfl⟩
  case round =>
    obtain ⟨k, hk, rfl, hin, rfl⟩ := hrel
    by_cases hlt : k < n
    · obtain ⟨b, o, rfl, hbl, hc⟩ := HA.out.rd.at_ (by omega)
      obtain ⟨x1, x2⟩ := hc k hlt
      have hsn := inB_snoc (l.take k) (sp l k) x
      rw [← take_sp (by omega), hin, Bool.false_or] at hsn
      have hcut := fun h => inB_cut (l := l) (k := k + 1) (n := x) h
      clear hc hin
      obtain ⟨⟨p, q⟩, hp⟩ : ∃ p, sp l k = p := ⟨_, rfl⟩
      rw [hp] at x1 x2 hsn
      simp only at x1 x2 hsn
      clear hp
      by_cases h1 : p ≤ x
      · have d1 : decide (p ≤ x) = true := decide_eq_true h1
        by_cases h2 : x < q
        · have d2 : decide (x < q) = true := decide_eq_true h2
          have hr : inB l x = true := hcut (by rw [hsn, d1, d2]; rfl)
          clear hsn hcut
          go_wp2
          go_ret
          exact ⟨by rw [hr]; rfl, rfl⟩
        · have d2 : decide (x < q) = false := decide_eq_false h2
          have h2' : q ≤ x := by omega
          rw [d1, d2] at hsn
          have HS := Lib.hid hsn
          clear hsn hcut
          go_wp2
          go_roundw
          case rel => exact ⟨k + 1, by omega, by go_num, HS.out, by simp⟩
          case measure => simp [intOf]; omega
      · have d1 : decide (p ≤ x) = false := decide_eq_false h1
        have h1' : x < p := by omega
        rw [d1] at hsn
        have HS := Lib.hid hsn
        clear hsn hcut
        go_wp2
        go_roundw
        case rel => exact ⟨k + 1, by omega, by go_num, HS.out, by simp⟩
        case measure => simp [intOf]; omega
    · have hkn : k = n := by omega
      subst hkn
      rw [← hl, List.take_length] at hin
      go_wp2
      go_ret
      exact ⟨by rw [hin]; rfl, rfl⟩

end Go.Proofs.Ytgiknfmagmfniaa
