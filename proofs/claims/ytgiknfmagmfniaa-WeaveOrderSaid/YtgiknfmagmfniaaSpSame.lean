/- The reference's Same: are two lists the same? -/
import Derived.Test.YtgiknfmagmfniaaProg
import Derived.Test.YtgiknfmagmfniaaSp
import Derived.WalkKit
import Derived.WalkSpells
import Derived.WalkSmall
import Derived.Lib.Hide
import Derived.Below
import Derived.Outline
import Derived.Deep.QuietTactic
import Derived.BigQuiet
import Derived.Deep.DrawnRows
namespace Go.Proofs.Ytgiknfmagmfniaa
open Go.RowKit

/-- the first k elements are the same -/
def Agree (a b : List Sp) (k : Nat) : Prop := ∀ i, i < k → sp a i = sp b i
theorem agree_zero (a b : List Sp) : Agree a b 0 := fun i hi => by omega
theorem agree_succ {a b : List Sp} {k : Nat} (h : Agree a b k) (e : sp a k = sp b k) : Agree a b (k + 1) := fun i hi => by
  rcases Nat.lt_or_eq_of_le (Nat.le_of_lt_succ hi) with h1 | h1
  · exact h i h1
  · subst h1; exact e

set_option maxHeartbeats 2000000 in
theorem same_any (A B : Option Addr) (n1 c1 n2 c2 : Nat) (l1 l2 : List Sp) (w : World) (h1 : Ss w A n1 c1 l1) (h2 : Ss w B n2 c2 l2) :
    Calls Try.prog 38 #[.slice A n1 c1, .slice B n2 c2] w fun e w' => e = .returned (.bool (decide (l1 = l2))) ∧ Below w.heap.size w w' := by
  have hl1 := h1.rd.len
  have hl2 := h2.rd.len
  have m1 := h1.le
  have m2 := h1.max
  have m3 : n1 ≤ 9223372036854775807 := by unfold maxLen at m2; omega
  clear m1 m2
  by_cases hn : n1 = n2
  case neg =>
    have e0 : decide (l1 = l2) = false := decide_eq_false (fun e => hn (by rw [← hl1, ← hl2, e]))
    have hn' : ¬ ((n1 : Int) = (n2 : Int)) := by omega
    rw [e0]
    go_enter Try.func38, Try.ntmps38
    go_wp2
    go_ret
    exact ⟨rfl, Below.refl _ _⟩
  case pos =>
  subst hn
  have HA := Lib.hid h1; clear h1
  have HB := Lib.hid h2; clear h2
  go_enter Try.func38, Try.ntmps38
  go_wp2
  go_loopw [5] (fun i wr => ∃ k : Nat, k ≤ n1 ∧ i = .int .i64 k ∧ Agree l1 l2 k ∧ Below w.heap.size w wr) (fun i _ => n1 - (intOf i).toNat)
  case atStart => exact ⟨0, Nat.zero_le _, rfl, agree_zero _ _, Below.refl _ _⟩
  case round =>
    obtain ⟨k, hk, rfl, hag, hb⟩ := hrel
    by_cases hlt : k < n1
    · obtain ⟨b1, o1, rfl, q1, d1⟩ := HA.out.rd.at_ (by omega)
      obtain ⟨b2, o2, rfl, q2, d2⟩ := HB.out.rd.at_ (by omega)
      have x1 := (hb.cell (p := ⟨b1, o1 + k * 2, none⟩) q1).trans (d1 k hlt).1
      have x2 := (hb.cell (p := ⟨b1, o1 + k * 2 + 1, none⟩) q1).trans (d1 k hlt).2
      have x3 := (hb.cell (p := ⟨b2, o2 + k * 2, none⟩) q2).trans (d2 k hlt).1
      have x4 := (hb.cell (p := ⟨b2, o2 + k * 2 + 1, none⟩) q2).trans (d2 k hlt).2
      have hs := fun e => agree_succ hag (k := k) e
      have hne : sp l1 k ≠ sp l2 k → decide (l1 = l2) = false := fun h => decide_eq_false (fun e => h (by rw [e]))
      clear d1 d2
      obtain ⟨⟨p1, p2⟩, hp⟩ : ∃ p, sp l1 k = p := ⟨_, rfl⟩
      obtain ⟨⟨r1, r2⟩, hr⟩ : ∃ p, sp l2 k = p := ⟨_, rfl⟩
      rw [hp] at x1 x2
      rw [hr] at x3 x4
      rw [hp, hr] at hs hne
      simp only at x1 x2 x3 x4
      clear hp hr
      have hk0 : (k : Int) < (n1 : Int) := by omega
      have hk1 : (0 : Int) ≤ (k : Int) := by omega
      by_cases he1 : p1 = r1
      · by_cases he2 : p2 = r2
        · subst he1 he2
          have hag' := hs rfl
          clear hs hne
          go_wp2
          go_quiet (fail)
          go_wp2
          go_roundw
          case rel => exact ⟨k + 1, by omega, by go_num, hag', below_drewN hb _⟩
          case measure => simp [intOf]; omega
        · have hd := hne (fun e => he2 (by simpa using congrArg Prod.snd e))
          clear hs hne
          subst he1
          go_wp2
          go_quiet (fail)
          go_wp2
          go_ret
          exact ⟨by rw [hd]; rfl, below_drewN hb _⟩
      · have hd := hne (fun e => he1 (by simpa using congrArg Prod.fst e))
        clear hs hne
        go_wp2
        go_quiet (fail)
        go_wp2
        go_ret
        exact ⟨by rw [hd]; rfl, below_drewN hb _⟩
    · have hkn : k = n1 := by omega
      subst hkn
      have e0 : decide (l1 = l2) = true := decide_eq_true (sp_ext (by rw [hl1, hl2]) (fun i hi => hag i (by omega)))
      go_wp2
      go_ret
      exact ⟨by rw [e0]; rfl, hb⟩

theorem same_yes (A B : Option Addr) (n1 c1 n2 c2 : Nat) (l : List Sp) (w : World) (h1 : Ss w A n1 c1 l) (h2 : Ss w B n2 c2 l) :
    Calls Try.prog 38 #[.slice A n1 c1, .slice B n2 c2] w fun e w' => e = .returned (.bool true) ∧ Below w.heap.size w w' := by
  have := same_any A B n1 c1 n2 c2 l l w h1 h2
  rwa [decide_eq_true (rfl : l = l)] at this
end Go.Proofs.Ytgiknfmagmfniaa
