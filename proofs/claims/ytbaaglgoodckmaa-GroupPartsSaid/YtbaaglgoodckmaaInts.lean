/- The reference's Ints (two lists of ints are the same) as a contract of the call. -/
import Derived.Test.YtbaaglgoodckmaaProg
import Derived.Test.YtbaaglgoodckmaaIt
import Derived.WalkKit
import Derived.WalkSpells
import Derived.WalkSmall
import Derived.Lib.Hide
import Derived.Below
import Derived.Outline
import Derived.OrdersHeld
import Derived.Deep.QuietTactic
import Derived.BigQuiet
import Derived.IntWalk
import Derived.Deep.DeepCutAuto
import Derived.Deep.AppendLies
namespace Go.Proofs.Ytbaaglgoodckmaa
open Go.RowKit
set_option linter.unusedVariables false
set_option linter.unusedSimpArgs false

theorem it_ext {a b : List Int} (h : a.length = b.length) (he : ∀ i, i < a.length → it a i = it b i) : a = b := by
  apply List.ext_getElem h
  intro i h1 h2
  have := he i h1
  rwa [it_eq h1, it_eq h2] at this
set_option maxRecDepth 100000 in
set_option maxHeartbeats 4000000 in
theorem ints_any (A : Option Addr) (n c : Nat) (l : List Int) (A2 : Option Addr) (n2 c2 : Nat) (l2 : List Int) (w : World) (hs : Si w A n c l) (ht : Si w A2 n2 c2 l2) :
    Calls Try.prog 12 #[.slice A n c, .slice A2 n2 c2] w fun e w' => e = .returned (.bool (decide (l = l2))) ∧ Below w.heap.size w w' := by
  have hl := hs.rd.len; have hl2 := ht.rd.len
  have m1 := hs.le; have m3 := ht.le
  have m2 := hs.max; have m4 := ht.max
  unfold maxLen at m2 m4
  obtain ⟨q, hq⟩ : ∃ q, decide (l = l2) = q := ⟨_, rfl⟩
  rw [hq]
  have HQ := Lib.hid hq; have HL := Lib.hid hl; have HL2 := Lib.hid hl2
  clear hq hl hl2
  by_cases hn : n = n2
  case neg =>
    have hF : q = false := by
      rw [← HQ.out]
      exact decide_eq_false (fun h => hn (by rw [← HL.out, ← HL2.out, h]))
    subst hF
    have hne : ((n : Int) == (n2 : Int)) = false := by simp; omega
    have hne2 : ((n : Int) != (n2 : Int)) = true := by simp; omega
    go_enter Try.func12, Try.ntmps12
    go_wp2_with fail
    go_ret
    exact ⟨rfl, Below.refl _ _⟩
  case pos =>
  subst hn
  have HS := Lib.hid hs; have HT := Lib.hid ht; clear hs ht
  go_enter Try.func12, Try.ntmps12
  go_wp2_with fail
  go_loopw [5] (fun i wr => ∃ k r : Nat, k ≤ n ∧ i = .int .i64 (k : Int) ∧ Hid (∀ i, i < k → it l i = it l2 i) ∧ wr = w.drewN r) (fun i _ => n - (intOf i).toNat)
  case atStart => exact ⟨0, 0, Nat.zero_le _, rfl, (fun i hi => absurd hi (by omega)), rfl⟩
  case round =>
    obtain ⟨k, r, hkn, rfl, HO, rfl⟩ := hrel
    by_cases hlt : k < n
    · have dlt : decide (k < n) = true := decide_eq_true hlt
      obtain ⟨b, o, hA, hbl, hc⟩ := HS.out.rd.at_ (by omega)
      obtain ⟨b', o', hA', hbl', hc'⟩ := HT.out.rd.at_ (by omega)
      subst hA hA'
      have p1 := hc k hlt
      have q1 := hc' k hlt
      obtain ⟨p, hp⟩ : ∃ p, it l k = p := ⟨_, rfl⟩
      obtain ⟨p', hp'⟩ : ∃ p, it l2 k = p := ⟨_, rfl⟩
      rw [hp] at p1
      rw [hp'] at q1
      have HP := Lib.hid hp; have HP' := Lib.hid hp'
      clear hc hc' hp hp'
      go_upto_region 6 with fail
      by_cases ha : p = p'
      · subst ha
        go_quiet (fail)
        go_wp2_with fail
        go_roundw
        case rel => exact ⟨k + 1, _, by omega, by go_num, (fun i hi => by
          by_cases e : i = k
          · subst e; rw [HP.out, HP'.out]
          · exact HO.out i (by omega)), rfl⟩
        case measure => simp [intOf]; omega
      · have hF : q = false := by
          rw [← HQ.out]
          exact decide_eq_false (fun h => ha (by have h2 := HP'.out; rw [← h, HP.out] at h2; exact h2))
        subst hF
        have ha3 : (p == p') = false := by simpa using ha
        clear ha
        go_quiet (fail)
        go_wp2_with fail
        go_ret
        exact ⟨rfl, below_drewN (below_drewN (Below.refl _ _) _) _⟩
    · obtain rfl : k = n := by omega
      have dlt : decide (k < k) = false := decide_eq_false (by omega)
      have hT : q = true := by
        rw [← HQ.out]
        exact decide_eq_true (it_ext (by rw [HL.out, HL2.out]) (by rw [HL.out]; exact HO.out))
      subst hT
      go_wp2_with fail
      go_ret
      exact ⟨rfl, below_drewN (Below.refl _ _) _⟩
end Go.Proofs.Ytbaaglgoodckmaa
