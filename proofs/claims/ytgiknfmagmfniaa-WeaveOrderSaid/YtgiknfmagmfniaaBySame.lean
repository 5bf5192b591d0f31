/- The reference of package check: Same as a contract of the call. -/
import Derived.Test.YtgiknfmagmfniaaProg
import Derived.Test.YtgiknfmagmfniaaBy
import Derived.WalkKit
import Derived.WalkSpells
import Derived.Lib.Hide
import Derived.WalkSmall
import Derived.Below
import Derived.Outline
import Derived.Deep.QuietTactic
import Derived.BigQuiet
namespace Go.Proofs.Ytgiknfmagmfniaa
open Go.RowKit

set_option maxHeartbeats 1000000 in
theorem bsame_any (A B : Option Addr) (n c n' c' : Nat) (l m : List Int) (w : World) (hr : Rd w A n l) (hs : Rd w B n' m) (hn : n ≤ 9223372036854775807) :
    Calls Try.prog 18 #[.slice A n c, .slice B n' c'] w fun e w' => e = .returned (.bool (sameB l m)) ∧ ∃ q, w' = w.drewN q := by
  by_cases hne : n = n'
  · subst hne
    have HR := Lib.hid hr; clear hr
    have HS := Lib.hid hs; clear hs
    have hx : ((n : Int) != (n : Int)) = false := by simp
    go_enter Try.func18, Try.ntmps18
    go_wp2
    go_loopw [5] (fun i wr => ∃ k q : Nat, k ≤ n ∧ i = .int .i64 k ∧ Pre l m k ∧ wr = w.drewN q) (fun i _ => n - (intOf i).toNat)
    case atStart => exact ⟨0, 0, Nat.zero_le _, rfl, fun i hi => by omega, rfl⟩
    case round =>
      obtain ⟨k, q, hk, rfl, hpre, rfl⟩ := hrel
      have HP := Lib.hid hpre; clear hpre
      by_cases hlt : k < n
      · obtain ⟨b, o, rfl, hbl, hc⟩ := HR.out.spot (by omega)
        obtain ⟨b2, o2, rfl, hbl2, hc2⟩ := HS.out.spot (by omega)
        have hcell := hc.out k hlt
        have hcell2 := hc2.out k hlt
        have i0 : (0 : Int) ≤ (k : Int) := by omega
        have i1 : (k : Int) < (n : Int) := by omega
        by_cases heq : byt l k = byt m k
        · have hpre' : Pre l m (k + 1) := fun i hi => by
            by_cases h : i < k
            · exact HP.out i h
            · obtain rfl : i = k := by omega
              exact heq
          obtain ⟨z, hz⟩ : ∃ z, byt l k = z := ⟨_, rfl⟩
          rw [← heq, hz] at hcell2
          rw [hz] at hcell
          have hzz : (z != z) = false := by simp
          clear hz heq
          go_wp2_with fail
          go_quiet (fail)
          go_wp2
          go_roundw
          case rel => exact ⟨k + 1, _, by omega, by go_num, hpre', rfl⟩
          case measure => simp [intOf]; omega
        · have hno : sameB l m = false := decide_eq_false (fun e => heq (by rw [e]))
          obtain ⟨z, hz⟩ : ∃ z, byt l k = z := ⟨_, rfl⟩
          obtain ⟨y, hy⟩ : ∃ y, byt m k = y := ⟨_, rfl⟩
          rw [hz] at hcell heq
          rw [hy] at hcell2 heq
          have hzz : (z != y) = true := by simpa using heq
          have HN := Lib.hid hno; clear hno
          clear hz hy heq
          go_wp2_with fail
          go_quiet (fail)
          go_wp2
          go_ret
          exact ⟨ret_bool HN.out.symm, _, World.drewN_drewN _ _ _⟩
      · have hkn : k = n := by omega
        subst hkn
        have hyes : sameB l m = true := decide_eq_true (byt_ext (by rw [HR.out.len, HS.out.len]) (fun i hi => HP.out i (by rw [HR.out.len] at hi; exact hi)))
        have HY := Lib.hid hyes; clear hyes
        go_wp2
        go_ret
        exact ⟨ret_bool HY.out.symm, _, rfl⟩
  · have hno : sameB l m = false := decide_eq_false (fun e => hne (by rw [← hr.len, ← hs.len, e]))
    have hx : ((n : Int) != (n' : Int)) = true := by simp; omega
    have HN := Lib.hid hno; clear hno
    go_enter Try.func18, Try.ntmps18
    go_wp2
    go_ret
    exact ⟨ret_bool HN.out.symm, 0, rfl⟩

theorem bsame_yes (A B : Option Addr) (n c c' : Nat) (l : List Int) (w : World) (hr : Rd w A n l) (hs : Rd w B n l) (hn : n ≤ 9223372036854775807) :
    Calls Try.prog 18 #[.slice A n c, .slice B n c'] w fun e w' => e = .returned (.bool true) ∧ Below w.heap.size w w' :=
  (bsame_any A B n c n c' l l w hr hs hn).mono fun e w' ⟨he, q, hw⟩ => ⟨by rw [he]; unfold sameB; simp, by rw [hw]; exact below_drewN (Below.refl _ _) q⟩
theorem bsame_no (A B : Option Addr) (n c n' c' : Nat) (l m : List Int) (w : World) (hr : Rd w A n l) (hs : Rd w B n' m) (hn : n ≤ 9223372036854775807) (hne : l ≠ m) :
    Calls Try.prog 18 #[.slice A n c, .slice B n' c'] w fun e w' => e = .returned (.bool false) ∧ Below w.heap.size w w' :=
  (bsame_any A B n c n' c' l m w hr hs hn).mono fun e w' ⟨he, q, hw⟩ => ⟨by rw [he]; unfold sameB; simp [hne], by rw [hw]; exact below_drewN (Below.refl _ _) q⟩

end Go.Proofs.Ytgiknfmagmfniaa
