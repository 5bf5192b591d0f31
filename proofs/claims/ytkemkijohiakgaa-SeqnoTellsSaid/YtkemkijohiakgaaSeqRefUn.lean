/- The reference answer of layer 2, Unwrap, as a contract of the call: every number. -/
import Derived.Test.YtkemkijohiakgaaSeqRef
import Derived.WalkKit
import Derived.WalkSpells
import Derived.Lib.Hide
import Derived.WalkSmall
import Derived.Below
namespace Go.Proofs.Ytkemkijohiakgaa
open Go.RowKit

/-- one number tried: k turns and the low bits -/
def refStep (c low o k : Int) : Int := if 0 ≤ k ∧ (o < 0 ∨ farN (4294967296 * k + low) c < farN o c) then 4294967296 * k + low else o
def refIt (c low : Int) : Nat → Int
  | 0 => -1
  | j + 1 => refStep c low (refIt c low j) (c / 4294967296 - 1 + (j : Int))

theorem refIt_bd (c low : Int) (h0 : 0 ≤ c) (h1 : c ≤ 4611686018427387904) (h2 : 0 ≤ low) (h3 : low < 4294967296) : ∀ j : Nat, j ≤ 3 → -1 ≤ refIt c low j ∧ refIt c low j ≤ 4611686035607257088
  | 0, _ => by simp [refIt]
  | j + 1, h => by
    have := refIt_bd c low h0 h1 h2 h3 j (by omega)
    simp only [refIt, refStep]
    split <;> omega

set_option maxHeartbeats 2000000 in
theorem refIt_end (c low : Int) (h0 : 0 ≤ c) (h1 : c ≤ 4611686018427387904) (h2 : 0 ≤ low) (h3 : low < 4294967296) : refIt c low 3 = unw c low := by
  have e : refIt c low 3 = refStep c low (refStep c low (refStep c low (-1) (c / 4294967296 - 1)) (c / 4294967296)) (c / 4294967296 + 1) := by
    have e0 : c / 4294967296 - 1 + ((0 : Nat) : Int) = c / 4294967296 - 1 := by omega
    have e1 : c / 4294967296 - 1 + ((1 : Nat) : Int) = c / 4294967296 := by omega
    have e2 : c / 4294967296 - 1 + ((2 : Nat) : Int) = c / 4294967296 + 1 := by omega
    show refStep c low (refStep c low (refStep c low (-1) (c / 4294967296 - 1 + ((0 : Nat) : Int))) (c / 4294967296 - 1 + ((1 : Nat) : Int))) (c / 4294967296 - 1 + ((2 : Nat) : Int)) = _
    rw [e0, e1, e2]
  rw [e]; clear e
  have hd := Int.emod_add_mul_ediv c 4294967296
  have hm1 := Int.emod_nonneg c (show (4294967296 : Int) ≠ 0 by decide)
  have hm2 := Int.emod_lt_of_pos c (show (0 : Int) < 4294967296 by decide)
  generalize c / 4294967296 = b at *
  generalize c % 4294967296 = r at *
  have s1 : refStep c low (-1) (b - 1) = if 1 ≤ b then 4294967296 * (b - 1) + low else -1 := by
    unfold refStep
    by_cases hb : 1 ≤ b
    · rw [if_pos ⟨by omega, .inl (by omega)⟩, if_pos hb]
    · rw [if_neg (by omega), if_neg hb]
  rw [s1]; clear s1
  unfold refStep farN unw firstN
  (repeat' split) <;> omega

set_option maxHeartbeats 2000000 in
theorem runwrap_mid (near low : Int) (h0 : 0 ≤ near) (h1 : near ≤ 4611686018427387904) (h2 : 0 ≤ low) (h3 : low < 4294967296) (w : World) :
    Calls Try.prog 17 #[.int .i64 near, .int .u32 low] w fun e w' => e = .returned (.int .i64 (unw near low)) ∧ w = w' := by
  obtain ⟨b, hb⟩ : ∃ b, near / 4294967296 = b := ⟨_, rfl⟩
  have hb1 : 0 ≤ b := by omega
  have hb2 : b ≤ 1073741824 := by omega
  have hbd := Lib.hid (refIt_bd near low (by omega) (by omega) h2 h3)
  have hend := Lib.hid (refIt_end near low (by omega) (by omega) h2 h3)
  have hstep : Hid (∀ j : Nat, refIt near low (j + 1) = refStep near low (refIt near low j) (near / 4294967296 - 1 + (j : Int))) := fun _ => rfl
  obtain ⟨U, hU⟩ : ∃ U, unw near low = U := ⟨_, rfl⟩
  rw [hU] at hend ⊢
  go_enter Try.func17, Try.ntmps17
  go_wp2
  rw [hb]
  have Hb := Lib.hid hb; clear hb
  go_loop [6, 7] (fun o k => ∃ (z : Int) (j : Nat), o = .int .i64 z ∧ k = .int .i64 (b - 1 + (j : Int)) ∧ j ≤ 3 ∧ Hid (z = refIt near low j)) (fun _ k => (b + 2 - intOf k).toNat)
  case atStart => exact ⟨-1, 0, rfl, by first | rfl | (congr 1; omega), by omega, rfl⟩
  case round =>
    obtain ⟨z, j, rfl, rfl, hj, hz⟩ := hrel
    obtain ⟨z1, z2⟩ := hbd.out j hj
    rw [← hz.out] at z1 z2
    obtain ⟨k, hk⟩ : ∃ k, b - 1 + (j : Int) = k := ⟨_, rfl⟩
    rw [hk]
    by_cases h4 : j = 3
    · have h5 : ¬ k ≤ b + 1 := by omega
      obtain rfl : z = U := by rw [hz.out, h4]; exact hend.out
      go_wp2
      go_ret
      exact ⟨rfl, rfl⟩
    · have h5 : k ≤ b + 1 := by omega
      have hk1 : -1 ≤ k := by omega
      have hk2 : k ≤ 1073741825 := by omega
      have hst := hstep.out j
      rw [← hz.out, Hb.out, hk] at hst
      unfold refStep at hst
      have Hk := Lib.hid hk; clear hk
      obtain ⟨n, en⟩ : ∃ n, 4294967296 * k + low = n := ⟨_, rfl⟩
      rw [en] at hst
      have n1 : -4294967296 ≤ n := by omega
      have n2 : n ≤ 4611686035607257088 := by omega
      by_cases h6 : 0 ≤ k
      · by_cases h7 : z < 0
        · rw [if_pos ⟨h6, .inl h7⟩] at hst
          have hn : Hid (n = refIt near low (j + 1)) := hst.symm
          clear hst
          go_wp2_with (go_at_call 18; refine (rfar_any _ _ (by omega) (by omega) _).mono ?_; rintro e wx ⟨rfl, rfl⟩)
          go_round
          case rel => exact ⟨_, j + 1, rfl, by have := Hk.out; congr 1; omega, by omega, hn.out⟩
          case measure => simp [intOf]; omega
        · have n3 : 0 ≤ n := by omega
          by_cases h8 : farN n near < farN z near
          · rw [if_pos ⟨h6, .inr h8⟩] at hst
            have hn : Hid (n = refIt near low (j + 1)) := hst.symm
            clear hst
            go_wp2_with (go_at_call 18; refine (rfar_any _ _ (by omega) (by omega) _).mono ?_; rintro e wx ⟨rfl, rfl⟩)
            go_round
            case rel => exact ⟨_, j + 1, rfl, by have := Hk.out; congr 1; omega, by omega, hn.out⟩
            case measure => simp [intOf]; omega
          · rw [if_neg (by omega)] at hst
            have hn : Hid (z = refIt near low (j + 1)) := hst.symm
            clear hst
            go_wp2_with (go_at_call 18; refine (rfar_any _ _ (by omega) (by omega) _).mono ?_; rintro e wx ⟨rfl, rfl⟩)
            go_round
            case rel => exact ⟨_, j + 1, rfl, by have := Hk.out; congr 1; omega, by omega, hn.out⟩
            case measure => simp [intOf]; omega
      · rw [if_neg (by omega)] at hst
        have hn : Hid (z = refIt near low (j + 1)) := hst.symm
        clear hst
        go_wp2_with (go_at_call 18; refine (rfar_any _ _ (by omega) (by omega) _).mono ?_; rintro e wx ⟨rfl, rfl⟩)
        go_round
        case rel => exact ⟨_, j + 1, rfl, by have := Hk.out; congr 1; omega, by omega, hn.out⟩
        case measure => simp [intOf]; omega
end Go.Proofs.Ytkemkijohiakgaa
