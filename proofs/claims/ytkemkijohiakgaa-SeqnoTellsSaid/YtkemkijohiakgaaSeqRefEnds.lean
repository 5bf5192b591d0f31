/- The reference answer of layer 2, Unwrap, near below 0 and above 2^62; then every number. -/
import Derived.Test.YtkemkijohiakgaaSeqRefUn
import Derived.WalkKit
import Derived.WalkSpells
import Derived.Lib.Hide
import Derived.WalkSmall
import Derived.Below
namespace Go.Proofs.Ytkemkijohiakgaa
open Go.RowKit

set_option maxHeartbeats 2000000 in
theorem runwrap_neg (near low : Int) (h0 : near < 0) (h2 : 0 ≤ low) (h3 : low < 4294967296) (w : World) :
    Calls Try.prog 17 #[.int .i64 near, .int .u32 low] w fun e w' => e = .returned (.int .i64 (unw 0 low)) ∧ w = w' := by
  have hb : (0 : Int) / 4294967296 - 1 = -1 := by decide
  have hbd := Lib.hid (refIt_bd 0 low (by omega) (by omega) h2 h3)
  have hend := Lib.hid (refIt_end 0 low (by omega) (by omega) h2 h3)
  have hstep : Hid (∀ j : Nat, refIt 0 low (j + 1) = refStep 0 low (refIt 0 low j) (0 / 4294967296 - 1 + (j : Int))) := fun _ => rfl
  obtain ⟨U, hU⟩ : ∃ U, unw 0 low = U := ⟨_, rfl⟩
  rw [hU] at hend ⊢
  go_enter Try.func17, Try.ntmps17
  go_wp2
  have Hb := Lib.hid hb; clear hb
  go_loop [6, 7] (fun o k => ∃ (z : Int) (j : Nat), o = .int .i64 z ∧ k = .int .i64 (-1 + (j : Int)) ∧ j ≤ 3 ∧ Hid (z = refIt 0 low j)) (fun _ k => (2 - intOf k).toNat)
  case atStart => exact ⟨-1, 0, rfl, by first | rfl | (congr 1; omega), by omega, rfl⟩
  case round =>
    obtain ⟨z, j, rfl, rfl, hj, hz⟩ := hrel
    obtain ⟨z1, z2⟩ := hbd.out j hj
    rw [← hz.out] at z1 z2
    obtain ⟨k, hk⟩ : ∃ k, -1 + (j : Int) = k := ⟨_, rfl⟩
    rw [hk]
    by_cases h4 : j = 3
    · have h5 : ¬ k ≤ 1 := by omega
      obtain rfl : z = U := by rw [hz.out, h4]; exact hend.out
      go_wp2
      go_ret
      exact ⟨rfl, rfl⟩
    · have h5 : k ≤ 1 := by omega
      have hk1 : -1 ≤ k := by omega
      have hk2 : k ≤ 1073741825 := by omega
      have hst := hstep.out j
      rw [← hz.out, Hb.out, hk] at hst
      unfold refStep at hst
      have Hk := Lib.hid hk; clear hk
      obtain ⟨n, en⟩ : ∃ n, 4294967296 * k + low = n := ⟨_, rfl⟩
      rw [en] at hst
      have n1 : -4294967296 ≤ n := by omega
      have n2 : n ≤ 4611686035607257088 := by omega
      by_cases h6 : 0 ≤ k
      · by_cases h7 : z < 0
        · rw [if_pos ⟨h6, .inl h7⟩] at hst
          have hn : Hid (n = refIt 0 low (j + 1)) := hst.symm
          clear hst
          go_wp2_with (go_at_call 18; refine (rfar_any _ _ (by omega) (by omega) _).mono ?_; rintro e wx ⟨rfl, rfl⟩)
          go_round
          case rel => exact ⟨_, j + 1, rfl, by have := Hk.out; congr 1; omega, by omega, hn.out⟩
          case measure => simp [intOf]; omega
        · have n3 : 0 ≤ n := by omega
          by_cases h8 : farN n 0 < farN z 0
          · rw [if_pos ⟨h6, .inr h8⟩] at hst
            have hn : Hid (n = refIt 0 low (j + 1)) := hst.symm
            clear hst
            go_wp2_with (go_at_call 18; refine (rfar_any _ _ (by omega) (by omega) _).mono ?_; rintro e wx ⟨rfl, rfl⟩)
            go_round
            case rel => exact ⟨_, j + 1, rfl, by have := Hk.out; congr 1; omega, by omega, hn.out⟩
            case measure => simp [intOf]; omega
          · rw [if_neg (by omega)] at hst
            have hn : Hid (z = refIt 0 low (j + 1)) := hst.symm
            clear hst
            go_wp2_with (go_at_call 18; refine (rfar_any _ _ (by omega) (by omega) _).mono ?_; rintro e wx ⟨rfl, rfl⟩)
            go_round
            case rel => exact ⟨_, j + 1, rfl, by have := Hk.out; congr 1; omega, by omega, hn.out⟩
            case measure => simp [intOf]; omega
      · rw [if_neg (by omega)] at hst
        have hn : Hid (z = refIt 0 low (j + 1)) := hst.symm
        clear hst
        go_wp2_with (go_at_call 18; refine (rfar_any _ _ (by omega) (by omega) _).mono ?_; rintro e wx ⟨rfl, rfl⟩)
        go_round
        case rel => exact ⟨_, j + 1, rfl, by have := Hk.out; congr 1; omega, by omega, hn.out⟩
        case measure => simp [intOf]; omega

set_option maxHeartbeats 2000000 in
theorem runwrap_big (near low : Int) (h0 : 4611686018427387904 < near) (h1 : near ≤ 9223372036854775807) (h2 : 0 ≤ low) (h3 : low < 4294967296) (w : World) :
    Calls Try.prog 17 #[.int .i64 near, .int .u32 low] w fun e w' => e = .returned (.int .i64 (unw 4611686018427387904 low)) ∧ w = w' := by
  have hb : (4611686018427387904 : Int) / 4294967296 - 1 = 1073741823 := by decide
  have hbd := Lib.hid (refIt_bd 4611686018427387904 low (by omega) (by omega) h2 h3)
  have hend := Lib.hid (refIt_end 4611686018427387904 low (by omega) (by omega) h2 h3)
  have hstep : Hid (∀ j : Nat, refIt 4611686018427387904 low (j + 1) = refStep 4611686018427387904 low (refIt 4611686018427387904 low j) (4611686018427387904 / 4294967296 - 1 + (j : Int))) := fun _ => rfl
  obtain ⟨U, hU⟩ : ∃ U, unw 4611686018427387904 low = U := ⟨_, rfl⟩
  rw [hU] at hend ⊢
  go_enter Try.func17, Try.ntmps17
  go_wp2
  have Hb := Lib.hid hb; clear hb
  go_loop [6, 7] (fun o k => ∃ (z : Int) (j : Nat), o = .int .i64 z ∧ k = .int .i64 (1073741823 + (j : Int)) ∧ j ≤ 3 ∧ Hid (z = refIt 4611686018427387904 low j)) (fun _ k => (1073741826 - intOf k).toNat)
  case atStart => exact ⟨-1, 0, rfl, by first | rfl | (congr 1; omega), by omega, rfl⟩
  case round =>
    obtain ⟨z, j, rfl, rfl, hj, hz⟩ := hrel
    obtain ⟨z1, z2⟩ := hbd.out j hj
    rw [← hz.out] at z1 z2
    obtain ⟨k, hk⟩ : ∃ k, 1073741823 + (j : Int) = k := ⟨_, rfl⟩
    rw [hk]
    by_cases h4 : j = 3
    · have h5 : ¬ k ≤ 1073741825 := by omega
      obtain rfl : z = U := by rw [hz.out, h4]; exact hend.out
      go_wp2
      go_ret
      exact ⟨rfl, rfl⟩
    · have h5 : k ≤ 1073741825 := by omega
      have hk1 : -1 ≤ k := by omega
      have hk2 : k ≤ 1073741825 := by omega
      have hst := hstep.out j
      rw [← hz.out, Hb.out, hk] at hst
      unfold refStep at hst
      have Hk := Lib.hid hk; clear hk
      obtain ⟨n, en⟩ : ∃ n, 4294967296 * k + low = n := ⟨_, rfl⟩
      rw [en] at hst
      have n1 : -4294967296 ≤ n := by omega
      have n2 : n ≤ 4611686035607257088 := by omega
      by_cases h6 : 0 ≤ k
      · by_cases h7 : z < 0
        · rw [if_pos ⟨h6, .inl h7⟩] at hst
          have hn : Hid (n = refIt 4611686018427387904 low (j + 1)) := hst.symm
          clear hst
          go_wp2_with (go_at_call 18; refine (rfar_any _ _ (by omega) (by omega) _).mono ?_; rintro e wx ⟨rfl, rfl⟩)
          go_round
          case rel => exact ⟨_, j + 1, rfl, by have := Hk.out; congr 1; omega, by omega, hn.out⟩
          case measure => simp [intOf]; omega
        · have n3 : 0 ≤ n := by omega
          by_cases h8 : farN n 4611686018427387904 < farN z 4611686018427387904
          · rw [if_pos ⟨h6, .inr h8⟩] at hst
            have hn : Hid (n = refIt 4611686018427387904 low (j + 1)) := hst.symm
            clear hst
            go_wp2_with (go_at_call 18; refine (rfar_any _ _ (by omega) (by omega) _).mono ?_; rintro e wx ⟨rfl, rfl⟩)
            go_round
            case rel => exact ⟨_, j + 1, rfl, by have := Hk.out; congr 1; omega, by omega, hn.out⟩
            case measure => simp [intOf]; omega
          · rw [if_neg (by omega)] at hst
            have hn : Hid (z = refIt 4611686018427387904 low (j + 1)) := hst.symm
            clear hst
            go_wp2_with (go_at_call 18; refine (rfar_any _ _ (by omega) (by omega) _).mono ?_; rintro e wx ⟨rfl, rfl⟩)
            go_round
            case rel => exact ⟨_, j + 1, rfl, by have := Hk.out; congr 1; omega, by omega, hn.out⟩
            case measure => simp [intOf]; omega
      · rw [if_neg (by omega)] at hst
        have hn : Hid (z = refIt 4611686018427387904 low (j + 1)) := hst.symm
        clear hst
        go_wp2_with (go_at_call 18; refine (rfar_any _ _ (by omega) (by omega) _).mono ?_; rintro e wx ⟨rfl, rfl⟩)
        go_round
        case rel => exact ⟨_, j + 1, rfl, by have := Hk.out; congr 1; omega, by omega, hn.out⟩
        case measure => simp [intOf]; omega
theorem runwrap_any (near low : Int) (h1 : near ≤ 9223372036854775807) (h2 : 0 ≤ low) (h3 : low < 4294967296) (w : World) :
    Calls Try.prog 17 #[.int .i64 near, .int .u32 low] w fun e w' => e = .returned (.int .i64 (unw (near0 near) low)) ∧ w = w' := by
  unfold near0
  split
  · exact runwrap_neg near low (by omega) h2 h3 w
  · split
    · exact runwrap_big near low (by omega) h1 h2 h3 w
    · exact runwrap_mid near low (by omega) (by omega) h2 h3 w
end Go.Proofs.Ytkemkijohiakgaa
