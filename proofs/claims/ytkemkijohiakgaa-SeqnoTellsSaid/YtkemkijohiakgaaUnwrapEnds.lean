/- Package seqno: Unwrap as a contract of the call, near below 0 and above 2^62; then every number. -/
import Derived.Test.YtkemkijohiakgaaUnwrap
import Derived.WalkKit
import Derived.WalkSpells
import Derived.Lib.Hide
import Derived.WalkSmall
import Derived.WalkMore
import Derived.ScopeJumps
import Derived.Below
namespace Go.Proofs.Ytkemkijohiakgaa
open Go.RowKit

set_option maxHeartbeats 1000000 in
theorem unwrap_neg (near low : Int) (hneg : near < 0) (h2 : 0 ≤ low) (h3 : low < 4294967296) (w : World) :
    Calls Try.prog 16 #[.int .i64 near, .int .u32 low] w fun e w' => e = .returned (.int .i64 (unw 0 low)) ∧ w = w' := by
  have hs : At 0 low (-4294967296 + low) := start_facts 0 low (by omega) (by omega) h2 h3
  obtain ⟨n0, hn0⟩ : ∃ n0, -4294967296 + low = n0 := ⟨_, rfl⟩
  rw [hn0] at hs
  obtain ⟨U, hU⟩ : ∃ U, unw 0 low = U := ⟨_, rfl⟩
  have hcs := at_cases (by omega) (by omega) h2 h3 hs
  clear hs
  have Hh : Hid ((0 : Int) ≤ 0 ∧ (0 : Int) ≤ 4611686018427387904 ∧ 0 ≤ low ∧ low < 4294967296) := ⟨by omega, by omega, h2, h3⟩
  rw [hU] at hcs ⊢
  go_enter Try.func16, Try.ntmps16
  go_wp2
  refine wp_scope_jumps 0 (fun a' w' => w' = w ∧ ∃ (n : Int) (u2 u3 u4 u6 u7 u8 u9 u10 u11 u12 u13 u14 u15 u16 u17 u18 u19 u20 u21 u22 u23 u24 u25 u26 u27 : Value), a' = { tmps := #[.int .i64 0, .int .u32 low, u2, u3, u4, .int .i64 n, u6, u7, u8, u9, u10, u11, u12, u13, u14, u15, u16, u17, u18, u19, u20, u21, u22, u23, u24, u25, u26, u27], defers := [] } ∧ At 0 low n) (fun a' _ => (U - intOf (a'.tmps.getD 5 undef)).toNat) rfl ?_ ?_
  · rcases hcs with ⟨hn, hl, ha, hm⟩ | ⟨hn, hl, hd, ha, hm⟩ | ⟨hn, hd, he, hl⟩
    · have Ha := Lib.hid ha; clear ha
      go_wp2
      go_step3
      go_wp2
      go_step3
      refine ⟨rfl, rfl, n0 + 4294967296, _, _, _, _, _, _, _, _, _, _, _, _, _, _, _, _, _, _, _, _, _, _, _, _, _, rfl, Ha.out⟩
    · omega
    · omega
  · rintro a' w' ⟨rfl, n, u2, u3, u4, u6, u7, u8, u9, u10, u11, u12, u13, u14, u15, u16, u17, u18, u19, u20, u21, u22, u23, u24, u25, u26, u27, rfl, hs⟩
    clear hcs
    have hcs := at_cases Hh.out.1 Hh.out.2.1 Hh.out.2.2.1 Hh.out.2.2.2 hs
    clear hs
    rw [hU] at hcs
    rcases hcs with ⟨hn, hl, ha, hm⟩ | ⟨hn, hl, hd, ha, hm⟩ | ⟨hn, hd, he, hl⟩
    · have Ha := Lib.hid ha; clear ha
      go_wp2
      go_step3
      refine ⟨rfl, ⟨rfl, n + 4294967296, _, _, _, _, _, _, _, _, _, _, _, _, _, _, _, _, _, _, _, _, _, _, _, _, _, rfl, Ha.out⟩, ?_⟩
      simp [intOf]
      omega
    · omega
    · subst he
      go_wp2
      simp only [Exit.jump]
      go_ret
      exact ⟨rfl, rfl⟩
set_option maxHeartbeats 1000000 in
theorem unwrap_big (near low : Int) (hbig : 4611686018427387904 < near) (hwf : near ≤ 9223372036854775807) (h2 : 0 ≤ low) (h3 : low < 4294967296) (w : World) :
    Calls Try.prog 16 #[.int .i64 near, .int .u32 low] w fun e w' => e = .returned (.int .i64 (unw 4611686018427387904 low)) ∧ w = w' := by
  have hs : At 4611686018427387904 low (4611686014132420608 + low) := start_facts 4611686018427387904 low (by omega) (by omega) h2 h3
  obtain ⟨n0, hn0⟩ : ∃ n0, 4611686014132420608 + low = n0 := ⟨_, rfl⟩
  rw [hn0] at hs
  obtain ⟨U, hU⟩ : ∃ U, unw 4611686018427387904 low = U := ⟨_, rfl⟩
  have hcs := at_cases (by omega) (by omega) h2 h3 hs
  clear hs
  have Hh : Hid ((0 : Int) ≤ 4611686018427387904 ∧ (4611686018427387904 : Int) ≤ 4611686018427387904 ∧ 0 ≤ low ∧ low < 4294967296) := ⟨by omega, by omega, h2, h3⟩
  rw [hU] at hcs ⊢
  go_enter Try.func16, Try.ntmps16
  go_wp2
  refine wp_scope_jumps 0 (fun a' w' => w' = w ∧ ∃ (n : Int) (u2 u3 u4 u6 u7 u8 u9 u10 u11 u12 u13 u14 u15 u16 u17 u18 u19 u20 u21 u22 u23 u24 u25 u26 u27 : Value), a' = { tmps := #[.int .i64 4611686018427387904, .int .u32 low, u2, u3, u4, .int .i64 n, u6, u7, u8, u9, u10, u11, u12, u13, u14, u15, u16, u17, u18, u19, u20, u21, u22, u23, u24, u25, u26, u27], defers := [] } ∧ At 4611686018427387904 low n) (fun a' _ => (U - intOf (a'.tmps.getD 5 undef)).toNat) rfl ?_ ?_
  · rcases hcs with ⟨hn, hl, ha, hm⟩ | ⟨hn, hl, hd, ha, hm⟩ | ⟨hn, hd, he, hl⟩
    · omega
    · have Ha := Lib.hid ha; clear ha
      go_wp2
      go_step3
      go_wp2
      go_step3
      refine ⟨rfl, rfl, n0 + 4294967296, _, _, _, _, _, _, _, _, _, _, _, _, _, _, _, _, _, _, _, _, _, _, _, _, _, rfl, Ha.out⟩
    · subst he
      go_wp2
      go_step3
      go_wp2
      simp only [Exit.jump]
      go_ret
      exact ⟨rfl, rfl⟩
  · rintro a' w' ⟨rfl, n, u2, u3, u4, u6, u7, u8, u9, u10, u11, u12, u13, u14, u15, u16, u17, u18, u19, u20, u21, u22, u23, u24, u25, u26, u27, rfl, hs⟩
    clear hcs
    have hcs := at_cases Hh.out.1 Hh.out.2.1 Hh.out.2.2.1 Hh.out.2.2.2 hs
    clear hs
    rw [hU] at hcs
    rcases hcs with ⟨hn, hl, ha, hm⟩ | ⟨hn, hl, hd, ha, hm⟩ | ⟨hn, hd, he, hl⟩
    · have Ha := Lib.hid ha; clear ha
      go_wp2
      go_step3
      refine ⟨rfl, ⟨rfl, n + 4294967296, _, _, _, _, _, _, _, _, _, _, _, _, _, _, _, _, _, _, _, _, _, _, _, _, _, rfl, Ha.out⟩, ?_⟩
      simp [intOf]
      omega
    · have Ha := Lib.hid ha; clear ha
      go_wp2
      go_step3
      refine ⟨rfl, ⟨rfl, n + 4294967296, _, _, _, _, _, _, _, _, _, _, _, _, _, _, _, _, _, _, _, _, _, _, _, _, _, rfl, Ha.out⟩, ?_⟩
      simp [intOf]
      omega
    · subst he
      go_wp2
      simp only [Exit.jump]
      go_ret
      exact ⟨rfl, rfl⟩
theorem unwrap_any (near low : Int) (h1 : near ≤ 9223372036854775807) (h2 : 0 ≤ low) (h3 : low < 4294967296) (w : World) :
    Calls Try.prog 16 #[.int .i64 near, .int .u32 low] w fun e w' => e = .returned (.int .i64 (unw (near0 near) low)) ∧ w = w' := by
  unfold near0
  split
  · exact unwrap_neg near low (by omega) h2 h3 w
  · split
    · exact unwrap_big near low (by omega) h1 h2 h3 w
    · exact unwrap_mid near low (by omega) (by omega) h2 h3 w
end Go.Proofs.Ytkemkijohiakgaa
