/- Package seqno: Unwrap as a contract of the call: every number. -/
import Derived.Test.YtkemkijohiakgaaProg
import Derived.Test.YtkemkijohiakgaaSeq
import Derived.WalkKit
import Derived.WalkSpells
import Derived.Lib.Hide
import Derived.WalkSmall
import Derived.WalkMore
import Derived.ScopeJumps
import Derived.Below
namespace Go.Proofs.Ytkemkijohiakgaa
open Go.RowKit

/-- near, counted as the document says -/
def near0 (near : Int) : Int := if near < 0 then 0 else if 4611686018427387904 < near then 4611686018427387904 else near
/-- the first number that may be told: not below 0, not 2^31 and more below near -/
def firstN (c : Int) : Int := if c < 2147483648 then 0 else c - 2147483648
/-- the first number from firstN on of these low bits -/
def unw (c low : Int) : Int := firstN c + (low - firstN c) % 4294967296

theorem unw_facts (c low : Int) (hc0 : 0 ≤ c) (hc1 : c ≤ 4611686018427387904) (h0 : 0 ≤ low) (h1 : low < 4294967296) :
    0 ≤ unw c low ∧ c - unw c low ≤ 2147483648 ∧ unw c low ≤ 4611686020574871551 ∧ (unw c low < 4294967296 ∨ unw c low - c < 2147483648) ∧ unw c low % 4294967296 = low ∧
    (∀ n : Int, n % 4294967296 = low → n < unw c low → n < 0 ∨ 2147483648 < c - n) := by
  unfold unw firstN
  split
  · refine ⟨by omega, by omega, by omega, by omega, by omega, fun n h1 h2 => by omega⟩
  · refine ⟨by omega, by omega, by omega, by omega, by omega, fun n h1 h2 => by omega⟩

theorem start_facts (c low : Int) (hc0 : 0 ≤ c) (hc1 : c ≤ 4611686018427387904) (h0 : 0 ≤ low) (h1 : low < 4294967296) :
    ∃ k : Nat, k ≤ 3 ∧ c - c % 4294967296 - 4294967296 + low = unw c low - 4294967296 * (k : Int) := by
  refine ⟨((unw c low - (c - c % 4294967296 - 4294967296 + low)) / 4294967296).toNat, ?_, ?_⟩
  · unfold unw firstN
    split <;> omega
  · unfold unw firstN
    split <;> omega

/-- where the search stands: k turns below the number that is told -/
def At (c low n : Int) : Prop := ∃ k : Nat, k ≤ 3 ∧ n = unw c low - 4294967296 * (k : Int)

theorem at_cases {c low n : Int} (hc0 : 0 ≤ c) (hc1 : c ≤ 4611686018427387904) (h0 : 0 ≤ low) (h1 : low < 4294967296) (h : At c low n) :
    (n < 0 ∧ -17179869184 ≤ n ∧ At c low (n + 4294967296) ∧ n + 4294967296 ≤ unw c low) ∨ (0 ≤ n ∧ n ≤ c ∧ 2147483648 < c - n ∧ At c low (n + 4294967296) ∧ n + 4294967296 ≤ unw c low) ∨
    (0 ≤ n ∧ c - n ≤ 2147483648 ∧ n = unw c low ∧ n ≤ 4611686020574871551) := by
  obtain ⟨k, hk, rfl⟩ := h
  obtain ⟨f1, f2, f3, f4, f5, f6⟩ := unw_facts c low hc0 hc1 h0 h1
  rcases Nat.eq_zero_or_pos k with hz | hp
  · subst hz
    exact .inr (.inr ⟨by omega, by omega, by omega, by omega⟩)
  · have hs := f6 (unw c low - 4294967296 * (k : Int)) (by omega) (by omega)
    have ha : At c low (unw c low - 4294967296 * (k : Int) + 4294967296) := ⟨k - 1, by omega, by omega⟩
    by_cases hn : unw c low - 4294967296 * (k : Int) < 0
    · exact .inl ⟨hn, by omega, ha, by omega⟩
    · exact .inr (.inl ⟨by omega, by omega, by omega, ha, by omega⟩)

set_option maxHeartbeats 1000000 in
theorem unwrap_mid (near low : Int) (h0 : 0 ≤ near) (h1 : near ≤ 4611686018427387904) (h2 : 0 ≤ low) (h3 : low < 4294967296) (w : World) :
    Calls Try.prog 16 #[.int .i64 near, .int .u32 low] w fun e w' => e = .returned (.int .i64 (unw near low)) ∧ w = w' := by
  have hs : At near low (near - near % 4294967296 - 4294967296 + low) := start_facts near low h0 h1 h2 h3
  obtain ⟨n0, hn0⟩ : ∃ n0, near - near % 4294967296 - 4294967296 + low = n0 := ⟨_, rfl⟩
  rw [hn0] at hs
  obtain ⟨U, hU⟩ : ∃ U, unw near low = U := ⟨_, rfl⟩
  have hcs := at_cases h0 h1 h2 h3 hs
  clear hs
  have Hh : Hid (0 ≤ near ∧ near ≤ 4611686018427387904 ∧ 0 ≤ low ∧ low < 4294967296) := ⟨h0, h1, h2, h3⟩
  rw [hU] at hcs ⊢
  go_enter Try.func16, Try.ntmps16
  go_wp2
  refine wp_scope_jumps 0 (fun a' w' => w' = w ∧ ∃ (n : Int) (u2 u3 u4 u6 u7 u8 u9 u10 u11 u12 u13 u14 u15 u16 u17 u18 u19 u20 u21 u22 u23 u24 u25 u26 u27 : Value), a' = { tmps := #[.int .i64 near, .int .u32 low, u2, u3, u4, .int .i64 n, u6, u7, u8, u9, u10, u11, u12, u13, u14, u15, u16, u17, u18, u19, u20, u21, u22, u23, u24, u25, u26, u27], defers := [] } ∧ At near low n) (fun a' _ => (U - intOf (a'.tmps.getD 5 undef)).toNat) rfl ?_ ?_
  · rcases hcs with ⟨hn, hl, ha, hm⟩ | ⟨hn, hl, hd, ha, hm⟩ | ⟨hn, hd, he, hl⟩
    · have Ha := Lib.hid ha; clear ha
      go_wp2
      go_step3
      go_wp2
      go_step3
      refine ⟨rfl, rfl, n0 + 4294967296, _, _, _, _, _, _, _, _, _, _, _, _, _, _, _, _, _, _, _, _, _, _, _, _, _, rfl, Ha.out⟩
    · have Ha := Lib.hid ha; clear ha
      go_wp2
      go_step3
      go_wp2
      go_step3
      refine ⟨rfl, rfl, n0 + 4294967296, _, _, _, _, _, _, _, _, _, _, _, _, _, _, _, _, _, _, _, _, _, _, _, _, _, rfl, Ha.out⟩
    · subst he
      go_wp2
      go_step3
      go_wp2
      simp only [Exit.jump]
      go_ret
      exact ⟨rfl, rfl⟩
  · rintro a' w' ⟨rfl, n, u2, u3, u4, u6, u7, u8, u9, u10, u11, u12, u13, u14, u15, u16, u17, u18, u19, u20, u21, u22, u23, u24, u25, u26, u27, rfl, hs⟩
    clear hcs
    have hcs := at_cases Hh.out.1 Hh.out.2.1 Hh.out.2.2.1 Hh.out.2.2.2 hs
    clear hs
    rw [hU] at hcs
    rcases hcs with ⟨hn, hl, ha, hm⟩ | ⟨hn, hl, hd, ha, hm⟩ | ⟨hn, hd, he, hl⟩
    · have Ha := Lib.hid ha; clear ha
      go_wp2
      go_step3
      refine ⟨rfl, ⟨rfl, n + 4294967296, _, _, _, _, _, _, _, _, _, _, _, _, _, _, _, _, _, _, _, _, _, _, _, _, _, rfl, Ha.out⟩, ?_⟩
      simp [intOf]
      omega
    · have Ha := Lib.hid ha; clear ha
      go_wp2
      go_step3
      refine ⟨rfl, ⟨rfl, n + 4294967296, _, _, _, _, _, _, _, _, _, _, _, _, _, _, _, _, _, _, _, _, _, _, _, _, _, rfl, Ha.out⟩, ?_⟩
      simp [intOf]
      omega
    · subst he
      go_wp2
      simp only [Exit.jump]
      go_ret
      exact ⟨rfl, rfl⟩
end Go.Proofs.Ytkemkijohiakgaa
