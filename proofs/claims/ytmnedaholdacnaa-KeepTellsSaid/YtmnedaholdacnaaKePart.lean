/- Package keep: Part as a contract of the call. -/
import Derived.Test.YtmnedaholdacnaaProg
import Derived.Test.YtmnedaholdacnaaKeShut
import Derived.WalkKit
import Derived.WalkSpells
import Derived.WalkSmall
import Derived.Lib.Hide
import Derived.Below
import Derived.Outline
import Derived.Deep.RegionHeld3
namespace Go.Proofs.Ytmnedaholdacnaa
open Go.RowKit

/-- up to where Part reads -/
def upto (base : Int) (n : Nat) (p z : Int) : Int := p + min z (base + n - p)
theorem part_cut {base : Int} {l : List Int} {n : Nat} (hl : l.length = n) {p z : Int} (hp : base ≤ p) (hz : 0 ≤ z) :
    (l.take (idx base n (upto base n p z))).drop (idx base n p) = (l.drop (p - base).toNat).take z.toNat := by
  rw [List.drop_take]
  unfold upto idx
  by_cases h : base + n ≤ p
  · rw [List.drop_of_length_le (by omega), List.drop_of_length_le (by omega)]; simp
  · rw [show min (p - base).toNat n = (p - base).toNat by omega]
    by_cases h2 : z ≤ base + n - p
    · congr 1; omega
    · rw [List.take_of_length_le (by simp; omega), List.take_of_length_le (by simp; omega)]
theorem part_idx (base : Int) (n : Nat) {p z : Int} (hp : base ≤ p) (hz : 0 ≤ z) : idx base n p ≤ idx base n (upto base n p z) := by unfold upto idx; omega

set_option maxHeartbeats 1000000 in
theorem part_any (base : Int) (A : Option Addr) (n c : Nat) (cap : Int) (sh : Bool) (l : List Int) (p z : Int) (w : World) (hs : Sl w A n c l) (hn : n ≤ 140737488355328) (hp0 : -9223372036854775808 ≤ p) (hp1 : p ≤ 9223372036854775807) (hz1 : z ≤ 9223372036854775807) :
    Calls Try.prog 17 #[.agg #[.int .i64 base, .slice A n c, .int .i64 cap, .bool sh], .int .i64 p, .int .i64 z] w fun e w' => ∃ R m d, e = .returned (.slice R m d) ∧ Sb w' w.heap.size R m d (partR ⟨base, l, cap, sh⟩ p z) ∧ Below w.heap.size w w' := by
  obtain ⟨B, hB⟩ : ∃ B, w.heap.size = B := ⟨_, rfl⟩
  have e0 := Boxed4.new w 24 (.int .i64 base) (.slice A n c) (.int .i64 cap) (.bool sh)
  have hb : Below w.heap.size w (w.alloc (.cells #[.int .i64 base, .slice A n c, .int .i64 cap, .bool sh] 24)) := (Below.refl _ _).alloc (Nat.le_refl _) _
  rw [hB] at e0 hb
  obtain ⟨w0, hw0⟩ : ∃ w0, w.alloc (.cells #[.int .i64 base, .slice A n c, .int .i64 cap, .bool sh] 24) = w0 := ⟨_, rfl⟩
  rw [hw0] at e0 hb
  have g0 := e0.c0
  have g1 := e0.c1
  have g2 := e0.c2
  have g3 := e0.c3
  have hsk : ∀ {w' : World}, Below B w w' → Sl w' A n c l := fun h => hs.keep (by rw [hB]; exact h)
  have hm := may_any base A n c cap sh l w0 hs.rd.len hn
  cases hk : kmay ⟨base, l, cap, sh⟩ with
  | false =>
    have he : partR ⟨base, l, cap, sh⟩ p z = [] := by unfold partR; rw [hk]; rfl
    rw [he]
    rw [hk] at hm
    clear hk
    go_enter Try.func17, Try.ntmps17
    rw [hB]
    go_wp2_with (refine hm.mono ?_; rintro e w1 ⟨rfl, hb1⟩)
    go_ret
    exact ⟨none, 0, 0, rfl, Sb.none _ _, hb.trans (hb1.mono (Nat.le_of_lt e0.lt))⟩
  | true =>
    rw [hk] at hm
    by_cases hpz : base ≤ p ∧ 0 ≤ z
    · obtain ⟨q0, q1⟩ := hpz
      have he : partR ⟨base, l, cap, sh⟩ p z = (l.drop (p - base).toNat).take z.toNat := by unfold partR; rw [if_pos ⟨hk, q0, q1⟩]
      have hk' := kmay_iff.1 hk
      simp only [hs.rd.len] at hk'
      obtain ⟨k2, k3, k4, k0, k1⟩ := hk'
      have hn1 : n ≤ 1000000 := by omega
      have hend : kend ⟨base, l, cap, sh⟩ = base + n := by unfold kend; rw [hk, if_pos rfl, hs.rd.len]
      rw [he, ← part_cut hs.rd.len q0 q1]
      have hix := part_idx base n q0 q1
      obtain ⟨k, ek⟩ : ∃ k, idx base n p = k := ⟨_, rfl⟩
      obtain ⟨j, ej⟩ : ∃ j, idx base n (upto base n p z) = j := ⟨_, rfl⟩
      rw [ek, ej] at hix ⊢
      obtain ⟨m, em⟩ : ∃ m, j = m + k := ⟨j - k, by omega⟩
      have hbt := fun w hs => between_any base A n c cap sh l p (upto base n p z) k j m w k0 (by omega) hp1 (by unfold upto; omega) hn1 hs ek ej em
      have EQ : upto base n p z = p + min z (base + n - p) := rfl
      obtain ⟨q, hq⟩ : ∃ q, upto base n p z = q := ⟨_, rfl⟩
      rw [hq] at hbt EQ
      clear ek ej em hix hk he k2 k3 k4 hq
      by_cases hmin : z ≤ base + n - p
      · have e1 : q = p + z := by omega
        subst e1
        clear EQ
        go_enter Try.func17, Try.ntmps17
        rw [hB]
        go_wp2_with (first
          | (go_at_call 19; refine hm.mono ?_; rintro e w1 ⟨rfl, hb1⟩; have e1 := e0.kept hb1; have b1 := hb.trans (hb1.mono (Nat.le_of_lt e0.lt)); have x0 := e1.c0; have x1 := e1.c1; have x2 := e1.c2; have x3 := e1.c3)
          | (go_at_call 21; refine (end_any base A n c cap sh l _ hs.rd.len hn).mono ?_; rintro e w2 ⟨he, hb2⟩; rw [hend] at he; subst he; have e2 := e1.kept hb2; have b2 := b1.trans (hb2.mono (Nat.le_of_lt e1.lt)); have y0 := e2.c0; have y1 := e2.c1; have y2 := e2.c2; have y3 := e2.c3)
          | (go_at_call 24; refine (hbt _ (hsk b2)).mono ?_; rintro e w3 ⟨R, d, rfl, s4, hb3⟩))
        go_ret
        exact ⟨R, m, d, rfl, s4.mono (Nat.le_of_lt (Nat.lt_of_lt_of_le e2.lt (Nat.le_refl _))), b2.trans (hb3.mono (Nat.le_of_lt e2.lt))⟩
      · have e1 : q = base + n := by omega
        subst e1
        clear EQ
        go_enter Try.func17, Try.ntmps17
        rw [hB]
        go_wp2_with (first
          | (go_at_call 19; refine hm.mono ?_; rintro e w1 ⟨rfl, hb1⟩; have e1 := e0.kept hb1; have b1 := hb.trans (hb1.mono (Nat.le_of_lt e0.lt)); have x0 := e1.c0; have x1 := e1.c1; have x2 := e1.c2; have x3 := e1.c3)
          | (go_at_call 21; refine (end_any base A n c cap sh l _ hs.rd.len hn).mono ?_; rintro e w2 ⟨he, hb2⟩; rw [hend] at he; subst he; have e2 := e1.kept hb2; have b2 := b1.trans (hb2.mono (Nat.le_of_lt e1.lt)); have y0 := e2.c0; have y1 := e2.c1; have y2 := e2.c2; have y3 := e2.c3; have hqq : p + (base + n - p) = base + n := by omega)
          | (go_at_call 24; go_loud (refine (hbt _ (hsk b2)).mono ?_); rintro e w3 ⟨R, d, rfl, s4, hb3⟩))
        go_ret
        exact ⟨R, m, d, rfl, s4.mono (Nat.le_of_lt (Nat.lt_of_lt_of_le e2.lt (Nat.le_refl _))), b2.trans (hb3.mono (Nat.le_of_lt e2.lt))⟩
    · have he : partR ⟨base, l, cap, sh⟩ p z = [] := by unfold partR; rw [if_neg (fun h => hpz h.2)]
      rw [he]
      go_enter Try.func17, Try.ntmps17
      rw [hB]
      by_cases hp : p < base
      · go_wp2_with (refine hm.mono ?_; rintro e w1 ⟨rfl, hb1⟩; have e1 := e0.kept hb1; have b1 := hb.trans (hb1.mono (Nat.le_of_lt e0.lt)); have x0 := e1.c0)
        go_ret
        exact ⟨none, 0, 0, rfl, Sb.none _ _, b1⟩
      · have hz : z < 0 := by omega
        clear hpz
        go_wp2_with (refine hm.mono ?_; rintro e w1 ⟨rfl, hb1⟩; have e1 := e0.kept hb1; have b1 := hb.trans (hb1.mono (Nat.le_of_lt e0.lt)); have x0 := e1.c0)
        go_ret
        exact ⟨none, 0, 0, rfl, Sb.none _ _, b1⟩
end Go.Proofs.Ytmnedaholdacnaa
