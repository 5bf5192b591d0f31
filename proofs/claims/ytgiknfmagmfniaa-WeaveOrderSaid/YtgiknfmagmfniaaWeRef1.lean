/- The reference of package weave: Upto, end as contracts of the calls; what a buffer's value is. -/
import Derived.Test.YtgiknfmagmfniaaProg
import Derived.Test.YtgiknfmagmfniaaWvLaw
import Derived.Test.YtgiknfmagmfniaaBx
import Derived.Test.YtgiknfmagmfniaaBy
import Derived.Test.YtgiknfmagmfniaaSpRef4
import Derived.Test.YtgiknfmagmfniaaBySame
import Derived.WalkKit
import Derived.WalkSpells
import Derived.WalkSmall
import Derived.Lib.Hide
import Derived.Below
import Derived.Outline
namespace Go.Proofs.Ytgiknfmagmfniaa
open Go.RowKit

theorem last_sp {d : Int} {l : List Sp} (h : 0 < l.length) : lastOf d l = (sp l (l.length - 1)).2 := by
  rcases List.eq_nil_or_concat l with e | ⟨r, p, e⟩
  · subst e; simp at h
  · subst e
    rw [List.concat_eq_append, lastOf_snoc]
    unfold sp
    rw [List.getD_eq_getElem?_getD]
    simp
theorem head_chain {base : Int} {l : List Sp} (h : chain (-1) l = true) : chain (base - 1) l = true ↔ ¬ (0 < l.length ∧ (sp l 0).1 < base) := by
  cases l with
  | nil => simp [chain]
  | cons p t =>
    have hc := ch_cons.1 h
    rw [ch_cons, show sp (p :: t) 0 = p from rfl]
    constructor
    · rintro ⟨h1, _⟩ ⟨_, h2⟩; omega
    · intro h1
      have : base ≤ p.1 := by
        rcases Int.lt_or_le p.1 base with h2 | h2
        · exact absurd ⟨by simp, h2⟩ h1
        · exact h2
      exact ⟨by omega, hc.2⟩

set_option maxHeartbeats 1000000 in
theorem rupto_any (base : Int) (A : Option Addr) (n c : Nat) (G : Option Addr) (m d : Nat) (cap en : Int) (gl : List Sp) (w : World) (hg : Ss w G m d gl) :
    Calls Try.prog 40 #[.agg #[.int .i64 base, .slice A n c, .slice G m d, .int .i64 cap, .int .i64 en]] w fun e w' => e = .returned (.int .i64 (lastOf base gl)) ∧ Below w.heap.size w w' := by
  have e0 := Bx.new w 25 [.int .i64 base, .slice A n c, .slice G m d, .int .i64 cap, .int .i64 en]
  have x0 := e0.cell 0 rfl
  have x2 := e0.cell 2 rfl
  have hb : Below w.heap.size w (w.alloc (.cells #[.int .i64 base, .slice A n c, .slice G m d, .int .i64 cap, .int .i64 en] 25)) := (Below.refl _ _).alloc (Nat.le_refl _) _
  have hl := hg.rd.len
  have hmx := hg.max
  have hle := hg.le
  unfold maxLen at hmx
  by_cases h0 : m = 0
  · subst h0
    obtain rfl : gl = [] := List.eq_nil_of_length_eq_zero hl
    rw [lastOf_nil]
    go_enter Try.func40, Try.ntmps40
    go_wp2
    go_ret
    exact ⟨rfl, hb⟩
  · rw [last_sp (by omega), hl]
    obtain ⟨k, rfl⟩ : ∃ k, m = k + 1 := ⟨m - 1, by omega⟩
    obtain ⟨b, o, rfl, hbl, hc⟩ := hg.rd.at_ (by omega)
    have h1 := (hb.cell (p := ⟨b, o + k * 2 + 1, none⟩) hbl).trans (hc k (by omega)).2
    obtain ⟨p, hp⟩ : ∃ p, sp gl k = p := ⟨_, rfl⟩
    rw [show k + 1 - 1 = k by omega, hp]
    rw [hp] at h1
    have i0 : (0 : Int) ≤ (k : Int) := by omega
    have n0 : ¬ (((k : Int) + 1) = 0) := by omega
    clear hc h0 hl
    go_enter Try.func40, Try.ntmps40
    go_wp2
    go_ret
    exact ⟨rfl, hb⟩

set_option maxHeartbeats 1000000 in
theorem redge_any (base : Int) (A : Option Addr) (n c : Nat) (G : Option Addr) (m d : Nat) (cap en : Int) (w : World) (h0 : 0 ≤ base) (h1 : base ≤ 2305843009213693952) (h2 : 0 ≤ cap) (h3 : cap ≤ 65536) :
    Calls Try.prog 35 #[.agg #[.int .i64 base, .slice A n c, .slice G m d, .int .i64 cap, .int .i64 en]] w fun e w' => e = .returned (.int .i64 (min (base + cap) 2305843009213693952)) ∧ Below w.heap.size w w' := by
  have e0 := Bx.new w 25 [.int .i64 base, .slice A n c, .slice G m d, .int .i64 cap, .int .i64 en]
  have x0 := e0.cell 0 rfl
  have x3 := e0.cell 3 rfl
  have hb : Below w.heap.size w (w.alloc (.cells #[.int .i64 base, .slice A n c, .slice G m d, .int .i64 cap, .int .i64 en] 25)) := (Below.refl _ _).alloc (Nat.le_refl _) _
  go_enter Try.func35, Try.ntmps35
  by_cases hc : 2305843009213693952 < base + cap
  · rw [show min (base + cap) 2305843009213693952 = 2305843009213693952 by omega]
    go_wp2
    go_ret
    exact ⟨rfl, hb⟩
  · rw [show min (base + cap) 2305843009213693952 = base + cap by omega]
    have hc' : ¬ (2305843009213693952 < base + cap) := hc
    clear hc
    go_wp2
    go_ret
    exact ⟨rfl, hb⟩
end Go.Proofs.Ytgiknfmagmfniaa
