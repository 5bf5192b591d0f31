/- The reference of package wire: number, May as contracts of the calls. -/
import Derived.Test.YtfglagkpknpgdaaProg
import Derived.Test.YtfglagkpknpgdaaSg
import Derived.Test.YtfglagkpknpgdaaBx
import Derived.Test.YtfglagkpknpgdaaCkRefOpen
import Derived.WalkKit
import Derived.WalkSpells
import Derived.WalkSmall
import Derived.Lib.Hide
import Derived.Below
import Derived.Outline
namespace Go.Proofs.Ytfglagkpknpgdaa
open Go.RowKit
set_option linter.unusedVariables false
set_option linter.unusedSimpArgs false

theorem nm_bd {l : List Int} (hs : Small l) (k : Nat) : ∀ j, 0 ≤ nm l k j ∧ nm l k j < 256 ^ j
  | 0 => ⟨Int.le_refl _, by show (0 : Int) < 256 ^ 0; decide⟩
  | j + 1 => by
    have h1 := nm_bd hs k j
    have h2 := byt_bd hs (k + j)
    show 0 ≤ 256 * nm l k j + byt l (k + j) ∧ 256 * nm l k j + byt l (k + j) < 256 ^ (j + 1)
    rw [Int.pow_succ]
    omega
theorem nm_small {l : List Int} (hs : Small l) (k : Nat) {j : Nat} (hj : j ≤ 4) : 0 ≤ nm l k j ∧ nm l k j < 4294967296 := by
  have h := nm_bd hs k j
  have : (256 : Int) ^ j ≤ 256 ^ 4 := by
    match j, hj with
    | 0, _ => decide
    | 1, _ => decide
    | 2, _ => decide
    | 3, _ => decide
    | 4, _ => decide
    | q + 5, h => exact absurd h (by omega)
  have e : (256 : Int) ^ 4 = 4294967296 := by decide
  rw [e] at this
  omega
set_option maxHeartbeats 1000000 in
theorem rnum_any (A : Option Addr) (n c k j : Nat) (l : List Int) (w : World) (hr : Rd w A n l) (hn : n ≤ 1000000) (hkj : k + j ≤ n) (hj : j ≤ 4) :
    Calls Try.prog 27 #[.slice A n c, .int .i64 (k : Int), .int .i64 (j : Int)] w fun e w' => e = .returned (.int .i64 (nm l k j)) ∧ w = w' := by
  have HS := Lib.hid hr.small
  go_enter Try.func27, Try.ntmps27
  go_wp2
  go_loopw [7, 8] (fun s i wr => ∃ q : Nat, q ≤ j ∧ i = .int .i64 (q : Int) ∧ s = .int .i64 (nm l k q) ∧ w = wr) (fun _ i _ => j - (intOf i).toNat)
  case atStart => exact ⟨0, Nat.zero_le _, rfl, rfl, rfl⟩
  case round =>
    obtain ⟨q, hq, rfl, rfl, rfl⟩ := hrel
    by_cases hlt : q < j
    · obtain ⟨b, o, rfl, hbl, hc⟩ := hr.at_ (by omega)
      obtain ⟨z, hz⟩ : ∃ z : Nat, (k : Int) + (q : Int) = (z : Int) := ⟨k + q, by omega⟩
      have hzn : (z : Int) < (n : Int) := by omega
      have hcell := hc z (by omega)
      have hnext : nm l k (q + 1) = 256 * nm l k q + byt l z := by rw [show z = k + q by omega]; rfl
      have hb1 := nm_small HS.out k (show q ≤ 4 by omega)
      have hb2 := byt_bd HS.out z
      obtain ⟨x, hx⟩ : ∃ x, byt l z = x := ⟨_, rfl⟩
      rw [hx] at hcell hnext hb2
      obtain ⟨y, hy⟩ : ∃ y, nm l k q = y := ⟨_, rfl⟩
      rw [hy] at hnext hb1 ⊢
      obtain ⟨y0, y1⟩ := hb1
      obtain ⟨x0, x1⟩ := hb2
      have HN := Lib.hid hnext; clear hnext hc hx hy
      go_wp2
      go_roundw
      case rel => exact ⟨q + 1, by omega, by go_num, by rw [HN.out], (by first | rfl | trivial)⟩
      case measure => simp [intOf]; omega
    · obtain rfl : j = q := by omega
      go_wp2
      go_ret
      exact ⟨rfl, rfl⟩

set_option maxRecDepth 100000 in
set_option maxHeartbeats 4000000 in
theorem rsmay_any (kind sub : Int) (fin ecn : Bool) (seq dsn got dgot win ace ce sent echo : Int) (G : Option Addr) (m d : Nat) (A : Option Addr) (n c : Nat) (pl : List (Int × Int)) (bl : List Int) (w : World) (hpl : pl.length = m) (hbl : bl.length = n) (hm : m ≤ 9223372036854775807) (hn : n ≤ 9223372036854775807) :
    Calls Try.prog 14 #[.agg #[.int .i64 kind, .int .i64 sub, .bool fin, .bool ecn, .int .u32 seq, .int .u32 dsn, .int .u32 got, .int .u32 dgot, .int .i64 win, .int .i64 ace, .int .u32 ce, .int .u32 sent, .int .u32 echo, .slice G m d, .slice A n c]] w fun e w' => e = .returned (.bool (smay ⟨kind, sub, fin, ecn, seq, dsn, got, dgot, win, ace, ce, sent, echo, pl, bl⟩)) ∧ Below w.heap.size w w' := by
  have e0 := Bx.new w 26 [.int .i64 kind, .int .i64 sub, .bool fin, .bool ecn, .int .u32 seq, .int .u32 dsn, .int .u32 got, .int .u32 dgot, .int .i64 win, .int .i64 ace, .int .u32 ce, .int .u32 sent, .int .u32 echo, .slice G m d, .slice A n c]
  have hb0 : Below w.heap.size w (w.alloc (.cells #[.int .i64 kind, .int .i64 sub, .bool fin, .bool ecn, .int .u32 seq, .int .u32 dsn, .int .u32 got, .int .u32 dgot, .int .i64 win, .int .i64 ace, .int .u32 ce, .int .u32 sent, .int .u32 echo, .slice G m d, .slice A n c] 26)) := (Below.refl _ _).alloc (Nat.le_refl _) _
  have x0 := e0.cell 0 rfl
  have x1 := e0.cell 1 rfl
  have x8 := e0.cell 8 rfl
  have x9 := e0.cell 9 rfl
  have x10 := e0.cell 10 rfl
  have x13 := e0.cell 13 rfl
  have x14 := e0.cell 14 rfl
  by_cases ckind0 : kind < 0
  case pos =>
    have hF : smay ⟨kind, sub, fin, ecn, seq, dsn, got, dgot, win, ace, ce, sent, echo, pl, bl⟩ = false := smay_false (fun h => by have := h.kind0; dsimp only at this; omega)
    rw [hF]
    clear hF
    go_enter Try.func14, Try.ntmps14
    go_wp2
    go_ret
    exact ⟨rfl, hb0⟩
  case neg =>
  by_cases ckind1 : 4 < kind
  case pos =>
    have hF : smay ⟨kind, sub, fin, ecn, seq, dsn, got, dgot, win, ace, ce, sent, echo, pl, bl⟩ = false := smay_false (fun h => by have := h.kind1; dsimp only at this; omega)
    rw [hF]
    clear hF
    go_enter Try.func14, Try.ntmps14
    go_wp2
    go_ret
    exact ⟨rfl, hb0⟩
  case neg =>
  by_cases csub0 : sub < 0
  case pos =>
    have hF : smay ⟨kind, sub, fin, ecn, seq, dsn, got, dgot, win, ace, ce, sent, echo, pl, bl⟩ = false := smay_false (fun h => by have := h.sub0; dsimp only at this; omega)
    rw [hF]
    clear hF
    go_enter Try.func14, Try.ntmps14
    go_wp2
    go_ret
    exact ⟨rfl, hb0⟩
  case neg =>
  by_cases csub1 : 3 < sub
  case pos =>
    have hF : smay ⟨kind, sub, fin, ecn, seq, dsn, got, dgot, win, ace, ce, sent, echo, pl, bl⟩ = false := smay_false (fun h => by have := h.sub1; dsimp only at this; omega)
    rw [hF]
    clear hF
    go_enter Try.func14, Try.ntmps14
    go_wp2
    go_ret
    exact ⟨rfl, hb0⟩
  case neg =>
  by_cases cwin0 : win < 0
  case pos =>
    have hF : smay ⟨kind, sub, fin, ecn, seq, dsn, got, dgot, win, ace, ce, sent, echo, pl, bl⟩ = false := smay_false (fun h => by have := h.win0; dsimp only at this; omega)
    rw [hF]
    clear hF
    go_enter Try.func14, Try.ntmps14
    go_wp2
    go_ret
    exact ⟨rfl, hb0⟩
  case neg =>
  by_cases cwin1 : 65535 < win
  case pos =>
    have hF : smay ⟨kind, sub, fin, ecn, seq, dsn, got, dgot, win, ace, ce, sent, echo, pl, bl⟩ = false := smay_false (fun h => by have := h.win1; dsimp only at this; omega)
    rw [hF]
    clear hF
    go_enter Try.func14, Try.ntmps14
    go_wp2
    go_ret
    exact ⟨rfl, hb0⟩
  case neg =>
  by_cases cace0 : ace < 0
  case pos =>
    have hF : smay ⟨kind, sub, fin, ecn, seq, dsn, got, dgot, win, ace, ce, sent, echo, pl, bl⟩ = false := smay_false (fun h => by have := h.ace0; dsimp only at this; omega)
    rw [hF]
    clear hF
    go_enter Try.func14, Try.ntmps14
    go_wp2
    go_ret
    exact ⟨rfl, hb0⟩
  case neg =>
  by_cases cace1 : 7 < ace
  case pos =>
    have hF : smay ⟨kind, sub, fin, ecn, seq, dsn, got, dgot, win, ace, ce, sent, echo, pl, bl⟩ = false := smay_false (fun h => by have := h.ace1; dsimp only at this; omega)
    rw [hF]
    clear hF
    go_enter Try.func14, Try.ntmps14
    go_wp2
    go_ret
    exact ⟨rfl, hb0⟩
  case neg =>
  by_cases cce : ce < 16777216
  case neg =>
    have hF : smay ⟨kind, sub, fin, ecn, seq, dsn, got, dgot, win, ace, ce, sent, echo, pl, bl⟩ = false := smay_false (fun h => cce h.ce1)
    have d1 : decide (ce < 16777216) = false := decide_eq_false cce
    rw [hF]
    clear hF
    go_enter Try.func14, Try.ntmps14
    go_wp2
    go_ret
    exact ⟨rfl, hb0⟩
  case pos =>
  have d1 : decide (ce < 16777216) = true := decide_eq_true cce
  by_cases cm : m ≤ 3
  case neg =>
    have hF : smay ⟨kind, sub, fin, ecn, seq, dsn, got, dgot, win, ace, ce, sent, echo, pl, bl⟩ = false := smay_false (fun h => cm (by have := h.sacks; rw [← hpl]; exact this))
    have d2 : decide ((m : Int) ≤ 3) = false := decide_eq_false (by omega)
    have cm' : ¬ ((m : Int) ≤ 3) := by omega
    rw [hF]
    clear hF
    go_enter Try.func14, Try.ntmps14
    go_wp2
    go_ret
    exact ⟨rfl, hb0⟩
  case pos =>
  have d2 : decide ((m : Int) ≤ 3) = true := decide_eq_true (by omega)
  have cm' : (m : Int) ≤ 3 := by omega
  have hT : smay ⟨kind, sub, fin, ecn, seq, dsn, got, dgot, win, ace, ce, sent, echo, pl, bl⟩ = decide ((n : Int) ≤ 1460) := by
    by_cases cn : n ≤ 1460
    · rw [decide_eq_true (by omega)]
      exact (smay_iff _).2 ⟨by dsimp only; omega, by dsimp only; omega, by dsimp only; omega, by dsimp only; omega, by dsimp only; omega, by dsimp only; omega, by dsimp only; omega, by dsimp only; omega, cce, by dsimp only; omega, by dsimp only; omega⟩
    · rw [decide_eq_false (by omega)]
      exact smay_false (fun h => cn (by have := h.bl; rw [← hbl]; exact this))
  rw [hT]
  clear hT
  go_enter Try.func14, Try.ntmps14
  go_wp2
  go_ret
  exact ⟨rfl, hb0⟩
end Go.Proofs.Ytfglagkpknpgdaa
