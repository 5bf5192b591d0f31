/- The landed package wire: May and flags as contracts of the calls. -/
import Derived.Test.YtfglagkpknpgdaaProg
import Derived.Test.YtfglagkpknpgdaaWi1
import Derived.WalkKit
import Derived.WalkSpells
import Derived.WalkSmall
import Derived.Lib.Hide
import Derived.Below
import Derived.Outline
import Derived.Laws.BitsAllLaws
namespace Go.Proofs.Ytfglagkpknpgdaa
open Go.RowKit
set_option linter.unusedVariables false
set_option linter.unusedSimpArgs false

theorem smay_parts (kind sub : Int) (fin ecn : Bool) (seq dsn got dgot win ace ce sent echo : Int) (m n : Nat) (pl : List (Int × Int)) (bl : List Int) (hpl : pl.length = m) (hbl : bl.length = n) :
    smay ⟨kind, sub, fin, ecn, seq, dsn, got, dgot, win, ace, ce, sent, echo, pl, bl⟩ = (inB kind 5 && (inB sub 4 && (inB win 65536 && (inB ace 8 && (decide (ce < 16777216) && (decide ((m : Int) ≤ 3) && decide ((n : Int) ≤ 1460))))))) := by
  unfold smay inB
  subst hpl hbl
  simp only [← Bool.decide_and]
  exact decide_eq_decide.2 ⟨fun ⟨a, b, c, d, e, f, g, h, i, j, k⟩ => ⟨⟨a, by omega⟩, ⟨c, by omega⟩, ⟨e, by omega⟩, ⟨g, by omega⟩, i, by omega, by omega⟩, fun ⟨⟨a, b⟩, ⟨c, d⟩, ⟨e, f⟩, ⟨g, h⟩, i, j, k⟩ => ⟨a, by omega, c, by omega, e, by omega, g, by omega, i, by omega, by omega⟩⟩

set_option maxRecDepth 100000 in
set_option maxHeartbeats 4000000 in
theorem lmay_any (kind sub : Int) (fin ecn : Bool) (seq dsn got dgot win ace ce sent echo : Int) (G : Option Addr) (m d : Nat) (A : Option Addr) (n c : Nat) (pl : List (Int × Int)) (bl : List Int) (w : World) (hpl : pl.length = m) (hbl : bl.length = n) (hm : m ≤ 9223372036854775807) (hn : n ≤ 9223372036854775807) :
    Calls Try.prog 13 #[.agg #[.int .i64 kind, .int .i64 sub, .bool fin, .bool ecn, .int .u32 seq, .int .u32 dsn, .int .u32 got, .int .u32 dgot, .int .i64 win, .int .i64 ace, .int .u32 ce, .int .u32 sent, .int .u32 echo, .slice G m d, .slice A n c]] w fun e w' => e = .returned (.bool (smay ⟨kind, sub, fin, ecn, seq, dsn, got, dgot, win, ace, ce, sent, echo, pl, bl⟩)) ∧ Below w.heap.size w w' := by
  have e0 := Bx.new w 26 [.int .i64 kind, .int .i64 sub, .bool fin, .bool ecn, .int .u32 seq, .int .u32 dsn, .int .u32 got, .int .u32 dgot, .int .i64 win, .int .i64 ace, .int .u32 ce, .int .u32 sent, .int .u32 echo, .slice G m d, .slice A n c]
  have hb0 : Below w.heap.size w (w.alloc (.cells #[.int .i64 kind, .int .i64 sub, .bool fin, .bool ecn, .int .u32 seq, .int .u32 dsn, .int .u32 got, .int .u32 dgot, .int .i64 win, .int .i64 ace, .int .u32 ce, .int .u32 sent, .int .u32 echo, .slice G m d, .slice A n c] 26)) := (Below.refl _ _).alloc (Nat.le_refl _) _
  have x0 := e0.cell 0 rfl
  have x1 := e0.cell 1 rfl
  have x8 := e0.cell 8 rfl
  have x9 := e0.cell 9 rfl
  have x10 := e0.cell 10 rfl
  have x13 := e0.cell 13 rfl
  have x14 := e0.cell 14 rfl
  rw [smay_parts kind sub fin ecn seq dsn got dgot win ace ce sent echo m n pl bl hpl hbl]
  clear e0 hpl hbl
  cases h0 : inB kind 5 with
  | false =>
    simp only [Bool.false_and, Bool.true_and]
    go_enter Try.func13, Try.ntmps13
    go_wp2_with (go_at_call 23; refine (inB_any _ _ _).mono ?_; rintro e w1 ⟨rfl, rfl⟩)
    go_ret
    exact ⟨rfl, hb0⟩
  | true =>
    cases h1 : inB sub 4 with
    | false =>
      simp only [Bool.false_and, Bool.true_and]
      go_enter Try.func13, Try.ntmps13
      go_wp2_with (go_at_call 23; refine (inB_any _ _ _).mono ?_; rintro e w1 ⟨rfl, rfl⟩)
      go_ret
      exact ⟨rfl, hb0⟩
    | true =>
      cases h2 : inB win 65536 with
      | false =>
        simp only [Bool.false_and, Bool.true_and]
        go_enter Try.func13, Try.ntmps13
        go_wp2_with (go_at_call 23; refine (inB_any _ _ _).mono ?_; rintro e w1 ⟨rfl, rfl⟩)
        go_ret
        exact ⟨rfl, hb0⟩
      | true =>
        cases h3 : inB ace 8 with
        | false =>
          simp only [Bool.false_and, Bool.true_and]
          go_enter Try.func13, Try.ntmps13
          go_wp2_with (go_at_call 23; refine (inB_any _ _ _).mono ?_; rintro e w1 ⟨rfl, rfl⟩)
          go_ret
          exact ⟨rfl, hb0⟩
        | true =>
          cases h4 : decide (ce < 16777216) with
          | false =>
            have h4' := of_decide_eq_false h4
            simp only [Bool.false_and, Bool.true_and]
            go_enter Try.func13, Try.ntmps13
            go_wp2_with (go_at_call 23; refine (inB_any _ _ _).mono ?_; rintro e w1 ⟨rfl, rfl⟩)
            go_ret
            exact ⟨rfl, hb0⟩
          | true =>
            have h4' := of_decide_eq_true h4
            cases h5 : decide ((m : Int) ≤ 3) with
            | false =>
              have h5' := of_decide_eq_false h5
              simp only [Bool.false_and, Bool.true_and]
              go_enter Try.func13, Try.ntmps13
              go_wp2_with (go_at_call 23; refine (inB_any _ _ _).mono ?_; rintro e w1 ⟨rfl, rfl⟩)
              go_ret
              exact ⟨rfl, hb0⟩
            | true =>
              have h5' := of_decide_eq_true h5
              simp only [Bool.false_and, Bool.true_and]
              go_enter Try.func13, Try.ntmps13
              go_wp2_with (go_at_call 23; refine (inB_any _ _ _).mono ?_; rintro e w1 ⟨rfl, rfl⟩)
              go_ret
              exact ⟨rfl, hb0⟩

theorem u8_or1 : ((List.range 256).all fun n => decide (n % 2 = 1 ∨ bits .or .u8 (n : Int) 1 = (n : Int) + 1)) = true := by kernel_rfl
theorem u8_or2 : ((List.range 256).all fun n => decide (n / 2 % 2 = 1 ∨ bits .or .u8 (n : Int) 2 = (n : Int) + 2)) = true := by kernel_rfl
theorem or1 {y : Int} (h0 : 0 ≤ y) (h1 : y < 256) (h2 : y % 2 = 0) : bits .or .u8 y 1 = y + 1 := by
  obtain ⟨n, rfl⟩ := Int.eq_ofNat_of_zero_le h0
  have := of_decide_eq_true (List.all_eq_true.1 u8_or1 n (by simp; omega))
  rcases this with h | h
  · omega
  · exact h
theorem or2 {y : Int} (h0 : 0 ≤ y) (h1 : y < 256) (h2 : y / 2 % 2 = 0) : bits .or .u8 y 2 = y + 2 := by
  obtain ⟨n, rfl⟩ := Int.eq_ofNat_of_zero_le h0
  have := of_decide_eq_true (List.all_eq_true.1 u8_or2 n (by simp; omega))
  rcases this with h | h
  · omega
  · exact h

set_option maxHeartbeats 1000000 in
theorem flags_any (kind sub : Int) (fin ecn : Bool) (seq dsn got dgot win ace ce sent echo : Int) (G : Option Addr) (m d : Nat) (A : Option Addr) (n c : Nat) (pl : List (Int × Int)) (bl : List Int) (w : World) (ha : 0 ≤ ace) (hb : ace ≤ 7) :
    Calls Try.prog 30 #[.agg #[.int .i64 kind, .int .i64 sub, .bool fin, .bool ecn, .int .u32 seq, .int .u32 dsn, .int .u32 got, .int .u32 dgot, .int .i64 win, .int .i64 ace, .int .u32 ce, .int .u32 sent, .int .u32 echo, .slice G m d, .slice A n c]] w fun e w' => e = .returned (.int .u8 (flagsS ⟨kind, sub, fin, ecn, seq, dsn, got, dgot, win, ace, ce, sent, echo, pl, bl⟩)) ∧ Below w.heap.size w w' := by
  have e0 := Bx.new w 26 [.int .i64 kind, .int .i64 sub, .bool fin, .bool ecn, .int .u32 seq, .int .u32 dsn, .int .u32 got, .int .u32 dgot, .int .i64 win, .int .i64 ace, .int .u32 ce, .int .u32 sent, .int .u32 echo, .slice G m d, .slice A n c]
  have hb0 : Below w.heap.size w (w.alloc (.cells #[.int .i64 kind, .int .i64 sub, .bool fin, .bool ecn, .int .u32 seq, .int .u32 dsn, .int .u32 got, .int .u32 dgot, .int .i64 win, .int .i64 ace, .int .u32 ce, .int .u32 sent, .int .u32 echo, .slice G m d, .slice A n c] 26)) := (Below.refl _ _).alloc (Nat.le_refl _) _
  have x2 := e0.cell 2 rfl
  have x3 := e0.cell 3 rfl
  have x9 := e0.cell 9 rfl
  obtain ⟨y, hy⟩ : ∃ y, 4 * ace = y := ⟨_, rfl⟩
  have hy0 : 0 ≤ y := by omega
  have hy1 : y < 256 := by omega
  have j1 := or1 hy0 hy1 (by omega)
  have j2 := or2 hy0 hy1 (by omega)
  have j3 := or2 (y := y + 1) (by omega) (by omega) (by omega)
  unfold flagsS
  dsimp only
  rw [hy]
  clear e0
  cases fin <;> cases ecn
  · go_enter Try.func30, Try.ntmps30
    go_wp2
    go_ret
    exact ⟨by simp, hb0⟩
  · go_enter Try.func30, Try.ntmps30
    go_wp2
    go_ret
    exact ⟨by simp, hb0⟩
  · go_enter Try.func30, Try.ntmps30
    go_wp2
    go_ret
    exact ⟨by simp, hb0⟩
  · go_enter Try.func30, Try.ntmps30
    go_wp2
    go_ret
    exact ⟨by simp, hb0⟩
end Go.Proofs.Ytfglagkpknpgdaa
