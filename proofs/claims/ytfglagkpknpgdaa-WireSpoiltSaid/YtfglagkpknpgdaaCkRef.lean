/- The reference of package check: Sum, Four, Same as contracts of the calls. -/
import Derived.Test.YtfglagkpknpgdaaProg
import Derived.Test.YtfglagkpknpgdaaCkTot
import Derived.WalkKit
import Derived.WalkSpells
import Derived.Lib.Hide
import Derived.WalkSmall
import Derived.Below
import Derived.Outline
import Derived.Deep.QuietTactic
import Derived.BigQuiet
namespace Go.Proofs.Ytfglagkpknpgdaa
open Go.RowKit

set_option maxHeartbeats 1000000 in
theorem rsum_any (A : Option Addr) (n c : Nat) (l : List Int) (w : World) (hr : Rd w A n l) (hn : n ≤ 1000000) :
    Calls Try.prog 29 #[.slice A n c] w fun e w' => e = .returned (.int .i64 (adler l)) ∧ w = w' := by
  have hfin : adler l = (run (1, 0) (l.take n)).2 * 65536 + (run (1, 0) (l.take n)).1 := by rw [← hr.len, List.take_length]; rfl
  have HF := Lib.hid hfin; clear hfin
  have HR := Lib.hid hr; clear hr
  go_enter Try.func29, Try.ntmps29
  go_wp2
  go_loop [3, 4, 5] (fun p q i => ∃ (k : Nat) (X Y : Int), k ≤ n ∧ i = .int .i64 k ∧ p = .int .i64 X ∧ q = .int .i64 Y ∧ 1 ≤ X ∧ X ≤ 1 + 255 * k ∧ 0 ≤ Y ∧ Y ≤ 65520 * k ∧ run (1, 0) (l.take k) = (X % 65521, Y % 65521)) (fun _ _ i => n - (intOf i).toNat)
  case atStart => exact ⟨0, 1, 0, Nat.zero_le _, rfl, rfl, rfl, by omega, by omega, by omega, by omega, by simp [run]⟩
  case round =>
    obtain ⟨k, X, Y, hk, rfl, rfl, rfl, x0, x1, y0, y1, hst⟩ := hrel
    have HS := Lib.hid hst; clear hst
    by_cases hlt : k < n
    · obtain ⟨b, o, rfl, hbl, hc⟩ := HR.out.spot (by omega)
      have hcell := hc.out k hlt
      have hbd := byt_in HR.out.small (i := k) (by rw [HR.out.len]; exact hlt)
      have hsn := run_snoc (1, 0) (l := l) (k := k) (by rw [HR.out.len]; exact hlt)
      rw [HS.out] at hsn
      have HN := Lib.hid hsn; clear hsn
      go_wp2
      go_round
      case rel =>
        refine ⟨k + 1, X + byt l k, Y + (X + byt l k) % 65521, by omega, by go_num, rfl, rfl, by omega, by omega, by omega, by omega, ?_⟩
        rw [HN.out]; unfold stp; simp only [Prod.mk.injEq]; omega
      case measure => simp [intOf]; omega
    · have hkn : k = n := by omega
      subst hkn
      go_wp2
      go_ret
      refine ⟨?_, rfl⟩
      rw [HF.out, HS.out]
      show Ending.returned (.int .i64 (65536 * (Y % 65521) + X % 65521)) = Ending.returned (.int .i64 (Y % 65521 * 65536 + X % 65521))
      rw [Int.mul_comm]

def four (n : Int) : List Int := [n / 16777216 % 256, n / 65536 % 256, n / 256 % 256, n % 256]
theorem four_small (n : Int) : Small (four n) := by
  intro x hx; unfold four at hx; simp at hx; omega

set_option maxHeartbeats 1000000 in
theorem four_any (n : Int) (h0 : 0 ≤ n) (h1 : n < 4294967296) (w : World) :
    Calls Try.prog 22 #[.int .i64 n] w fun e w' => e = .returned (.slice (some ⟨w.heap.size, 0, none⟩) 4 4) ∧ w.alloc (.cells ((four n).map (Value.int .u8)).toArray 5) = w' := by
  unfold four
  go_enter Try.func22, Try.ntmps22
  go_wp2
  go_ret
  exact ⟨rfl, rfl⟩

theorem ret_bool {a b : Bool} (h : a = b) : Ending.returned (.bool a) = .returned (.bool b) := by rw [h]
def sameB (l m : List Int) : Bool := decide (l = m)
/-- the first k are the same -/
def Pre (l m : List Int) (k : Nat) : Prop := ∀ i, i < k → byt l i = byt m i

set_option maxHeartbeats 1000000 in
theorem same_any (A B : Option Addr) (n c n' c' : Nat) (l m : List Int) (w : World) (hr : Rd w A n l) (hs : Rd w B n' m) (hn : n ≤ 9223372036854775807) :
    Calls Try.prog 12 #[.slice A n c, .slice B n' c'] w fun e w' => e = .returned (.bool (sameB l m)) ∧ ∃ q, w' = w.drewN q := by
  by_cases hne : n = n'
  · subst hne
    have HR := Lib.hid hr; clear hr
    have HS := Lib.hid hs; clear hs
    have hx : ((n : Int) != (n : Int)) = false := by simp
    go_enter Try.func12, Try.ntmps12
    go_wp2
    go_loopw [5] (fun i wr => ∃ k q : Nat, k ≤ n ∧ i = .int .i64 k ∧ Pre l m k ∧ wr = w.drewN q) (fun i _ => n - (intOf i).toNat)
    case atStart => exact ⟨0, 0, Nat.zero_le _, rfl, fun i hi => by omega, rfl⟩
    case round =>
      obtain ⟨k, q, hk, rfl, hpre, rfl⟩ := hrel
      have HP := Lib.hid hpre; clear hpre
      by_cases hlt : k < n
      · obtain ⟨b, o, rfl, hbl, hc⟩ := HR.out.spot (by omega)
        obtain ⟨b2, o2, rfl, hbl2, hc2⟩ := HS.out.spot (by omega)
        have hcell := hc.out k hlt
        have hcell2 := hc2.out k hlt
        have i0 : (0 : Int) ≤ (k : Int) := by omega
        have i1 : (k : Int) < (n : Int) := by omega
        by_cases heq : byt l k = byt m k
        · have hpre' : Pre l m (k + 1) := fun i hi => by
            by_cases h : i < k
            · exact HP.out i h
            · obtain rfl : i = k := by omega
              exact heq
          obtain ⟨z, hz⟩ : ∃ z, byt l k = z := ⟨_, rfl⟩
          rw [← heq, hz] at hcell2
          rw [hz] at hcell
          have hzz : (z != z) = false := by simp
          clear hz heq
          go_wp2_with fail
          go_quiet (fail)
          go_wp2
          go_roundw
          case rel => exact ⟨k + 1, _, by omega, by go_num, hpre', rfl⟩
          case measure => simp [intOf]; omega
        · have hno : sameB l m = false := decide_eq_false (fun e => heq (by rw [e]))
          obtain ⟨z, hz⟩ : ∃ z, byt l k = z := ⟨_, rfl⟩
          obtain ⟨y, hy⟩ : ∃ y, byt m k = y := ⟨_, rfl⟩
          rw [hz] at hcell heq
          rw [hy] at hcell2 heq
          have hzz : (z != y) = true := by simpa using heq
          have HN := Lib.hid hno; clear hno
          clear hz hy heq
          go_wp2_with fail
          go_quiet (fail)
          go_wp2
          go_ret
          exact ⟨ret_bool HN.out.symm, _, World.drewN_drewN _ _ _⟩
      · have hkn : k = n := by omega
        subst hkn
        have hyes : sameB l m = true := decide_eq_true (byt_ext (by rw [HR.out.len, HS.out.len]) (fun i hi => HP.out i (by rw [HR.out.len] at hi; exact hi)))
        have HY := Lib.hid hyes; clear hyes
        go_wp2
        go_ret
        exact ⟨ret_bool HY.out.symm, _, rfl⟩
  · have hno : sameB l m = false := decide_eq_false (fun e => hne (by rw [← hr.len, ← hs.len, e]))
    have hx : ((n : Int) != (n' : Int)) = true := by simp; omega
    have HN := Lib.hid hno; clear hno
    go_enter Try.func12, Try.ntmps12
    go_wp2
    go_ret
    exact ⟨ret_bool HN.out.symm, 0, rfl⟩

theorem below_drewN {B : Nat} {a w : World} (h : Below B a w) (n : Nat) : Below B a (w.drewN n) := ⟨h.os, h.tape, h.output, h.size, h.block⟩

def fewB (ls : List (List Int)) : Bool := decide (ls.length ≤ 20 ∧ ∀ k, k < ls.length → (part ls k).length ≤ 500)

/-- the first k parts are at most 500 long, told by b -/
def OkTo (ls : List (List Int)) (k : Nat) (b : Bool) : Prop := (b = true → ∀ j, j < k → (part ls j).length ≤ 500) ∧ (b = false → fewB ls = false)

/-- what the call has put together so far -/
structure Got (w : World) (base : Nat) (v : Value) (n : Nat) (l : List Int) : Prop where
  own : w.ownsRow base 5 1 v n (l.map (Value.int .u8))
  small : Small l
theorem Got.rd {w : World} {base : Nat} {v : Value} {n : Nat} {l : List Int} (h : Got w base v n l) : ∃ A c, v = .slice A n c ∧ n ≤ c ∧ c ≤ maxLen ∧ (A = none → c = 0) ∧ Rd w A n l := Rd.of_own h.own h.small
theorem info_u8 : (Try.prog.info? 5).map (fun i => (i.zero, i.size, i.bytes)) = some (some (.int .u8 0), 1, 1) := by kernel_rfl

end Go.Proofs.Ytfglagkpknpgdaa
