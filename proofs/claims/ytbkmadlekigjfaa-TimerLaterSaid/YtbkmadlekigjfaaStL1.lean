/- Package sent as it landed: within, end, valid, follows, May as contracts of the calls. -/
import Derived.Test.YtbkmadlekigjfaaStRef2
import Derived.Test.YtbkmadlekigjfaaStInfo
import Derived.Test.YtbkmadlekigjfaaRoT
import Derived.Test.YtbkmadlekigjfaaTail2
import Derived.Test.YtbkmadlekigjfaaRoB
import Derived.Deep.DeepCutAuto
namespace Go.Proofs.Ytbkmadlekigjfaa
open Go.RowKit
set_option linter.unusedVariables false
set_option linter.unusedSimpArgs false

/-- low to high -/
def winB (n lo hi : Int) : Bool := decide (lo ≤ n) && decide (n ≤ hi)
theorem win_iff (n lo hi : Int) : winB n lo hi = true ↔ lo ≤ n ∧ n ≤ hi := by unfold winB; simp
theorem win60 (x : Int) : winB x 0 1152921504606846976 = t60 x := by rw [Bool.eq_iff_iff, win_iff, t60_iff]
theorem within_any (n lo hi : Int) (w : World) :
    Calls Try.prog 32 #[.int .i64 n, .int .i64 lo, .int .i64 hi] w fun e w' => e = .returned (.bool (winB n lo hi)) ∧ w = w' := by
  by_cases h1 : lo ≤ n
  · have e1 : winB n lo hi = decide (n ≤ hi) := by unfold winB; rw [decide_eq_true h1]; rfl
    rw [e1]
    clear e1
    have d1 : decide (lo ≤ n) = true := decide_eq_true h1
    go_enter Try.func32, Try.ntmps32
    go_wp2
    go_ret
    exact ⟨rfl, rfl⟩
  · have e1 : winB n lo hi = false := by unfold winB; rw [decide_eq_false h1]; rfl
    rw [e1]
    clear e1
    have d1 : decide (lo ≤ n) = false := decide_eq_false h1
    go_enter Try.func32, Try.ntmps32
    go_wp2
    go_ret
    exact ⟨rfl, rfl⟩
theorem within60 (x : Int) (w : World) :
    Calls Try.prog 32 #[.int .i64 x, .int .i64 0, .int .i64 1152921504606846976] w fun e w' => e = .returned (.bool (t60 x)) ∧ w = w' := by
  rw [← win60]; exact within_any _ _ _ _

/-- where a part ends, where that is a number -/
def EndOk (x : Prt) : Prop := -9223372036854775808 ≤ x.seq + x.len ∧ x.seq + x.len ≤ 9223372036854775807
theorem endOk {x : Prt} (h : POk x) : EndOk x := by
  obtain ⟨z0, z1, z2, z3⟩ := ends_bd h
  unfold EndOk; omega
theorem stend_any (x : Prt) (w : World) (h : EndOk x) :
    Calls Try.prog 30 #[.agg #[.int .i64 x.seq, .int .i64 x.len, .int .i64 x.dsn, .int .i64 x.at_, .int .i64 x.tries, .bool x.came, .bool x.lost, .int .i64 x.total, .int .i64 x.last]] w fun e w' => e = .returned (.int .i64 (endP x)) ∧ Below w.heap.size w w' := by
  obtain ⟨B, hB⟩ : ∃ B, w.heap.size = B := ⟨_, rfl⟩
  have e0 := Bx.new w 38 [.int .i64 x.seq, .int .i64 x.len, .int .i64 x.dsn, .int .i64 x.at_, .int .i64 x.tries, .bool x.came, .bool x.lost, .int .i64 x.total, .int .i64 x.last]
  rw [hB] at e0 ⊢
  have b0 : Below B w (w.alloc (.cells #[.int .i64 x.seq, .int .i64 x.len, .int .i64 x.dsn, .int .i64 x.at_, .int .i64 x.tries, .bool x.came, .bool x.lost, .int .i64 x.total, .int .i64 x.last] 38)) := by rw [← hB]; exact (Below.refl _ _).alloc (Nat.le_refl _) _
  have hs1 : IntKind.i64.wrap (x.seq + x.len) = x.seq + x.len := IntWalk.i64_in _ h
  have c0 := e0.cell 0 rfl; have c1 := e0.cell 1 rfl
  go_enter Try.func30, Try.ntmps30
  go_wp2
  go_ret
  exact ⟨rfl, b0⟩

/-- the times and positions of a part, in the order in which valid looks at them -/
def fld (x : Prt) : Nat → Int
  | 0 => x.seq
  | 1 => x.dsn
  | 2 => x.at_
  | 3 => x.total
  | _ => x.last
theorem fld_no {x : Prt} {k : Nat} (hk : k < 5) (h : t60 (fld x k) = false) : oneB x = false := by
  refine Bool.eq_false_iff.2 (fun hv => ?_)
  have q := (oneB_iff x).1 hv
  rcases (show k = 0 ∨ k = 1 ∨ k = 2 ∨ k = 3 ∨ k = 4 by omega) with rfl | rfl | rfl | rfl | rfl
  · rw [show fld x 0 = x.seq from rfl, q.seq] at h; cases h
  · rw [show fld x 1 = x.dsn from rfl, q.dsn] at h; cases h
  · rw [show fld x 2 = x.at_ from rfl, q.at_] at h; cases h
  · rw [show fld x 3 = x.total from rfl, q.total] at h; cases h
  · rw [show fld x 4 = x.last from rfl, q.last] at h; cases h
theorem fld_all {x : Prt} (h : ∀ i, i < 5 → t60 (fld x i) = true) : oneB x = (winB x.len 1 1460 && (winB x.tries 1 1000 && !(x.came && x.lost))) := by
  have h0 : t60 x.seq = true := h 0 (by omega)
  have h1 : t60 x.dsn = true := h 1 (by omega)
  have h2 : t60 x.at_ = true := h 2 (by omega)
  have h3 : t60 x.total = true := h 3 (by omega)
  have h4 : t60 x.last = true := h 4 (by omega)
  rw [Bool.eq_iff_iff, oneB_iff]
  simp only [Bool.and_eq_true, Bool.not_eq_true', win_iff]
  exact ⟨fun q => ⟨⟨q.l1, q.l2⟩, ⟨q.t1, q.t2⟩, q.not⟩, fun ⟨⟨a, b⟩, ⟨c, d⟩, e⟩ => ⟨h0, h1, h2, h3, h4, e, a, b, c, d⟩⟩

set_option maxRecDepth 100000 in
set_option maxHeartbeats 4000000 in
theorem stvalid_any (x : Prt) (w : World) :
    Calls Try.prog 29 #[.agg #[.int .i64 x.seq, .int .i64 x.len, .int .i64 x.dsn, .int .i64 x.at_, .int .i64 x.tries, .bool x.came, .bool x.lost, .int .i64 x.total, .int .i64 x.last]] w fun e w' => e = .returned (.bool (oneB x)) ∧ Below w.heap.size w w' := by
  obtain ⟨B, hB⟩ : ∃ B, w.heap.size = B := ⟨_, rfl⟩
  have e0 := Bx.new w 38 [.int .i64 x.seq, .int .i64 x.len, .int .i64 x.dsn, .int .i64 x.at_, .int .i64 x.tries, .bool x.came, .bool x.lost, .int .i64 x.total, .int .i64 x.last]
  rw [hB] at e0 ⊢
  have b0 : Below B w (w.alloc (.cells #[.int .i64 x.seq, .int .i64 x.len, .int .i64 x.dsn, .int .i64 x.at_, .int .i64 x.tries, .bool x.came, .bool x.lost, .int .i64 x.total, .int .i64 x.last] 38)) := by rw [← hB]; exact (Below.refl _ _).alloc (Nat.le_refl _) _
  obtain ⟨q, hq⟩ : ∃ q, oneB x = q := ⟨_, rfl⟩
  rw [hq]
  have HQ := Lib.hid hq; clear hq
  have c0 := e0.cell 0 rfl; have c1 := e0.cell 1 rfl; have c2 := e0.cell 2 rfl; have c3 := e0.cell 3 rfl; have c4 := e0.cell 4 rfl
  have c5 := e0.cell 5 rfl; have c6 := e0.cell 6 rfl; have c7 := e0.cell 7 rfl; have c8 := e0.cell 8 rfl
  have ix0 : ∀ w, (Instr.index 54 (.agg #[.int .i64 x.seq, .int .i64 x.dsn, .int .i64 x.at_, .int .i64 x.total, .int .i64 x.last]) (.int .i64 0)).run Try.prog w = .ok (.int .i64 x.seq) w := fun _ => by kernel_rfl
  have ix1 : ∀ w, (Instr.index 54 (.agg #[.int .i64 x.seq, .int .i64 x.dsn, .int .i64 x.at_, .int .i64 x.total, .int .i64 x.last]) (.int .i64 1)).run Try.prog w = .ok (.int .i64 x.dsn) w := fun _ => by kernel_rfl
  have ix2 : ∀ w, (Instr.index 54 (.agg #[.int .i64 x.seq, .int .i64 x.dsn, .int .i64 x.at_, .int .i64 x.total, .int .i64 x.last]) (.int .i64 2)).run Try.prog w = .ok (.int .i64 x.at_) w := fun _ => by kernel_rfl
  have ix3 : ∀ w, (Instr.index 54 (.agg #[.int .i64 x.seq, .int .i64 x.dsn, .int .i64 x.at_, .int .i64 x.total, .int .i64 x.last]) (.int .i64 3)).run Try.prog w = .ok (.int .i64 x.total) w := fun _ => by kernel_rfl
  have ix4 : ∀ w, (Instr.index 54 (.agg #[.int .i64 x.seq, .int .i64 x.dsn, .int .i64 x.at_, .int .i64 x.total, .int .i64 x.last]) (.int .i64 4)).run Try.prog w = .ok (.int .i64 x.last) w := fun _ => by kernel_rfl
  go_enter Try.func29, Try.ntmps29
  go_upto_region 1 with fail
  change Code.wp _ _ _ _ (w.alloc (.cells #[.int .i64 x.seq, .int .i64 x.len, .int .i64 x.dsn, .int .i64 x.at_, .int .i64 x.tries, .bool x.came, .bool x.lost, .int .i64 x.total, .int .i64 x.last] 38))
  generalize w.alloc (.cells #[.int .i64 x.seq, .int .i64 x.len, .int .i64 x.dsn, .int .i64 x.at_, .int .i64 x.tries, .bool x.came, .bool x.lost, .int .i64 x.total, .int .i64 x.last] 38) = w1 at e0 b0 c0 c1 c2 c3 c4 c5 c6 c7 c8 ⊢
  go_wp2_with fail
  go_loopw [16] (fun i wr => ∃ k : Nat, k ≤ 5 ∧ i = .int .i64 (k : Int) ∧ Hid (∀ i, i < k → t60 (fld x i) = true) ∧ w1 = wr) (fun i _ => 5 - (intOf i).toNat)
  case atStart => exact ⟨0, by omega, rfl, Lib.hid (fun i hi => absurd hi (by omega)), rfl⟩
  case round =>
    obtain ⟨k, hk, rfl, hok, rfl⟩ := hrel
    by_cases hlt : k < 5
    · rcases (show k = 0 ∨ k = 1 ∨ k = 2 ∨ k = 3 ∨ k = 4 by omega) with rfl | rfl | rfl | rfl | rfl
      · push_cast
        cases ht : t60 x.seq with
        | true =>
          have hok2 : Hid (∀ i, i < 1 → t60 (fld x i) = true) := Lib.hid (fun i hi => by
            by_cases e : i = 0
            · subst e; exact ht
            · exact hok.out i (by omega))
          go_wp2_with (go_at_call 32; refine (ht ▸ within60 x.seq _).mono ?_; rintro e wx ⟨rfl, rfl⟩)
          go_roundw
          case rel => exact ⟨1, by omega, by first | rfl | go_num, hok2, by first | rfl | trivial⟩
          case measure => simp [intOf]
        | false =>
          have hF : q = false := by rw [← HQ.out]; exact fld_no (k := 0) (by omega) ht
          subst hF
          go_wp2_with (go_at_call 32; refine (ht ▸ within60 x.seq _).mono ?_; rintro e wx ⟨rfl, rfl⟩)
          go_ret
          exact ⟨rfl, b0⟩
      · push_cast
        cases ht : t60 x.dsn with
        | true =>
          have hok2 : Hid (∀ i, i < 2 → t60 (fld x i) = true) := Lib.hid (fun i hi => by
            by_cases e : i = 1
            · subst e; exact ht
            · exact hok.out i (by omega))
          go_wp2_with (go_at_call 32; refine (ht ▸ within60 x.dsn _).mono ?_; rintro e wx ⟨rfl, rfl⟩)
          go_roundw
          case rel => exact ⟨2, by omega, by first | rfl | go_num, hok2, by first | rfl | trivial⟩
          case measure => simp [intOf]
        | false =>
          have hF : q = false := by rw [← HQ.out]; exact fld_no (k := 1) (by omega) ht
          subst hF
          go_wp2_with (go_at_call 32; refine (ht ▸ within60 x.dsn _).mono ?_; rintro e wx ⟨rfl, rfl⟩)
          go_ret
          exact ⟨rfl, b0⟩
      · push_cast
        cases ht : t60 x.at_ with
        | true =>
          have hok2 : Hid (∀ i, i < 3 → t60 (fld x i) = true) := Lib.hid (fun i hi => by
            by_cases e : i = 2
            · subst e; exact ht
            · exact hok.out i (by omega))
          go_wp2_with (go_at_call 32; refine (ht ▸ within60 x.at_ _).mono ?_; rintro e wx ⟨rfl, rfl⟩)
          go_roundw
          case rel => exact ⟨3, by omega, by first | rfl | go_num, hok2, by first | rfl | trivial⟩
          case measure => simp [intOf]
        | false =>
          have hF : q = false := by rw [← HQ.out]; exact fld_no (k := 2) (by omega) ht
          subst hF
          go_wp2_with (go_at_call 32; refine (ht ▸ within60 x.at_ _).mono ?_; rintro e wx ⟨rfl, rfl⟩)
          go_ret
          exact ⟨rfl, b0⟩
      · push_cast
        cases ht : t60 x.total with
        | true =>
          have hok2 : Hid (∀ i, i < 4 → t60 (fld x i) = true) := Lib.hid (fun i hi => by
            by_cases e : i = 3
            · subst e; exact ht
            · exact hok.out i (by omega))
          go_wp2_with (go_at_call 32; refine (ht ▸ within60 x.total _).mono ?_; rintro e wx ⟨rfl, rfl⟩)
          go_roundw
          case rel => exact ⟨4, by omega, by first | rfl | go_num, hok2, by first | rfl | trivial⟩
          case measure => simp [intOf]
        | false =>
          have hF : q = false := by rw [← HQ.out]; exact fld_no (k := 3) (by omega) ht
          subst hF
          go_wp2_with (go_at_call 32; refine (ht ▸ within60 x.total _).mono ?_; rintro e wx ⟨rfl, rfl⟩)
          go_ret
          exact ⟨rfl, b0⟩
      · push_cast
        cases ht : t60 x.last with
        | true =>
          have hok2 : Hid (∀ i, i < 5 → t60 (fld x i) = true) := Lib.hid (fun i hi => by
            by_cases e : i = 4
            · subst e; exact ht
            · exact hok.out i (by omega))
          go_wp2_with (go_at_call 32; refine (ht ▸ within60 x.last _).mono ?_; rintro e wx ⟨rfl, rfl⟩)
          go_roundw
          case rel => exact ⟨5, by omega, by first | rfl | go_num, hok2, by first | rfl | trivial⟩
          case measure => simp [intOf]
        | false =>
          have hF : q = false := by rw [← HQ.out]; exact fld_no (k := 4) (by omega) ht
          subst hF
          go_wp2_with (go_at_call 32; refine (ht ▸ within60 x.last _).mono ?_; rintro e wx ⟨rfl, rfl⟩)
          go_ret
          exact ⟨rfl, b0⟩
    · obtain rfl : k = 5 := by omega
      push_cast
      have hall := fld_all hok.out
      rw [HQ.out] at hall
      have HALL := Lib.hid hall
      clear HQ hok hall
      cases h1 : winB x.len 1 1460 with
      | false =>
        have hF : q = false := by rw [HALL.out, h1]; rfl
        subst hF
        go_wp2_with (go_at_call 32; refine (within_any _ _ _ _).mono ?_; rintro e wx ⟨rfl, rfl⟩)
        go_ret
        exact ⟨rfl, b0⟩
      | true =>
      cases h2 : winB x.tries 1 1000 with
      | false =>
        have hF : q = false := by rw [HALL.out, h1, h2]; rfl
        subst hF
        go_wp2_with (go_at_call 32; refine (within_any _ _ _ _).mono ?_; rintro e wx ⟨rfl, rfl⟩)
        go_ret
        exact ⟨rfl, b0⟩
      | true =>
        clear c0 c2 c3 c7 c8
        cases h3 : x.came with
        | false =>
          have hF : q = true := by rw [HALL.out, h1, h2, h3]; rfl
          subst hF
          rw [h3] at c5
          go_wp2_with (go_at_call 32; refine (within_any _ _ _ _).mono ?_; rintro e wx ⟨rfl, rfl⟩)
          go_ret
          exact ⟨rfl, b0⟩
        | true =>
          have hF : q = !x.lost := by rw [HALL.out, h1, h2, h3]; simp
          subst hF
          rw [h3] at c5
          go_wp2_with (go_at_call 32; refine (within_any _ _ _ _).mono ?_; rintro e wx ⟨rfl, rfl⟩)
          go_ret
          exact ⟨by simp, b0⟩
end Go.Proofs.Ytbkmadlekigjfaa
