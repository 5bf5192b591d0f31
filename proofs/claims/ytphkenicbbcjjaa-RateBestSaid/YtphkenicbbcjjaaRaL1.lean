/- Package rate as it landed: within, measurable, May, slices.Clone, maximum, Best as contracts of the call. -/
import Derived.Test.YtphkenicbbcjjaaRaRef1
import Derived.WalkKit
import Derived.WalkSpells
import Derived.WalkSmall
import Derived.Lib.Hide
import Derived.Below
import Derived.Outline
import Derived.Deep.QuietTactic
import Derived.BigQuiet
import Derived.IntWalk
import Derived.Deep.DeepCutAuto
namespace Go.Proofs.Ytphkenicbbcjjaa
open Go.RowKit
set_option linter.unusedVariables false
set_option linter.unusedSimpArgs false

/-- low to high -/
def winB (n lo hi : Int) : Bool := decide (lo ≤ n) && decide (n ≤ hi)
theorem win_iff (n lo hi : Int) : winB n lo hi = true ↔ lo ≤ n ∧ n ≤ hi := by unfold winB; simp
theorem win60 (x : Int) : winB x 0 1152921504606846976 = t60 x := by rw [Bool.eq_iff_iff, win_iff, t60_iff]
theorem within_any (n lo hi : Int) (w : World) :
    Calls Try.prog 19 #[.int .i64 n, .int .i64 lo, .int .i64 hi] w fun e w' => e = .returned (.bool (winB n lo hi)) ∧ w = w' := by
  by_cases h1 : lo ≤ n
  · have e1 : winB n lo hi = decide (n ≤ hi) := by unfold winB; rw [decide_eq_true h1]; rfl
    rw [e1]
    clear e1
    have d1 : decide (lo ≤ n) = true := decide_eq_true h1
    go_enter Try.func19, Try.ntmps19
    go_wp2
    go_ret
    exact ⟨rfl, rfl⟩
  · have e1 : winB n lo hi = false := by unfold winB; rw [decide_eq_false h1]; rfl
    rw [e1]
    clear e1
    have d1 : decide (lo ≤ n) = false := decide_eq_false h1
    go_enter Try.func19, Try.ntmps19
    go_wp2
    go_ret
    exact ⟨rfl, rfl⟩
theorem within60 (x : Int) (w : World) :
    Calls Try.prog 19 #[.int .i64 x, .int .i64 0, .int .i64 1152921504606846976] w fun e w' => e = .returned (.bool (t60 x)) ∧ w = w' := by
  rw [← win60]; exact within_any _ _ _ _

def measB (l : List Int) : Bool := decide (l.length ≤ 10) && allB l

set_option maxRecDepth 100000 in
set_option maxHeartbeats 4000000 in
theorem meas_any (A : Option Addr) (n c : Nat) (l : List Int) (w : World) (hs : Si w A n c l) :
    Calls Try.prog 27 #[.slice A n c] w fun e w' => e = .returned (.bool (measB l)) ∧ w = w' := by
  have hl := hs.rd.len
  have m1 := hs.le
  have m2 := hs.max
  unfold maxLen at m2
  by_cases c2 : 10 < n
  · have hF : measB l = false := by unfold measB; rw [hl, decide_eq_false (by omega)]; rfl
    rw [hF]
    clear hF
    have d2 : decide (10 < n) = true := decide_eq_true c2
    go_enter Try.func27, Try.ntmps27
    go_wp2
    go_ret
    exact ⟨rfl, rfl⟩
  have d2 : decide (10 < n) = false := decide_eq_false c2
  have hn : n ≤ 10 := by omega
  have hmay : measB l = allB l := by unfold measB; rw [hl, decide_eq_true hn]; rfl
  obtain ⟨q, hq⟩ : ∃ q, allB l = q := ⟨_, rfl⟩
  rw [hmay, hq]
  have HQ := Lib.hid hq; clear hq hmay
  have HL := Lib.hid hl
  have HS := Lib.hid hs
  clear hl hs m1 m2 c2
  go_enter Try.func27, Try.ntmps27
  go_wp2_with fail
  go_loopw [10] (fun i wr => ∃ k : Nat, k ≤ n ∧ i = .int .i64 (k : Int) ∧ Hid (AllB l k) ∧ w = wr) (fun i _ => n - (intOf i).toNat)
  case atStart => exact ⟨0, Nat.zero_le _, rfl, (fun i hi => absurd hi (by omega)), rfl⟩
  case round =>
    obtain ⟨k, hk, rfl, hok, rfl⟩ := hrel
    by_cases hlt : k < n
    · have dlt : decide (k < n) = true := decide_eq_true hlt
      obtain ⟨b, o, hA, hbl, hc⟩ := HS.out.rd.at_ (by omega)
      subst hA
      have y1 := hc k hlt
      obtain ⟨p, hp⟩ : ∃ p, it l k = p := ⟨_, rfl⟩
      rw [hp] at y1
      have HP := Lib.hid hp
      clear hc hp
      cases ht : t60 p with
      | true =>
        have hall := all_snoc hok.out (by rw [HP.out]; exact ht)
        have HA := Lib.hid hall; clear hall
        go_wp2_with (go_at_call 19; refine (within60 _ _).mono ?_; rintro e wx ⟨rfl, rfl⟩)
        go_roundw
        case rel => exact ⟨k + 1, by omega, by go_num, HA, by first | rfl | trivial⟩
        case measure => simp [intOf]; omega
      | false =>
        have hF : q = false := by
          rw [← HQ.out]
          refine Bool.eq_false_iff.2 (fun h => ?_)
          have h1 := (allB_iff l).1 h k (by rw [HL.out]; exact hlt)
          rw [HP.out, ht] at h1; cases h1
        subst hF
        go_wp2_with (go_at_call 19; refine (within60 _ _).mono ?_; rintro e wx ⟨rfl, rfl⟩)
        go_ret
        exact ⟨rfl, rfl⟩
    · obtain rfl : k = n := by omega
      have dlt : decide (k < k) = false := decide_eq_false (by omega)
      have hT : q = true := by rw [← HQ.out, allB_iff, HL.out]; exact hok.out
      subst hT
      go_wp2_with fail
      go_ret
      exact ⟨rfl, rfl⟩

set_option maxRecDepth 100000 in
set_option maxHeartbeats 4000000 in
theorem ratmay_any (total last : Int) (A : Option Addr) (n c : Nat) (l : List Int) (w : World) (hs : Si w A n c l) : Calls Try.prog 17 #[.agg #[.int .i64 total, .int .i64 last, .slice A n c]] w fun e w' => e = .returned (.bool (ramay ⟨total, last, l⟩)) ∧ Below w.heap.size w w' := by
  obtain ⟨B, hB⟩ : ∃ B, w.heap.size = B := ⟨_, rfl⟩
  rw [hB]
  have e0 := Bx.new w 24 [.int .i64 total, .int .i64 last, .slice A n c]
  rw [hB] at e0
  have b0 : Below B w (w.alloc (.cells #[.int .i64 total, .int .i64 last, .slice A n c] 24)) := by rw [← hB]; exact (Below.refl _ _).alloc (Nat.le_refl _) _
  have s0 := hs.alloc (.cells #[.int .i64 total, .int .i64 last, .slice A n c] 24)
  have hm : ramay ⟨total, last, l⟩ = (t60 total && (t60 last && measB l)) := by
    unfold ramay measB
    dsimp only
    cases allB l <;> cases t60 total <;> cases t60 last <;> simp
  rw [hm]
  clear hm
  have x0 := e0.cell 0 rfl; have x1 := e0.cell 1 rfl; have x2 := e0.cell 2 rfl
  have rr := meas_any A n c l _ s0
  cases h1 : t60 total with
  | false =>
    rw [Bool.false_and]
    go_enter Try.func17, Try.ntmps17
    go_wp2_with (go_at_call 19; refine (within60 _ _).mono ?_; rintro e wx ⟨rfl, rfl⟩)
    go_ret
    exact ⟨rfl, b0⟩
  | true =>
    rw [Bool.true_and]
    cases h2 : t60 last with
    | false =>
      rw [Bool.false_and]
      go_enter Try.func17, Try.ntmps17
      go_wp2_with (go_at_call 19; refine (within60 _ _).mono ?_; rintro e wx ⟨rfl, rfl⟩)
      go_ret
      exact ⟨rfl, b0⟩
    | true =>
      rw [Bool.true_and]
      go_enter Try.func17, Try.ntmps17
      go_wp2_with (first | (go_at_call 19; refine (within60 _ _).mono ?_; rintro e wx ⟨rfl, rfl⟩) | (go_at_call 27; refine rr.mono ?_; rintro e wx ⟨rfl, rfl⟩))
      go_ret
      exact ⟨rfl, b0⟩

set_option maxHeartbeats 1000000 in
theorem raclone_any (A : Option Addr) (n c : Nat) (l : List Int) (w : World) (hr : Si w A n c l) (hn : n ≤ 1000000) :
    Calls Try.prog 20 #[.slice A n c] w fun e w' => ∃ R d, e = .returned (.slice R n d) ∧ Goti w' w.heap.size 3 (.slice R n d) n l ∧ Below w.heap.size w w' := by
  have qn := fun (w : World) (a : Option Addr) (n c n' c' : Nat) => Lib.run_eql_slice_nil (P := Try.prog) w _ _ a n c n' c' Try.underlying22
  cases A with
  | none =>
    have hc := hr.nil rfl
    have hle := hr.le
    obtain rfl : n = 0 := by omega
    have hz := hr.rd.len
    obtain rfl : l = [] := List.eq_nil_of_length_eq_zero hz
    clear hc hle hz
    go_enter Try.func20, Try.ntmps20
    go_wp2
    go_ret
    exact ⟨none, 0, rfl, Goti.nil _ _ _, Below.refl _ _⟩
  | some a =>
    have hmade : (w.alloc (.cells #[] 3)).ownsRow w.heap.size 3 1 (.slice (some ⟨w.heap.size, 0, none⟩) 0 0) 0 (([] : List Int).map (Value.int .i64)) := World.ownsRow_made w #[] 0 (Nat.le_refl _) (Nat.zero_le _) rfl
    go_enter Try.func20, Try.ntmps20
    go_wp2_with (at_builtin; refine wpList_appi _ rfl (.tmp 5) (.tmp 6) 22 rfl w.heap.size 3 Try.underlying22 info_int _ 0 [] rfl ⟨hmade, fun p hp => by simp at hp⟩ rfl hr.nil (hr.rd.keep ((Below.refl _ _).alloc (Nat.le_refl _) _)) (by omega) (by simp) ?_; intro v1 w1 hown1 hgrow1 hat1)
    have b1 : Below w.heap.size w w1 := ((Below.refl _ _).alloc (Nat.le_refl _) _).grown hgrow1 (by simp) (fun k hk => (hmade.lt k hk).1)
    simp only [Nat.zero_add, List.nil_append] at hown1
    obtain ⟨R, d, ev, hsl⟩ := hown1.si
    subst ev
    go_wp2
    go_ret
    exact ⟨R, d, rfl, hown1, b1⟩

theorem mx_first {l : List Int} (h : 0 < l.length) (h0 : 0 ≤ it l 0) : mx (l.take 1) = it l 0 := by
  have := it_take_snoc (l := l) (k := 0) h
  rw [this, List.take_zero, mx_snoc]
  show (if (0 : Int) < it l 0 then it l 0 else 0) = it l 0
  split
  · rfl
  · omega

set_option maxRecDepth 100000 in
set_option maxHeartbeats 4000000 in
theorem maxi_any (A : Option Addr) (n c : Nat) (l : List Int) (w : World) (hs : Si w A n c l) (hn : n ≤ 10) (hv : Hid (AllB l n)) :
    Calls Try.prog 26 #[.slice A n c] w fun e w' => e = .returned (.int .i64 (mx l)) ∧ w = w' := by
  have hl := hs.rd.len
  have HL := Lib.hid hl
  have HS := Lib.hid hs
  obtain ⟨q, hq⟩ : ∃ q, mx l = q := ⟨_, rfl⟩
  rw [hq]
  have HQ := Lib.hid hq
  clear hl hs hq
  go_enter Try.func26, Try.ntmps26
  go_wp2_with fail
  go_loopw [3, 8] (fun s i wr => ∃ k : Nat, k ≤ n ∧ i = .int .i64 (k : Int) ∧ s = .int .i64 (mx (l.take k)) ∧ w = wr) (fun _ i _ => n - (intOf i).toNat)
  case atStart => exact ⟨0, Nat.zero_le _, rfl, by rw [List.take_zero]; rfl, rfl⟩
  case round =>
    obtain ⟨k, hkn, rfl, rfl, rfl⟩ := hrel
    by_cases hlt : k < n
    · have dlt : decide (k < n) = true := decide_eq_true hlt
      obtain ⟨b, o, hA, hbl, hc⟩ := HS.out.rd.at_ (by omega)
      subst hA
      have y1 := hc k hlt
      have hsn := mx_snoc (l.take k) (it l k)
      rw [← it_take_snoc (by rw [HL.out]; exact hlt)] at hsn
      have hp0 := ((t60_iff _).1 (hv.out k hlt)).1
      have hfirst : k = 0 → mx (l.take (k + 1)) = it l k := fun e => by subst e; exact mx_first (by rw [HL.out]; exact hlt) hp0
      obtain ⟨p, hp⟩ : ∃ p, it l k = p := ⟨_, rfl⟩
      obtain ⟨m, hm⟩ : ∃ m, mx (l.take k) = m := ⟨_, rfl⟩
      obtain ⟨m', hm'⟩ : ∃ m', mx (l.take (k + 1)) = m' := ⟨_, rfl⟩
      rw [hp] at y1 hsn hp0 hfirst
      rw [hm] at hsn ⊢
      rw [hm'] at hsn hfirst
      have HM := Lib.hid hm'
      have HF := Lib.hid hfirst
      clear hc hp hm hm' hfirst
      by_cases hk0 : k = 0
      · have dk : ((k : Int) == 0) = true := by simp [hk0]
        have HSn : Hid (m' = p) := Lib.hid (HF.out hk0)
        clear hsn hp0 hk0
        go_wp2_with fail
        go_roundw
        case rel => exact ⟨k + 1, by omega, by go_num, by rw [HM.out, HSn.out], by first | rfl | trivial⟩
        case measure => simp [intOf]; omega
      · have dk : ((k : Int) == 0) = false := by simpa using hk0
        clear hk0
        by_cases hpm : m < p
        · have dpm : decide (m < p) = true := decide_eq_true hpm
          rw [if_pos hpm] at hsn
          have HSn := Lib.hid hsn; clear hsn hp0
          go_wp2_with fail
          go_roundw
          case rel => exact ⟨k + 1, by omega, by go_num, by rw [HM.out, HSn.out], by first | rfl | trivial⟩
          case measure => simp [intOf]; omega
        · have dpm : decide (m < p) = false := decide_eq_false hpm
          rw [if_neg hpm] at hsn
          have HSn := Lib.hid hsn; clear hsn hp0
          go_wp2_with fail
          go_roundw
          case rel => exact ⟨k + 1, by omega, by go_num, by rw [HM.out, HSn.out], by first | rfl | trivial⟩
          case measure => simp [intOf]; omega
    · obtain rfl : k = n := by omega
      have dlt : decide (k < k) = false := decide_eq_false (by omega)
      have hfl : mx (l.take k) = q := by rw [← HL.out, List.take_length]; exact HQ.out
      rw [hfl]
      clear hfl
      go_wp2_with fail
      go_ret
      exact ⟨rfl, rfl⟩

set_option maxRecDepth 100000 in
set_option maxHeartbeats 4000000 in
theorem ratbest_any (total last : Int) (A : Option Addr) (n c : Nat) (l : List Int) (w : World) (hs : Si w A n c l) : Calls Try.prog 15 #[.agg #[.int .i64 total, .int .i64 last, .slice A n c]] w fun e w' => e = .returned (.int .i64 (bestR ⟨total, last, l⟩)) ∧ Below w.heap.size w w' := by
  obtain ⟨B, hB⟩ : ∃ B, w.heap.size = B := ⟨_, rfl⟩
  rw [hB]
  have hl := hs.rd.len
  have e0 := Bx.new w 24 [.int .i64 total, .int .i64 last, .slice A n c]
  rw [hB] at e0
  have b0 : Below B w (w.alloc (.cells #[.int .i64 total, .int .i64 last, .slice A n c] 24)) := by rw [← hB]; exact (Below.refl _ _).alloc (Nat.le_refl _) _
  have s0 := hs.alloc (.cells #[.int .i64 total, .int .i64 last, .slice A n c] 24)
  obtain ⟨q, hq⟩ : ∃ q, bestR ⟨total, last, l⟩ = q := ⟨_, rfl⟩
  rw [hq]
  have HQ := Lib.hid hq; have HL := Lib.hid hl
  clear hq hl hs
  go_enter Try.func15, Try.ntmps15
  go_wp2_with (refine ra_load rfl (.tmp 1) rfl rfl e0 rfl ?_)
  generalize w.alloc (.cells #[.int .i64 total, .int .i64 last, .slice A n c] 24) = w1 at e0 b0 s0 ⊢
  refine (ratmay_any total last A n c l _ s0).mono ?_
  rintro e w2 ⟨rfl, hb2⟩
  have e2 := e0.kept hb2; have b2 := b0.trans (hb2.mono (Nat.le_of_lt e0.lt)); have s2 := s0.keep hb2
  have x2 := e2.cell 2 rfl
  clear e0 b0 s0 hb2
  cases hk : ramay ⟨total, last, l⟩ with
  | false =>
    have hq : q = 0 := by rw [← HQ.out]; unfold bestR; rw [if_neg (by rw [hk]; simp)]
    subst hq
    clear hk
    go_wp2_with fail
    go_ret
    exact ⟨rfl, b2⟩
  | true =>
    have hq : mx l = q := by rw [← HQ.out]; unfold bestR; rw [if_pos hk]
    have hv := (ramay_iff _).1 hk
    have hn : n ≤ 10 := by have := hv.len; dsimp only at this; rw [HL.out] at this; exact this
    have hall : Hid (AllB l n) := Lib.hid (by have := hv.all; dsimp only at this; rw [HL.out] at this; exact this)
    have mm := maxi_any A n c l w2 s2 hn hall
    rw [hq] at mm
    clear hq hv hk
    go_wp2_with (go_at_call 26; refine mm.mono ?_; rintro e w3 ⟨rfl, rfl⟩)
    go_ret
    exact ⟨rfl, b2⟩
end Go.Proofs.Ytphkenicbbcjjaa
