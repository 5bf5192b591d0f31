/- Package least as it landed: recordable, rising, May, begin as contracts of the call. -/
import Derived.Test.YtihheanjlabioaaLeRef2
import Derived.WalkKit
import Derived.WalkSpells
import Derived.WalkSmall
import Derived.Lib.Hide
import Derived.Below
import Derived.Outline
import Derived.Deep.QuietTactic
import Derived.BigQuiet
import Derived.IntWalk
import Derived.Deep.DeepCutAuto
namespace Go.Proofs.Ytihheanjlabioaa
open Go.RowKit
set_option linter.unusedVariables false
set_option linter.unusedSimpArgs false

theorem rec_any (x : Int) (w : World) :
    Calls Try.prog 17 #[.int .i64 x] w fun e w' => e = .returned (.bool (tmB x)) ∧ w = w' := by
  have e : tmB x = (decide (0 ≤ x) && decide (x ≤ 1152921504606846976)) := by unfold tmB; rw [Bool.decide_and]
  by_cases h1 : 0 ≤ x
  · by_cases h2 : x ≤ 1152921504606846976
    · rw [decide_eq_true h1, decide_eq_true h2] at e
      rw [e]
      go_enter Try.func17, Try.ntmps17
      go_wp2
      go_ret
      exact ⟨rfl, rfl⟩
    · rw [decide_eq_true h1, decide_eq_false h2] at e
      rw [e]
      go_enter Try.func17, Try.ntmps17
      go_wp2
      go_ret
      exact ⟨rfl, rfl⟩
  · rw [decide_eq_false h1] at e
    rw [e]
    have h1' : x < 0 := by omega
    go_enter Try.func17, Try.ntmps17
    go_wp2
    go_ret
    exact ⟨rfl, rfl⟩

/-- the point ahead of the one at k; ahead of the first one (0, -1) -/
def pre1 (l : List Sp) (k : Nat) : Sp := if k = 0 then (0, -1) else sp l (k - 1)
theorem pre1_succ (l : List Sp) (k : Nat) : pre1 l (k + 1) = sp l k := by unfold pre1; rw [if_neg (by omega), Nat.add_sub_cancel]
theorem pt_of {l : List Sp} {k : Nat} {p m a b : Int} (hp : sp l k = (p, m)) (ha : pre1 l k = (a, b)) : PtOk l k ↔ (tmB p = true ∧ tmB m = true ∧ a ≤ p ∧ b < m) := by
  rw [tmB_iff, tmB_iff]
  unfold pre1 at ha
  constructor
  · intro h
    have h1 := h.a0; have h2 := h.a1; have h3 := h.n0; have h4 := h.n1; have h5 := h.up
    rw [hp] at h1 h2 h3 h4 h5
    dsimp only at h1 h2 h3 h4 h5
    split at ha
    · cases ha; omega
    · have h6 := h5 (by omega)
      rw [ha] at h6
      dsimp only at h6
      omega
  · rintro ⟨h1, h2, h3, h4⟩
    refine ⟨by rw [hp]; exact h1.1, by rw [hp]; exact h1.2, by rw [hp]; exact h2.1, by rw [hp]; exact h2.2, fun h0 => ?_⟩
    rw [if_neg (by omega)] at ha
    rw [hp, ha]
    exact ⟨h3, h4⟩
def riseB (l : List Sp) : Bool := decide (l.length ≤ 100) && ptsB l

set_option maxRecDepth 100000 in
set_option maxHeartbeats 4000000 in
theorem rising_any (A : Option Addr) (n c : Nat) (l : List Sp) (w : World) (hs : Ss w A n c l) :
    Calls Try.prog 22 #[.slice A n c] w fun e w' => e = .returned (.bool (riseB l)) ∧ Below w.heap.size w w' := by
  obtain ⟨B, hB⟩ : ∃ B, w.heap.size = B := ⟨_, rfl⟩
  rw [hB]
  have hl := hs.rd.len
  have m1 := hs.le
  have m2 := hs.max
  unfold maxLen at m2
  by_cases c2 : 100 < n
  · have hF : riseB l = false := by unfold riseB; rw [hl, decide_eq_false (by omega)]; rfl
    rw [hF]
    clear hF
    have d2 : decide (100 < n) = true := decide_eq_true c2
    go_enter Try.func22, Try.ntmps22
    go_wp2
    go_ret
    exact ⟨rfl, Below.refl _ _⟩
  have d2 : decide (100 < n) = false := decide_eq_false c2
  have hn : n ≤ 100 := by omega
  have hmay : riseB l = ptsB l := by unfold riseB; rw [hl, decide_eq_true hn]; rfl
  obtain ⟨q, hq⟩ : ∃ q, ptsB l = q := ⟨_, rfl⟩
  rw [hmay, hq]
  have HQ := Lib.hid hq; clear hq hmay
  have HL := Lib.hid hl
  have HBs := Lib.hid hB
  have HA := Lib.hid hs
  have e0 := Bx.new w 38 [.int .i64 0, .int .i64 (-1)]
  have b0 : Below B w (w.alloc (.cells #[.int .i64 0, .int .i64 (-1)] 38)) := by rw [← hB]; exact (Below.refl _ _).alloc (Nat.le_refl _) _
  rw [hB] at e0
  clear hl hs m1 m2 c2
  go_enter Try.func22, Try.ntmps22
  go_wp2_with fail
  generalize w.alloc (.cells #[.int .i64 0, .int .i64 (-1)] 38) = w1 at e0 b0 ⊢
  go_loopw [12] (fun i wr => ∃ k : Nat, k ≤ n ∧ i = .int .i64 (k : Int) ∧ PtsOk l k ∧ Bx wr B 38 [.int .i64 (pre1 l k).1, .int .i64 (pre1 l k).2] ∧ Below B w wr) (fun i _ => n - (intOf i).toNat)
  case atStart => exact ⟨0, Nat.zero_le _, rfl, fun i hi => absurd hi (by omega), e0, b0⟩
  case round =>
    obtain ⟨k, hk, rfl, hok, er, br⟩ := hrel
    by_cases hlt : k < n
    · have hs' : Ss wr A n c l := HA.out.keep (by rw [HBs.out]; exact br)
      have hsz : B ≤ wr.heap.size := Nat.le_of_lt er.lt
      obtain ⟨b, o, rfl, hbl, hc⟩ := hs'.rd.at_ (by omega)
      obtain ⟨y1, y2⟩ := hc k hlt
      obtain ⟨⟨p, m⟩, hp⟩ : ∃ p, sp l k = p := ⟨_, rfl⟩
      obtain ⟨⟨pa, pb⟩, ha⟩ : ∃ p, pre1 l k = p := ⟨_, rfl⟩
      have hpt := pt_of hp ha
      rw [ha] at er
      rw [hp] at y1 y2
      simp only at y1 y2
      have HP := Lib.hid hp; have HPT := Lib.hid hpt
      clear hc hs' hp ha hpt
      have e1 := er.alloc (.cells #[.int .i64 p, .int .i64 m] 38)
      have b1 := br.alloc hsz (.cells #[.int .i64 p, .int .i64 m] 38)
      have hok' := Lib.hid hok; clear hok
      have v1 := Bx.new wr 38 [.int .i64 p, .int .i64 m]
      go_upto_region 7 with fail
      clear y1 y2
      obtain ⟨V, hV⟩ : ∃ V, wr.heap.size = V := ⟨_, rfl⟩
      have hBV : B < V := by rw [← hV]; exact er.lt
      rw [hV] at v1 ⊢
      generalize wr.alloc (.cells #[.int .i64 p, .int .i64 m] 38) = W at e1 b1 v1 ⊢
      have q1 := v1.cell 0 rfl; have q2 := v1.cell 1 rfl
      have x1 := e1.cell 0 rfl; have x2 := e1.cell 1 rfl
      have f1 := e1.free 0; have f2 := e1.free 1
      have hno : ¬ (tmB p = true ∧ tmB m = true ∧ pa ≤ p ∧ pb < m) → q = false := fun hn => by
        rw [← HQ.out]
        exact Bool.eq_false_iff.2 (fun h => hn (HPT.out.1 (((ptsB_iff l).1 h) k (by rw [HL.out]; exact hlt))))
      have HNO := Lib.hid hno; clear hno
      cases t1 : tmB p with
      | false =>
        have hF : q = false := HNO.out (by rw [t1]; simp)
        subst hF
        go_wp2_with (go_at_call 17; refine (rec_any _ _).mono ?_; rintro e w2 ⟨rfl, rfl⟩)
        go_ret
        exact ⟨rfl, b1⟩
      | true =>
      cases t2 : tmB m with
      | false =>
        have hF : q = false := HNO.out (by rw [t2]; simp)
        subst hF
        go_wp2_with (go_at_call 17; refine (rec_any _ _).mono ?_; rintro e w2 ⟨rfl, rfl⟩)
        go_ret
        exact ⟨rfl, b1⟩
      | true =>
      by_cases u0 : p < pa
      · have d0 : decide (p < pa) = true := decide_eq_true u0
        have hF : q = false := HNO.out (by omega)
        subst hF
        go_wp2_with (go_at_call 17; refine (rec_any _ _).mono ?_; rintro e w2 ⟨rfl, rfl⟩)
        go_ret
        exact ⟨rfl, b1⟩
      have d0 : decide (p < pa) = false := decide_eq_false u0
      by_cases u1 : m ≤ pb
      · have d1 : decide (m ≤ pb) = true := decide_eq_true u1
        have hF : q = false := HNO.out (by omega)
        subst hF
        go_wp2_with (go_at_call 17; refine (rec_any _ _).mono ?_; rintro e w2 ⟨rfl, rfl⟩)
        go_ret
        exact ⟨rfl, b1⟩
      have d1 : decide (m ≤ pb) = false := decide_eq_false u1
      have hpt : PtOk l k := HPT.out.2 ⟨t1, t2, by omega, by omega⟩
      have HN := Lib.hid hpt; clear hpt u0 u1
      go_wp2_with (go_at_call 17; refine (rec_any _ _).mono ?_; rintro e w2 ⟨rfl, rfl⟩)
      have e2 : Bx ((W.setCell ⟨B, 0, none⟩ (.int .i64 p)).setCell ⟨B, 1, none⟩ (.int .i64 m)) B 38 [.int .i64 (pre1 l (k + 1)).1, .int .i64 (pre1 l (k + 1)).2] := by
        rw [pre1_succ, HP.out]; exact (e1.set 0 (.int .i64 p)).set 1 (.int .i64 m)
      have E2 := Lib.hid e2; clear e2
      go_roundw
      case rel => exact ⟨k + 1, by omega, by go_num, pts_snoc hok'.out HN.out, E2.out, (b1.setCell (p := ⟨B, 0, none⟩) (Nat.le_refl _) _).setCell (p := ⟨B, 1, none⟩) (Nat.le_refl _) _⟩
      case measure => simp [intOf]; omega
    · obtain rfl : k = n := by omega
      have hT : q = true := by rw [← HQ.out, ptsB_iff, HL.out]; exact hok
      subst hT
      have hd : decide (k < k) = false := decide_eq_false (by omega)
      go_wp2_with fail
      go_ret
      exact ⟨rfl, br⟩

set_option maxRecDepth 100000 in
set_option maxHeartbeats 4000000 in
theorem lemay_any (span : Int) (A : Option Addr) (n c : Nat) (high : Int) (l : List Sp) (w : World) (hs : Ss w A n c l) :
    Calls Try.prog 15 #[.agg #[.int .i64 span, .slice A n c, .int .i64 high]] w fun e w' => e = .returned (.bool (lmay ⟨span, l, high⟩)) ∧ Below w.heap.size w w' := by
  obtain ⟨B, hB⟩ : ∃ B, w.heap.size = B := ⟨_, rfl⟩
  rw [hB]
  have hl := hs.rd.len
  have e0 := Bx.new w 24 [.int .i64 span, .slice A n c, .int .i64 high]
  rw [hB] at e0
  have b0 : Below B w (w.alloc (.cells #[.int .i64 span, .slice A n c, .int .i64 high] 24)) := by rw [← hB]; exact (Below.refl _ _).alloc (Nat.le_refl _) _
  have hs0 := hs.alloc (.cells #[.int .i64 span, .slice A n c, .int .i64 high] 24)
  have x0 := e0.cell 0 rfl; have x1 := e0.cell 1 rfl; have x2 := e0.cell 2 rfl
  have hm : lmay ⟨span, l, high⟩ = (decide (1 ≤ span ∧ span ≤ 1099511627776 ∧ 0 ≤ high ∧ high < 8) && riseB l) := by
    unfold lmay headB riseB
    rw [Bool.eq_iff_iff, Bool.and_eq_true, Bool.and_eq_true, Bool.and_eq_true, decide_eq_true_eq, decide_eq_true_eq, decide_eq_true_eq]
    dsimp only
    constructor
    · rintro ⟨h, k⟩; exact ⟨by omega, by omega, k⟩
    · rintro ⟨h, k, j⟩; exact ⟨by omega, j⟩
  rw [hm]
  clear hl hm
  by_cases c0 : 1 ≤ span
  case neg =>
    rw [decide_eq_false (fun h => c0 h.1), Bool.false_and]
    have d0 : decide (1 ≤ span) = false := decide_eq_false c0
    go_enter Try.func15, Try.ntmps15
    go_wp2
    go_ret
    exact ⟨rfl, b0⟩
  have d0 : decide (1 ≤ span) = true := decide_eq_true c0
  by_cases c1 : span ≤ 1099511627776
  case neg =>
    rw [decide_eq_false (fun h => c1 h.2.1), Bool.false_and]
    have d1 : decide (span ≤ 1099511627776) = false := decide_eq_false c1
    go_enter Try.func15, Try.ntmps15
    go_wp2
    go_ret
    exact ⟨rfl, b0⟩
  have d1 : decide (span ≤ 1099511627776) = true := decide_eq_true c1
  by_cases c2 : 0 ≤ high
  case neg =>
    rw [decide_eq_false (fun h => c2 h.2.2.1), Bool.false_and]
    have d2 : decide (0 ≤ high) = false := decide_eq_false c2
    go_enter Try.func15, Try.ntmps15
    go_wp2
    go_ret
    exact ⟨rfl, b0⟩
  have d2 : decide (0 ≤ high) = true := decide_eq_true c2
  by_cases c3 : high < 8
  case neg =>
    rw [decide_eq_false (fun h => c3 h.2.2.2), Bool.false_and]
    have d3 : decide (high < 8) = false := decide_eq_false c3
    go_enter Try.func15, Try.ntmps15
    go_wp2
    go_ret
    exact ⟨rfl, b0⟩
  have d3 : decide (high < 8) = true := decide_eq_true c3
  rw [decide_eq_true ⟨c0, c1, c2, c3⟩, Bool.true_and]
  clear c0 c1 c2 c3
  have rr := rising_any A n c l _ hs0
  go_enter Try.func15, Try.ntmps15
  go_wp2_with (go_at_call 22; refine rr.mono ?_; rintro e w2 ⟨rfl, hb2⟩)
  go_ret
  exact ⟨rfl, b0.trans (hb2.mono (Nat.le_of_lt e0.lt))⟩

/-- the At of the last point -/
def lastR (l : List Sp) : Int := if l.length = 0 then 0 else (sp l (l.length - 1)).1
set_option maxRecDepth 100000 in
set_option maxHeartbeats 4000000 in
theorem begin_any (span : Int) (A : Option Addr) (n c : Nat) (high : Int) (l : List Sp) (w : World) (hs : Ss w A n c l) :
    Calls Try.prog 18 #[.agg #[.int .i64 span, .slice A n c, .int .i64 high]] w fun e w' => e = .returned (.int .i64 (lastR l)) ∧ Below w.heap.size w w' := by
  obtain ⟨B, hB⟩ : ∃ B, w.heap.size = B := ⟨_, rfl⟩
  rw [hB]
  have hl := hs.rd.len
  have m1 := hs.le
  have m2 := hs.max
  unfold maxLen at m2
  have e0 := Bx.new w 24 [.int .i64 span, .slice A n c, .int .i64 high]
  rw [hB] at e0
  have b0 : Below B w (w.alloc (.cells #[.int .i64 span, .slice A n c, .int .i64 high] 24)) := by rw [← hB]; exact (Below.refl _ _).alloc (Nat.le_refl _) _
  have x1 := e0.cell 1 rfl
  by_cases hn : n = 0
  · have hz : lastR l = 0 := by unfold lastR; rw [if_pos (by omega)]
    rw [hz]
    subst hn
    clear hl hz
    go_enter Try.func18, Try.ntmps18
    go_wp2
    go_ret
    exact ⟨rfl, b0⟩
  · obtain ⟨j, rfl⟩ : ∃ j, n = j + 1 := ⟨n - 1, by omega⟩
    have hz : lastR l = (sp l j).1 := by unfold lastR; rw [if_neg (by omega), hl, Nat.add_sub_cancel]
    rw [hz]
    have hs0 := hs.alloc (.cells #[.int .i64 span, .slice A (j + 1) c, .int .i64 high] 24)
    obtain ⟨b, o, rfl, hbl, hc⟩ := hs0.rd.at_ (by omega)
    obtain ⟨z1, z2⟩ := hc j (by omega)
    clear hc hl hz z2 hs0 hs hn
    go_enter Try.func18, Try.ntmps18
    go_wp2_with fail
    go_ret
    exact ⟨rfl, b0⟩
end Go.Proofs.Ytihheanjlabioaa
