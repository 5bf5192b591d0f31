/- The reference of package least: May as a contract of the call. -/
import Derived.Test.YtihheanjlabioaaProg
import Derived.Test.YtihheanjlabioaaLe
import Derived.Test.YtihheanjlabioaaSn
import Derived.WalkKit
import Derived.WalkSpells
import Derived.WalkSmall
import Derived.Lib.Hide
import Derived.Below
import Derived.Outline
import Derived.Deep.QuietTactic
import Derived.BigQuiet
import Derived.IntWalk
import Derived.Deep.DeepCutAuto
namespace Go.Proofs.Ytihheanjlabioaa
open Go.RowKit
set_option linter.unusedVariables false
set_option linter.unusedSimpArgs false

theorem pts_snoc {l : List Sp} {k : Nat} (h : PtsOk l k) (hk : PtOk l k) : PtsOk l (k + 1) := fun i hi => by
  by_cases e : i = k
  · subst e; exact hk
  · exact h i (by omega)

set_option maxRecDepth 100000 in
set_option maxHeartbeats 4000000 in
theorem rlmay_any (span : Int) (A : Option Addr) (n c : Nat) (high : Int) (l : List Sp) (w : World) (hs : Ss w A n c l) :
    Calls Try.prog 16 #[.agg #[.int .i64 span, .slice A n c, .int .i64 high]] w fun e w' => e = .returned (.bool (lmay ⟨span, l, high⟩)) ∧ Below w.heap.size w w' := by
  obtain ⟨B, hB⟩ : ∃ B, w.heap.size = B := ⟨_, rfl⟩
  rw [hB]
  have hl := hs.rd.len
  have m1 := hs.le
  have m2 := hs.max
  unfold maxLen at m2
  have e0 := Bx.new w 24 [.int .i64 span, .slice A n c, .int .i64 high]
  rw [hB] at e0
  have b0 : Below B w (w.alloc (.cells #[.int .i64 span, .slice A n c, .int .i64 high] 24)) := by rw [← hB]; exact (Below.refl _ _).alloc (Nat.le_refl _) _
  have x0 := e0.cell 0 rfl; have x1 := e0.cell 1 rfl; have x2 := e0.cell 2 rfl
  by_cases hh : headB ⟨span, l, high⟩ = true
  case neg =>
    have hF : lmay ⟨span, l, high⟩ = false := by unfold lmay; rw [show headB ⟨span, l, high⟩ = false by simpa using hh]; rfl
    rw [hF]
    unfold headB at hh
    rw [decide_eq_true_eq] at hh
    dsimp only at hh
    clear hF
    by_cases c0 : span < 1
    · have d0 : decide (span < 1) = true := decide_eq_true c0
      clear hh
      go_enter Try.func16, Try.ntmps16
      go_wp2
      go_ret
      exact ⟨rfl, b0⟩
    have d0 : decide (span < 1) = false := decide_eq_false c0
    by_cases c1 : 1099511627776 < span
    · have d1 : decide (1099511627776 < span) = true := decide_eq_true c1
      clear hh
      go_enter Try.func16, Try.ntmps16
      go_wp2
      go_ret
      exact ⟨rfl, b0⟩
    have d1 : decide (1099511627776 < span) = false := decide_eq_false c1
    by_cases c2 : 100 < n
    · have d2 : decide (100 < n) = true := decide_eq_true c2
      clear hh
      go_enter Try.func16, Try.ntmps16
      go_wp2
      go_ret
      exact ⟨rfl, b0⟩
    have d2 : decide (100 < n) = false := decide_eq_false c2
    by_cases c3 : high < 0
    · have d3 : decide (high < 0) = true := decide_eq_true c3
      clear hh
      go_enter Try.func16, Try.ntmps16
      go_wp2
      go_ret
      exact ⟨rfl, b0⟩
    have d3 : decide (high < 0) = false := decide_eq_false c3
    have c4 : 7 < high := by omega
    have d4 : decide (7 < high) = true := decide_eq_true c4
    clear hh
    go_enter Try.func16, Try.ntmps16
    go_wp2
    go_ret
    exact ⟨rfl, b0⟩
  case pos =>
  have hmay : lmay ⟨span, l, high⟩ = ptsB l := by unfold lmay; rw [hh]; rfl
  obtain ⟨q, hq⟩ : ∃ q, ptsB l = q := ⟨_, rfl⟩
  rw [hmay, hq]
  have HQ := Lib.hid hq; clear hq hmay
  unfold headB at hh
  rw [decide_eq_true_eq] at hh
  dsimp only at hh
  have d0 : decide (span < 1) = false := decide_eq_false (by omega)
  have d1 : decide (1099511627776 < span) = false := decide_eq_false (by omega)
  have d2 : decide (100 < n) = false := decide_eq_false (by omega)
  have d3 : decide (high < 0) = false := decide_eq_false (by omega)
  have d4 : decide (7 < high) = false := decide_eq_false (by omega)
  have hn : n ≤ 100 := by omega
  have HL := Lib.hid hl
  have HBs := Lib.hid hB
  have HA := Lib.hid hs
  clear hh hl hs m1 m2
  go_enter Try.func16, Try.ntmps16
  go_wp2_with fail
  clear x0 x1 x2
  generalize w.alloc (.cells #[.int .i64 span, .slice A n c, .int .i64 high] 24) = w1 at e0 b0 ⊢
  go_loopw [3] (fun i wr => ∃ k : Nat, k ≤ n ∧ i = .int .i64 (k : Int) ∧ PtsOk l k ∧ Bx wr B 24 [.int .i64 span, .slice A n c, .int .i64 high] ∧ Below B w wr) (fun i _ => n - (intOf i).toNat)
  case atStart => exact ⟨0, Nat.zero_le _, rfl, fun i hi => absurd hi (by omega), e0, b0⟩
  case round =>
    obtain ⟨k, hk, rfl, hok, er, br⟩ := hrel
    have x1 := er.cell 1 rfl
    by_cases hlt : k < n
    · have hs' : Ss wr A n c l := HA.out.keep (by rw [HBs.out]; exact br)
      have hsz : B ≤ wr.heap.size := Nat.le_of_lt er.lt
      obtain ⟨b, o, rfl, hbl, hc⟩ := hs'.rd.at_ (by omega)
      obtain ⟨y1, y2⟩ := hc k hlt
      obtain ⟨⟨p, m⟩, hp⟩ : ∃ p, sp l k = p := ⟨_, rfl⟩
      rw [hp] at y1 y2
      simp only at y1 y2
      have hc' := Lib.hid hc
      have HP := Lib.hid hp
      clear hc hs' hp
      by_cases hg0 : p < 0
      · have g0 : decide (p < 0) = true := decide_eq_true hg0
        have hF : q = false := by
          rw [← HQ.out]
          refine Bool.eq_false_iff.2 (fun h => ?_)
          have h1 := (((ptsB_iff l).1 h) k (by rw [HL.out]; exact hlt)).a0
          rw [HP.out] at h1; dsimp only at h1; omega
        subst hF
        go_wp2_with fail
        go_ret
        exact ⟨rfl, br.alloc hsz _⟩
      have g0 : decide (p < 0) = false := decide_eq_false hg0
      by_cases hg1 : 1152921504606846976 < p
      · have g1 : decide (1152921504606846976 < p) = true := decide_eq_true hg1
        have hF : q = false := by
          rw [← HQ.out]
          refine Bool.eq_false_iff.2 (fun h => ?_)
          have h1 := (((ptsB_iff l).1 h) k (by rw [HL.out]; exact hlt)).a1
          rw [HP.out] at h1; dsimp only at h1; omega
        subst hF
        go_wp2_with fail
        go_ret
        exact ⟨rfl, br.alloc hsz _⟩
      have g1 : decide (1152921504606846976 < p) = false := decide_eq_false hg1
      by_cases hg2 : m < 0
      · have g2 : decide (m < 0) = true := decide_eq_true hg2
        have hF : q = false := by
          rw [← HQ.out]
          refine Bool.eq_false_iff.2 (fun h => ?_)
          have h1 := (((ptsB_iff l).1 h) k (by rw [HL.out]; exact hlt)).n0
          rw [HP.out] at h1; dsimp only at h1; omega
        subst hF
        go_wp2_with fail
        go_ret
        exact ⟨rfl, br.alloc hsz _⟩
      have g2 : decide (m < 0) = false := decide_eq_false hg2
      by_cases hg3 : 1152921504606846976 < m
      · have g3 : decide (1152921504606846976 < m) = true := decide_eq_true hg3
        have hF : q = false := by
          rw [← HQ.out]
          refine Bool.eq_false_iff.2 (fun h => ?_)
          have h1 := (((ptsB_iff l).1 h) k (by rw [HL.out]; exact hlt)).n1
          rw [HP.out] at h1; dsimp only at h1; omega
        subst hF
        go_wp2_with fail
        go_ret
        exact ⟨rfl, br.alloc hsz _⟩
      have g3 : decide (1152921504606846976 < m) = false := decide_eq_false hg3
      have e1 := er.alloc (.cells #[.int .i64 p, .int .i64 m] 38)
      have b1 := br.alloc hsz (.cells #[.int .i64 p, .int .i64 m] 38)
      have hok' := Lib.hid hok; clear hok
      have v1 := Bx.new wr 38 [.int .i64 p, .int .i64 m]
      have hsW : Ss (wr.alloc (.cells #[.int .i64 p, .int .i64 m] 38)) (some ⟨b, o, none⟩) n c l := HA.out.keep (by rw [HBs.out]; exact b1)
      have hcW := ss_cell hsW
      clear hsW
      go_upto_region 9 with fail
      clear y1 y2 hc'
      obtain ⟨V, hV⟩ : ∃ V, wr.heap.size = V := ⟨_, rfl⟩
      rw [hV] at v1 ⊢
      generalize wr.alloc (.cells #[.int .i64 p, .int .i64 m] 38) = W at e1 b1 v1 hcW ⊢
      clear x1
      have x1 := e1.cell 1 rfl
      have q1 := v1.cell 0 rfl; have q2 := v1.cell 1 rfl
      by_cases hk0 : 0 < k
      · have k0 : decide ((0 : Int) < (k : Int)) = true := decide_eq_true (by omega)
        obtain ⟨j, hj⟩ : ∃ j, k = j + 1 := ⟨k - 1, by omega⟩
        obtain ⟨z1, z2⟩ := hcW j (by omega)
        obtain ⟨⟨p', m'⟩, hp'⟩ : ∃ p, sp l j = p := ⟨_, rfl⟩
        rw [hp'] at z1 z2
        simp only at z1 z2
        have HP' := Lib.hid hp'
        clear hp' hcW
        have s1 : IntKind.i64.wrap ((k : Int) - 1) = (j : Int) := by rw [IntWalk.i64_in _ (by omega)]; omega
        have s2 : (0 : Int) ≤ (j : Int) := by omega
        have s3 : j < n := by omega
        have HJ := Lib.hid hj
        clear hj
        by_cases u0 : p < p'
        · have t0 : decide (p < p') = true := decide_eq_true u0
          have hF : q = false := by
            rw [← HQ.out]
            refine Bool.eq_false_iff.2 (fun h => ?_)
            have h1 := (((ptsB_iff l).1 h) k (by rw [HL.out]; exact hlt)).up hk0
            rw [show k - 1 = j by rw [HJ.out]; omega, HP.out, HP'.out] at h1
            dsimp only at h1
            omega
          subst hF
          go_quiet (fail)
          clear s1 s2
          go_wp2_with fail
          go_ret
          exact ⟨rfl, below_drewN b1 _⟩
        · have t0 : decide (p < p') = false := decide_eq_false u0
          by_cases u1 : m ≤ m'
          · have t1 : decide (m ≤ m') = true := decide_eq_true u1
            have hF : q = false := by
              rw [← HQ.out]
              refine Bool.eq_false_iff.2 (fun h => ?_)
              have h1 := (((ptsB_iff l).1 h) k (by rw [HL.out]; exact hlt)).up hk0
              rw [show k - 1 = j by rw [HJ.out]; omega, HP.out, HP'.out] at h1
              dsimp only at h1
              omega
            subst hF
            go_quiet (fail)
            clear s1 s2
            go_wp2_with fail
            go_ret
            exact ⟨rfl, below_drewN b1 _⟩
          · have t1 : decide (m ≤ m') = false := decide_eq_false u1
            have hpt : PtOk l k := ⟨by rw [HP.out]; dsimp only; omega, by rw [HP.out]; dsimp only; omega, by rw [HP.out]; dsimp only; omega, by rw [HP.out]; dsimp only; omega, fun _ => by rw [show k - 1 = j by rw [HJ.out]; omega, HP.out, HP'.out]; dsimp only; omega⟩
            have HN := Lib.hid hpt; clear hpt
            go_quiet (fail)
            clear s1 s2
            go_wp2_with fail
            go_roundw
            case rel => exact ⟨k + 1, by omega, by go_num, pts_snoc hok'.out HN.out, e1, below_drewN b1 _⟩
            case measure => simp [intOf]; omega
      · have k0 : decide ((0 : Int) < (k : Int)) = false := decide_eq_false (by omega)
        clear hcW
        have hpt : PtOk l k := ⟨by rw [HP.out]; dsimp only; omega, by rw [HP.out]; dsimp only; omega, by rw [HP.out]; dsimp only; omega, by rw [HP.out]; dsimp only; omega, fun h => absurd h hk0⟩
        have HN := Lib.hid hpt; clear hpt
        go_quiet (fail)
        go_wp2_with fail
        go_roundw
        case rel => exact ⟨k + 1, by omega, by go_num, pts_snoc hok'.out HN.out, e1, below_drewN b1 _⟩
        case measure => simp [intOf]; omega
    · obtain rfl : k = n := by omega
      have hT : q = true := by rw [← HQ.out, ptsB_iff, HL.out]; exact hok
      subst hT
      have hd : decide (k < k) = false := decide_eq_false (by omega)
      go_wp2_with fail
      go_ret
      exact ⟨rfl, br⟩
end Go.Proofs.Ytihheanjlabioaa
