/- The reference of package xmp: Share as a contract of the call. -/
import Derived.Test.YtookmfgnhflpaaaXmRef1
namespace Go.Proofs.Ytookmfgnhflpaaa
open Go.RowKit
set_option linter.unusedVariables false
set_option linter.unusedSimpArgs false

set_option maxRecDepth 100000 in
set_option maxHeartbeats 4000000 in
theorem md_share {mss v S : Int} (h0 : 1 ≤ mss) (h1 : mss ≤ 1460) (h2 : 0 ≤ v) (h3 : v ≤ S) (h4 : 0 < S) (h5 : S ≤ 4503599627370496) : mdOk mss v S = true := by
  have e1 : mss * v ≤ 1460 * v := Int.mul_le_mul_of_nonneg_right h1 h2
  have e2 : 0 ≤ mss * v := Int.mul_nonneg (by omega) h2
  have e3 : 0 ≤ mss * v / S := Int.ediv_nonneg e2 (by omega)
  have e4 : mss * v / S ≤ mss := Int.ediv_le_of_le_mul (by omega) (Int.mul_le_mul_of_nonneg_left h3 (by omega))
  unfold mdOk
  rw [(inB_iff mss).2 (by omega), (inB_iff v).2 (by omega), (inB_iff S).2 (by omega), decide_eq_true (by omega : 1 ≤ S), (inB_iff _).2 (by omega)]
  rfl

set_option maxRecDepth 100000 in
set_option maxHeartbeats 4000000 in
theorem rxshare_any (A : Option Addr) (n c : Nat) (l : List Sp) (i mss : Int) (w : World) (hs : Ss w A n c l) : Calls Try.prog 19 #[.slice A n c, .int .i64 i, .int .i64 mss] w fun e w' => e = .returned (.int .i64 (shareR l i mss)) ∧ Below w.heap.size w w' := by
  have hl := hs.rd.len
  have m1 := hs.le
  have m2 := hs.max
  unfold maxLen at m2
  obtain ⟨q, hq⟩ : ∃ q, shareR l i mss = q := ⟨_, rfl⟩
  rw [hq]
  have HQ := Lib.hid hq; have HL := Lib.hid hl; have HS := Lib.hid hs
  clear hq hl hs
  by_cases c0 : mss < 1
  case pos =>
    have d0 : decide (mss < 1) = true := decide_eq_true c0
    have hF : q = 0 := by rw [← HQ.out]; exact share_no (fun h => by have h2 := HL.out; obtain ⟨g0, g1, g2, g3, g4⟩ := h; omega)
    subst hF
    go_enter Try.func19, Try.ntmps19
    go_wp2
    go_ret
    exact ⟨rfl, Below.refl _ _⟩
  case neg =>
  have d0 : decide (mss < 1) = false := decide_eq_false c0
  by_cases c1 : 1460 < mss
  case pos =>
    have d1 : decide (1460 < mss) = true := decide_eq_true c1
    have hF : q = 0 := by rw [← HQ.out]; exact share_no (fun h => by have h2 := HL.out; obtain ⟨g0, g1, g2, g3, g4⟩ := h; omega)
    subst hF
    go_enter Try.func19, Try.ntmps19
    go_wp2
    go_ret
    exact ⟨rfl, Below.refl _ _⟩
  case neg =>
  have d1 : decide (1460 < mss) = false := decide_eq_false c1
  by_cases c2 : i < 0
  case pos =>
    have d2 : decide (i < 0) = true := decide_eq_true c2
    have hF : q = 0 := by rw [← HQ.out]; exact share_no (fun h => by have h2 := HL.out; obtain ⟨g0, g1, g2, g3, g4⟩ := h; omega)
    subst hF
    go_enter Try.func19, Try.ntmps19
    go_wp2
    go_ret
    exact ⟨rfl, Below.refl _ _⟩
  case neg =>
  have d2 : decide (i < 0) = false := decide_eq_false c2
  by_cases c3 : (n : Int) ≤ i
  case pos =>
    have d3 : decide ((n : Int) ≤ i) = true := decide_eq_true c3
    have hF : q = 0 := by rw [← HQ.out]; exact share_no (fun h => by have h2 := HL.out; obtain ⟨g0, g1, g2, g3, g4⟩ := h; omega)
    subst hF
    go_enter Try.func19, Try.ntmps19
    go_wp2
    go_ret
    exact ⟨rfl, Below.refl _ _⟩
  case neg =>
  have d3 : decide ((n : Int) ≤ i) = false := decide_eq_false c3
  by_cases c4 : 4 < n
  case pos =>
    have d4 : decide (4 < n) = true := decide_eq_true c4
    have dx4 : decide ((4 : Int) < (n : Int)) = true := decide_eq_true (by omega)
    have hF : q = 0 := by rw [← HQ.out]; exact share_no (fun h => by have h2 := HL.out; obtain ⟨g0, g1, g2, g3, g4⟩ := h; omega)
    subst hF
    go_enter Try.func19, Try.ntmps19
    go_wp2
    go_ret
    exact ⟨rfl, Below.refl _ _⟩
  case neg =>
  have d4 : decide (4 < n) = false := decide_eq_false c4
  have dx4 : decide ((4 : Int) < (n : Int)) = false := decide_eq_false (by omega)
  obtain ⟨j, rfl⟩ : ∃ j : Nat, i = (j : Int) := ⟨i.toNat, by omega⟩
  have hj : j < n := by omega
  have hn4 : n ≤ 4 := by omega
  have hok : ShOk l (j : Int) mss := ⟨by omega, by omega, by omega, by have := HL.out; omega, by have := HL.out; omega⟩
  have HOK := Lib.hid hok
  have dj : decide (n ≤ j) = false := decide_eq_false (by omega)
  have hm0 : 1 ≤ mss := by omega
  have hm1 : mss ≤ 1460 := by omega
  clear hok c0 c1 c2 c3 c4 m1 m2
  go_enter Try.func19, Try.ntmps19
  go_wp2_with fail
  go_loopw [7, 8] (fun s i wr => ∃ k : Nat, k ≤ n ∧ i = .int .i64 (k : Int) ∧ s = .int .i64 (sumW (l.take k)) ∧ Below w.heap.size w wr) (fun _ i _ => n - (intOf i).toNat)
  case atStart => exact ⟨0, Nat.zero_le _, rfl, by rw [List.take_zero]; rfl, Below.refl _ _⟩
  case round =>
    obtain ⟨k, hkn, rfl, rfl, br⟩ := hrel
    have hsr : Ss wr A n c l := HS.out.keep br
    by_cases hlt : k < n
    · have dlt : decide (k < n) = true := decide_eq_true hlt
      obtain ⟨b, o, hA, hbl, hc⟩ := hsr.rd.at_ (by omega)
      subst hA
      obtain ⟨y1, y2⟩ := hc k hlt
      have hsn := sumW_take (l := l) (k := k) (by rw [HL.out]; exact hlt)
      have hb0 := sumW_bd l k (by rw [HL.out]; omega)
      have hb1 := wt_bd (sp l k)
      obtain ⟨⟨p, r⟩, hp⟩ : ∃ p, sp l k = p := ⟨_, rfl⟩
      obtain ⟨S, hS⟩ : ∃ S, sumW (l.take k) = S := ⟨_, rfl⟩
      obtain ⟨S2, hS2⟩ : ∃ S, sumW (l.take (k + 1)) = S := ⟨_, rfl⟩
      obtain ⟨v, hv⟩ : ∃ v, wt (p, r) = v := ⟨_, rfl⟩
      have pp := fun w => rxweight_any p r w
      rw [hp] at y1 y2 hsn hb1
      rw [hv] at hsn hb1 pp
      rw [hS] at hsn hb0 ⊢
      rw [hS2] at hsn
      simp only at y1 y2
      have HS2 := Lib.hid hS2; have HSN := Lib.hid hsn
      have i1 : IntKind.i64.wrap (S + v) = S + v := IntWalk.i64_in _ (by omega)
      have v0 := hb1.1; have v1 := hb1.2; have s0 := hb0.1; have s1 : S ≤ 4503599627370496 := by omega
      clear hc hp hS hS2 hsn hb0 hb1 hv
      go_wp2_with (go_at_call 28; refine (pp _).mono ?_; rintro e wx ⟨rfl, hbx⟩)
      go_roundw
      case rel => exact ⟨k + 1, by omega, by go_num, by rw [HS2.out, HSN.out], br.trans (hbx.mono br.size)⟩
      case measure => simp [intOf]; omega
    · obtain rfl : k = n := by omega
      have dlt : decide (k < k) = false := decide_eq_false (by omega)
      have hfl : sumW (l.take k) = sumW l := by rw [← HL.out, List.take_length]
      rw [hfl]
      have hb0 := sumW_all l
      have hb1 := wt_bd (sp l j)
      have hb2 := wt_le_sum (l := l) (i := j) (by rw [HL.out]; exact hj)
      rw [HL.out] at hb0
      by_cases hz : sumW l = 0
      · have hF : q = 0 := by rw [← HQ.out]; exact share_none hz
        subst hF
        rw [hz]
        clear hfl hb0 hb1 hb2 hz
        go_wp2_with fail
        go_ret
        exact ⟨rfl, br⟩
      · have hF := HQ.out
        rw [share_ok HOK.out hz] at hF
        obtain ⟨b, o, hA, hbl, hc⟩ := hsr.rd.at_ (by omega)
        subst hA
        obtain ⟨y1, y2⟩ := hc j hj
        rw [Int.toNat_natCast] at hF
        obtain ⟨⟨p, r⟩, hp⟩ : ∃ p, sp l j = p := ⟨_, rfl⟩
        obtain ⟨S, hS⟩ : ∃ S, sumW l = S := ⟨_, rfl⟩
        obtain ⟨v, hv⟩ : ∃ v, wt (p, r) = v := ⟨_, rfl⟩
        have pp := fun w => rxweight_any p r w
        rw [hp] at y1 y2 hb1 hb2 hF
        rw [hv] at hb1 pp hb2 hF
        rw [hS] at hb0 hb2 hF hz ⊢
        simp only at y1 y2
        have mm := fun w => rmd_any mss v S w
        rw [md_share hm0 hm1 hb1.1 hb2 (by omega) (by omega)] at mm
        obtain ⟨tq, htq⟩ : ∃ tq, tell (mss * v / S) true = tq := ⟨_, rfl⟩
        have ht : tq = q := by rw [← htq, ← hF]; rfl
        rw [htq, ht] at mm
        have dz : (S == 0) = false := by simpa using hz
        clear hfl hb0 hb1 hb2 hz hF htq ht hp hS hv hc
        go_wp2_with (first | (go_at_call 28; refine (pp _).mono ?_; rintro e wx ⟨rfl, hbx⟩) | (go_at_call 24; refine (mm _).mono ?_; rintro e wx ⟨rfl, rfl⟩))
        go_ret
        exact ⟨rfl, br.trans (hbx.mono br.size)⟩
end Go.Proofs.Ytookmfgnhflpaaa
