/- The reference of package vegas: Verdict, Queue, Alpha as contracts of the calls. -/
import Derived.Test.YtjlomjdghmjkmaaVg
import Derived.Test.YtjlomjdghmjkmaaXmRef1
import Derived.Test.YtjlomjdghmjkmaaRew
namespace Go.Proofs.Ytjlomjdghmjkmaa
open Go.RowKit
set_option linter.unusedVariables false
set_option linter.unusedSimpArgs false

set_option maxRecDepth 100000 in
set_option maxHeartbeats 8000000 in
theorem rvverd_any (q a : Int) (slow : Bool) (w : World) : Calls Try.prog 17 #[.int .i64 q, .int .i64 a, .bool slow] w fun e w' => e = .returned (.int .i64 (verdR q a slow)) ∧ w = w' := by
  by_cases h1 : a < q
  · have d1 : decide (a < q) = true := decide_eq_true h1
    have d2 : decide (q < a) = false := decide_eq_false (by omega)
    cases slow with
    | true =>
      rw [show verdR q a true = 3 from by unfold verdR; rw [if_pos rfl, if_pos h1]]
      go_enter Try.func17, Try.ntmps17
      go_wp2
      go_ret
      exact ⟨rfl, rfl⟩
    | false =>
      rw [show verdR q a false = 2 from by unfold verdR; rw [if_neg (by simp), if_neg (by omega), if_pos h1]]
      go_enter Try.func17, Try.ntmps17
      go_wp2
      go_ret
      exact ⟨rfl, rfl⟩
  · have d1 : decide (a < q) = false := decide_eq_false h1
    cases slow with
    | true =>
      rw [show verdR q a true = 0 from by unfold verdR; rw [if_pos rfl, if_neg h1]]
      go_enter Try.func17, Try.ntmps17
      go_wp2
      go_ret
      exact ⟨rfl, rfl⟩
    | false =>
      by_cases h2 : q < a
      · have d2 : decide (q < a) = true := decide_eq_true h2
        rw [show verdR q a false = 1 from by unfold verdR; rw [if_neg (by simp), if_pos h2]]
        go_enter Try.func17, Try.ntmps17
        go_wp2
        go_ret
        exact ⟨rfl, rfl⟩
      · have d2 : decide (q < a) = false := decide_eq_false h2
        rw [show verdR q a false = 0 from by unfold verdR; rw [if_neg (by simp), if_neg h2, if_neg h1]]
        go_enter Try.func17, Try.ntmps17
        go_wp2
        go_ret
        exact ⟨rfl, rfl⟩

set_option maxRecDepth 100000 in
set_option maxHeartbeats 8000000 in
theorem rvqueue_any (cwnd srtt base mss : Int) (w : World) : Calls Try.prog 15 #[.int .i64 cwnd, .int .i64 srtt, .int .i64 base, .int .i64 mss] w fun e w' => e = .returned (.int .i64 (queueR cwnd srtt base mss)) ∧ w = w' := by
  obtain ⟨q, hq⟩ : ∃ q, queueR cwnd srtt base mss = q := ⟨_, rfl⟩
  rw [hq]
  have HQ := Lib.hid hq; clear hq
  by_cases c0 : cwnd < 1
  case pos =>
    have d0 : decide (cwnd < 1) = true := decide_eq_true c0
    have hF : q = 0 := by rw [← HQ.out]; exact queue_no (fun h => by obtain ⟨g0, g1, g2, g3, g4, g5, g6, g7⟩ := h; omega)
    subst hF
    go_enter Try.func15, Try.ntmps15
    go_wp2
    go_ret
    exact ⟨rfl, rfl⟩
  case neg =>
  have d0 : decide (cwnd < 1) = false := decide_eq_false c0
  by_cases c1 : 1073741824 < cwnd
  case pos =>
    have d1 : decide (1073741824 < cwnd) = true := decide_eq_true c1
    have hF : q = 0 := by rw [← HQ.out]; exact queue_no (fun h => by obtain ⟨g0, g1, g2, g3, g4, g5, g6, g7⟩ := h; omega)
    subst hF
    go_enter Try.func15, Try.ntmps15
    go_wp2
    go_ret
    exact ⟨rfl, rfl⟩
  case neg =>
  have d1 : decide (1073741824 < cwnd) = false := decide_eq_false c1
  by_cases c2 : srtt < 1
  case pos =>
    have d2 : decide (srtt < 1) = true := decide_eq_true c2
    have hF : q = 0 := by rw [← HQ.out]; exact queue_no (fun h => by obtain ⟨g0, g1, g2, g3, g4, g5, g6, g7⟩ := h; omega)
    subst hF
    go_enter Try.func15, Try.ntmps15
    go_wp2
    go_ret
    exact ⟨rfl, rfl⟩
  case neg =>
  have d2 : decide (srtt < 1) = false := decide_eq_false c2
  by_cases c3 : 1099511627776 < srtt
  case pos =>
    have d3 : decide (1099511627776 < srtt) = true := decide_eq_true c3
    have hF : q = 0 := by rw [← HQ.out]; exact queue_no (fun h => by obtain ⟨g0, g1, g2, g3, g4, g5, g6, g7⟩ := h; omega)
    subst hF
    go_enter Try.func15, Try.ntmps15
    go_wp2
    go_ret
    exact ⟨rfl, rfl⟩
  case neg =>
  have d3 : decide (1099511627776 < srtt) = false := decide_eq_false c3
  by_cases c4 : base < 1
  case pos =>
    have d4 : decide (base < 1) = true := decide_eq_true c4
    have hF : q = 0 := by rw [← HQ.out]; exact queue_no (fun h => by obtain ⟨g0, g1, g2, g3, g4, g5, g6, g7⟩ := h; omega)
    subst hF
    go_enter Try.func15, Try.ntmps15
    go_wp2
    go_ret
    exact ⟨rfl, rfl⟩
  case neg =>
  have d4 : decide (base < 1) = false := decide_eq_false c4
  by_cases c5 : srtt < base
  case pos =>
    have d5 : decide (srtt < base) = true := decide_eq_true c5
    have hF : q = 0 := by rw [← HQ.out]; exact queue_no (fun h => by obtain ⟨g0, g1, g2, g3, g4, g5, g6, g7⟩ := h; omega)
    subst hF
    go_enter Try.func15, Try.ntmps15
    go_wp2
    go_ret
    exact ⟨rfl, rfl⟩
  case neg =>
  have d5 : decide (srtt < base) = false := decide_eq_false c5
  by_cases c6 : mss < 1
  case pos =>
    have d6 : decide (mss < 1) = true := decide_eq_true c6
    have hF : q = 0 := by rw [← HQ.out]; exact queue_no (fun h => by obtain ⟨g0, g1, g2, g3, g4, g5, g6, g7⟩ := h; omega)
    subst hF
    go_enter Try.func15, Try.ntmps15
    go_wp2
    go_ret
    exact ⟨rfl, rfl⟩
  case neg =>
  have d6 : decide (mss < 1) = false := decide_eq_false c6
  by_cases c7 : 1460 < mss
  case pos =>
    have d7 : decide (1460 < mss) = true := decide_eq_true c7
    have hF : q = 0 := by rw [← HQ.out]; exact queue_no (fun h => by obtain ⟨g0, g1, g2, g3, g4, g5, g6, g7⟩ := h; omega)
    subst hF
    go_enter Try.func15, Try.ntmps15
    go_wp2
    go_ret
    exact ⟨rfl, rfl⟩
  case neg =>
  have d7 : decide (1460 < mss) = false := decide_eq_false c7
  have hok : QuOk cwnd srtt base mss := ⟨by omega, by omega, by omega, by omega, by omega, by omega, by omega, by omega⟩
  have hF := HQ.out
  rw [queue_ok hok] at hF
  obtain ⟨u0, u1⟩ := qb_bd hok
  have m1 : mdOk (srtt - base) cwnd srtt = true := by
    unfold mdOk
    rw [(inB_iff (srtt - base)).2 (by omega), (inB_iff cwnd).2 (by omega), (inB_iff srtt).2 (by omega), decide_eq_true (by omega : 1 ≤ srtt), (inB_iff _).2 (by omega)]
    rfl
  have p1 := fun w => rmd_any (srtt - base) cwnd srtt w
  rw [m1] at p1
  obtain ⟨y, hy⟩ : ∃ y, (srtt - base) * cwnd / srtt = y := ⟨_, rfl⟩
  rw [hy] at p1 hF u0 u1
  have ht : tell y true = y := rfl
  rw [ht] at p1
  have v0 : 0 ≤ y / mss := Int.ediv_nonneg u0 (by omega)
  have v1 : y / mss ≤ y := Int.ediv_le_self _ u0
  have m2 : mdOk y 1 mss = true := by
    unfold mdOk
    rw [(inB_iff y).2 (by omega), (inB_iff 1).2 (by omega), (inB_iff mss).2 (by omega), decide_eq_true (by omega : 1 ≤ mss), Int.mul_one, (inB_iff _).2 (by omega)]
    rfl
  have p2 := fun w => rdiv_any y mss w
  rw [m2, hF] at p2
  have ht2 : tell q true = q := rfl
  rw [ht2] at p2
  have i1 : IntKind.i64.wrap (srtt - base) = srtt - base := IntWalk.i64_in _ (by omega)
  clear hok hF m1 hy ht v0 v1 m2 ht2 HQ
  go_enter Try.func15, Try.ntmps15
  go_wp2_with (first | (go_at_call 26; refine (p1 _).mono ?_; rintro e wx ⟨rfl, rfl⟩) | (go_at_call 27; refine (p2 _).mono ?_; rintro e wx ⟨rfl, rfl⟩))
  go_ret
  exact ⟨rfl, rfl⟩

set_option maxRecDepth 100000 in
set_option maxHeartbeats 8000000 in
theorem md_fl {total v S : Int} (h0 : 0 ≤ total) (h1 : total ≤ 1048576) (h2 : 0 ≤ v) (h3 : v ≤ S) (h4 : 0 < S) (h5 : S ≤ 4503599627370496) : mdOk total v S = true := by
  have e2 : 0 ≤ total * v := Int.mul_nonneg h0 h2
  have e3 : 0 ≤ total * v / S := Int.ediv_nonneg e2 (by omega)
  have e4 : total * v / S ≤ total := Int.ediv_le_of_le_mul (by omega) (Int.mul_le_mul_of_nonneg_left h3 h0)
  unfold mdOk
  rw [(inB_iff total).2 (by omega), (inB_iff v).2 (by omega), (inB_iff S).2 (by omega), decide_eq_true (by omega : 1 ≤ S), (inB_iff _).2 (by omega)]
  rfl

set_option maxRecDepth 100000 in
set_option maxHeartbeats 8000000 in
theorem rvalpha_any (A : Option Addr) (n c : Nat) (l : List Sp) (i total : Int) (w : World) (hs : Ss w A n c l) : Calls Try.prog 13 #[.slice A n c, .int .i64 i, .int .i64 total] w fun e w' => e = .returned (.int .i64 (alphaR l i total)) ∧ Below w.heap.size w w' := by
  have hl := hs.rd.len
  have m1 := hs.le
  have m2 := hs.max
  unfold maxLen at m2
  obtain ⟨q, hq⟩ : ∃ q, alphaR l i total = q := ⟨_, rfl⟩
  rw [hq]
  have HQ := Lib.hid hq; have HL := Lib.hid hl; have HS := Lib.hid hs
  clear hq hl hs
  by_cases c0 : i < 0
  case pos =>
    have d0 : decide (i < 0) = true := decide_eq_true c0
    have hF : q = 0 := by rw [← HQ.out]; exact alpha_no (fun h => by have h2 := HL.out; obtain ⟨g0, g1, g2, g3, g4⟩ := h; omega)
    subst hF
    go_enter Try.func13, Try.ntmps13
    go_wp2
    go_ret
    exact ⟨rfl, Below.refl _ _⟩
  case neg =>
  have d0 : decide (i < 0) = false := decide_eq_false c0
  by_cases c1 : (n : Int) ≤ i
  case pos =>
    have d1 : decide ((n : Int) ≤ i) = true := decide_eq_true c1
    have hF : q = 0 := by rw [← HQ.out]; exact alpha_no (fun h => by have h2 := HL.out; obtain ⟨g0, g1, g2, g3, g4⟩ := h; omega)
    subst hF
    go_enter Try.func13, Try.ntmps13
    go_wp2
    go_ret
    exact ⟨rfl, Below.refl _ _⟩
  case neg =>
  have d1 : decide ((n : Int) ≤ i) = false := decide_eq_false c1
  by_cases c2 : 4 < n
  case pos =>
    have d2 : decide (4 < n) = true := decide_eq_true c2
    have x2 : decide ((4 : Int) < (n : Int)) = true := decide_eq_true (by omega)
    have hF : q = 0 := by rw [← HQ.out]; exact alpha_no (fun h => by have h2 := HL.out; obtain ⟨g0, g1, g2, g3, g4⟩ := h; omega)
    subst hF
    go_enter Try.func13, Try.ntmps13
    go_wp2
    go_ret
    exact ⟨rfl, Below.refl _ _⟩
  case neg =>
  have d2 : decide (4 < n) = false := decide_eq_false c2
  have x2 : decide ((4 : Int) < (n : Int)) = false := decide_eq_false (by omega)
  by_cases c3 : total < 1
  case pos =>
    have d3 : decide (total < 1) = true := decide_eq_true c3
    have hF : q = 0 := by rw [← HQ.out]; exact alpha_no (fun h => by have h2 := HL.out; obtain ⟨g0, g1, g2, g3, g4⟩ := h; omega)
    subst hF
    go_enter Try.func13, Try.ntmps13
    go_wp2
    go_ret
    exact ⟨rfl, Below.refl _ _⟩
  case neg =>
  have d3 : decide (total < 1) = false := decide_eq_false c3
  by_cases c4 : 1048576 < total
  case pos =>
    have d4 : decide (1048576 < total) = true := decide_eq_true c4
    have hF : q = 0 := by rw [← HQ.out]; exact alpha_no (fun h => by have h2 := HL.out; obtain ⟨g0, g1, g2, g3, g4⟩ := h; omega)
    subst hF
    go_enter Try.func13, Try.ntmps13
    go_wp2
    go_ret
    exact ⟨rfl, Below.refl _ _⟩
  case neg =>
  have d4 : decide (1048576 < total) = false := decide_eq_false c4
  obtain ⟨j, rfl⟩ : ∃ j : Nat, i = (j : Int) := ⟨i.toNat, by omega⟩
  have hj : j < n := by omega
  have hn4 : n ≤ 4 := by omega
  have hok : AlOk l (j : Int) total := ⟨by omega, by have := HL.out; omega, by have := HL.out; omega, by omega, by omega⟩
  have HOK := Lib.hid hok
  have dj : decide (n ≤ j) = false := decide_eq_false (by omega)
  have hm0 : 1 ≤ total := by omega
  have hm1 : total ≤ 1048576 := by omega
  clear hok c0 c1 c2 c3 c4 m1 m2
  go_enter Try.func13, Try.ntmps13
  go_wp2_with fail
  go_loopw [7, 8] (fun s i wr => ∃ k : Nat, k ≤ n ∧ i = .int .i64 (k : Int) ∧ s = .int .i64 (sumW (l.take k)) ∧ Below w.heap.size w wr) (fun _ i _ => n - (intOf i).toNat)
  case atStart => exact ⟨0, Nat.zero_le _, rfl, by rw [List.take_zero]; rfl, Below.refl _ _⟩
  case round =>
    obtain ⟨k, hkn, rfl, rfl, br⟩ := hrel
    have hsr : Ss wr A n c l := HS.out.keep br
    by_cases hlt : k < n
    · have dlt : decide (k < n) = true := decide_eq_true hlt
      obtain ⟨b, o, hA, hbl, hc⟩ := hsr.rd.at_ (by omega)
      subst hA
      obtain ⟨y1, y2⟩ := hc k hlt
      have hsn := sumW_take (l := l) (k := k) (by rw [HL.out]; exact hlt)
      have hb0 := sumW_bd l k (by rw [HL.out]; omega)
      have hb1 := wt_bd (sp l k)
      obtain ⟨⟨p, r⟩, hp⟩ : ∃ p, sp l k = p := ⟨_, rfl⟩
      obtain ⟨S, hS⟩ : ∃ S, sumW (l.take k) = S := ⟨_, rfl⟩
      obtain ⟨S2, hS2⟩ : ∃ S, sumW (l.take (k + 1)) = S := ⟨_, rfl⟩
      obtain ⟨v, hv⟩ : ∃ v, wt (p, r) = v := ⟨_, rfl⟩
      have pp := fun w => rxweight_any p r w
      rw [hp] at y1 y2 hsn hb1
      rw [hv] at hsn hb1 pp
      rw [hS] at hsn hb0 ⊢
      rw [hS2] at hsn
      simp only at y1 y2
      have HS2 := Lib.hid hS2; have HSN := Lib.hid hsn
      have i1 : IntKind.i64.wrap (S + v) = S + v := IntWalk.i64_in _ (by omega)
      have v0 := hb1.1; have v1 := hb1.2; have s0 := hb0.1; have s1 : S ≤ 4503599627370496 := by omega
      clear hc hp hS hS2 hsn hb0 hb1 hv
      go_wp2_with (go_at_call 25; refine (pp _).mono ?_; rintro e wx ⟨rfl, hbx⟩)
      go_roundw
      case rel => exact ⟨k + 1, by omega, by go_num, by rw [HS2.out, HSN.out], br.trans (hbx.mono br.size)⟩
      case measure => simp [intOf]; omega
    · obtain rfl : k = n := by omega
      have dlt : decide (k < k) = false := decide_eq_false (by omega)
      have hfl : sumW (l.take k) = sumW l := by rw [← HL.out, List.take_length]
      rw [hfl]
      have hb0 := sumW_all l
      have hb1 := wt_bd (sp l j)
      have hb2 := wt_le_sum (l := l) (i := j) (by rw [HL.out]; exact hj)
      have hb3 := fl_bd (l := l) (j := j) (total := total) (by rw [HL.out]; exact hj) (by omega)
      rw [HL.out] at hb0
      have hF := HQ.out
      rw [alpha_ok HOK.out, Int.toNat_natCast] at hF
      by_cases hz : sumW l = 0
      · rw [fl_zero hz] at hF
        obtain rfl : q = 1 := by rw [← hF]; rfl
        rw [hz]
        clear hfl hb0 hb1 hb2 hb3 hz hF
        go_wp2_with fail
        go_ret
        exact ⟨rfl, br⟩
      · obtain ⟨b, o, hA, hbl, hc⟩ := hsr.rd.at_ (by omega)
        subst hA
        obtain ⟨y1, y2⟩ := hc j hj
        rw [fl_yes hz] at hF hb3
        obtain ⟨⟨p, r⟩, hp⟩ : ∃ p, sp l j = p := ⟨_, rfl⟩
        obtain ⟨S, hS⟩ : ∃ S, sumW l = S := ⟨_, rfl⟩
        obtain ⟨v, hv⟩ : ∃ v, wt (p, r) = v := ⟨_, rfl⟩
        have pp := fun w => rxweight_any p r w
        rw [hp] at y1 y2 hb1 hb2 hb3 hF
        rw [hv] at hb1 pp hb2 hb3 hF
        rw [hS] at hb0 hb2 hb3 hF hz ⊢
        simp only at y1 y2
        have mm := fun w => rmd_any total v S w
        rw [md_fl (by omega) hm1 hb1.1 hb2 (by omega) (by omega)] at mm
        obtain ⟨z, hzz⟩ : ∃ z, total * v / S = z := ⟨_, rfl⟩
        rw [hzz] at mm hF hb3
        have ht : tell z true = z := rfl
        rw [ht] at mm
        have dz : decide (0 < S) = true := decide_eq_true (by omega)
        have e0 := hb3.1
        clear hfl hb0 hb1 hb2 hb3 hz ht hp hS hv hc hzz
        by_cases g : z < 1
        · have dg : decide (z < 1) = true := decide_eq_true g
          obtain rfl : q = 1 := by omega
          clear hF
          go_wp2_with (first | (go_at_call 25; refine (pp _).mono ?_; rintro e wx ⟨rfl, hbx⟩) | (go_at_call 26; refine (mm _).mono ?_; rintro e wx ⟨rfl, rfl⟩))
          go_ret
          exact ⟨rfl, br.trans (hbx.mono br.size)⟩
        · have dg : decide (z < 1) = false := decide_eq_false g
          obtain rfl : q = z := by omega
          clear hF
          go_wp2_with (first | (go_at_call 25; refine (pp _).mono ?_; rintro e wx ⟨rfl, hbx⟩) | (go_at_call 26; refine (mm _).mono ?_; rintro e wx ⟨rfl, rfl⟩))
          go_ret
          exact ⟨rfl, br.trans (hbx.mono br.size)⟩
end Go.Proofs.Ytjlomjdghmjkmaa
