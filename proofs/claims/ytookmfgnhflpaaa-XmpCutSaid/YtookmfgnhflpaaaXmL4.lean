/- Package xmp as it landed: weight, Share as contracts of the calls. -/
import Derived.Test.YtookmfgnhflpaaaXmL1
import Derived.Test.YtookmfgnhflpaaaXmRef2
import Derived.Test.YtookmfgnhflpaaaMore
import Derived.Laws.EntriesVeiled
namespace Go.Proofs.Ytookmfgnhflpaaa
open Go.RowKit
set_option linter.unusedVariables false
set_option linter.unusedSimpArgs false


set_option maxRecDepth 100000 in
set_option maxHeartbeats 8000000 in
theorem xweight_any (c r : Int) (w : World) : Calls Try.prog 26 #[.agg #[.int .i64 c, .int .i64 r]] w fun e w' => e = .returned (.int .i64 (wt (c, r))) ∧ Below w.heap.size w w' := by
  obtain ⟨B, hB⟩ : ∃ B, w.heap.size = B := ⟨_, rfl⟩
  have e0 := Bx.new w 35 [.int .i64 c, .int .i64 r]
  rw [hB] at e0 ⊢
  have b0 : Below B w (w.alloc (.cells #[.int .i64 c, .int .i64 r] 35)) := by rw [← hB]; exact (Below.refl _ _).alloc (Nat.le_refl _) _
  obtain ⟨q, hq⟩ : ∃ q, wt (c, r) = q := ⟨_, rfl⟩
  rw [hq]
  go_enter Try.func26, Try.ntmps26
  go_upto_region 1 with fail
  change Code.wp _ _ _ _ (w.alloc (.cells #[.int .i64 c, .int .i64 r] 35))
  generalize w.alloc (.cells #[.int .i64 c, .int .i64 r] 35) = w1 at e0 b0 ⊢
  have c0 := e0.cell 0 rfl; have c1 := e0.cell 1 rfl
  cases h0 : xinB c 1 1073741824 with
  | false =>
    have hF : q = 0 := by rw [← hq]; exact wt_no (fun h => by rw [(xin_iff _ _ _).2 ⟨h.1, h.2.1⟩] at h0; cases h0)
    subst hF
    clear hq
    go_wp2_with (go_at_call 25; refine (xwin_any _ _ _ _).mono ?_; rintro e wx ⟨rfl, rfl⟩)
    go_ret
    exact ⟨rfl, b0⟩
  | true =>
  cases h1 : xinB r 1 1099511627776 with
  | false =>
    have hF : q = 0 := by rw [← hq]; exact wt_no (fun h => by rw [(xin_iff _ _ _).2 h.2.2] at h1; cases h1)
    subst hF
    clear hq
    go_wp2_with (go_at_call 25; refine (xwin_any _ _ _ _).mono ?_; rintro e wx ⟨rfl, rfl⟩)
    go_ret
    exact ⟨rfl, b0⟩
  | true =>
  have g0 := (xin_iff _ _ _).1 h0; have g1 := (xin_iff _ _ _).1 h1
  have hr : 1 ≤ c ∧ c ≤ 1073741824 ∧ 1 ≤ r ∧ r ≤ 1099511627776 := ⟨g0.1, g0.2, g1.1, g1.2⟩
  rw [wt_yes hr] at hq
  dsimp only at hq
  have mm := fun w => md_any 1048576 c r w
  rw [md_wt hr] at mm
  obtain ⟨tq, htq⟩ : ∃ tq, tell (1048576 * c / r) true = tq := ⟨_, rfl⟩
  have ht : tq = q := by rw [← htq, ← hq]; rfl
  rw [htq, ht] at mm
  have hBs := Nat.le_of_lt e0.lt
  clear hq htq ht hr g0 g1
  go_wp2_with (first | (go_at_call 25; refine (xwin_any _ _ _ _).mono ?_; rintro e wx ⟨rfl, rfl⟩) | (go_at_call 27; refine (mm _).mono ?_; rintro e wm ⟨rfl, hbm⟩))
  go_ret
  exact ⟨rfl, b0.trans (hbm.mono hBs)⟩

theorem md_zero (a b : Int) : mdOk a b 0 = false := by unfold mdOk; simp

set_option maxRecDepth 100000 in
set_option maxHeartbeats 8000000 in
theorem xwshare_any (A : Option Addr) (n cc : Nat) (l : List Sp) (i mss : Int) (w : World) (hs : Ss w A n cc l) : Calls Try.prog 18 #[.slice A n cc, .int .i64 i, .int .i64 mss] w fun e w' => e = .returned (.int .i64 (shareR l i mss)) ∧ Below w.heap.size w w' := by
  have hl := hs.rd.len
  have m1 := hs.le
  have m2 := hs.max
  unfold maxLen at m2
  obtain ⟨q, hq⟩ : ∃ q, shareR l i mss = q := ⟨_, rfl⟩
  rw [hq]
  have HQ := Lib.hid hq; have HL := Lib.hid hl; have HS := Lib.hid hs
  have i1 : IntKind.i64.wrap ((n : Int) - 1) = (n : Int) - 1 := IntWalk.i64_in _ (by omega)
  clear hq hl hs
  cases h0 : xinB mss 1 1460 with
  | false =>
    have hF : q = 0 := by rw [← HQ.out]; exact share_no (fun h => by obtain ⟨g0, g1, g2, g3, g4⟩ := h; rw [(xin_iff _ _ _).2 ⟨g0, g1⟩] at h0; cases h0)
    subst hF
    go_enter Try.func18, Try.ntmps18
    go_wp2_with (go_at_call 25; refine (xwin_any _ _ _ _).mono ?_; rintro e wx ⟨rfl, rfl⟩)
    go_ret
    exact ⟨rfl, Below.refl _ _⟩
  | true =>
  by_cases c4 : 4 < n
  case pos =>
    have d4 : decide (4 < n) = true := decide_eq_true c4
    have dx4 : decide ((4 : Int) < (n : Int)) = true := decide_eq_true (by omega)
    have hF : q = 0 := by rw [← HQ.out]; exact share_no (fun h => by have h2 := HL.out; obtain ⟨g0, g1, g2, g3, g4⟩ := h; omega)
    subst hF
    go_enter Try.func18, Try.ntmps18
    go_wp2_with (go_at_call 25; refine (xwin_any _ _ _ _).mono ?_; rintro e wx ⟨rfl, rfl⟩)
    go_ret
    exact ⟨rfl, Below.refl _ _⟩
  case neg =>
  have d4 : decide (4 < n) = false := decide_eq_false c4
  have dx4 : decide ((4 : Int) < (n : Int)) = false := decide_eq_false (by omega)
  cases h1 : xinB i 0 ((n : Int) - 1) with
  | false =>
    have hF : q = 0 := by rw [← HQ.out]; exact share_no (fun h => by have h2 := HL.out; obtain ⟨g0, g1, g2, g3, g4⟩ := h; rw [(xin_iff _ _ _).2 ⟨by omega, by omega⟩] at h1; cases h1)
    subst hF
    go_enter Try.func18, Try.ntmps18
    go_wp2_with (go_at_call 25; refine (xwin_any _ _ _ _).mono ?_; rintro e wx ⟨rfl, rfl⟩)
    go_ret
    exact ⟨rfl, Below.refl _ _⟩
  | true =>
  have g0 := (xin_iff _ _ _).1 h0; have g1 := (xin_iff _ _ _).1 h1
  obtain ⟨j, rfl⟩ : ∃ j : Nat, i = (j : Int) := ⟨i.toNat, by omega⟩
  have hj : j < n := by omega
  have hn4 : n ≤ 4 := by omega
  have hok : ShOk l (j : Int) mss := ⟨by omega, by omega, by omega, by have := HL.out; omega, by have := HL.out; omega⟩
  have HOK := Lib.hid hok
  have dj : decide (n ≤ j) = false := decide_eq_false (by omega)
  have hm0 : 1 ≤ mss := by omega
  have hm1 : mss ≤ 1460 := by omega
  clear hok c4 m1 m2 g0 g1
  go_enter Try.func18, Try.ntmps18
  go_wp2_with (go_at_call 25; refine (xwin_any _ _ _ _).mono ?_; rintro e wx ⟨rfl, rfl⟩)
  clear h0 h1 i1 d4 dx4
  go_loopw [7, 30] (fun s i wr => ∃ k : Nat, k ≤ n ∧ i = .int .i64 (k : Int) ∧ s = .int .i64 (sumW (l.take k)) ∧ Below w.heap.size w wr) (fun _ i _ => n - (intOf i).toNat)
  case atStart => exact ⟨0, Nat.zero_le _, rfl, by rw [List.take_zero]; rfl, Below.refl _ _⟩
  case round =>
    obtain ⟨k, hkn, rfl, rfl, br⟩ := hrel
    have hsr : Ss wr A n cc l := HS.out.keep br
    by_cases hlt : k < n
    · have dlt : decide (k < n) = true := decide_eq_true hlt
      obtain ⟨b, o, hA, hbl, hc⟩ := hsr.rd.at_ (by omega)
      subst hA
      obtain ⟨y1, y2⟩ := hc k hlt
      have hsn := sumW_take (l := l) (k := k) (by rw [HL.out]; exact hlt)
      have hb0 := sumW_bd l k (by rw [HL.out]; omega)
      have hb1 := wt_bd (sp l k)
      obtain ⟨⟨p, r⟩, hp⟩ : ∃ p, sp l k = p := ⟨_, rfl⟩
      obtain ⟨S, hS⟩ : ∃ S, sumW (l.take k) = S := ⟨_, rfl⟩
      obtain ⟨S2, hS2⟩ : ∃ S, sumW (l.take (k + 1)) = S := ⟨_, rfl⟩
      obtain ⟨v, hv⟩ : ∃ v, wt (p, r) = v := ⟨_, rfl⟩
      have pp := fun w => xweight_any p r w
      rw [hp] at y1 y2 hsn hb1
      rw [hv] at hsn hb1 pp
      rw [hS] at hsn hb0 ⊢
      rw [hS2] at hsn
      simp only at y1 y2
      have HS2 := Lib.hid hS2; have HSN := Lib.hid hsn
      have i1 : IntKind.i64.wrap (S + v) = S + v := IntWalk.i64_in _ (by omega)
      have v0 := hb1.1; have v1 := hb1.2; have s0 := hb0.1; have s1 : S ≤ 4503599627370496 := by omega
      have ba := br.alloc br.size (.cells #[.int .i64 p, .int .i64 r] 35)
      clear hc hp hS hS2 hsn hb0 hb1 hv
      go_wp2_with (go_at_call 26; refine (pp _).mono ?_; rintro e wx ⟨rfl, hbx⟩)
      go_roundw
      case rel => exact ⟨k + 1, by omega, by go_num, by rw [HS2.out, HSN.out], ba.trans (hbx.mono (by have := br.size; simp; omega))⟩
      case measure => simp [intOf]; omega
    · obtain rfl : k = n := by omega
      have dlt : decide (k < k) = false := decide_eq_false (by omega)
      have hfl : sumW (l.take k) = sumW l := by rw [← HL.out, List.take_length]
      rw [hfl]
      have hb0 := sumW_all l
      have hb1 := wt_bd (sp l j)
      have hb2 := wt_le_sum (l := l) (i := j) (by rw [HL.out]; exact hj)
      rw [HL.out] at hb0
      obtain ⟨b, o, hA, hbl, hc⟩ := hsr.rd.at_ (by omega)
      subst hA
      obtain ⟨y1, y2⟩ := hc j hj
      have hF := HQ.out
      obtain ⟨tq, htq⟩ : ∃ tq, tell (mss * wt (sp l j) / sumW l) (mdOk mss (wt (sp l j)) (sumW l)) = tq := ⟨_, rfl⟩
      have ht : tq = q := by
        rw [← htq, ← hF]
        by_cases hz : sumW l = 0
        · rw [share_none hz, hz, md_zero]; rfl
        · rw [share_ok HOK.out hz, Int.toNat_natCast, md_share hm0 hm1 hb1.1 hb2 (by omega) (by omega)]; rfl
      have mm := fun w => md_any mss (wt (sp l j)) (sumW l) w
      rw [htq, ht] at mm
      obtain ⟨ok, hk⟩ : ∃ ok, mdOk mss (wt (sp l j)) (sumW l) = ok := ⟨_, rfl⟩
      rw [hk] at mm
      obtain ⟨⟨p, r⟩, hp⟩ : ∃ p, sp l j = p := ⟨_, rfl⟩
      obtain ⟨S, hS⟩ : ∃ S, sumW l = S := ⟨_, rfl⟩
      obtain ⟨v, hv⟩ : ∃ v, wt (p, r) = v := ⟨_, rfl⟩
      have pp := fun w => xweight_any p r w
      rw [hp] at y1 y2 mm
      rw [hv] at pp mm
      rw [hS] at mm ⊢
      simp only at y1 y2
      clear hfl hb0 hb1 hb2 hF htq ht hp hS hv hc hk
      go_wp2_with (first | (go_at_call 26; refine (pp _).mono ?_; rintro e wx ⟨rfl, hbx⟩) | (go_at_call 27; refine (mm _).mono ?_; rintro e wm ⟨rfl, hbm⟩))
      go_ret
      exact ⟨rfl, (br.trans (hbx.mono br.size)).trans (hbm.mono (Nat.le_trans br.size hbx.size))⟩
end Go.Proofs.Ytookmfgnhflpaaa
