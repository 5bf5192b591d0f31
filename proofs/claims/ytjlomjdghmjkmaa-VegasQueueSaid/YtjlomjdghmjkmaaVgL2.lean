/- Package vegas as it landed: Alpha as contracts of the calls. -/
import Derived.Test.YtjlomjdghmjkmaaVgL1
import Derived.Laws.EntriesVeiled
namespace Go.Proofs.Ytjlomjdghmjkmaa
open Go.RowKit
set_option linter.unusedVariables false
set_option linter.unusedSimpArgs false

theorem vmd_zero (a b : Int) : mdOk a b 0 = false := by unfold mdOk; simp

set_option maxRecDepth 100000 in
set_option maxHeartbeats 8000000 in
theorem vgalpha_any (A : Option Addr) (n cc : Nat) (l : List Sp) (i total : Int) (w : World) (hs : Ss w A n cc l) : Calls Try.prog 12 #[.slice A n cc, .int .i64 i, .int .i64 total] w fun e w' => e = .returned (.int .i64 (alphaR l i total)) ∧ Below w.heap.size w w' := by
  have hl := hs.rd.len
  have m1 := hs.le
  have m2 := hs.max
  unfold maxLen at m2
  obtain ⟨q, hq⟩ : ∃ q, alphaR l i total = q := ⟨_, rfl⟩
  rw [hq]
  have HQ := Lib.hid hq; have HL := Lib.hid hl; have HS := Lib.hid hs
  have i1 : IntKind.i64.wrap ((n : Int) - 1) = (n : Int) - 1 := IntWalk.i64_in _ (by omega)
  clear hq hl hs
  cases h0 : vinB total 1 1048576 with
  | false =>
    have hF : q = 0 := by rw [← HQ.out]; exact alpha_no (fun h => by obtain ⟨g0, g1, g2, g3, g4⟩ := h; rw [(vin_iff _ _ _).2 ⟨g3, g4⟩] at h0; cases h0)
    subst hF
    go_enter Try.func12, Try.ntmps12
    go_wp2_with (go_at_call 19; refine (vin_any _ _ _ _).mono ?_; rintro e wx ⟨rfl, rfl⟩)
    go_ret
    exact ⟨rfl, Below.refl _ _⟩
  | true =>
  by_cases c4 : 4 < n
  case pos =>
    have d4 : decide (4 < n) = true := decide_eq_true c4
    have dx4 : decide ((4 : Int) < (n : Int)) = true := decide_eq_true (by omega)
    have hF : q = 0 := by rw [← HQ.out]; exact alpha_no (fun h => by have h2 := HL.out; obtain ⟨g0, g1, g2, g3, g4⟩ := h; omega)
    subst hF
    go_enter Try.func12, Try.ntmps12
    go_wp2_with (go_at_call 19; refine (vin_any _ _ _ _).mono ?_; rintro e wx ⟨rfl, rfl⟩)
    go_ret
    exact ⟨rfl, Below.refl _ _⟩
  case neg =>
  have d4 : decide (4 < n) = false := decide_eq_false c4
  have dx4 : decide ((4 : Int) < (n : Int)) = false := decide_eq_false (by omega)
  cases h1 : vinB i 0 ((n : Int) - 1) with
  | false =>
    have hF : q = 0 := by rw [← HQ.out]; exact alpha_no (fun h => by have h2 := HL.out; obtain ⟨g0, g1, g2, g3, g4⟩ := h; rw [(vin_iff _ _ _).2 ⟨by omega, by omega⟩] at h1; cases h1)
    subst hF
    go_enter Try.func12, Try.ntmps12
    go_wp2_with (go_at_call 19; refine (vin_any _ _ _ _).mono ?_; rintro e wx ⟨rfl, rfl⟩)
    go_ret
    exact ⟨rfl, Below.refl _ _⟩
  | true =>
  have g0 := (vin_iff _ _ _).1 h0; have g1 := (vin_iff _ _ _).1 h1
  obtain ⟨j, rfl⟩ : ∃ j : Nat, i = (j : Int) := ⟨i.toNat, by omega⟩
  have hj : j < n := by omega
  have hn4 : n ≤ 4 := by omega
  have hok : AlOk l (j : Int) total := ⟨by omega, by have := HL.out; omega, by have := HL.out; omega, by omega, by omega⟩
  have HOK := Lib.hid hok
  have dj : decide (n ≤ j) = false := decide_eq_false (by omega)
  have hm0 : 1 ≤ total := by omega
  have hm1 : total ≤ 1048576 := by omega
  clear hok c4 m1 m2 g0 g1
  go_enter Try.func12, Try.ntmps12
  go_wp2_with (go_at_call 19; refine (vin_any _ _ _ _).mono ?_; rintro e wx ⟨rfl, rfl⟩)
  clear h0 h1 i1 d4 dx4
  go_loopw [7, 8, 9, 10, 31] (fun v s x y i wr => ∃ k : Nat, k ≤ n ∧ i = .int .i64 (k : Int) ∧ v = .int .i64 (if j < k then wt (sp l j) else 0) ∧ s = .int .i64 (sumW (l.take k)) ∧ Below w.heap.size w wr) (fun _ _ _ _ i _ => n - (intOf i).toNat)
  case atStart => exact ⟨0, Nat.zero_le _, rfl, by rw [if_neg (by omega)], by rw [List.take_zero]; rfl, Below.refl _ _⟩
  case round =>
    obtain ⟨k, hkn, rfl, rfl, rfl, br⟩ := hrel
    have hsr : Ss wr A n cc l := HS.out.keep br
    by_cases hlt : k < n
    · have dlt : decide (k < n) = true := decide_eq_true hlt
      obtain ⟨b, o, hA, hbl, hc⟩ := hsr.rd.at_ (by omega)
      subst hA
      obtain ⟨y1, y2⟩ := hc k hlt
      have hsn := sumW_take (l := l) (k := k) (by rw [HL.out]; exact hlt)
      have hb0 := sumW_bd l k (by rw [HL.out]; omega)
      have hb1 := wt_bd (sp l k)
      obtain ⟨⟨p, r⟩, hp⟩ : ∃ p, sp l k = p := ⟨_, rfl⟩
      obtain ⟨S, hS⟩ : ∃ S, sumW (l.take k) = S := ⟨_, rfl⟩
      obtain ⟨S2, hS2⟩ : ∃ S, sumW (l.take (k + 1)) = S := ⟨_, rfl⟩
      obtain ⟨v, hv⟩ : ∃ v, wt (p, r) = v := ⟨_, rfl⟩
      have pp := fun w => vgweight_any p r w
      rw [hp] at y1 y2 hsn hb1
      rw [hv] at hsn hb1 pp
      have hvk : wt (sp l k) = v := by rw [hp]; exact hv
      rw [hS] at hsn hb0 ⊢
      rw [hS2] at hsn
      simp only at y1 y2
      have HS2 := Lib.hid hS2; have HSN := Lib.hid hsn; have HVK := Lib.hid hvk
      have i1 : IntKind.i64.wrap (S + v) = S + v := IntWalk.i64_in _ (by omega)
      have v0 := hb1.1; have v1 := hb1.2; have s0 := hb0.1; have s1 : S ≤ 4503599627370496 := by omega
      have ba := br.alloc br.size (.cells #[.int .i64 p, .int .i64 r] 38)
      obtain ⟨ow, how⟩ : ∃ v, (if j < k then wt (sp l j) else 0) = v := ⟨_, rfl⟩
      rw [how]
      have HOW := Lib.hid how
      clear hc hp hS hS2 hsn hb0 hb1 hv hvk how
      by_cases hkj : k = j
      · subst hkj
        have djj : ((k : Int) == (k : Int)) = true := by simp
        go_wp2_with (go_at_call 23; refine (pp _).mono ?_; rintro e wx ⟨rfl, hbx⟩)
        go_roundw
        case rel => exact ⟨k + 1, by omega, by go_num, by rw [if_pos (by omega), HVK.out], by rw [HS2.out, HSN.out], br.trans (hbx.mono br.size)⟩
        case measure => simp [intOf]; omega
      · have djk : decide (k = j) = false := decide_eq_false hkj
        have djx : decide ((k : Int) = (j : Int)) = false := decide_eq_false (by omega)
        have djy : ((k : Int) == (j : Int)) = false := by simp; omega
        go_wp2_with (go_at_call 23; refine (pp _).mono ?_; rintro e wx ⟨rfl, hbx⟩)
        go_roundw
        case rel => exact ⟨k + 1, by omega, by go_num, by rw [← HOW.out]; by_cases g : j < k
                                                          · rw [if_pos g, if_pos (by omega)]
                                                          · rw [if_neg g, if_neg (by omega)], by rw [HS2.out, HSN.out], br.trans (hbx.mono br.size)⟩
        case measure => simp [intOf]; omega
    · obtain rfl : k = n := by omega
      have dlt : decide (k < k) = false := decide_eq_false (by omega)
      have hfl : sumW (l.take k) = sumW l := by rw [← HL.out, List.take_length]
      rw [hfl, if_pos hj]
      have hb0 := sumW_all l
      have hb1 := wt_bd (sp l j)
      have hb2 := wt_le_sum (l := l) (i := j) (by rw [HL.out]; exact hj)
      rw [HL.out] at hb0
      have hF := HQ.out
      rw [alpha_ok HOK.out, Int.toNat_natCast, Int.max_comm] at hF
      have ht : tell (total * wt (sp l j) / sumW l) (mdOk total (wt (sp l j)) (sumW l)) = flR l j total := by
        by_cases hz : sumW l = 0
        · rw [fl_zero hz, hz, vmd_zero]; rfl
        · rw [fl_yes hz, md_fl (by omega) hm1 hb1.1 hb2 (by omega) (by omega)]; rfl
      have mm := fun w => md_any total (wt (sp l j)) (sumW l) w
      rw [ht] at mm
      obtain ⟨ok, hk⟩ : ∃ ok, mdOk total (wt (sp l j)) (sumW l) = ok := ⟨_, rfl⟩
      rw [hk] at mm
      obtain ⟨z, hz⟩ : ∃ z, flR l j total = z := ⟨_, rfl⟩
      rw [hz] at mm hF
      obtain ⟨S, hS⟩ : ∃ S, sumW l = S := ⟨_, rfl⟩
      obtain ⟨v, hv⟩ : ∃ v, wt (sp l j) = v := ⟨_, rfl⟩
      rw [hv] at mm ⊢
      rw [hS] at mm ⊢
      clear hfl hb0 hb1 hb2 ht hS hv hk hz
      go_wp2_with (go_at_call 24; refine (mm _).mono ?_; rintro e wm ⟨rfl, hbm⟩)
      go_ret
      subst hF
      exact ⟨rfl, br.trans (hbm.mono br.size)⟩
end Go.Proofs.Ytjlomjdghmjkmaa
