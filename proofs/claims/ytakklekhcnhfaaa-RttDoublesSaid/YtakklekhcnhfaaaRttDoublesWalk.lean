/- The walk of the law RttDoubles. -/
import Derived.Test.YtakklekhcnhfaaaProg
import Derived.Test.YtakklekhcnhfaaaRtAwake
import Derived.Test.YtakklekhcnhfaaaRtIn
import Derived.WalkKit
import Derived.WalkSpells
import Derived.WalkSmall
import Derived.Lib.Hide
import Derived.Below
import Derived.Outline
namespace Go.Proofs.Ytakklekhcnhfaaa.rttDoubles
open Go.RowKit
set_option linter.unusedVariables false
set_option linter.unusedSimpArgs false

theorem rt_other {W : World} {B Z : Nat} {t : TypeId} {cs : List Value} (h : Bx W B t cs) (hne : B ≠ Z) (vs : List Value) : Bx (W.setRow Z vs.toArray) B t cs := (setRow_other W Z B vs.toArray hne).trans h
theorem up_iter {sh : Int} {q : Nat} (h0 : 0 ≤ sh) (h1 : sh ≤ 16) {t : Int} (ht : t = if sh + 1 + (q : Int) < 16 then sh + 1 + (q : Int) else 16) : upS t = if sh + 1 + ((q + 1 : Nat) : Int) < 16 then sh + 1 + ((q + 1 : Nat) : Int) else 16 := by
  unfold upS
  subst ht
  repeat' split
  all_goals omega
set_option maxRecDepth 100000 in
set_option maxHeartbeats 8000000 in
theorem walk (has : Bool) (srtt vr rto shift : Int) (most : Int) (w : World) :
    Calls Try.prog 5 #[.agg #[.bool has, .int .i64 srtt, .int .i64 vr, .int .i64 rto, .int .i64 shift], .int .i64 most] w fun e w' => e = .returned (.bool true) ∧ Below w.heap.size w w' := by
  obtain ⟨B, hB⟩ : ∃ B, w.heap.size = B := ⟨_, rfl⟩
  rw [hB]
  obtain ⟨w0, hw0⟩ : ∃ w0, w.alloc (.cells #[.bool has, .int .i64 srtt, .int .i64 vr, .int .i64 rto, .int .i64 shift] 23) = w0 := ⟨_, rfl⟩
  have e0 : Bx w0 B 23 [.bool has, .int .i64 srtt, .int .i64 vr, .int .i64 rto, .int .i64 shift] := by rw [← hw0, ← hB]; exact Bx.new w 23 [.bool has, .int .i64 srtt, .int .i64 vr, .int .i64 rto, .int .i64 shift]
  have b0 : Below B w w0 := by rw [← hw0]; exact (Below.refl _ _).alloc (by omega) _
  go_enter Try.func5, Try.ntmps5
  go_wp2_with fail
  clear hw0
  refine (awake_any _).mono ?_
  rintro e w1 ⟨rfl, hb1⟩
  have e1 := e0.kept hb1; have b1 := b0.trans (hb1.mono (Nat.le_of_lt e0.lt))
  go_wp2_with (refine rt_load rfl (.tmp 2) rfl rfl e1 rfl ?_)
  refine (rtdouble_any has srtt vr rto shift _).mono ?_
  rintro e w2 h2
  have h2' : TellE w1 w2 e (dbl ⟨has, srtt, vr, rto, shift⟩) := h2
  clear h2
  cases hk : rtB ⟨has, srtt, vr, rto, shift⟩ with
  | false =>
    have hx : dbl ⟨has, srtt, vr, rto, shift⟩ = (zrt, 1) := by unfold dbl; rw [hk]; rfl
    rw [hx] at h2'
    obtain ⟨rfl, hb2⟩ := h2'
    dsimp only [zrt]
    have hBz : B ≤ w2.heap.size := Nat.le_of_lt (e1.kept hb2).lt
    have b3 := (b1.trans (hb2.mono (Nat.le_of_lt e1.lt))).alloc hBz (.cells #[.bool false, .int .i64 0, .int .i64 0, .int .i64 0, .int .i64 0] 23)
    go_wp2_with fail
    go_ret
    exact ⟨rfl, b3⟩
  | true =>
  have hok := (rtB_iff _).1 hk
  have hx : dbl ⟨has, srtt, vr, rto, shift⟩ = (⟨has, srtt, vr, rto, upS shift⟩, 0) := by unfold dbl; rw [hk]; rfl
  rw [hx] at h2'
  obtain ⟨rfl, hb2⟩ := h2'
  dsimp only
  have hBz : B ≤ w2.heap.size := Nat.le_of_lt (e1.kept hb2).lt
  obtain ⟨Z, hZ⟩ : ∃ V, w2.heap.size = V := ⟨_, rfl⟩
  have hBZ : B ≤ Z := by rw [← hZ]; exact hBz
  have hBz2 : B ≠ Z := by have := (e1.kept hb2).lt; omega
  obtain ⟨U, hU⟩ : ∃ U, upS shift = U := ⟨_, rfl⟩
  rw [hU]
  have v2 := Bx.new w2 23 [.bool has, .int .i64 srtt, .int .i64 vr, .int .i64 rto, .int .i64 U]
  rw [hZ] at v2
  have e2 := (e1.kept hb2).alloc (.cells #[.bool has, .int .i64 srtt, .int .i64 vr, .int .i64 rto, .int .i64 U] 23)
  have b2 := (b1.trans (hb2.mono (Nat.le_of_lt e1.lt))).alloc hBz (.cells #[.bool has, .int .i64 srtt, .int .i64 vr, .int .i64 rto, .int .i64 U] 23)
  have hwd := fun (m : Int) (hm : mostOk m) => wt_dbl (r := ⟨has, srtt, vr, rto, shift⟩) hok hm
  have hwb := fun (m : Int) (hm : mostOk m) => wt_bd (r := ⟨has, srtt, vr, rto, shift⟩) hok hm
  have hok2 := dbl_valid hok
  have hwb2 := fun (m : Int) (hm : mostOk m) => wt_bd (r := ⟨has, srtt, vr, rto, upS shift⟩) hok2 hm
  dsimp only at hwd hok2 hwb2
  rw [hU] at hwd hok2 hwb2
  clear hx hk e1 b1 e0 b0
  by_cases c0 : most < 1
  case pos =>
    have d0 : decide (most < 1) = true := decide_eq_true c0
    go_wp2_with fail
    go_ret
    exact ⟨rfl, b2⟩
  have d0 : decide (most < 1) = false := decide_eq_false c0
  have g0 : 1 ≤ most := by omega
  by_cases c1 : 1099511627776 < most
  case pos =>
    have d1 : decide (1099511627776 < most) = true := decide_eq_true c1
    go_wp2_with fail
    go_ret
    exact ⟨rfl, b2⟩
  have d1 : decide (1099511627776 < most) = false := decide_eq_false c1
  have g1 : most ≤ 1099511627776 := by omega
  have hmo : mostOk most := ⟨g0, g1⟩
  obtain ⟨n1, n2⟩ := hwd most hmo
  obtain ⟨n3, n4⟩ := hwb most hmo
  obtain ⟨n5, n6⟩ := hwb2 most hmo
  obtain ⟨A, hA⟩ : ∃ A, wt ⟨has, srtt, vr, rto, shift⟩ most = A := ⟨_, rfl⟩
  obtain ⟨A2, hA2⟩ : ∃ A, wt ⟨has, srtt, vr, rto, U⟩ most = A := ⟨_, rfl⟩
  rw [hA, hA2] at n1 n2
  rw [hA] at n3 n4
  rw [hA2] at n5 n6
  have k1 : decide (A < 0) = false := decide_eq_false (by omega)
  have k2 : decide (most < A) = false := decide_eq_false (by omega)
  have k3 : decide (A2 < A) = false := decide_eq_false (by omega)
  have k4 : decide (most < A2) = false := decide_eq_false (by omega)
  have r1 : IntKind.i64.wrap (2 * A) = 2 * A := IntWalk.i64_in _ (by omega)
  have k5 : decide (2 * A < A2) = false := decide_eq_false (by omega)
  have hs0 : 0 ≤ shift := hok.h0
  have hs1 : shift ≤ 16 := hok.h1
  have HA := Lib.hid hA; have HA2 := Lib.hid hA2; have HU := Lib.hid hU; have HOK := Lib.hid hok2
  clear hwd hwb hwb2 hA hA2 hok hok2 n1 n2 n3 n4 n5 n6 hU
  go_wp2_with (refine rt_load rfl (.tmp 2) rfl rfl e2 rfl ?_)
  refine (rtwait_any has srtt vr rto shift most _).mono ?_
  rintro e w3 ⟨he, hb3⟩
  rw [HA.out] at he; subst he
  have v3 := v2.kept hb3; have e3 := e2.kept hb3
  have b3 := b2.trans (hb3.mono (Nat.le_of_lt e2.lt))
  go_wp2_with (refine rt_load rfl (.tmp 6) rfl rfl v3 rfl ?_)
  refine (rtwait_any has srtt vr rto U most _).mono ?_
  rintro e w4 ⟨he, hb4⟩
  rw [HA2.out] at he; subst he
  have v4 := v3.kept hb4; have e4 := e3.kept hb4
  have b4 := b3.trans (hb4.mono (Nat.le_of_lt e3.lt))
  have x4 := e4.cell 4 rfl
  clear v2 v3 e2 e3 b2 b3 hZ
  have hU0 : U = if shift + 1 + ((0 : Nat) : Int) < 16 then shift + 1 + ((0 : Nat) : Int) else 16 := by
    rw [← HU.out]; unfold upS; repeat' split
    all_goals omega
  by_cases h16 : shift = 16
  case pos =>
    subst h16
    obtain rfl : U = 16 := by rw [hU0]; rfl
    clear hU0
    have y0 := v4.cell 0 rfl; have y1 := v4.cell 1 rfl; have y2 := v4.cell 2 rfl; have y3 := v4.cell 3 rfl; have y4 := v4.cell 4 rfl
    have x0 := e4.cell 0 rfl; have x1 := e4.cell 1 rfl; have x2 := e4.cell 2 rfl; have x3 := e4.cell 3 rfl
    go_wp2_with fail
    clear y0 y1 y2 y3 y4 x0 x1 x2 x3
    go_loopw [10] (fun i wr => ∃ (q : Nat) (t : Int), q ≤ 20 ∧ i = .int .i64 (q : Int) ∧ t = (if 16 + 1 + ((q : Nat) : Int) < 16 then 16 + 1 + ((q : Nat) : Int) else 16) ∧ RtOk ⟨has, srtt, vr, rto, t⟩ ∧ Bx wr Z 23 [.bool has, .int .i64 srtt, .int .i64 vr, .int .i64 rto, .int .i64 t] ∧ Bx wr B 23 [.bool has, .int .i64 srtt, .int .i64 vr, .int .i64 rto, .int .i64 16] ∧ Below B w wr) (fun i _ => 20 - (intOf i).toNat)
    case atStart => exact ⟨0, 16, by omega, rfl, (by rfl), HOK.out, v4, e4, b4⟩
    case round =>
      clear v4 e4 b4 x4
      obtain ⟨q, t, hq, rfl, ht, hok, rr, re, br⟩ := hrel
      by_cases hlt : q < 20
      · have dlt : decide ((q : Int) < 20) = true := decide_eq_true (by omega)
        have hx : dbl ⟨has, srtt, vr, rto, t⟩ = (⟨has, srtt, vr, rto, upS t⟩, 0) := by unfold dbl; rw [(rtB_iff _).2 hok]; rfl
        have hn := dbl_valid hok
        have ht2 := up_iter (by decide) (by decide) ht
        dsimp only at hn
        obtain ⟨t2, hT⟩ : ∃ t2, upS t = t2 := ⟨_, rfl⟩
        rw [hT] at hx hn ht2
        have HX := Lib.hid hx; have HN := Lib.hid hn; have HT := Lib.hid ht2; clear hx hn ht2 hT ht hok
        go_wp2_with (refine rt_load rfl (.tmp 6) rfl rfl rr rfl ?_)
        refine (rtdouble_any has srtt vr rto t _).mono ?_
        rintro e w5 h5
        have h5' : TellE wr w5 e (dbl ⟨has, srtt, vr, rto, t⟩) := h5
        rw [HX.out] at h5'
        obtain ⟨rfl, hb5⟩ := h5'
        clear h5
        dsimp only
        have r5 := rr.kept hb5; have q5 := re.kept hb5
        have b5 := br.trans (hb5.mono (by have := re.lt; omega))
        have b6 := b5.grown (rt_grown _ Z #[.bool has, .int .i64 srtt, .int .i64 vr, .int .i64 rto, .int .i64 t2]) (by have := q5.lt; omega) (fun k hk => by cases hk; exact hBZ)
        have q6 := rt_other q5 (hBz2) [.bool has, .int .i64 srtt, .int .i64 vr, .int .i64 rto, .int .i64 t2]
        go_wp2_with (refine rt_store rfl (.tmp 6) (.tmp 80) rfl rfl [.bool has, .int .i64 srtt, .int .i64 vr, .int .i64 rto, .int .i64 t2] rfl r5 rfl rfl rfl ?_)
        go_roundw
        case rel => exact ⟨q + 1, t2, by omega, by go_num, HT.out, HN.out, rt_put r5 [.bool has, .int .i64 srtt, .int .i64 vr, .int .i64 rto, .int .i64 t2], q6, b6⟩
        case measure => simp [intOf]; omega
      · obtain rfl : 20 = q := by omega
        have ht16 : t = 16 := by rw [ht]; rw [if_neg (by decide)]
        subst ht16
        have hx : dbl ⟨has, srtt, vr, rto, 16⟩ = (⟨has, srtt, vr, rto, 16⟩, 0) := by unfold dbl; rw [(rtB_iff _).2 hok]; rfl
        have HX := Lib.hid hx; clear hx hok ht
        go_wp2_with (refine rt_load rfl (.tmp 6) rfl rfl rr rfl ?_)
        refine (rtdouble_any has srtt vr rto 16 _).mono ?_
        rintro e w5 h5
        have h5' : TellE wr w5 e (dbl ⟨has, srtt, vr, rto, 16⟩) := h5
        rw [HX.out] at h5'
        obtain ⟨rfl, hb5⟩ := h5'
        clear h5
        dsimp only
        have r6 := (rr.kept hb5).alloc (.cells #[.bool has, .int .i64 srtt, .int .i64 vr, .int .i64 rto, .int .i64 16] 23)
        have q6 := (re.kept hb5).alloc (.cells #[.bool has, .int .i64 srtt, .int .i64 vr, .int .i64 rto, .int .i64 16] 23)
        have u6 := Bx.new w5 23 [.bool has, .int .i64 srtt, .int .i64 vr, .int .i64 rto, .int .i64 16]
        have b6 := (br.trans (hb5.mono (by have := re.lt; omega))).alloc (by have := (re.kept hb5).lt; omega) (.cells #[.bool has, .int .i64 srtt, .int .i64 vr, .int .i64 rto, .int .i64 16] 23)
        have z3 := r6.cell 3 rfl; have z4 := r6.cell 4 rfl; have y3 := q6.cell 3 rfl
        go_wp2_with (first | (refine rt_load rfl (.tmp 6) rfl rfl r6 rfl ?_) | (refine rt_load rfl (.tmp 11) rfl rfl u6 rfl ?_))
        go_ret
        exact ⟨by simp, b6⟩
  case neg =>
    have HU0 := Lib.hid hU0; clear hU0
    have d16 : decide (shift = 16) = false := decide_eq_false h16
    go_wp2_with fail
    go_loopw [10] (fun i wr => ∃ (q : Nat) (t : Int), q ≤ 20 ∧ i = .int .i64 (q : Int) ∧ t = (if shift + 1 + ((q : Nat) : Int) < 16 then shift + 1 + ((q : Nat) : Int) else 16) ∧ RtOk ⟨has, srtt, vr, rto, t⟩ ∧ Bx wr Z 23 [.bool has, .int .i64 srtt, .int .i64 vr, .int .i64 rto, .int .i64 t] ∧ Bx wr B 23 [.bool has, .int .i64 srtt, .int .i64 vr, .int .i64 rto, .int .i64 shift] ∧ Below B w wr) (fun i _ => 20 - (intOf i).toNat)
    case atStart => exact ⟨0, U, by omega, rfl, HU0.out, HOK.out, v4, e4, b4⟩
    case round =>
      clear v4 e4 b4 x4
      obtain ⟨q, t, hq, rfl, ht, hok, rr, re, br⟩ := hrel
      by_cases hlt : q < 20
      · have dlt : decide ((q : Int) < 20) = true := decide_eq_true (by omega)
        have hx : dbl ⟨has, srtt, vr, rto, t⟩ = (⟨has, srtt, vr, rto, upS t⟩, 0) := by unfold dbl; rw [(rtB_iff _).2 hok]; rfl
        have hn := dbl_valid hok
        have ht2 := up_iter hs0 hs1 ht
        dsimp only at hn
        obtain ⟨t2, hT⟩ : ∃ t2, upS t = t2 := ⟨_, rfl⟩
        rw [hT] at hx hn ht2
        have HX := Lib.hid hx; have HN := Lib.hid hn; have HT := Lib.hid ht2; clear hx hn ht2 hT ht hok
        go_wp2_with (refine rt_load rfl (.tmp 6) rfl rfl rr rfl ?_)
        refine (rtdouble_any has srtt vr rto t _).mono ?_
        rintro e w5 h5
        have h5' : TellE wr w5 e (dbl ⟨has, srtt, vr, rto, t⟩) := h5
        rw [HX.out] at h5'
        obtain ⟨rfl, hb5⟩ := h5'
        clear h5
        dsimp only
        have r5 := rr.kept hb5; have q5 := re.kept hb5
        have b5 := br.trans (hb5.mono (by have := re.lt; omega))
        have b6 := b5.grown (rt_grown _ Z #[.bool has, .int .i64 srtt, .int .i64 vr, .int .i64 rto, .int .i64 t2]) (by have := q5.lt; omega) (fun k hk => by cases hk; exact hBZ)
        have q6 := rt_other q5 (hBz2) [.bool has, .int .i64 srtt, .int .i64 vr, .int .i64 rto, .int .i64 t2]
        go_wp2_with (refine rt_store rfl (.tmp 6) (.tmp 80) rfl rfl [.bool has, .int .i64 srtt, .int .i64 vr, .int .i64 rto, .int .i64 t2] rfl r5 rfl rfl rfl ?_)
        go_roundw
        case rel => exact ⟨q + 1, t2, by omega, by go_num, HT.out, HN.out, rt_put r5 [.bool has, .int .i64 srtt, .int .i64 vr, .int .i64 rto, .int .i64 t2], q6, b6⟩
        case measure => simp [intOf]; omega
      · obtain rfl : 20 = q := by omega
        have ht16 : t = 16 := by rw [ht]; rw [if_neg (by omega)]
        subst ht16
        have hx : dbl ⟨has, srtt, vr, rto, 16⟩ = (⟨has, srtt, vr, rto, 16⟩, 0) := by unfold dbl; rw [(rtB_iff _).2 hok]; rfl
        have HX := Lib.hid hx; clear hx hok ht
        go_wp2_with (refine rt_load rfl (.tmp 6) rfl rfl rr rfl ?_)
        refine (rtdouble_any has srtt vr rto 16 _).mono ?_
        rintro e w5 h5
        have h5' : TellE wr w5 e (dbl ⟨has, srtt, vr, rto, 16⟩) := h5
        rw [HX.out] at h5'
        obtain ⟨rfl, hb5⟩ := h5'
        clear h5
        dsimp only
        have r6 := (rr.kept hb5).alloc (.cells #[.bool has, .int .i64 srtt, .int .i64 vr, .int .i64 rto, .int .i64 16] 23)
        have q6 := (re.kept hb5).alloc (.cells #[.bool has, .int .i64 srtt, .int .i64 vr, .int .i64 rto, .int .i64 16] 23)
        have u6 := Bx.new w5 23 [.bool has, .int .i64 srtt, .int .i64 vr, .int .i64 rto, .int .i64 16]
        have b6 := (br.trans (hb5.mono (by have := re.lt; omega))).alloc (by have := (re.kept hb5).lt; omega) (.cells #[.bool has, .int .i64 srtt, .int .i64 vr, .int .i64 rto, .int .i64 16] 23)
        have z3 := r6.cell 3 rfl; have z4 := r6.cell 4 rfl; have y3 := q6.cell 3 rfl
        go_wp2_with (first | (refine rt_load rfl (.tmp 6) rfl rfl r6 rfl ?_) | (refine rt_load rfl (.tmp 11) rfl rfl u6 rfl ?_))
        go_ret
        exact ⟨by simp, b6⟩
end Go.Proofs.Ytakklekhcnhfaaa.rttDoubles
