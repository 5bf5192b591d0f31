/- VegasSettles: the walk. -/
import Derived.Test.YtjlomjdghmjkmaaVgAwake
import Derived.Deep.QuietTactic
import Derived.BigQuiet
import Derived.IntWalk
import Derived.Deep.AppendLies
namespace Go.Proofs.Ytjlomjdghmjkmaa.vegasSettles
open Go.RowKit
set_option linter.unusedVariables false
set_option linter.unusedSimpArgs false

set_option maxRecDepth 100000 in
set_option maxHeartbeats 16000000 in
theorem walk (c t mss n : Int) (w : World) :
    Calls Try.prog 7 #[.agg #[.int .i64 c, .int .i64 t], .int .i64 mss, .int .i64 n] w fun e w' => e = .returned (.bool true) ∧ Below w.heap.size w w' := by
  obtain ⟨B, hB⟩ : ∃ B, w.heap.size = B := ⟨_, rfl⟩
  rw [hB]
  have e0 := Bx.new w 24 [.int .i64 c, .int .i64 t]
  rw [hB] at e0
  have b0 : Below B w (w.alloc (.cells #[.int .i64 c, .int .i64 t] 24)) := by rw [← hB]; exact (Below.refl _ _).alloc (Nat.le_refl _) _
  go_enter Try.func7, Try.ntmps7
  go_wp2_with fail
  generalize w.alloc (.cells #[.int .i64 c, .int .i64 t] 24) = w1 at e0 b0 ⊢
  clear hB
  refine (vgawake_any _).mono ?_
  rintro e w2 ⟨rfl, hb2⟩
  have e2 := e0.kept hb2; have b2 := b0.trans (hb2.mono (Nat.le_of_lt e0.lt))
  clear e0 b0 hb2
  have xe0 := e2.cell 0 rfl; have xe1 := e2.cell 1 rfl
  by_cases c0 : mss < 1
  case pos =>
    have d0 : decide (mss < 1) = true := decide_eq_true c0
    go_wp2_with fail
    go_ret
    exact ⟨rfl, b2⟩
  case neg =>
  have d0 : decide (mss < 1) = false := decide_eq_false c0
  by_cases c1 : 1460 < mss
  case pos =>
    have d1 : decide (1460 < mss) = true := decide_eq_true c1
    go_wp2_with fail
    go_ret
    exact ⟨rfl, b2⟩
  case neg =>
  have d1 : decide (1460 < mss) = false := decide_eq_false c1
  obtain ⟨M, hM⟩ : ∃ M, 100 * mss = M := ⟨_, rfl⟩
  have iM : IntKind.i64.wrap (100 * mss) = M := by rw [← hM]; exact IntWalk.i64_in _ (by omega)
  have HM := Lib.hid hM; clear hM
  by_cases c2 : n < 0
  case pos =>
    have d2 : decide (n < 0) = true := decide_eq_true c2
    go_wp2_with fail
    go_ret
    exact ⟨rfl, b2⟩
  case neg =>
  have d2 : decide (n < 0) = false := decide_eq_false c2
  by_cases c3 : 100 < n
  case pos =>
    have d3 : decide (100 < n) = true := decide_eq_true c3
    go_wp2_with fail
    go_ret
    exact ⟨rfl, b2⟩
  case neg =>
  have d3 : decide (100 < n) = false := decide_eq_false c3
  obtain ⟨q, hq⟩ : ∃ q, xmB c t mss M = q := ⟨_, rfl⟩
  have HXM := Lib.hid hq
  clear hq
  go_wp2_with fail
  clear xe0 xe1
  refine (xwmay_any c t mss M _).mono ?_
  rintro e w3 ⟨rfl, hb3⟩
  rw [HXM.out]
  have e3 := (e2.kept hb3)
  have b3 := b2.trans (hb3.mono (Nat.le_of_lt e2.lt))
  clear e2 b2 hb3
  have xe0 := e3.cell 0 rfl; have xe1 := e3.cell 1 rfl
  cases q with
  | false =>
    go_wp2_with fail
    go_ret
    exact ⟨rfl, b3⟩
  | true =>
  by_cases c4 : c < t
  case pos =>
    have d4 : decide (c < t) = true := decide_eq_true c4
    go_wp2_with fail
    go_ret
    exact ⟨rfl, b3⟩
  case neg =>
  have d4 : decide (c < t) = false := decide_eq_false c4
  go_upto_region 5 with fail
  obtain ⟨m, rfl⟩ : ∃ m : Nat, n = (m : Int) := ⟨n.toNat, by omega⟩
  have hm : m ≤ 100 := by omega
  have hvv := (xmB_iff c t mss M).1 HXM.out
  have hI : xmB c t mss M = true ∧ t ≤ c ∧ (mss * (((0 : Nat) : Int) + 1) ≤ c ∨ c = M) := ⟨HXM.out, by omega, .inl (by simp; omega)⟩
  have hm0 : 1 ≤ mss := by omega
  have hm1 : mss ≤ 1460 := by omega
  have HI := Lib.hid hI
  clear hvv hI c0 c1 c2 c3 c4 d0 d1 d2 d3 d4
  have e4 := e3.alloc (.cells #[.int .i64 c, .int .i64 t] 24); have f4 := Bx.new w3 24 [.int .i64 c, .int .i64 t]; have b4 := b3.alloc (Nat.le_of_lt e3.lt) (.cells #[.int .i64 c, .int .i64 t] 24); have lf := e3.lt
  go_upto_region 6 with fail
  obtain ⟨Qf, hQ⟩ : ∃ Q, w3.heap.size = Q := ⟨_, rfl⟩
  rw [hQ] at f4 lf ⊢
  clear xe0 xe1
  generalize w3.alloc (.cells #[.int .i64 c, .int .i64 t] 24) = w4 at e4 f4 b4 ⊢
  clear hQ e3 b3
  have e5 := e4.alloc (.cells #[.int .i64 c, .int .i64 t] 24); have f5 := f4.alloc (.cells #[.int .i64 c, .int .i64 t] 24); have g5 := Bx.new w4 24 [.int .i64 c, .int .i64 t]; have b5 := b4.alloc (Nat.le_of_lt e4.lt) (.cells #[.int .i64 c, .int .i64 t] 24); have lg := f4.lt
  have xe0 := e4.cell 0 rfl; have xe1 := e4.cell 1 rfl
  go_upto_region 7 with fail
  clear xe0 xe1
  obtain ⟨Qg, hQ⟩ : ∃ Q, w4.heap.size = Q := ⟨_, rfl⟩
  rw [hQ] at g5 lg ⊢
  generalize w4.alloc (.cells #[.int .i64 c, .int .i64 t] 24) = w5 at e5 f5 g5 b5 ⊢
  clear hQ e4 f4 b4
  go_wp2_with fail
  go_loopw [11] (fun i wr => ∃ (k : Nat) (ca cb tb : Int), k ≤ m ∧ i = .int .i64 (k : Int) ∧ Hid (xmB ca t mss M = true ∧ t ≤ ca ∧ (mss * ((k : Int) + 1) ≤ ca ∨ ca = M)) ∧ Hid (xmB cb tb mss M = true) ∧ Bx wr B 24 [.int .i64 c, .int .i64 t] ∧ Bx wr Qf 24 [.int .i64 ca, .int .i64 t] ∧ Bx wr Qg 24 [.int .i64 cb, .int .i64 tb] ∧ Below B w wr) (fun i _ => m - (intOf i).toNat)
  case atStart => exact ⟨0, c, c, t, Nat.zero_le _, rfl, HI, HXM, e5, f5, g5, b5⟩
  case round =>
    obtain ⟨k, ca, cb, tb, hkm, rfl, HA, HBb, e50, f50, g50, b50⟩ := hrel
    clear e5 f5 g5 b5 HI
    by_cases hlt : k < m
    · have dlt : decide (k < m) = true := decide_eq_true hlt
      have dlt' : decide ((k : Int) < (m : Int)) = true := decide_eq_true (by omega)
      have va := (xmB_iff _ _ _ _).1 HA.out.1
      have vb := (xmB_iff _ _ _ _).1 HBb.out
      have okx : RdOk ca t 0 5 mss M := ⟨HA.out.1, by omega, by omega, by omega, by omega⟩
      have okz : RdOk ca t 5 5 mss M := ⟨HA.out.1, by omega, by omega, by omega, by omega⟩
      have oky : RdOk cb tb 9 5 mss M := ⟨HBb.out, by omega, by omega, by omega, by omega⟩
      have hx := vrnd_fast okx (by have := HA.out.2.1; omega)
      have hz := vrnd_fast okz (by have := HA.out.2.1; omega)
      rw [if_pos (by omega)] at hx
      rw [if_neg (by omega), if_neg (by omega)] at hz
      obtain ⟨cy, ty, hy, y1, y2, y3, y4, y5, y6, y7⟩ := vrnd_facts oky
      obtain ⟨cx, hcx⟩ : ∃ x, min (ca + mss) M = x := ⟨_, rfl⟩
      rw [hcx] at hx
      have hmul : mss * (((k + 1 : Nat) : Int) + 1) = mss * ((k : Int) + 1) + mss := by rw [show (((k + 1 : Nat) : Int) + 1) = ((k : Int) + 1) + 1 by omega, Int.mul_add _ _ 1, Int.mul_one]
      have hI : xmB cx t mss M = true ∧ t ≤ cx ∧ (mss * (((k + 1 : Nat) : Int) + 1) ≤ cx ∨ cx = M) := by
        have ht := HA.out.2.1
        refine ⟨(xmB_iff _ _ _ _).2 (by omega), by omega, ?_⟩
        rw [hmul]
        have := HA.out.2.2
        omega
      have q0 : decide (t ≤ ca) = true := decide_eq_true HA.out.2.1
      have q1 : decide (cx < ca) = false := decide_eq_false (by omega)
      have q2 : decide (cb < cy) = false := decide_eq_false (fun h => by have := y4 (by omega); omega)
      have AX := Lib.hid hx; have AY := Lib.hid hy; have AZ := Lib.hid hz; have HI2 := Lib.hid hI; have HY2 := Lib.hid y1
      clear va vb okx okz oky hx hz hy y1 y2 y3 y4 y5 y6 y7 hcx hmul hI
      go_upto_region 10 with fail
      go_wp2_with (first | (refine xw_load rfl (.tmp 3) rfl rfl e50 rfl ?_) | (refine xw_load rfl (.tmp 9) rfl rfl f50 rfl ?_) | (refine xw_load rfl (.tmp 10) rfl rfl g50 rfl ?_))
      refine (vground_any ca t 0 5 mss M _).mono ?_
      rintro e u50 ⟨he, hb51⟩
      rw [AX.out] at he
      dsimp only at he
      subst he
      have e51 := (e50.kept hb51).alloc (.cells #[.int .i64 cx, .int .i64 t] 24)
      have f51 := (f50.kept hb51).alloc (.cells #[.int .i64 cx, .int .i64 t] 24)
      have g51 := (g50.kept hb51).alloc (.cells #[.int .i64 cx, .int .i64 t] 24)
      have b51 := (b50.trans (hb51.mono (Nat.le_of_lt e50.lt))).alloc (Nat.le_of_lt (e50.kept hb51).lt) (.cells #[.int .i64 cx, .int .i64 t] 24)
      have p51 := Bx.new u50 24 [.int .i64 cx, .int .i64 t]
      have lqp := (g50.kept hb51).lt
      clear e50 b50 f50 g50 hb51
      go_upto_region 11 with fail
      obtain ⟨Qp, hQ⟩ : ∃ Q, u50.heap.size = Q := ⟨_, rfl⟩
      rw [hQ] at p51 lqp ⊢
      generalize u50.alloc (.cells #[.int .i64 cx, .int .i64 t] 24) = w51 at e51 b51 f51 g51 p51 ⊢
      clear hQ
      go_wp2_with (first | (refine xw_load rfl (.tmp 3) rfl rfl e51 rfl ?_) | (refine xw_load rfl (.tmp 9) rfl rfl f51 rfl ?_) | (refine xw_load rfl (.tmp 10) rfl rfl g51 rfl ?_) | (refine xw_load rfl (.tmp 12) rfl rfl p51 rfl ?_))
      refine (vground_any cb tb 9 5 mss M _).mono ?_
      rintro e u51 ⟨he, hb52⟩
      rw [AY.out] at he
      dsimp only at he
      subst he
      have e52 := (e51.kept hb52).alloc (.cells #[.int .i64 cy, .int .i64 ty] 24)
      have f52 := (f51.kept hb52).alloc (.cells #[.int .i64 cy, .int .i64 ty] 24)
      have g52 := (g51.kept hb52).alloc (.cells #[.int .i64 cy, .int .i64 ty] 24)
      have p52 := (p51.kept hb52).alloc (.cells #[.int .i64 cy, .int .i64 ty] 24)
      have b52 := (b51.trans (hb52.mono (Nat.le_of_lt e51.lt))).alloc (Nat.le_of_lt (e51.kept hb52).lt) (.cells #[.int .i64 cy, .int .i64 ty] 24)
      have q52 := Bx.new u51 24 [.int .i64 cy, .int .i64 ty]
      have lqq := (g51.kept hb52).lt
      clear e51 b51 f51 g51 p51 hb52
      go_upto_region 12 with fail
      obtain ⟨Qq, hQ⟩ : ∃ Q, u51.heap.size = Q := ⟨_, rfl⟩
      rw [hQ] at q52 lqq ⊢
      generalize u51.alloc (.cells #[.int .i64 cy, .int .i64 ty] 24) = w52 at e52 b52 f52 g52 p52 q52 ⊢
      clear hQ
      go_wp2_with (first | (refine xw_load rfl (.tmp 3) rfl rfl e52 rfl ?_) | (refine xw_load rfl (.tmp 9) rfl rfl f52 rfl ?_) | (refine xw_load rfl (.tmp 10) rfl rfl g52 rfl ?_) | (refine xw_load rfl (.tmp 12) rfl rfl p52 rfl ?_) | (refine xw_load rfl (.tmp 14) rfl rfl q52 rfl ?_))
      refine (vground_any ca t 5 5 mss M _).mono ?_
      rintro e u52 ⟨he, hb53⟩
      rw [AZ.out] at he
      dsimp only at he
      subst he
      have e53 := (e52.kept hb53).alloc (.cells #[.int .i64 ca, .int .i64 t] 24)
      have f53 := (f52.kept hb53).alloc (.cells #[.int .i64 ca, .int .i64 t] 24)
      have g53 := (g52.kept hb53).alloc (.cells #[.int .i64 ca, .int .i64 t] 24)
      have p53 := (p52.kept hb53).alloc (.cells #[.int .i64 ca, .int .i64 t] 24)
      have q53 := (q52.kept hb53).alloc (.cells #[.int .i64 ca, .int .i64 t] 24)
      have b53 := (b52.trans (hb53.mono (Nat.le_of_lt e52.lt))).alloc (Nat.le_of_lt (e52.kept hb53).lt) (.cells #[.int .i64 ca, .int .i64 t] 24)
      have r53 := Bx.new u52 24 [.int .i64 ca, .int .i64 t]
      have lqr := (g52.kept hb53).lt
      clear e52 b52 f52 g52 p52 q52 hb53
      go_upto_region 13 with fail
      obtain ⟨Qr, hQ⟩ : ∃ Q, u52.heap.size = Q := ⟨_, rfl⟩
      rw [hQ] at r53 lqr ⊢
      generalize u52.alloc (.cells #[.int .i64 ca, .int .i64 t] 24) = w53 at e53 b53 f53 g53 p53 q53 r53 ⊢
      clear hQ
      have xe0 := e53.cell 0 rfl; have xe1 := e53.cell 1 rfl
      have xf0 := f53.cell 0 rfl; have xf1 := f53.cell 1 rfl
      have xg0 := g53.cell 0 rfl; have xg1 := g53.cell 1 rfl
      have xp0 := p53.cell 0 rfl; have xp1 := p53.cell 1 rfl
      have xq0 := q53.cell 0 rfl; have xq1 := q53.cell 1 rfl
      have xr0 := r53.cell 0 rfl; have xr1 := r53.cell 1 rfl
      go_upto_region 15 with fail
      clear xe0 xe1 xf0 xf1 xg0 xg1 xp0 xp1 xq0 xq1 xr0 xr1
      go_upto_region 16 with (first | (refine xw_load rfl (.tmp 12) rfl rfl p53 rfl ?_) | (refine xw_store rfl (.tmp 9) (.tmp 125) rfl rfl [.int .i64 cx, .int .i64 t] rfl f53 rfl rfl rfl ?_))
      have gr := xw_grown w53 Qf #[.int .i64 cx, .int .i64 t]
      have e80 := e53.grown gr (fun h => by cases h; omega)
      have g80 := g53.grown gr (fun h => by cases h; omega)
      have q80 := q53.grown gr (fun h => by cases h; omega)
      have f80 := xw_put f53 [.int .i64 cx, .int .i64 t]
      have b80 := b53.grown gr (Nat.le_of_lt e53.lt) (fun k h => by cases h; omega)
      clear e53 f53 g53 p53 q53 r53 b53 gr
      generalize w53.setRow Qf [.int .i64 cx, .int .i64 t].toArray = w80 at e80 f80 g80 q80 b80 ⊢
      go_wp2_with (first | (refine xw_load rfl (.tmp 14) rfl rfl q80 rfl ?_) | (refine xw_store rfl (.tmp 10) (.tmp 126) rfl rfl [.int .i64 cy, .int .i64 ty] rfl g80 rfl rfl rfl ?_))
      have gr := xw_grown w80 Qg #[.int .i64 cy, .int .i64 ty]
      have e81 := e80.grown gr (fun h => by cases h; omega)
      have f81 := f80.grown gr (fun h => by cases h; omega)
      have g81 := xw_put g80 [.int .i64 cy, .int .i64 ty]
      have b81 := b80.grown gr (Nat.le_of_lt e80.lt) (fun k h => by cases h; omega)
      clear e80 f80 g80 q80 b80 gr
      go_roundw
      case rel => exact ⟨k + 1, cx, cy, ty, by omega, by go_num, HI2, HY2, e81, f81, g81, b81⟩
      case measure => simp [intOf]; omega
    · obtain rfl : k = m := by omega
      have dlt : decide (k < k) = false := decide_eq_false (by omega)
      have dlt' : decide ((k : Int) < (k : Int)) = false := decide_eq_false (by omega)
      have xf0 := f50.cell 0 rfl; have xf1 := f50.cell 1 rfl
      by_cases h : k < 100
      case pos =>
        have dh : decide (k < 100) = true := decide_eq_true h
        have dh' : decide ((k : Int) < 100) = true := decide_eq_true (by omega)
        go_wp2_with fail
        go_ret
        exact ⟨rfl, b50⟩
      case neg =>
        have dh : decide (k < 100) = false := decide_eq_false h
        have dh' : decide ((k : Int) < 100) = false := decide_eq_false (by omega)
        have he : ca = M := by
          have va := (xmB_iff _ _ _ _).1 HA.out.1
          have h1 := HM.out
          have hk : (k : Int) = 100 := by omega
          rcases HA.out.2.2 with h2 | h2
          · rw [hk] at h2; omega
          · exact h2
        have da : (ca == M) = true := by simpa using he
        clear he h
        go_wp2_with fail
        go_ret
        exact ⟨rfl, b50⟩
end Go.Proofs.Ytjlomjdghmjkmaa.vegasSettles
