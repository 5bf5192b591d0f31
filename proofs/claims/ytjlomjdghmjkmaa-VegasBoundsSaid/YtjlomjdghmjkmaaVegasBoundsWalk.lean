/- VegasBounds: the walk. -/
import Derived.Test.YtjlomjdghmjkmaaVgAwake
import Derived.Deep.QuietTactic
import Derived.BigQuiet
import Derived.IntWalk
import Derived.Deep.AppendLies
namespace Go.Proofs.Ytjlomjdghmjkmaa.vegasBounds
open Go.RowKit
set_option linter.unusedVariables false
set_option linter.unusedSimpArgs false

set_option maxRecDepth 100000 in
set_option maxHeartbeats 16000000 in
theorem walk (c t queue alpha mss most : Int) (w : World) :
    Calls Try.prog 5 #[.agg #[.int .i64 c, .int .i64 t], .int .i64 queue, .int .i64 alpha, .int .i64 mss, .int .i64 most] w fun e w' => e = .returned (.bool true) ∧ Below w.heap.size w w' := by
  obtain ⟨B, hB⟩ : ∃ B, w.heap.size = B := ⟨_, rfl⟩
  rw [hB]
  have e0 := Bx.new w 24 [.int .i64 c, .int .i64 t]
  rw [hB] at e0
  have b0 : Below B w (w.alloc (.cells #[.int .i64 c, .int .i64 t] 24)) := by rw [← hB]; exact (Below.refl _ _).alloc (Nat.le_refl _) _
  go_enter Try.func5, Try.ntmps5
  go_wp2_with fail
  generalize w.alloc (.cells #[.int .i64 c, .int .i64 t] 24) = w1 at e0 b0 ⊢
  clear hB
  refine (vgawake_any _).mono ?_
  rintro e w2 ⟨rfl, hb2⟩
  have e2 := e0.kept hb2; have b2 := b0.trans (hb2.mono (Nat.le_of_lt e0.lt))
  clear e0 b0 hb2
  by_cases hok : RdOk c t queue alpha mss most
  case neg =>
    have AR := Lib.hid (vrnd_no hok)
    clear hok
    go_wp2_with (first | (refine xw_load rfl (.tmp 5) rfl rfl e2 rfl ?_))
    refine (vground_any c t queue alpha mss most _).mono ?_
    rintro e u2 ⟨he, hb3⟩
    rw [AR.out] at he
    dsimp only at he
    subst he
    have e3 := (e2.kept hb3).alloc (.cells #[.int .i64 0, .int .i64 0] 24)
    have b3 := (b2.trans (hb3.mono (Nat.le_of_lt e2.lt))).alloc (Nat.le_of_lt (e2.kept hb3).lt) (.cells #[.int .i64 0, .int .i64 0] 24)
    have f3 := Bx.new u2 24 [.int .i64 0, .int .i64 0]
    clear e2 b2 hb3
    go_upto_region 3 with fail
    obtain ⟨Qf, hQ⟩ : ∃ Q, u2.heap.size = Q := ⟨_, rfl⟩
    rw [hQ] at f3 ⊢
    generalize u2.alloc (.cells #[.int .i64 0, .int .i64 0] 24) = w3 at e3 b3 f3 ⊢
    clear hQ
    have xe0 := e3.cell 0 rfl; have xe1 := e3.cell 1 rfl
    have xf0 := f3.cell 0 rfl; have xf1 := f3.cell 1 rfl
    go_wp2_with fail
    go_ret
    exact ⟨rfl, b3⟩
  case pos =>
  have hv := (xmB_iff c t mss most).1 hok.1
  obtain ⟨ca, ta, hr, k1, k2, k3, k4, k5, k6, k7⟩ := vrnd_facts hok
  have hva := (xmB_iff ca ta mss most).1 k1
  have AR := Lib.hid hr; have HXA := Lib.hid k1; have HV := Lib.hid hv
  clear hr k1 hok hv
  go_wp2_with (first | (refine xw_load rfl (.tmp 5) rfl rfl e2 rfl ?_))
  refine (vground_any c t queue alpha mss most _).mono ?_
  rintro e u2 ⟨he, hb3⟩
  rw [AR.out] at he
  dsimp only at he
  subst he
  have e3 := (e2.kept hb3).alloc (.cells #[.int .i64 ca, .int .i64 ta] 24)
  have b3 := (b2.trans (hb3.mono (Nat.le_of_lt e2.lt))).alloc (Nat.le_of_lt (e2.kept hb3).lt) (.cells #[.int .i64 ca, .int .i64 ta] 24)
  have f3 := Bx.new u2 24 [.int .i64 ca, .int .i64 ta]
  clear e2 b2 hb3
  go_upto_region 3 with fail
  obtain ⟨Qf, hQ⟩ : ∃ Q, u2.heap.size = Q := ⟨_, rfl⟩
  rw [hQ] at f3 ⊢
  generalize u2.alloc (.cells #[.int .i64 ca, .int .i64 ta] 24) = w3 at e3 b3 f3 ⊢
  clear hQ
  obtain ⟨v0, v1, v2, v3, v4, v5, v6, v7⟩ := HV.out
  obtain ⟨df, hdf⟩ : ∃ df, ca - c = df := ⟨_, rfl⟩
  rw [hdf] at k2 k4 k5
  have i1 : IntKind.i64.wrap (ca - c) = df := by rw [hdf]; exact IntWalk.i64_in _ (by omega)
  have i2 : IntKind.i64.wrap (-mss) = -mss := IntWalk.i64_in _ (by omega)
  have q0 : decide (mss < df) = false := decide_eq_false (by omega)
  have q1 : decide (df < -mss) = false := decide_eq_false (by omega)
  have g1 : (decide (0 < df) = false) ∨ (decide (0 < df) = true ∧ decide (alpha ≤ queue) = false) := by
    by_cases k : 0 < df
    · exact .inr ⟨decide_eq_true k, decide_eq_false (by have := k4 k; omega)⟩
    · exact .inl (decide_eq_false k)
  have g2 : (decide (df < 0) = false) ∨ (decide (df < 0) = true ∧ decide (queue ≤ alpha) = false) := by
    by_cases k : df < 0
    · exact .inr ⟨decide_eq_true k, decide_eq_false (by have := k5 k; omega)⟩
    · exact .inl (decide_eq_false k)
  have HDF := Lib.hid hdf
  clear hdf
  have K6 := Lib.hid k6; have K7 := Lib.hid k7
  clear hva k2 k3 k4 k5 k6 k7
  have xe0 := e3.cell 0 rfl; have xe1 := e3.cell 1 rfl
  have xf0 := f3.cell 0 rfl; have xf1 := f3.cell 1 rfl
  go_wp2_with fail
  clear xe0 xe1 xf0 xf1
  refine (xwmay_any ca ta mss most _).mono ?_
  rintro e w4 ⟨rfl, hb4⟩
  rw [HXA.out]
  have e4 := (e3.kept hb4)
  have f4 := (f3.kept hb4)
  have b4 := b3.trans (hb4.mono (Nat.le_of_lt e3.lt))
  clear e3 b3 f3 hb4
  have xe0 := e4.cell 0 rfl; have xe1 := e4.cell 1 rfl
  have xf0 := f4.cell 0 rfl; have xf1 := f4.cell 1 rfl
  by_cases k : c < t
  case pos =>
    have dk : decide (c < t) = true := decide_eq_true k
    clear g1 g2
    obtain ⟨hc, ht⟩ := K6.out k
    subst hc
    obtain rfl : df = 0 := by rw [← HDF.out]; omega
    by_cases h : queue ≤ alpha
    case pos =>
      obtain rfl := ht.2 h
      have dh : decide (queue ≤ alpha) = true := decide_eq_true h
      clear ht h k
      go_wp2_with fail
      go_ret
      exact ⟨rfl, b4⟩
    case neg =>
      have dh : decide (queue ≤ alpha) = false := decide_eq_false h
      have dt : (ta == t) = false := by
        have hne : ¬ ta = t := fun e => h (ht.1 e)
        simpa using hne
      clear ht h k
      go_wp2_with fail
      go_ret
      exact ⟨rfl, b4⟩
  case neg =>
    have dk : decide (c < t) = false := decide_eq_false k
    obtain ⟨ht, hq⟩ := K7.out (by omega)
    subst ht
    rcases g1 with g1 | ⟨g1, g1'⟩
    · rcases g2 with g2 | ⟨g2, g2'⟩
      · by_cases h : queue = alpha
        case pos =>
          obtain rfl := hq h
          have dh : (queue != alpha) = false := by simpa using h
          clear hq h k
          go_wp2_with fail
          go_ret
          exact ⟨rfl, b4⟩
        case neg =>
          have dh : (queue != alpha) = true := by simpa using h
          clear hq h k
          go_wp2_with fail
          go_ret
          exact ⟨rfl, b4⟩
      · by_cases h : queue = alpha
        case pos =>
          obtain rfl := hq h
          have dh : (queue != alpha) = false := by simpa using h
          clear hq h k
          go_wp2_with fail
          go_ret
          exact ⟨rfl, b4⟩
        case neg =>
          have dh : (queue != alpha) = true := by simpa using h
          clear hq h k
          go_wp2_with fail
          go_ret
          exact ⟨rfl, b4⟩
    · rcases g2 with g2 | ⟨g2, g2'⟩
      · by_cases h : queue = alpha
        case pos =>
          obtain rfl := hq h
          have dh : (queue != alpha) = false := by simpa using h
          clear hq h k
          go_wp2_with fail
          go_ret
          exact ⟨rfl, b4⟩
        case neg =>
          have dh : (queue != alpha) = true := by simpa using h
          clear hq h k
          go_wp2_with fail
          go_ret
          exact ⟨rfl, b4⟩
      · by_cases h : queue = alpha
        case pos =>
          obtain rfl := hq h
          have dh : (queue != alpha) = false := by simpa using h
          clear hq h k
          go_wp2_with fail
          go_ret
          exact ⟨rfl, b4⟩
        case neg =>
          have dh : (queue != alpha) = true := by simpa using h
          clear hq h k
          go_wp2_with fail
          go_ret
          exact ⟨rfl, b4⟩
end Go.Proofs.Ytjlomjdghmjkmaa.vegasBounds
