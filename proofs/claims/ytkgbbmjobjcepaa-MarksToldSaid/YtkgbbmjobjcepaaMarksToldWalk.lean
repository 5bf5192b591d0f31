/- The walk of the law MarksTold. -/
import Derived.Test.YtkgbbmjobjcepaaProg
import Derived.Test.YtkgbbmjobjcepaaMsAwake
import Derived.Test.YtkgbbmjobjcepaaMsMath
import Derived.WalkKit
import Derived.WalkSpells
import Derived.WalkSmall
import Derived.Lib.Hide
import Derived.Below
import Derived.Outline
namespace Go.Proofs.Ytkgbbmjobjcepaa.marksTold
open Go.RowKit
set_option linter.unusedVariables false
set_option linter.unusedSimpArgs false

set_option maxRecDepth 100000 in
set_option maxHeartbeats 8000000 in
theorem walk (pk bt ca md pt : Int) (ace ce packets bytes : Int) (w : World) (hc0 : 0 ≤ ce) (hc1 : ce < 4294967296) :
    Calls Try.prog 6 #[.agg #[.int .i64 pk, .int .i64 bt, .int .i64 ca, .int .i64 md, .int .i64 pt], .int .i64 ace, .int .u32 ce, .int .i64 packets, .int .i64 bytes] w fun e w' => e = .returned (.bool true) ∧ Below w.heap.size w w' := by
  obtain ⟨B, hB⟩ : ∃ B, w.heap.size = B := ⟨_, rfl⟩
  rw [hB]
  have e0 := Bx.new w 23 [.int .i64 pk, .int .i64 bt, .int .i64 ca, .int .i64 md, .int .i64 pt]
  rw [hB] at e0
  have b0 : Below B w (w.alloc (.cells #[.int .i64 pk, .int .i64 bt, .int .i64 ca, .int .i64 md, .int .i64 pt] 23)) := by rw [← hB]; exact (Below.refl _ _).alloc (Nat.le_refl _) _
  go_enter Try.func6, Try.ntmps6
  go_wp2_with fail
  generalize w.alloc (.cells #[.int .i64 pk, .int .i64 bt, .int .i64 ca, .int .i64 md, .int .i64 pt] 23) = w0 at e0 b0 ⊢
  refine (msawake_any _).mono ?_
  rintro e w1 ⟨rfl, hb1⟩
  have e1 := e0.kept hb1
  have b1 := b0.trans (hb1.mono (Nat.le_of_lt e0.lt))
  by_cases c1 : packets < 0
  case pos =>
    have dc1 : decide (packets < 0) = true := decide_eq_true c1
    go_wp2_with fail
    go_ret
    exact ⟨rfl, b1⟩
  case neg =>
  have dc1 : decide (packets < 0) = false := decide_eq_false c1
  by_cases c2 : 7 < packets
  case pos =>
    have dc2 : decide (7 < packets) = true := decide_eq_true c2
    go_wp2_with fail
    go_ret
    exact ⟨rfl, b1⟩
  case neg =>
  have dc2 : decide (7 < packets) = false := decide_eq_false c2
  have htb := told_bd ⟨pk, bt, ca, md, pt⟩
  obtain ⟨t, ht⟩ : ∃ t, toldR ⟨pk, bt, ca, md, pt⟩ = t := ⟨_, rfl⟩
  rw [ht] at htb
  obtain ⟨t1, t2⟩ := t
  obtain ⟨tb0, tb1, tb2, tb3⟩ := htb
  dsimp only at tb0 tb1 tb2 tb3
  have HT := Lib.hid ht; clear ht
  go_wp2_with (refine ms_load rfl (.tmp 5) rfl rfl e1 rfl ?_)
  refine (mktold_any pk bt ca md pt _).mono ?_
  rintro e w2 ⟨rfl, hb2⟩
  rw [HT.out]
  dsimp only
  have e2 := e1.kept hb2
  have b2 := b1.trans (hb2.mono (Nat.le_of_lt e1.lt))
  by_cases hm : mmay ⟨pk, bt, ca, md, pt⟩ = true ∧ HeardOk ace ce packets bytes
  case neg =>
    go_wp2_with (refine ms_load rfl (.tmp 5) rfl rfl e2 rfl ?_)
    refine (mkheard_any pk bt ca md pt ace ce packets bytes _ hc0 hc1).mono ?_
    rintro e w3 ⟨he, hb3⟩
    rw [heard_no hm] at he
    dsimp only [zmk] at he
    try dsimp only at he
    subst he
    have e3 := (e2.kept hb3).alloc (.cells #[.int .i64 0, .int .i64 0, .int .i64 0, .int .i64 0, .int .i64 0] 23)
    have b3 := (b2.trans (hb3.mono (Nat.le_of_lt e2.lt))).alloc (Nat.le_of_lt (e2.kept hb3).lt) (.cells #[.int .i64 0, .int .i64 0, .int .i64 0, .int .i64 0, .int .i64 0] 23)
    obtain ⟨V1, hV1⟩ : ∃ V, w3.heap.size = V := ⟨_, rfl⟩
    have p3 := Bx.new w3 23 [.int .i64 0, .int .i64 0, .int .i64 0, .int .i64 0, .int .i64 0]
    rw [hV1] at p3
    go_wp2_with fail
    go_ret
    exact ⟨rfl, b3⟩
  case pos =>
  by_cases hf : Fits ⟨pk, bt, ca, md, pt⟩ ace ce packets bytes
  case neg =>
    go_wp2_with (refine ms_load rfl (.tmp 5) rfl rfl e2 rfl ?_)
    refine (mkheard_any pk bt ca md pt ace ce packets bytes _ hc0 hc1).mono ?_
    rintro e w3 ⟨he, hb3⟩
    rw [heard_over hm hf] at he
    dsimp only [zmk] at he
    try dsimp only at he
    subst he
    have e3 := (e2.kept hb3).alloc (.cells #[.int .i64 0, .int .i64 0, .int .i64 0, .int .i64 0, .int .i64 0] 23)
    have b3 := (b2.trans (hb3.mono (Nat.le_of_lt e2.lt))).alloc (Nat.le_of_lt (e2.kept hb3).lt) (.cells #[.int .i64 0, .int .i64 0, .int .i64 0, .int .i64 0, .int .i64 0] 23)
    obtain ⟨V1, hV1⟩ : ∃ V, w3.heap.size = V := ⟨_, rfl⟩
    have p3 := Bx.new w3 23 [.int .i64 0, .int .i64 0, .int .i64 0, .int .i64 0, .int .i64 0]
    rw [hV1] at p3
    go_wp2_with fail
    go_ret
    exact ⟨rfl, b3⟩
  case pos =>
    have hth := told_heard hm hc0 hf (by omega)
    have hx := heard_ok hm hf
    have hv := (mmay_iff _).1 hm.1
    have hf1 := hf.1
    rw [nR_small (by omega)] at hx hf1
    have hn := n0_bd ⟨pk, bt, ca, md, pt⟩ ace
    have hbb := b_bd ⟨pk, bt, ca, md, pt⟩ ce
    obtain ⟨n0, hn0⟩ : ∃ n, n0R ⟨pk, bt, ca, md, pt⟩ ace = n := ⟨_, rfl⟩
    obtain ⟨bb, hbe⟩ : ∃ b, bR ⟨pk, bt, ca, md, pt⟩ ce = b := ⟨_, rfl⟩
    obtain ⟨mm, hmm⟩ : ∃ m, minM bytes bb = m := ⟨_, rfl⟩
    dsimp only at hx
    rw [hn0, hbe, hmm] at hx
    rw [hx] at hth
    rw [hn0] at hn
    obtain ⟨ha, hbm, hcc⟩ := hth
    obtain ⟨hn1, hn2⟩ := hn
    have o1 := hm.2.2.2.2.2.2.1
    have o2 := hm.2.2.2.2.2.2.2
    have c0 : 0 ≤ ca := hv.c0; have c9 : ca ≤ 1152921504606846976 := hv.c1
    have HA := Lib.hid ha; have HB := Lib.hid hbm; have HC := Lib.hid hcc
    clear ha hbm hcc hm hf hv hn0 hbe hmm hf1 hbb
    go_wp2_with (refine ms_load rfl (.tmp 5) rfl rfl e2 rfl ?_)
    refine (mkheard_any pk bt ca md pt ace ce packets bytes _ hc0 hc1).mono ?_
    rintro e w3 ⟨he, hb3⟩
    rw [hx] at he
    try dsimp only at he
    subst he
    have e3 := (e2.kept hb3).alloc (.cells #[.int .i64 (pk + n0), .int .i64 (bt + bb), .int .i64 (ca + bytes), .int .i64 (md + mm), .int .i64 pt] 23)
    have b3 := (b2.trans (hb3.mono (Nat.le_of_lt e2.lt))).alloc (Nat.le_of_lt (e2.kept hb3).lt) (.cells #[.int .i64 (pk + n0), .int .i64 (bt + bb), .int .i64 (ca + bytes), .int .i64 (md + mm), .int .i64 pt] 23)
    obtain ⟨V1, hV1⟩ : ∃ V, w3.heap.size = V := ⟨_, rfl⟩
    have p3 := Bx.new w3 23 [.int .i64 (pk + n0), .int .i64 (bt + bb), .int .i64 (ca + bytes), .int .i64 (md + mm), .int .i64 pt]
    rw [hV1] at p3
    clear hx
    go_wp2_with (refine ms_load rfl (.tmp 14) rfl rfl p3 rfl ?_)
    refine (mktold_any (pk + n0) (bt + bb) (ca + bytes) (md + mm) pt _).mono ?_
    rintro e w4 ⟨rfl, hb4⟩
    rw [HA.out]
    dsimp only
    have e4 := e3.kept hb4
    have p4 := p3.kept hb4
    have b4 := b3.trans (hb4.mono (Nat.le_of_lt e3.lt))
    go_wp2_with (refine ms_load rfl (.tmp 14) rfl rfl p4 rfl ?_)
    refine (mkheard_any (pk + n0) (bt + bb) (ca + bytes) (md + mm) pt ace ce packets 0 _ hc0 hc1).mono ?_
    rintro e w5 ⟨he, hb5⟩
    rw [HC.out] at he
    dsimp only at he
    subst he
    have e5 := (e4.kept hb5).alloc (.cells #[.int .i64 (pk + n0), .int .i64 (bt + bb), .int .i64 (ca + bytes), .int .i64 (md + mm), .int .i64 pt] 23)
    have p5 := (p4.kept hb5).alloc (.cells #[.int .i64 (pk + n0), .int .i64 (bt + bb), .int .i64 (ca + bytes), .int .i64 (md + mm), .int .i64 pt] 23)
    have b5 := (b4.trans (hb5.mono (Nat.le_of_lt e4.lt))).alloc (Nat.le_of_lt (e4.kept hb5).lt) (.cells #[.int .i64 (pk + n0), .int .i64 (bt + bb), .int .i64 (ca + bytes), .int .i64 (md + mm), .int .i64 pt] 23)
    obtain ⟨V2, hV2⟩ : ∃ V, w5.heap.size = V := ⟨_, rfl⟩
    have q5 := Bx.new w5 23 [.int .i64 (pk + n0), .int .i64 (bt + bb), .int .i64 (ca + bytes), .int .i64 (md + mm), .int .i64 pt]
    rw [hV2] at q5
    have ex0 := e5.cell 0 rfl; have ex1 := e5.cell 1 rfl; have ex2 := e5.cell 2 rfl; have ex3 := e5.cell 3 rfl; have ex4 := e5.cell 4 rfl
    have px0 := p5.cell 0 rfl; have px1 := p5.cell 1 rfl; have px2 := p5.cell 2 rfl; have px3 := p5.cell 3 rfl; have px4 := p5.cell 4 rfl
    go_wp2_with fail
    refine (mkmay_any (pk + n0) (bt + bb) (ca + bytes) (md + mm) pt _).mono ?_
    rintro e w6 ⟨rfl, hb6⟩
    rw [HB.out]
    clear ex0 px0 ex1 px1 ex2 px2 ex3 px3 ex4 px4
    have e6 := e5.kept hb6
    have p6 := p5.kept hb6
    have q6 := q5.kept hb6
    have b6 := b5.trans (hb6.mono (Nat.le_of_lt e5.lt))
    have ex0 := e6.cell 0 rfl; have ex1 := e6.cell 1 rfl; have ex2 := e6.cell 2 rfl; have ex3 := e6.cell 3 rfl; have ex4 := e6.cell 4 rfl
    have px0 := p6.cell 0 rfl; have px1 := p6.cell 1 rfl; have px2 := p6.cell 2 rfl; have px3 := p6.cell 3 rfl; have px4 := p6.cell 4 rfl
    have s1 : ca + bytes - ca = bytes := by omega
    go_wp2_with fail
    go_ret
    exact ⟨rfl, b6⟩
end Go.Proofs.Ytkgbbmjobjcepaa.marksTold
