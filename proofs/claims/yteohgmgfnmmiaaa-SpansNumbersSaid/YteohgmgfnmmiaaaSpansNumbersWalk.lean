/- The walk of the law SpansNumbers. -/
import Derived.Test.YteohgmgfnmmiaaaSpLaw
namespace Go.Proofs.Yteohgmgfnmmiaaa.spansNumbers
open Go.RowKit
set_option linter.unusedVariables false

set_option maxRecDepth 100000 in
set_option maxHeartbeats 8000000 in
theorem walk (A : Option Addr) (n c : Nat) (l : List Sp) (a b f : Int) (w : World) (hs : Ss w A n c l) (ha : W64 a) (hbw : W64 b) (hf : (Lit.int .i64 f).wf = true) :
    Calls Try.prog 4 #[.slice A n c, .agg #[.int .i64 a, .int .i64 b], .int .i64 f] w fun e w' => e = .returned (.bool true) ∧ Below w.heap.size w w' := by
  have hl := hs.rd.len
  have h64 := w64_of_wf hf
  unfold W64 at h64
  clear hf
  by_cases hn : n ≤ 100
  case neg =>
    have hb := Below.refl w.heap.size w
    replace hs := hs.alloc (.cells #[.int .i64 a, .int .i64 b] 24)
    have hx := Boxed2.new w 24 (.int .i64 a) (.int .i64 b)
    replace hb := hb.alloc hb.size (.cells #[.int .i64 a, .int .i64 b] 24)
    go_enter Try.func4, Try.ntmps4
    have hc := awake_any (w.alloc (.cells #[.int .i64 a, .int .i64 b] 24))
    go_wp2_with fail
    refine hc.mono ?_
    rintro e w1 ⟨rfl, hb1⟩
    clear hc
    replace hb := hb.trans (hb1.mono hb.size)
    replace hs := hs.keep hb1
    replace hx := hx.below hb1 hx.lt
    have hxp1 := hx.fst
    have hxq1 := hx.snd
    clear hb1
    go_wp2_with fail
    go_ret
    exact ⟨rfl, hb⟩
  case pos =>
  by_cases hf0 : f < 0
  case pos =>
    have hb := Below.refl w.heap.size w
    replace hs := hs.alloc (.cells #[.int .i64 a, .int .i64 b] 24)
    have hx := Boxed2.new w 24 (.int .i64 a) (.int .i64 b)
    replace hb := hb.alloc hb.size (.cells #[.int .i64 a, .int .i64 b] 24)
    go_enter Try.func4, Try.ntmps4
    have hc := awake_any (w.alloc (.cells #[.int .i64 a, .int .i64 b] 24))
    go_wp2_with fail
    refine hc.mono ?_
    rintro e w1 ⟨rfl, hb1⟩
    clear hc
    replace hb := hb.trans (hb1.mono hb.size)
    replace hs := hs.keep hb1
    replace hx := hx.below hb1 hx.lt
    have hxp1 := hx.fst
    have hxq1 := hx.snd
    clear hb1
    go_wp2_with fail
    go_ret
    exact ⟨rfl, hb⟩
  case neg =>
  have hf0' : 0 ≤ f := by omega
  by_cases hf1 : 4611686018427387904 ≤ f
  case pos =>
    have hb := Below.refl w.heap.size w
    replace hs := hs.alloc (.cells #[.int .i64 a, .int .i64 b] 24)
    have hx := Boxed2.new w 24 (.int .i64 a) (.int .i64 b)
    replace hb := hb.alloc hb.size (.cells #[.int .i64 a, .int .i64 b] 24)
    go_enter Try.func4, Try.ntmps4
    have hc := awake_any (w.alloc (.cells #[.int .i64 a, .int .i64 b] 24))
    go_wp2_with fail
    refine hc.mono ?_
    rintro e w1 ⟨rfl, hb1⟩
    clear hc
    replace hb := hb.trans (hb1.mono hb.size)
    replace hs := hs.keep hb1
    replace hx := hx.below hb1 hx.lt
    have hxp1 := hx.fst
    have hxq1 := hx.snd
    clear hb1
    go_wp2_with fail
    go_ret
    exact ⟨rfl, hb⟩
  case neg =>
  by_cases hok : (mayB l && vld a b) = true
  case neg =>
    have hok' : (mayB l && vld a b) = false := by simpa using hok
    have e1 := addR_bad (l := l) (s := (a, b)) hok'
    have e2 := cutR_bad (l := l) (s := (a, b)) hok'
    clear hok hok'
    have hb := Below.refl w.heap.size w
    replace hs := hs.alloc (.cells #[.int .i64 a, .int .i64 b] 24)
    have hx := Boxed2.new w 24 (.int .i64 a) (.int .i64 b)
    replace hb := hb.alloc hb.size (.cells #[.int .i64 a, .int .i64 b] 24)
    go_enter Try.func4, Try.ntmps4
    have hc := awake_any (w.alloc (.cells #[.int .i64 a, .int .i64 b] 24))
    go_wp2_with fail
    refine hc.mono ?_
    rintro e w1 ⟨rfl, hb1⟩
    clear hc
    replace hb := hb.trans (hb1.mono hb.size)
    replace hs := hs.keep hb1
    replace hx := hx.below hb1 hx.lt
    have hxp1 := hx.fst
    have hxq1 := hx.snd
    clear hb1
    have hc := add_any _ _ _ _ a b _ hs ha hbw
    rw [e1] at hc
    go_wp2_with fail
    refine hc.mono ?_
    rintro e w2 ⟨R2, n2, c2, rfl, sa, hb2⟩
    clear hc
    replace hb := hb.trans (hb2.mono hb.size)
    replace hs := hs.keep hb2
    replace hx := hx.below hb2 hx.lt
    have hxp2 := hx.fst
    have hxq2 := hx.snd
    clear hb2
    have hc := cut_any _ _ _ _ a b _ hs ha hbw
    rw [e2] at hc
    go_wp2_with fail
    refine hc.mono ?_
    rintro e w3 ⟨R3, n3, c3, rfl, sc, hb3⟩
    clear hc
    replace hb := hb.trans (hb3.mono hb.size)
    replace hs := hs.keep hb3
    replace hx := hx.below hb3 hx.lt
    have hxp3 := hx.fst
    have hxq3 := hx.snd
    replace sa := sa.keep hb3
    clear hb3
    go_wp2_with fail
    go_ret
    exact ⟨rfl, hb⟩
  case pos =>
  obtain ⟨hm, hv⟩ : mayB l = true ∧ vld a b = true := by simpa using hok
  clear hok
  have e1 := addR_ok (s := (a, b)) hm hv (by omega)
  have e2 := cutR_ok (s := (a, b)) hm hv (by omega)
  have m1 := ins_may (s := (a, b)) hm hv (by omega)
  have m2 := cut_may (s := (a, b)) hm hv (by omega)
  have vf : vld f (f + 1) = true := vld_iff.2 ⟨by omega, by omega, by omega⟩
  have i1 := ins_in' (s := (a, b)) hm hv f
  have i2 := cut_in' (l := l) (s := (a, b)) hv f
  rw [← has_one, ← has_one, ← hasB_of hm vf, ← hasB_of m1 vf] at i1
  rw [← has_one, ← has_one, ← hasB_of hm vf, ← hasB_of m2 vf] at i2
  simp only at i1 i2
  obtain ⟨x, hx1⟩ : ∃ x, ins l (a, b) = x := ⟨_, rfl⟩
  obtain ⟨y, hy1⟩ : ∃ y, cutL l (a, b) = y := ⟨_, rfl⟩
  rw [hx1] at e1 m1 i1
  rw [hy1] at e2 m2 i2
  clear hx1 hy1
  cases q1 : hasB l f (f + 1) with
  | false =>
    by_cases c1 : a ≤ f
    case neg =>
      have p1 : f < a := by omega
      have q2 : hasB x f (f + 1) = false := by
        cases h : hasB x f (f + 1) with
        | false => rfl
        | true => exact (i1.1 h).elim (fun g => by rw [q1] at g; cases g) (fun g => by omega)
      have q3 : hasB y f (f + 1) = false := by
        cases h : hasB y f (f + 1) with
        | false => rfl
        | true => have := (i2.1 h).1; rw [q1] at this; cases this
      clear i1 i2
      have hb := Below.refl w.heap.size w
      replace hs := hs.alloc (.cells #[.int .i64 a, .int .i64 b] 24)
      have hx := Boxed2.new w 24 (.int .i64 a) (.int .i64 b)
      replace hb := hb.alloc hb.size (.cells #[.int .i64 a, .int .i64 b] 24)
      go_enter Try.func4, Try.ntmps4
      have hc := awake_any (w.alloc (.cells #[.int .i64 a, .int .i64 b] 24))
      go_wp2_with fail
      refine hc.mono ?_
      rintro e w1 ⟨rfl, hb1⟩
      clear hc
      replace hb := hb.trans (hb1.mono hb.size)
      replace hs := hs.keep hb1
      replace hx := hx.below hb1 hx.lt
      have hxp1 := hx.fst
      have hxq1 := hx.snd
      clear hb1
      have hc := add_any _ _ _ _ a b _ hs ha hbw
      rw [e1] at hc
      go_wp2_with fail
      refine hc.mono ?_
      rintro e w2 ⟨R2, n2, c2, rfl, sa, hb2⟩
      clear hc
      replace hb := hb.trans (hb2.mono hb.size)
      replace hs := hs.keep hb2
      replace hx := hx.below hb2 hx.lt
      have hxp2 := hx.fst
      have hxq2 := hx.snd
      clear hb2
      have hc := cut_any _ _ _ _ a b _ hs ha hbw
      rw [e2] at hc
      go_wp2_with fail
      refine hc.mono ?_
      rintro e w3 ⟨R3, n3, c3, rfl, sc, hb3⟩
      clear hc
      replace hb := hb.trans (hb3.mono hb.size)
      replace hs := hs.keep hb3
      replace hx := hx.below hb3 hx.lt
      have hxp3 := hx.fst
      have hxq3 := hx.snd
      replace sa := sa.keep hb3
      clear hb3
      replace hs := hs.alloc (.cells #[.int .i64 f, .int .i64 (f + 1)] 24)
      replace hx := hx.alloc (.cells #[.int .i64 f, .int .i64 (f + 1)] 24)
      replace sa := sa.alloc (.cells #[.int .i64 f, .int .i64 (f + 1)] 24)
      replace sc := sc.alloc (.cells #[.int .i64 f, .int .i64 (f + 1)] 24)
      have hy := Boxed2.new w3 24 (.int .i64 f) (.int .i64 (f + 1))
      replace hb := hb.alloc hb.size (.cells #[.int .i64 f, .int .i64 (f + 1)] 24)
      have hc := has_any _ _ _ _ f (f + 1) _ hs
      rw [q1] at hc
      go_wp2_with fail
      refine hc.mono ?_
      rintro e w4 ⟨rfl, hb4⟩
      clear hc
      replace hb := hb.trans (hb4.mono hb.size)
      replace hs := hs.keep hb4
      replace hx := hx.below hb4 hx.lt
      have hxp4 := hx.fst
      have hxq4 := hx.snd
      replace sa := sa.keep hb4
      replace sc := sc.keep hb4
      replace hy := hy.below hb4 hy.lt
      have hyp4 := hy.fst
      have hyq4 := hy.snd
      clear hb4
      have hc := has_any _ _ _ _ f (f + 1) _ sa
      rw [q2] at hc
      go_wp2_with fail
      refine hc.mono ?_
      rintro e w5 ⟨rfl, hb5⟩
      clear hc
      replace hb := hb.trans (hb5.mono hb.size)
      replace hs := hs.keep hb5
      replace hx := hx.below hb5 hx.lt
      have hxp5 := hx.fst
      have hxq5 := hx.snd
      replace sa := sa.keep hb5
      replace sc := sc.keep hb5
      replace hy := hy.below hb5 hy.lt
      have hyp5 := hy.fst
      have hyq5 := hy.snd
      clear hb5
      have hc := has_any _ _ _ _ f (f + 1) _ sc
      rw [q3] at hc
      go_wp2_with fail
      refine hc.mono ?_
      rintro e w6 ⟨rfl, hb6⟩
      clear hc
      replace hb := hb.trans (hb6.mono hb.size)
      replace hs := hs.keep hb6
      replace hx := hx.below hb6 hx.lt
      have hxp6 := hx.fst
      have hxq6 := hx.snd
      replace sa := sa.keep hb6
      replace sc := sc.keep hb6
      replace hy := hy.below hb6 hy.lt
      have hyp6 := hy.fst
      have hyq6 := hy.snd
      clear hb6
      have hc := may_any _ _ _ _ _ sa
      rw [m1] at hc
      go_wp2_with fail
      refine hc.mono ?_
      rintro e w7 ⟨rfl, hb7⟩
      clear hc
      replace hb := hb.trans (hb7.mono hb.size)
      replace hs := hs.keep hb7
      replace hx := hx.below hb7 hx.lt
      have hxp7 := hx.fst
      have hxq7 := hx.snd
      replace sa := sa.keep hb7
      replace sc := sc.keep hb7
      replace hy := hy.below hb7 hy.lt
      have hyp7 := hy.fst
      have hyq7 := hy.snd
      clear hb7
      have hc := may_any _ _ _ _ _ sc
      rw [m2] at hc
      go_wp2_with fail
      refine hc.mono ?_
      rintro e w8 ⟨rfl, hb8⟩
      clear hc
      replace hb := hb.trans (hb8.mono hb.size)
      replace hs := hs.keep hb8
      replace hx := hx.below hb8 hx.lt
      have hxp8 := hx.fst
      have hxq8 := hx.snd
      replace sa := sa.keep hb8
      replace sc := sc.keep hb8
      replace hy := hy.below hb8 hy.lt
      have hyp8 := hy.fst
      have hyq8 := hy.snd
      clear hb8
      go_wp2_with fail
      go_ret
      exact ⟨rfl, hb⟩
    case pos =>
    by_cases c2 : f < b
    case neg =>
      have p1 : a ≤ f := by omega
      have p2 : b ≤ f := by omega
      have p3 : decide (f < b) = false := decide_eq_false c2
      have q2 : hasB x f (f + 1) = false := by
        cases h : hasB x f (f + 1) with
        | false => rfl
        | true => exact (i1.1 h).elim (fun g => by rw [q1] at g; cases g) (fun g => by omega)
      have q3 : hasB y f (f + 1) = false := by
        cases h : hasB y f (f + 1) with
        | false => rfl
        | true => have := (i2.1 h).1; rw [q1] at this; cases this
      clear i1 i2
      have hb := Below.refl w.heap.size w
      replace hs := hs.alloc (.cells #[.int .i64 a, .int .i64 b] 24)
      have hx := Boxed2.new w 24 (.int .i64 a) (.int .i64 b)
      replace hb := hb.alloc hb.size (.cells #[.int .i64 a, .int .i64 b] 24)
      go_enter Try.func4, Try.ntmps4
      have hc := awake_any (w.alloc (.cells #[.int .i64 a, .int .i64 b] 24))
      go_wp2_with fail
      refine hc.mono ?_
      rintro e w1 ⟨rfl, hb1⟩
      clear hc
      replace hb := hb.trans (hb1.mono hb.size)
      replace hs := hs.keep hb1
      replace hx := hx.below hb1 hx.lt
      have hxp1 := hx.fst
      have hxq1 := hx.snd
      clear hb1
      have hc := add_any _ _ _ _ a b _ hs ha hbw
      rw [e1] at hc
      go_wp2_with fail
      refine hc.mono ?_
      rintro e w2 ⟨R2, n2, c2, rfl, sa, hb2⟩
      clear hc
      replace hb := hb.trans (hb2.mono hb.size)
      replace hs := hs.keep hb2
      replace hx := hx.below hb2 hx.lt
      have hxp2 := hx.fst
      have hxq2 := hx.snd
      clear hb2
      have hc := cut_any _ _ _ _ a b _ hs ha hbw
      rw [e2] at hc
      go_wp2_with fail
      refine hc.mono ?_
      rintro e w3 ⟨R3, n3, c3, rfl, sc, hb3⟩
      clear hc
      replace hb := hb.trans (hb3.mono hb.size)
      replace hs := hs.keep hb3
      replace hx := hx.below hb3 hx.lt
      have hxp3 := hx.fst
      have hxq3 := hx.snd
      replace sa := sa.keep hb3
      clear hb3
      replace hs := hs.alloc (.cells #[.int .i64 f, .int .i64 (f + 1)] 24)
      replace hx := hx.alloc (.cells #[.int .i64 f, .int .i64 (f + 1)] 24)
      replace sa := sa.alloc (.cells #[.int .i64 f, .int .i64 (f + 1)] 24)
      replace sc := sc.alloc (.cells #[.int .i64 f, .int .i64 (f + 1)] 24)
      have hy := Boxed2.new w3 24 (.int .i64 f) (.int .i64 (f + 1))
      replace hb := hb.alloc hb.size (.cells #[.int .i64 f, .int .i64 (f + 1)] 24)
      have hc := has_any _ _ _ _ f (f + 1) _ hs
      rw [q1] at hc
      go_wp2_with fail
      refine hc.mono ?_
      rintro e w4 ⟨rfl, hb4⟩
      clear hc
      replace hb := hb.trans (hb4.mono hb.size)
      replace hs := hs.keep hb4
      replace hx := hx.below hb4 hx.lt
      have hxp4 := hx.fst
      have hxq4 := hx.snd
      replace sa := sa.keep hb4
      replace sc := sc.keep hb4
      replace hy := hy.below hb4 hy.lt
      have hyp4 := hy.fst
      have hyq4 := hy.snd
      clear hb4
      have hc := has_any _ _ _ _ f (f + 1) _ sa
      rw [q2] at hc
      go_wp2_with fail
      refine hc.mono ?_
      rintro e w5 ⟨rfl, hb5⟩
      clear hc
      replace hb := hb.trans (hb5.mono hb.size)
      replace hs := hs.keep hb5
      replace hx := hx.below hb5 hx.lt
      have hxp5 := hx.fst
      have hxq5 := hx.snd
      replace sa := sa.keep hb5
      replace sc := sc.keep hb5
      replace hy := hy.below hb5 hy.lt
      have hyp5 := hy.fst
      have hyq5 := hy.snd
      clear hb5
      have hc := has_any _ _ _ _ f (f + 1) _ sc
      rw [q3] at hc
      go_wp2_with fail
      refine hc.mono ?_
      rintro e w6 ⟨rfl, hb6⟩
      clear hc
      replace hb := hb.trans (hb6.mono hb.size)
      replace hs := hs.keep hb6
      replace hx := hx.below hb6 hx.lt
      have hxp6 := hx.fst
      have hxq6 := hx.snd
      replace sa := sa.keep hb6
      replace sc := sc.keep hb6
      replace hy := hy.below hb6 hy.lt
      have hyp6 := hy.fst
      have hyq6 := hy.snd
      clear hb6
      have hc := may_any _ _ _ _ _ sa
      rw [m1] at hc
      go_wp2_with fail
      refine hc.mono ?_
      rintro e w7 ⟨rfl, hb7⟩
      clear hc
      replace hb := hb.trans (hb7.mono hb.size)
      replace hs := hs.keep hb7
      replace hx := hx.below hb7 hx.lt
      have hxp7 := hx.fst
      have hxq7 := hx.snd
      replace sa := sa.keep hb7
      replace sc := sc.keep hb7
      replace hy := hy.below hb7 hy.lt
      have hyp7 := hy.fst
      have hyq7 := hy.snd
      clear hb7
      have hc := may_any _ _ _ _ _ sc
      rw [m2] at hc
      go_wp2_with fail
      refine hc.mono ?_
      rintro e w8 ⟨rfl, hb8⟩
      clear hc
      replace hb := hb.trans (hb8.mono hb.size)
      replace hs := hs.keep hb8
      replace hx := hx.below hb8 hx.lt
      have hxp8 := hx.fst
      have hxq8 := hx.snd
      replace sa := sa.keep hb8
      replace sc := sc.keep hb8
      replace hy := hy.below hb8 hy.lt
      have hyp8 := hy.fst
      have hyq8 := hy.snd
      clear hb8
      go_wp2_with fail
      go_ret
      exact ⟨rfl, hb⟩
    case pos =>
      have p1 : a ≤ f := by omega
      have p2 : f < b := by omega
      have q2 : hasB x f (f + 1) = true := by
        exact i1.2 (.inr ⟨by omega, by omega⟩)
      have q3 : hasB y f (f + 1) = false := by
        cases h : hasB y f (f + 1) with
        | false => rfl
        | true => have := (i2.1 h).1; rw [q1] at this; cases this
      clear i1 i2
      have hb := Below.refl w.heap.size w
      replace hs := hs.alloc (.cells #[.int .i64 a, .int .i64 b] 24)
      have hx := Boxed2.new w 24 (.int .i64 a) (.int .i64 b)
      replace hb := hb.alloc hb.size (.cells #[.int .i64 a, .int .i64 b] 24)
      go_enter Try.func4, Try.ntmps4
      have hc := awake_any (w.alloc (.cells #[.int .i64 a, .int .i64 b] 24))
      go_wp2_with fail
      refine hc.mono ?_
      rintro e w1 ⟨rfl, hb1⟩
      clear hc
      replace hb := hb.trans (hb1.mono hb.size)
      replace hs := hs.keep hb1
      replace hx := hx.below hb1 hx.lt
      have hxp1 := hx.fst
      have hxq1 := hx.snd
      clear hb1
      have hc := add_any _ _ _ _ a b _ hs ha hbw
      rw [e1] at hc
      go_wp2_with fail
      refine hc.mono ?_
      rintro e w2 ⟨R2, n2, c2, rfl, sa, hb2⟩
      clear hc
      replace hb := hb.trans (hb2.mono hb.size)
      replace hs := hs.keep hb2
      replace hx := hx.below hb2 hx.lt
      have hxp2 := hx.fst
      have hxq2 := hx.snd
      clear hb2
      have hc := cut_any _ _ _ _ a b _ hs ha hbw
      rw [e2] at hc
      go_wp2_with fail
      refine hc.mono ?_
      rintro e w3 ⟨R3, n3, c3, rfl, sc, hb3⟩
      clear hc
      replace hb := hb.trans (hb3.mono hb.size)
      replace hs := hs.keep hb3
      replace hx := hx.below hb3 hx.lt
      have hxp3 := hx.fst
      have hxq3 := hx.snd
      replace sa := sa.keep hb3
      clear hb3
      replace hs := hs.alloc (.cells #[.int .i64 f, .int .i64 (f + 1)] 24)
      replace hx := hx.alloc (.cells #[.int .i64 f, .int .i64 (f + 1)] 24)
      replace sa := sa.alloc (.cells #[.int .i64 f, .int .i64 (f + 1)] 24)
      replace sc := sc.alloc (.cells #[.int .i64 f, .int .i64 (f + 1)] 24)
      have hy := Boxed2.new w3 24 (.int .i64 f) (.int .i64 (f + 1))
      replace hb := hb.alloc hb.size (.cells #[.int .i64 f, .int .i64 (f + 1)] 24)
      have hc := has_any _ _ _ _ f (f + 1) _ hs
      rw [q1] at hc
      go_wp2_with fail
      refine hc.mono ?_
      rintro e w4 ⟨rfl, hb4⟩
      clear hc
      replace hb := hb.trans (hb4.mono hb.size)
      replace hs := hs.keep hb4
      replace hx := hx.below hb4 hx.lt
      have hxp4 := hx.fst
      have hxq4 := hx.snd
      replace sa := sa.keep hb4
      replace sc := sc.keep hb4
      replace hy := hy.below hb4 hy.lt
      have hyp4 := hy.fst
      have hyq4 := hy.snd
      clear hb4
      have hc := has_any _ _ _ _ f (f + 1) _ sa
      rw [q2] at hc
      go_wp2_with fail
      refine hc.mono ?_
      rintro e w5 ⟨rfl, hb5⟩
      clear hc
      replace hb := hb.trans (hb5.mono hb.size)
      replace hs := hs.keep hb5
      replace hx := hx.below hb5 hx.lt
      have hxp5 := hx.fst
      have hxq5 := hx.snd
      replace sa := sa.keep hb5
      replace sc := sc.keep hb5
      replace hy := hy.below hb5 hy.lt
      have hyp5 := hy.fst
      have hyq5 := hy.snd
      clear hb5
      have hc := has_any _ _ _ _ f (f + 1) _ sc
      rw [q3] at hc
      go_wp2_with fail
      refine hc.mono ?_
      rintro e w6 ⟨rfl, hb6⟩
      clear hc
      replace hb := hb.trans (hb6.mono hb.size)
      replace hs := hs.keep hb6
      replace hx := hx.below hb6 hx.lt
      have hxp6 := hx.fst
      have hxq6 := hx.snd
      replace sa := sa.keep hb6
      replace sc := sc.keep hb6
      replace hy := hy.below hb6 hy.lt
      have hyp6 := hy.fst
      have hyq6 := hy.snd
      clear hb6
      have hc := may_any _ _ _ _ _ sa
      rw [m1] at hc
      go_wp2_with fail
      refine hc.mono ?_
      rintro e w7 ⟨rfl, hb7⟩
      clear hc
      replace hb := hb.trans (hb7.mono hb.size)
      replace hs := hs.keep hb7
      replace hx := hx.below hb7 hx.lt
      have hxp7 := hx.fst
      have hxq7 := hx.snd
      replace sa := sa.keep hb7
      replace sc := sc.keep hb7
      replace hy := hy.below hb7 hy.lt
      have hyp7 := hy.fst
      have hyq7 := hy.snd
      clear hb7
      have hc := may_any _ _ _ _ _ sc
      rw [m2] at hc
      go_wp2_with fail
      refine hc.mono ?_
      rintro e w8 ⟨rfl, hb8⟩
      clear hc
      replace hb := hb.trans (hb8.mono hb.size)
      replace hs := hs.keep hb8
      replace hx := hx.below hb8 hx.lt
      have hxp8 := hx.fst
      have hxq8 := hx.snd
      replace sa := sa.keep hb8
      replace sc := sc.keep hb8
      replace hy := hy.below hb8 hy.lt
      have hyp8 := hy.fst
      have hyq8 := hy.snd
      clear hb8
      go_wp2_with fail
      go_ret
      exact ⟨rfl, hb⟩
  | true =>
    by_cases c1 : a ≤ f
    case neg =>
      have p1 : f < a := by omega
      have q2 : hasB x f (f + 1) = true := by
        exact i1.2 (.inl q1)
      have q3 : hasB y f (f + 1) = true := by
        exact i2.2 ⟨q1, by omega⟩
      clear i1 i2
      have hb := Below.refl w.heap.size w
      replace hs := hs.alloc (.cells #[.int .i64 a, .int .i64 b] 24)
      have hx := Boxed2.new w 24 (.int .i64 a) (.int .i64 b)
      replace hb := hb.alloc hb.size (.cells #[.int .i64 a, .int .i64 b] 24)
      go_enter Try.func4, Try.ntmps4
      have hc := awake_any (w.alloc (.cells #[.int .i64 a, .int .i64 b] 24))
      go_wp2_with fail
      refine hc.mono ?_
      rintro e w1 ⟨rfl, hb1⟩
      clear hc
      replace hb := hb.trans (hb1.mono hb.size)
      replace hs := hs.keep hb1
      replace hx := hx.below hb1 hx.lt
      have hxp1 := hx.fst
      have hxq1 := hx.snd
      clear hb1
      have hc := add_any _ _ _ _ a b _ hs ha hbw
      rw [e1] at hc
      go_wp2_with fail
      refine hc.mono ?_
      rintro e w2 ⟨R2, n2, c2, rfl, sa, hb2⟩
      clear hc
      replace hb := hb.trans (hb2.mono hb.size)
      replace hs := hs.keep hb2
      replace hx := hx.below hb2 hx.lt
      have hxp2 := hx.fst
      have hxq2 := hx.snd
      clear hb2
      have hc := cut_any _ _ _ _ a b _ hs ha hbw
      rw [e2] at hc
      go_wp2_with fail
      refine hc.mono ?_
      rintro e w3 ⟨R3, n3, c3, rfl, sc, hb3⟩
      clear hc
      replace hb := hb.trans (hb3.mono hb.size)
      replace hs := hs.keep hb3
      replace hx := hx.below hb3 hx.lt
      have hxp3 := hx.fst
      have hxq3 := hx.snd
      replace sa := sa.keep hb3
      clear hb3
      replace hs := hs.alloc (.cells #[.int .i64 f, .int .i64 (f + 1)] 24)
      replace hx := hx.alloc (.cells #[.int .i64 f, .int .i64 (f + 1)] 24)
      replace sa := sa.alloc (.cells #[.int .i64 f, .int .i64 (f + 1)] 24)
      replace sc := sc.alloc (.cells #[.int .i64 f, .int .i64 (f + 1)] 24)
      have hy := Boxed2.new w3 24 (.int .i64 f) (.int .i64 (f + 1))
      replace hb := hb.alloc hb.size (.cells #[.int .i64 f, .int .i64 (f + 1)] 24)
      have hc := has_any _ _ _ _ f (f + 1) _ hs
      rw [q1] at hc
      go_wp2_with fail
      refine hc.mono ?_
      rintro e w4 ⟨rfl, hb4⟩
      clear hc
      replace hb := hb.trans (hb4.mono hb.size)
      replace hs := hs.keep hb4
      replace hx := hx.below hb4 hx.lt
      have hxp4 := hx.fst
      have hxq4 := hx.snd
      replace sa := sa.keep hb4
      replace sc := sc.keep hb4
      replace hy := hy.below hb4 hy.lt
      have hyp4 := hy.fst
      have hyq4 := hy.snd
      clear hb4
      have hc := has_any _ _ _ _ f (f + 1) _ sa
      rw [q2] at hc
      go_wp2_with fail
      refine hc.mono ?_
      rintro e w5 ⟨rfl, hb5⟩
      clear hc
      replace hb := hb.trans (hb5.mono hb.size)
      replace hs := hs.keep hb5
      replace hx := hx.below hb5 hx.lt
      have hxp5 := hx.fst
      have hxq5 := hx.snd
      replace sa := sa.keep hb5
      replace sc := sc.keep hb5
      replace hy := hy.below hb5 hy.lt
      have hyp5 := hy.fst
      have hyq5 := hy.snd
      clear hb5
      have hc := has_any _ _ _ _ f (f + 1) _ sc
      rw [q3] at hc
      go_wp2_with fail
      refine hc.mono ?_
      rintro e w6 ⟨rfl, hb6⟩
      clear hc
      replace hb := hb.trans (hb6.mono hb.size)
      replace hs := hs.keep hb6
      replace hx := hx.below hb6 hx.lt
      have hxp6 := hx.fst
      have hxq6 := hx.snd
      replace sa := sa.keep hb6
      replace sc := sc.keep hb6
      replace hy := hy.below hb6 hy.lt
      have hyp6 := hy.fst
      have hyq6 := hy.snd
      clear hb6
      have hc := may_any _ _ _ _ _ sa
      rw [m1] at hc
      go_wp2_with fail
      refine hc.mono ?_
      rintro e w7 ⟨rfl, hb7⟩
      clear hc
      replace hb := hb.trans (hb7.mono hb.size)
      replace hs := hs.keep hb7
      replace hx := hx.below hb7 hx.lt
      have hxp7 := hx.fst
      have hxq7 := hx.snd
      replace sa := sa.keep hb7
      replace sc := sc.keep hb7
      replace hy := hy.below hb7 hy.lt
      have hyp7 := hy.fst
      have hyq7 := hy.snd
      clear hb7
      have hc := may_any _ _ _ _ _ sc
      rw [m2] at hc
      go_wp2_with fail
      refine hc.mono ?_
      rintro e w8 ⟨rfl, hb8⟩
      clear hc
      replace hb := hb.trans (hb8.mono hb.size)
      replace hs := hs.keep hb8
      replace hx := hx.below hb8 hx.lt
      have hxp8 := hx.fst
      have hxq8 := hx.snd
      replace sa := sa.keep hb8
      replace sc := sc.keep hb8
      replace hy := hy.below hb8 hy.lt
      have hyp8 := hy.fst
      have hyq8 := hy.snd
      clear hb8
      go_wp2_with fail
      go_ret
      exact ⟨rfl, hb⟩
    case pos =>
    by_cases c2 : f < b
    case neg =>
      have p1 : a ≤ f := by omega
      have p2 : b ≤ f := by omega
      have p3 : decide (f < b) = false := decide_eq_false c2
      have q2 : hasB x f (f + 1) = true := by
        exact i1.2 (.inl q1)
      have q3 : hasB y f (f + 1) = true := by
        exact i2.2 ⟨q1, by omega⟩
      clear i1 i2
      have hb := Below.refl w.heap.size w
      replace hs := hs.alloc (.cells #[.int .i64 a, .int .i64 b] 24)
      have hx := Boxed2.new w 24 (.int .i64 a) (.int .i64 b)
      replace hb := hb.alloc hb.size (.cells #[.int .i64 a, .int .i64 b] 24)
      go_enter Try.func4, Try.ntmps4
      have hc := awake_any (w.alloc (.cells #[.int .i64 a, .int .i64 b] 24))
      go_wp2_with fail
      refine hc.mono ?_
      rintro e w1 ⟨rfl, hb1⟩
      clear hc
      replace hb := hb.trans (hb1.mono hb.size)
      replace hs := hs.keep hb1
      replace hx := hx.below hb1 hx.lt
      have hxp1 := hx.fst
      have hxq1 := hx.snd
      clear hb1
      have hc := add_any _ _ _ _ a b _ hs ha hbw
      rw [e1] at hc
      go_wp2_with fail
      refine hc.mono ?_
      rintro e w2 ⟨R2, n2, c2, rfl, sa, hb2⟩
      clear hc
      replace hb := hb.trans (hb2.mono hb.size)
      replace hs := hs.keep hb2
      replace hx := hx.below hb2 hx.lt
      have hxp2 := hx.fst
      have hxq2 := hx.snd
      clear hb2
      have hc := cut_any _ _ _ _ a b _ hs ha hbw
      rw [e2] at hc
      go_wp2_with fail
      refine hc.mono ?_
      rintro e w3 ⟨R3, n3, c3, rfl, sc, hb3⟩
      clear hc
      replace hb := hb.trans (hb3.mono hb.size)
      replace hs := hs.keep hb3
      replace hx := hx.below hb3 hx.lt
      have hxp3 := hx.fst
      have hxq3 := hx.snd
      replace sa := sa.keep hb3
      clear hb3
      replace hs := hs.alloc (.cells #[.int .i64 f, .int .i64 (f + 1)] 24)
      replace hx := hx.alloc (.cells #[.int .i64 f, .int .i64 (f + 1)] 24)
      replace sa := sa.alloc (.cells #[.int .i64 f, .int .i64 (f + 1)] 24)
      replace sc := sc.alloc (.cells #[.int .i64 f, .int .i64 (f + 1)] 24)
      have hy := Boxed2.new w3 24 (.int .i64 f) (.int .i64 (f + 1))
      replace hb := hb.alloc hb.size (.cells #[.int .i64 f, .int .i64 (f + 1)] 24)
      have hc := has_any _ _ _ _ f (f + 1) _ hs
      rw [q1] at hc
      go_wp2_with fail
      refine hc.mono ?_
      rintro e w4 ⟨rfl, hb4⟩
      clear hc
      replace hb := hb.trans (hb4.mono hb.size)
      replace hs := hs.keep hb4
      replace hx := hx.below hb4 hx.lt
      have hxp4 := hx.fst
      have hxq4 := hx.snd
      replace sa := sa.keep hb4
      replace sc := sc.keep hb4
      replace hy := hy.below hb4 hy.lt
      have hyp4 := hy.fst
      have hyq4 := hy.snd
      clear hb4
      have hc := has_any _ _ _ _ f (f + 1) _ sa
      rw [q2] at hc
      go_wp2_with fail
      refine hc.mono ?_
      rintro e w5 ⟨rfl, hb5⟩
      clear hc
      replace hb := hb.trans (hb5.mono hb.size)
      replace hs := hs.keep hb5
      replace hx := hx.below hb5 hx.lt
      have hxp5 := hx.fst
      have hxq5 := hx.snd
      replace sa := sa.keep hb5
      replace sc := sc.keep hb5
      replace hy := hy.below hb5 hy.lt
      have hyp5 := hy.fst
      have hyq5 := hy.snd
      clear hb5
      have hc := has_any _ _ _ _ f (f + 1) _ sc
      rw [q3] at hc
      go_wp2_with fail
      refine hc.mono ?_
      rintro e w6 ⟨rfl, hb6⟩
      clear hc
      replace hb := hb.trans (hb6.mono hb.size)
      replace hs := hs.keep hb6
      replace hx := hx.below hb6 hx.lt
      have hxp6 := hx.fst
      have hxq6 := hx.snd
      replace sa := sa.keep hb6
      replace sc := sc.keep hb6
      replace hy := hy.below hb6 hy.lt
      have hyp6 := hy.fst
      have hyq6 := hy.snd
      clear hb6
      have hc := may_any _ _ _ _ _ sa
      rw [m1] at hc
      go_wp2_with fail
      refine hc.mono ?_
      rintro e w7 ⟨rfl, hb7⟩
      clear hc
      replace hb := hb.trans (hb7.mono hb.size)
      replace hs := hs.keep hb7
      replace hx := hx.below hb7 hx.lt
      have hxp7 := hx.fst
      have hxq7 := hx.snd
      replace sa := sa.keep hb7
      replace sc := sc.keep hb7
      replace hy := hy.below hb7 hy.lt
      have hyp7 := hy.fst
      have hyq7 := hy.snd
      clear hb7
      have hc := may_any _ _ _ _ _ sc
      rw [m2] at hc
      go_wp2_with fail
      refine hc.mono ?_
      rintro e w8 ⟨rfl, hb8⟩
      clear hc
      replace hb := hb.trans (hb8.mono hb.size)
      replace hs := hs.keep hb8
      replace hx := hx.below hb8 hx.lt
      have hxp8 := hx.fst
      have hxq8 := hx.snd
      replace sa := sa.keep hb8
      replace sc := sc.keep hb8
      replace hy := hy.below hb8 hy.lt
      have hyp8 := hy.fst
      have hyq8 := hy.snd
      clear hb8
      go_wp2_with fail
      go_ret
      exact ⟨rfl, hb⟩
    case pos =>
      have p1 : a ≤ f := by omega
      have p2 : f < b := by omega
      have q2 : hasB x f (f + 1) = true := by
        exact i1.2 (.inl q1)
      have q3 : hasB y f (f + 1) = false := by
        cases h : hasB y f (f + 1) with
        | false => rfl
        | true => exact absurd (show a ≤ f ∧ f < b by omega) (i2.1 h).2
      clear i1 i2
      have hb := Below.refl w.heap.size w
      replace hs := hs.alloc (.cells #[.int .i64 a, .int .i64 b] 24)
      have hx := Boxed2.new w 24 (.int .i64 a) (.int .i64 b)
      replace hb := hb.alloc hb.size (.cells #[.int .i64 a, .int .i64 b] 24)
      go_enter Try.func4, Try.ntmps4
      have hc := awake_any (w.alloc (.cells #[.int .i64 a, .int .i64 b] 24))
      go_wp2_with fail
      refine hc.mono ?_
      rintro e w1 ⟨rfl, hb1⟩
      clear hc
      replace hb := hb.trans (hb1.mono hb.size)
      replace hs := hs.keep hb1
      replace hx := hx.below hb1 hx.lt
      have hxp1 := hx.fst
      have hxq1 := hx.snd
      clear hb1
      have hc := add_any _ _ _ _ a b _ hs ha hbw
      rw [e1] at hc
      go_wp2_with fail
      refine hc.mono ?_
      rintro e w2 ⟨R2, n2, c2, rfl, sa, hb2⟩
      clear hc
      replace hb := hb.trans (hb2.mono hb.size)
      replace hs := hs.keep hb2
      replace hx := hx.below hb2 hx.lt
      have hxp2 := hx.fst
      have hxq2 := hx.snd
      clear hb2
      have hc := cut_any _ _ _ _ a b _ hs ha hbw
      rw [e2] at hc
      go_wp2_with fail
      refine hc.mono ?_
      rintro e w3 ⟨R3, n3, c3, rfl, sc, hb3⟩
      clear hc
      replace hb := hb.trans (hb3.mono hb.size)
      replace hs := hs.keep hb3
      replace hx := hx.below hb3 hx.lt
      have hxp3 := hx.fst
      have hxq3 := hx.snd
      replace sa := sa.keep hb3
      clear hb3
      replace hs := hs.alloc (.cells #[.int .i64 f, .int .i64 (f + 1)] 24)
      replace hx := hx.alloc (.cells #[.int .i64 f, .int .i64 (f + 1)] 24)
      replace sa := sa.alloc (.cells #[.int .i64 f, .int .i64 (f + 1)] 24)
      replace sc := sc.alloc (.cells #[.int .i64 f, .int .i64 (f + 1)] 24)
      have hy := Boxed2.new w3 24 (.int .i64 f) (.int .i64 (f + 1))
      replace hb := hb.alloc hb.size (.cells #[.int .i64 f, .int .i64 (f + 1)] 24)
      have hc := has_any _ _ _ _ f (f + 1) _ hs
      rw [q1] at hc
      go_wp2_with fail
      refine hc.mono ?_
      rintro e w4 ⟨rfl, hb4⟩
      clear hc
      replace hb := hb.trans (hb4.mono hb.size)
      replace hs := hs.keep hb4
      replace hx := hx.below hb4 hx.lt
      have hxp4 := hx.fst
      have hxq4 := hx.snd
      replace sa := sa.keep hb4
      replace sc := sc.keep hb4
      replace hy := hy.below hb4 hy.lt
      have hyp4 := hy.fst
      have hyq4 := hy.snd
      clear hb4
      have hc := has_any _ _ _ _ f (f + 1) _ sa
      rw [q2] at hc
      go_wp2_with fail
      refine hc.mono ?_
      rintro e w5 ⟨rfl, hb5⟩
      clear hc
      replace hb := hb.trans (hb5.mono hb.size)
      replace hs := hs.keep hb5
      replace hx := hx.below hb5 hx.lt
      have hxp5 := hx.fst
      have hxq5 := hx.snd
      replace sa := sa.keep hb5
      replace sc := sc.keep hb5
      replace hy := hy.below hb5 hy.lt
      have hyp5 := hy.fst
      have hyq5 := hy.snd
      clear hb5
      have hc := has_any _ _ _ _ f (f + 1) _ sc
      rw [q3] at hc
      go_wp2_with fail
      refine hc.mono ?_
      rintro e w6 ⟨rfl, hb6⟩
      clear hc
      replace hb := hb.trans (hb6.mono hb.size)
      replace hs := hs.keep hb6
      replace hx := hx.below hb6 hx.lt
      have hxp6 := hx.fst
      have hxq6 := hx.snd
      replace sa := sa.keep hb6
      replace sc := sc.keep hb6
      replace hy := hy.below hb6 hy.lt
      have hyp6 := hy.fst
      have hyq6 := hy.snd
      clear hb6
      have hc := may_any _ _ _ _ _ sa
      rw [m1] at hc
      go_wp2_with fail
      refine hc.mono ?_
      rintro e w7 ⟨rfl, hb7⟩
      clear hc
      replace hb := hb.trans (hb7.mono hb.size)
      replace hs := hs.keep hb7
      replace hx := hx.below hb7 hx.lt
      have hxp7 := hx.fst
      have hxq7 := hx.snd
      replace sa := sa.keep hb7
      replace sc := sc.keep hb7
      replace hy := hy.below hb7 hy.lt
      have hyp7 := hy.fst
      have hyq7 := hy.snd
      clear hb7
      have hc := may_any _ _ _ _ _ sc
      rw [m2] at hc
      go_wp2_with fail
      refine hc.mono ?_
      rintro e w8 ⟨rfl, hb8⟩
      clear hc
      replace hb := hb.trans (hb8.mono hb.size)
      replace hs := hs.keep hb8
      replace hx := hx.below hb8 hx.lt
      have hxp8 := hx.fst
      have hxq8 := hx.snd
      replace sa := sa.keep hb8
      replace sc := sc.keep hb8
      replace hy := hy.below hb8 hy.lt
      have hyp8 := hy.fst
      have hyq8 := hy.snd
      clear hb8
      go_wp2_with fail
      go_ret
      exact ⟨rfl, hb⟩
end Go.Proofs.Yteohgmgfnmmiaaa.spansNumbers
