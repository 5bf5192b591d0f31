/- The walk of the law SpansBack. -/
import Derived.Test.YteohgmgfnmmiaaaSpLaw
namespace Go.Proofs.Yteohgmgfnmmiaaa.spansBack
open Go.RowKit
set_option linter.unusedVariables false

set_option maxRecDepth 100000 in
set_option maxHeartbeats 8000000 in
theorem walk (A : Option Addr) (n c : Nat) (l : List Sp) (a b p q : Int) (w : World) (hs : Ss w A n c l) (ha : W64 a) (hbw : W64 b) (hp : W64 p) (hq : W64 q) :
    Calls Try.prog 5 #[.slice A n c, .agg #[.int .i64 a, .int .i64 b], .agg #[.int .i64 p, .int .i64 q]] w fun e w' => e = .returned (.bool true) ∧ Below w.heap.size w w' := by
  have hl := hs.rd.len
  by_cases hn : n ≤ 100
  case neg =>
    have hb := Below.refl w.heap.size w
    replace hs := hs.alloc (.cells #[.int .i64 a, .int .i64 b] 24)
    have hx := Boxed2.new w 24 (.int .i64 a) (.int .i64 b)
    replace hb := hb.alloc hb.size (.cells #[.int .i64 a, .int .i64 b] 24)
    replace hs := hs.alloc (.cells #[.int .i64 p, .int .i64 q] 24)
    replace hx := hx.alloc (.cells #[.int .i64 p, .int .i64 q] 24)
    have hy := Boxed2.new (w.alloc (.cells #[.int .i64 a, .int .i64 b] 24)) 24 (.int .i64 p) (.int .i64 q)
    replace hb := hb.alloc hb.size (.cells #[.int .i64 p, .int .i64 q] 24)
    simp only [World.size_alloc] at hy
    go_enter Try.func5, Try.ntmps5
    have hc := awake_any ((w.alloc (.cells #[.int .i64 a, .int .i64 b] 24)).alloc (.cells #[.int .i64 p, .int .i64 q] 24))
    go_wp2_with fail
    refine hc.mono ?_
    rintro e w1 ⟨rfl, hb1⟩
    clear hc
    replace hb := hb.trans (hb1.mono hb.size)
    replace hs := hs.keep hb1
    replace hx := hx.below hb1 hx.lt
    have hxp1 := hx.fst
    have hxq1 := hx.snd
    replace hy := hy.below hb1 hy.lt
    have hyp1 := hy.fst
    have hyq1 := hy.snd
    clear hb1
    go_wp2_with fail
    go_ret
    exact ⟨rfl, hb⟩
  case pos =>
  by_cases hok : (mayB l && vld a b) = true
  case neg =>
    have hok' : (mayB l && vld a b) = false := by simpa using hok
    have e1 := addR_bad (l := l) (s := (a, b)) hok'
    clear hok hok'
    have hb := Below.refl w.heap.size w
    replace hs := hs.alloc (.cells #[.int .i64 a, .int .i64 b] 24)
    have hx := Boxed2.new w 24 (.int .i64 a) (.int .i64 b)
    replace hb := hb.alloc hb.size (.cells #[.int .i64 a, .int .i64 b] 24)
    replace hs := hs.alloc (.cells #[.int .i64 p, .int .i64 q] 24)
    replace hx := hx.alloc (.cells #[.int .i64 p, .int .i64 q] 24)
    have hy := Boxed2.new (w.alloc (.cells #[.int .i64 a, .int .i64 b] 24)) 24 (.int .i64 p) (.int .i64 q)
    replace hb := hb.alloc hb.size (.cells #[.int .i64 p, .int .i64 q] 24)
    simp only [World.size_alloc] at hy
    go_enter Try.func5, Try.ntmps5
    have hc := awake_any ((w.alloc (.cells #[.int .i64 a, .int .i64 b] 24)).alloc (.cells #[.int .i64 p, .int .i64 q] 24))
    go_wp2_with fail
    refine hc.mono ?_
    rintro e w1 ⟨rfl, hb1⟩
    clear hc
    replace hb := hb.trans (hb1.mono hb.size)
    replace hs := hs.keep hb1
    replace hx := hx.below hb1 hx.lt
    have hxp1 := hx.fst
    have hxq1 := hx.snd
    replace hy := hy.below hb1 hy.lt
    have hyp1 := hy.fst
    have hyq1 := hy.snd
    clear hb1
    have hc := add_any _ _ _ _ a b _ hs ha hbw
    rw [e1] at hc
    go_wp2_with fail
    refine hc.mono ?_
    rintro e w2 ⟨R2, n2, c2, rfl, sa, hb2⟩
    clear hc
    replace hb := hb.trans (hb2.mono hb.size)
    replace hs := hs.keep hb2
    replace hx := hx.below hb2 hx.lt
    have hxp2 := hx.fst
    have hxq2 := hx.snd
    replace hy := hy.below hb2 hy.lt
    have hyp2 := hy.fst
    have hyq2 := hy.snd
    clear hb2
    have hc := add_any _ _ _ _ p q _ hs hp hq
    go_wp2_with fail
    refine hc.mono ?_
    rintro e w3 ⟨R3, n3, c3, rfl, sb, hb3⟩
    clear hc
    replace hb := hb.trans (hb3.mono hb.size)
    replace hs := hs.keep hb3
    replace hx := hx.below hb3 hx.lt
    have hxp3 := hx.fst
    have hxq3 := hx.snd
    replace hy := hy.below hb3 hy.lt
    have hyp3 := hy.fst
    have hyq3 := hy.snd
    replace sa := sa.keep hb3
    clear hb3
    go_wp2_with fail
    go_ret
    exact ⟨rfl, hb⟩
  case pos =>
  obtain ⟨hm, hv⟩ : mayB l = true ∧ vld a b = true := by simpa using hok
  clear hok
  have e1 := addR_ok (s := (a, b)) hm hv (by omega)
  by_cases hu : vld p q = true
  case neg =>
    have e2 := addR_bad (l := l) (s := (p, q)) (by rw [hm]; simpa using hu)
    obtain ⟨x, hx1⟩ : ∃ x, ins l (a, b) = x := ⟨_, rfl⟩
    rw [hx1] at e1
    clear hx1
    have hb := Below.refl w.heap.size w
    replace hs := hs.alloc (.cells #[.int .i64 a, .int .i64 b] 24)
    have hx := Boxed2.new w 24 (.int .i64 a) (.int .i64 b)
    replace hb := hb.alloc hb.size (.cells #[.int .i64 a, .int .i64 b] 24)
    replace hs := hs.alloc (.cells #[.int .i64 p, .int .i64 q] 24)
    replace hx := hx.alloc (.cells #[.int .i64 p, .int .i64 q] 24)
    have hy := Boxed2.new (w.alloc (.cells #[.int .i64 a, .int .i64 b] 24)) 24 (.int .i64 p) (.int .i64 q)
    replace hb := hb.alloc hb.size (.cells #[.int .i64 p, .int .i64 q] 24)
    simp only [World.size_alloc] at hy
    go_enter Try.func5, Try.ntmps5
    have hc := awake_any ((w.alloc (.cells #[.int .i64 a, .int .i64 b] 24)).alloc (.cells #[.int .i64 p, .int .i64 q] 24))
    go_wp2_with fail
    refine hc.mono ?_
    rintro e w1 ⟨rfl, hb1⟩
    clear hc
    replace hb := hb.trans (hb1.mono hb.size)
    replace hs := hs.keep hb1
    replace hx := hx.below hb1 hx.lt
    have hxp1 := hx.fst
    have hxq1 := hx.snd
    replace hy := hy.below hb1 hy.lt
    have hyp1 := hy.fst
    have hyq1 := hy.snd
    clear hb1
    have hc := add_any _ _ _ _ a b _ hs ha hbw
    rw [e1] at hc
    go_wp2_with fail
    refine hc.mono ?_
    rintro e w2 ⟨R2, n2, c2, rfl, sa, hb2⟩
    clear hc
    replace hb := hb.trans (hb2.mono hb.size)
    replace hs := hs.keep hb2
    replace hx := hx.below hb2 hx.lt
    have hxp2 := hx.fst
    have hxq2 := hx.snd
    replace hy := hy.below hb2 hy.lt
    have hyp2 := hy.fst
    have hyq2 := hy.snd
    clear hb2
    have hc := add_any _ _ _ _ p q _ hs hp hq
    rw [e2] at hc
    go_wp2_with fail
    refine hc.mono ?_
    rintro e w3 ⟨R3, n3, c3, rfl, sb, hb3⟩
    clear hc
    replace hb := hb.trans (hb3.mono hb.size)
    replace hs := hs.keep hb3
    replace hx := hx.below hb3 hx.lt
    have hxp3 := hx.fst
    have hxq3 := hx.snd
    replace hy := hy.below hb3 hy.lt
    have hyp3 := hy.fst
    have hyq3 := hy.snd
    replace sa := sa.keep hb3
    clear hb3
    go_wp2_with fail
    go_ret
    exact ⟨rfl, hb⟩
  case pos =>
  have e2 := addR_ok (s := (p, q)) hm hu (by omega)
  have m1 := ins_may (s := (a, b)) hm hv (by omega)
  have m2 := ins_may (s := (p, q)) hm hu (by omega)
  have l1 : (ins l (a, b)).length ≤ 101 := by have := ins_len l (a, b); omega
  have l2 : (ins l (p, q)).length ≤ 101 := by have := ins_len l (p, q); omega
  have e3 := addR_ok (s := (a, b)) m1 hv (by omega)
  have e4 := addR_ok (s := (p, q)) m1 hu (by omega)
  have e5 := addR_ok (s := (a, b)) m2 hv (by omega)
  have e6 := cutR_ok (s := (a, b)) m1 hv (by omega)
  have e7 := cutR_ok (s := (a, b)) hm hv (by omega)
  have f3 : ins (ins l (a, b)) (a, b) = ins l (a, b) := may_eq (ins_may m1 hv (by omega)) m1 (fun f => by
    rw [ins_in' m1 hv, ins_in' hm hv]
    exact ⟨fun h => h.elim id .inr, .inl⟩)
  have f5 : ins (ins l (p, q)) (a, b) = ins (ins l (a, b)) (p, q) := may_eq (ins_may m2 hv (by omega)) (ins_may m1 hu (by omega)) (fun f => by
    rw [ins_in' (s := (a, b)) m2 hv, ins_in' (s := (p, q)) m1 hu, ins_in' (s := (a, b)) hm hv, ins_in' (s := (p, q)) hm hu]
    constructor
    · rintro ((h | h) | h)
      · exact .inl (.inl h)
      · exact .inr h
      · exact .inl (.inr h)
    · rintro ((h | h) | h)
      · exact .inl (.inl h)
      · exact .inr h
      · exact .inl (.inr h))
  have f6 : cutL (ins l (a, b)) (a, b) = cutL l (a, b) := may_eq (cut_may m1 hv (by omega)) (cut_may hm hv (by omega)) (fun f => by
    rw [cut_in' hv, cut_in' hv, ins_in' hm hv]
    exact ⟨fun h => ⟨h.1.resolve_right h.2, h.2⟩, fun h => ⟨.inl h.1, h.2⟩⟩)
  rw [f3] at e3
  rw [f5] at e5
  rw [f6] at e6
  obtain ⟨x, hx1⟩ : ∃ x, ins l (a, b) = x := ⟨_, rfl⟩
  obtain ⟨y, hy1⟩ : ∃ y, ins l (p, q) = y := ⟨_, rfl⟩
  obtain ⟨u, hu1⟩ : ∃ u, cutL l (a, b) = u := ⟨_, rfl⟩
  rw [hx1] at e1 e3 e4 e5 e6
  rw [hy1] at e2 e5
  rw [hu1] at e6 e7
  obtain ⟨z, hz1⟩ : ∃ z, ins x (p, q) = z := ⟨_, rfl⟩
  rw [hz1] at e4 e5
  clear hx1 hy1 hu1 hz1 m1 m2 f3 f5 f6 l1 l2
  have hb := Below.refl w.heap.size w
  replace hs := hs.alloc (.cells #[.int .i64 a, .int .i64 b] 24)
  have hx := Boxed2.new w 24 (.int .i64 a) (.int .i64 b)
  replace hb := hb.alloc hb.size (.cells #[.int .i64 a, .int .i64 b] 24)
  replace hs := hs.alloc (.cells #[.int .i64 p, .int .i64 q] 24)
  replace hx := hx.alloc (.cells #[.int .i64 p, .int .i64 q] 24)
  have hy := Boxed2.new (w.alloc (.cells #[.int .i64 a, .int .i64 b] 24)) 24 (.int .i64 p) (.int .i64 q)
  replace hb := hb.alloc hb.size (.cells #[.int .i64 p, .int .i64 q] 24)
  simp only [World.size_alloc] at hy
  go_enter Try.func5, Try.ntmps5
  have hc := awake_any ((w.alloc (.cells #[.int .i64 a, .int .i64 b] 24)).alloc (.cells #[.int .i64 p, .int .i64 q] 24))
  go_wp2_with fail
  refine hc.mono ?_
  rintro e w1 ⟨rfl, hb1⟩
  clear hc
  replace hb := hb.trans (hb1.mono hb.size)
  replace hs := hs.keep hb1
  replace hx := hx.below hb1 hx.lt
  have hxp1 := hx.fst
  have hxq1 := hx.snd
  replace hy := hy.below hb1 hy.lt
  have hyp1 := hy.fst
  have hyq1 := hy.snd
  clear hb1
  have hc := add_any _ _ _ _ a b _ hs ha hbw
  rw [e1] at hc
  go_wp2_with fail
  refine hc.mono ?_
  rintro e w2 ⟨R2, n2, c2, rfl, sa, hb2⟩
  clear hc
  replace hb := hb.trans (hb2.mono hb.size)
  replace hs := hs.keep hb2
  replace hx := hx.below hb2 hx.lt
  have hxp2 := hx.fst
  have hxq2 := hx.snd
  replace hy := hy.below hb2 hy.lt
  have hyp2 := hy.fst
  have hyq2 := hy.snd
  clear hb2
  have hc := add_any _ _ _ _ p q _ hs hp hq
  rw [e2] at hc
  go_wp2_with fail
  refine hc.mono ?_
  rintro e w3 ⟨R3, n3, c3, rfl, sb, hb3⟩
  clear hc
  replace hb := hb.trans (hb3.mono hb.size)
  replace hs := hs.keep hb3
  replace hx := hx.below hb3 hx.lt
  have hxp3 := hx.fst
  have hxq3 := hx.snd
  replace hy := hy.below hb3 hy.lt
  have hyp3 := hy.fst
  have hyq3 := hy.snd
  replace sa := sa.keep hb3
  clear hb3
  have hc := add_any _ _ _ _ a b _ sa ha hbw
  rw [e3] at hc
  go_wp2_with fail
  refine hc.mono ?_
  rintro e w4 ⟨R4, n4, c4, rfl, sc, hb4⟩
  clear hc
  replace hb := hb.trans (hb4.mono hb.size)
  replace hs := hs.keep hb4
  replace hx := hx.below hb4 hx.lt
  have hxp4 := hx.fst
  have hxq4 := hx.snd
  replace hy := hy.below hb4 hy.lt
  have hyp4 := hy.fst
  have hyq4 := hy.snd
  replace sa := sa.keep hb4
  replace sb := sb.keep hb4
  clear hb4
  have hc := add_any _ _ _ _ p q _ sa hp hq
  rw [e4] at hc
  go_wp2_with fail
  refine hc.mono ?_
  rintro e w5 ⟨R5, n5, c5, rfl, sd, hb5⟩
  clear hc
  replace hb := hb.trans (hb5.mono hb.size)
  replace hs := hs.keep hb5
  replace hx := hx.below hb5 hx.lt
  have hxp5 := hx.fst
  have hxq5 := hx.snd
  replace hy := hy.below hb5 hy.lt
  have hyp5 := hy.fst
  have hyq5 := hy.snd
  replace sa := sa.keep hb5
  replace sb := sb.keep hb5
  replace sc := sc.keep hb5
  clear hb5
  have hc := add_any _ _ _ _ a b _ sb ha hbw
  rw [e5] at hc
  go_wp2_with fail
  refine hc.mono ?_
  rintro e w6 ⟨R6, n6, c6, rfl, sx, hb6⟩
  clear hc
  replace hb := hb.trans (hb6.mono hb.size)
  replace hs := hs.keep hb6
  replace hx := hx.below hb6 hx.lt
  have hxp6 := hx.fst
  have hxq6 := hx.snd
  replace hy := hy.below hb6 hy.lt
  have hyp6 := hy.fst
  have hyq6 := hy.snd
  replace sa := sa.keep hb6
  replace sb := sb.keep hb6
  replace sc := sc.keep hb6
  replace sd := sd.keep hb6
  clear hb6
  have hc := cut_any _ _ _ _ a b _ sa ha hbw
  rw [e6] at hc
  go_wp2_with fail
  refine hc.mono ?_
  rintro e w7 ⟨R7, n7, c7, rfl, sy, hb7⟩
  clear hc
  replace hb := hb.trans (hb7.mono hb.size)
  replace hs := hs.keep hb7
  replace hx := hx.below hb7 hx.lt
  have hxp7 := hx.fst
  have hxq7 := hx.snd
  replace hy := hy.below hb7 hy.lt
  have hyp7 := hy.fst
  have hyq7 := hy.snd
  replace sa := sa.keep hb7
  replace sb := sb.keep hb7
  replace sc := sc.keep hb7
  replace sd := sd.keep hb7
  replace sx := sx.keep hb7
  clear hb7
  have hc := cut_any _ _ _ _ a b _ hs ha hbw
  rw [e7] at hc
  go_wp2_with fail
  refine hc.mono ?_
  rintro e w8 ⟨R8, n8, c8, rfl, sz, hb8⟩
  clear hc
  replace hb := hb.trans (hb8.mono hb.size)
  replace hs := hs.keep hb8
  replace hx := hx.below hb8 hx.lt
  have hxp8 := hx.fst
  have hxq8 := hx.snd
  replace hy := hy.below hb8 hy.lt
  have hyp8 := hy.fst
  have hyq8 := hy.snd
  replace sa := sa.keep hb8
  replace sb := sb.keep hb8
  replace sc := sc.keep hb8
  replace sd := sd.keep hb8
  replace sx := sx.keep hb8
  replace sy := sy.keep hb8
  clear hb8
  have hc := same_yes _ _ _ _ _ _ _ _ sc sa
  go_wp2_with fail
  refine hc.mono ?_
  rintro e w9 ⟨rfl, hb9⟩
  clear hc
  replace hb := hb.trans (hb9.mono hb.size)
  replace hs := hs.keep hb9
  replace hx := hx.below hb9 hx.lt
  have hxp9 := hx.fst
  have hxq9 := hx.snd
  replace hy := hy.below hb9 hy.lt
  have hyp9 := hy.fst
  have hyq9 := hy.snd
  replace sa := sa.keep hb9
  replace sb := sb.keep hb9
  replace sc := sc.keep hb9
  replace sd := sd.keep hb9
  replace sx := sx.keep hb9
  replace sy := sy.keep hb9
  replace sz := sz.keep hb9
  clear hb9
  have hc := same_yes _ _ _ _ _ _ _ _ sd sx
  go_wp2_with fail
  refine hc.mono ?_
  rintro e w10 ⟨rfl, hb10⟩
  clear hc
  replace hb := hb.trans (hb10.mono hb.size)
  replace hs := hs.keep hb10
  replace hx := hx.below hb10 hx.lt
  have hxp10 := hx.fst
  have hxq10 := hx.snd
  replace hy := hy.below hb10 hy.lt
  have hyp10 := hy.fst
  have hyq10 := hy.snd
  replace sa := sa.keep hb10
  replace sb := sb.keep hb10
  replace sc := sc.keep hb10
  replace sd := sd.keep hb10
  replace sx := sx.keep hb10
  replace sy := sy.keep hb10
  replace sz := sz.keep hb10
  clear hb10
  have hc := same_yes _ _ _ _ _ _ _ _ sy sz
  go_wp2_with fail
  refine hc.mono ?_
  rintro e w11 ⟨rfl, hb11⟩
  clear hc
  replace hb := hb.trans (hb11.mono hb.size)
  replace hs := hs.keep hb11
  replace hx := hx.below hb11 hx.lt
  have hxp11 := hx.fst
  have hxq11 := hx.snd
  replace hy := hy.below hb11 hy.lt
  have hyp11 := hy.fst
  have hyq11 := hy.snd
  replace sa := sa.keep hb11
  replace sb := sb.keep hb11
  replace sc := sc.keep hb11
  replace sd := sd.keep hb11
  replace sx := sx.keep hb11
  replace sy := sy.keep hb11
  replace sz := sz.keep hb11
  clear hb11
  go_wp2_with fail
  go_ret
  exact ⟨rfl, hb⟩
end Go.Proofs.Yteohgmgfnmmiaaa.spansBack
