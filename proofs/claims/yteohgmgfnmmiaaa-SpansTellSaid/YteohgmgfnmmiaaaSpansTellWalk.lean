/- The walk of the law SpansTell. -/
import Derived.Test.YteohgmgfnmmiaaaSpLaw
import Derived.Test.YteohgmgfnmmiaaaSpRef3
import Derived.Test.YteohgmgfnmmiaaaSpRef4
import Derived.Deep.RegionHeld3
namespace Go.Proofs.Yteohgmgfnmmiaaa.spansTell
open Go.RowKit
set_option linter.unusedVariables false

theorem ss_drew {w : World} {A : Option Addr} {n c : Nat} {l : List Sp} (h : Ss w A n c l) : Ss w.drew A n c l := h.keep (Below.refl _ _).drew

set_option maxRecDepth 100000 in
set_option maxHeartbeats 4000000 in
theorem walk (A : Option Addr) (n c : Nat) (l : List Sp) (a b f : Int) (w : World) (hs : Ss w A n c l) (ha : W64 a) (hbw : W64 b) (hf : (Lit.int .i64 f).wf = true) :
    Calls Try.prog 3 #[.slice A n c, .agg #[.int .i64 a, .int .i64 b], .int .i64 f] w fun e w' => e = .returned (.bool true) ∧ Below w.heap.size w w' := by
  clear hf
  by_cases hn : n ≤ 1100
  case neg =>
    have hb := Below.refl w.heap.size w
    replace hs := hs.alloc (.cells #[.int .i64 a, .int .i64 b] 24)
    have hx := Boxed2.new w 24 (.int .i64 a) (.int .i64 b)
    replace hb := hb.alloc hb.size (.cells #[.int .i64 a, .int .i64 b] 24)
    go_enter Try.func3, Try.ntmps3
    have hc := awake_any (w.alloc (.cells #[.int .i64 a, .int .i64 b] 24))
    go_wp2_with fail
    refine hc.mono ?_
    rintro e w1 ⟨rfl, hb1⟩
    clear hc
    replace hb := hb.trans (hb1.mono hb.size)
    replace hs := hs.keep hb1
    replace hx := hx.below hb1 hx.lt
    have hxp1 := hx.fst
    have hxq1 := hx.snd
    clear hb1
    go_wp2_with fail
    go_ret
    exact ⟨rfl, hb⟩
  case pos =>
  obtain ⟨p1, hp1⟩ : ∃ p, addR l (a, b) = p := ⟨_, rfl⟩
  obtain ⟨p2, hp2⟩ : ∃ p, cutR l (a, b) = p := ⟨_, rfl⟩
  obtain ⟨L1, E1⟩ := p1
  obtain ⟨L2, E2⟩ := p2
  obtain ⟨x, hx1⟩ : ∃ x, hasB l a b = x := ⟨_, rfl⟩
  obtain ⟨y, hy1⟩ : ∃ y, mayB l = y := ⟨_, rfl⟩
  obtain ⟨N, hN1⟩ : ∃ N, sizeF l = N := ⟨_, rfl⟩
  obtain ⟨G, hG1⟩ : ∃ G, gapF l f = G := ⟨_, rfl⟩
  have hb := Below.refl w.heap.size w
  replace hs := hs.alloc (.cells #[.int .i64 a, .int .i64 b] 24)
  have hx := Boxed2.new w 24 (.int .i64 a) (.int .i64 b)
  replace hb := hb.alloc hb.size (.cells #[.int .i64 a, .int .i64 b] 24)
  go_enter Try.func3, Try.ntmps3
  have hc := awake_any (w.alloc (.cells #[.int .i64 a, .int .i64 b] 24))
  go_wp2_with fail
  refine hc.mono ?_
  rintro e w1 ⟨rfl, hb1⟩
  clear hc
  replace hb := hb.trans (hb1.mono hb.size)
  replace hs := hs.keep hb1
  replace hx := hx.below hb1 hx.lt
  have hxp1 := hx.fst
  have hxq1 := hx.snd
  clear hb1
  have hc := add_any _ _ _ _ a b _ hs ha hbw
  rw [hp1] at hc
  go_wp2_with fail
  refine hc.mono ?_
  rintro e w2 ⟨R2, n2, c2, rfl, sa, hb2⟩
  clear hc
  replace hb := hb.trans (hb2.mono hb.size)
  replace hs := hs.keep hb2
  replace hx := hx.below hb2 hx.lt
  have hxp2 := hx.fst
  have hxq2 := hx.snd
  clear hb2
  have hc := radd_any _ _ _ _ a b _ hs ha hbw
  rw [hp1] at hc
  go_wp2_with fail
  refine hc.mono ?_
  rintro e w3 ⟨R3, n3, c3, rfl, sb, hb3⟩
  clear hc
  replace hb := hb.trans (hb3.mono hb.size)
  replace hs := hs.keep hb3
  replace hx := hx.below hb3 hx.lt
  have hxp3 := hx.fst
  have hxq3 := hx.snd
  replace sa := sa.keep hb3
  clear hb3
  have hc := same_yes _ _ _ _ _ _ _ _ sa sb
  go_wp2_with fail
  refine hc.mono ?_
  rintro e w4 ⟨rfl, hb4⟩
  clear hc
  replace hb := hb.trans (hb4.mono hb.size)
  replace hs := hs.keep hb4
  replace hx := hx.below hb4 hx.lt
  have hxp4 := hx.fst
  have hxq4 := hx.snd
  replace sa := sa.keep hb4
  replace sb := sb.keep hb4
  clear hb4
  have hc := cut_any _ _ _ _ a b _ hs ha hbw
  rw [hp2] at hc
  go_wp2_with fail
  refine hc.mono ?_
  rintro e w5 ⟨R5, n5, c5, rfl, sc, hb5⟩
  clear hc
  replace hb := hb.trans (hb5.mono hb.size)
  replace hs := hs.keep hb5
  replace hx := hx.below hb5 hx.lt
  have hxp5 := hx.fst
  have hxq5 := hx.snd
  replace sa := sa.keep hb5
  replace sb := sb.keep hb5
  clear hb5
  have hc := rcut_any _ _ _ _ a b _ hs ha hbw
  rw [hp2] at hc
  go_wp2_with fail
  refine hc.mono ?_
  rintro e w6 ⟨R6, n6, c6, rfl, sd, hb6⟩
  clear hc
  replace hb := hb.trans (hb6.mono hb.size)
  replace hs := hs.keep hb6
  replace hx := hx.below hb6 hx.lt
  have hxp6 := hx.fst
  have hxq6 := hx.snd
  replace sa := sa.keep hb6
  replace sb := sb.keep hb6
  replace sc := sc.keep hb6
  clear hb6
  have hc := same_yes _ _ _ _ _ _ _ _ sc sd
  go_wp2_with fail
  refine hc.mono ?_
  rintro e w7 ⟨rfl, hb7⟩
  clear hc
  replace hb := hb.trans (hb7.mono hb.size)
  replace hs := hs.keep hb7
  replace hx := hx.below hb7 hx.lt
  have hxp7 := hx.fst
  have hxq7 := hx.snd
  replace sa := sa.keep hb7
  replace sb := sb.keep hb7
  replace sc := sc.keep hb7
  replace sd := sd.keep hb7
  clear hb7
  have hc1 := fun w (h : Ss w A n c l) => has_any _ _ _ _ a b w h
  rw [hx1] at hc1
  have hc2 := fun w (h : Ss w A n c l) => rhas_any _ _ _ _ a b w h
  rw [hx1] at hc2
  have hc3 := fun w (h : Ss w A n c l) => size_any _ _ _ _ w h
  rw [hN1] at hc3
  have hc4 := fun w (h : Ss w A n c l) => rsize_any _ _ _ _ w h
  rw [hN1] at hc4
  have hc5 := fun w (h : Ss w A n c l) => gap_any _ _ _ _ f w h
  rw [hG1] at hc5
  have hc6 := fun w (h : Ss w A n c l) => rgap_any _ _ _ _ f w h
  rw [hG1] at hc6
  have hc7 := fun w (h : Ss w A n c l) => may_any _ _ _ _ w h
  rw [hy1] at hc7
  have hc8 := fun w (h : Ss w A n c l) => rmay_any _ _ _ _ w h
  rw [hy1] at hc8
  go_wp2_with fail
  go_region_held3 (fun w' => w'.cell? ⟨w.heap.size, 0, none⟩ = some (.int .i64 a) ∧ w'.cell? ⟨w.heap.size, 1, none⟩ = some (.int .i64 b)) (first | exact ⟨xq4, xr4⟩ | exact ⟨xq3, xr3⟩ | exact ⟨xq2, xr2⟩ | exact ⟨xq1, xr1⟩ | go_keep)
    (first
      | (go_at_call 15; refine (hc1 _ ?_).mono ?_; exact (ss_drew hs); rintro e v1 ⟨rfl, hk1⟩; have bb1 := (hb.drew).trans (hk1.mono (hb.drew).size); have xx1 := (hx.below ((Below.refl _ _).drew) hx.lt).below hk1 (hx.below ((Below.refl _ _).drew) hx.lt).lt; have xq1 := xx1.fst; have xr1 := xx1.snd; have ss1 := (ss_drew hs).keep hk1)
      | (go_at_call 16; refine (hc2 _ ?_).mono ?_; exact (ss1); rintro e v2 ⟨rfl, hk2⟩; have bb2 := (bb1).trans (hk2.mono (bb1).size); have xx2 := xx1.below hk2 xx1.lt; have xq2 := xx2.fst; have xr2 := xx2.snd; have ss2 := (ss1).keep hk2)
      | (go_at_call 17; refine (hc3 _ ?_).mono ?_; exact (ss2); rintro e v3 ⟨rfl, hk3⟩; have bb3 := (bb2).trans (hk3.mono (bb2).size); have xx3 := xx2.below hk3 xx2.lt; have xq3 := xx3.fst; have xr3 := xx3.snd; have ss3 := (ss2).keep hk3)
      | (go_at_call 18; refine (hc4 _ ?_).mono ?_; exact (ss3); rintro e v4 ⟨rfl, hk4⟩; have bb4 := (bb3).trans (hk4.mono (bb3).size); have xx4 := xx3.below hk4 xx3.lt; have xq4 := xx4.fst; have xr4 := xx4.snd; have ss4 := (ss3).keep hk4))
  all_goals go_wp2_with (first
    | (go_at_call 19; refine (hc5 _ ?_).mono ?_; exact ss4; rintro e v5 ⟨rfl, hk5⟩; have bb5 := bb4.trans (hk5.mono bb4.size); have ss5 := ss4.keep hk5)
    | (go_at_call 20; refine (hc6 _ ?_).mono ?_; exact ss5; rintro e v6 ⟨rfl, hk6⟩; have bb6 := bb5.trans (hk6.mono bb5.size); have ss6 := ss5.keep hk6)
    | (go_at_call 21; refine (hc7 _ ?_).mono ?_; exact ss6; rintro e v7 ⟨rfl, hk7⟩; have bb7 := bb6.trans (hk7.mono bb6.size); have ss7 := ss6.keep hk7)
    | (go_at_call 22; refine (hc8 _ ?_).mono ?_; exact ss7; rintro e v8 ⟨rfl, hk8⟩; have bb8 := bb7.trans (hk8.mono bb7.size); have ss8 := ss7.keep hk8))
  all_goals go_ret
  all_goals exact ⟨rfl, bb8⟩
end Go.Proofs.Yteohgmgfnmmiaaa.spansTell
