/- The walk of the law SpansApart. -/
import Derived.Test.YteohgmgfnmmiaaaSpLaw
import Derived.Deep.RegionHeld3
namespace Go.Proofs.Yteohgmgfnmmiaaa.spansApart
open Go.RowKit
set_option linter.unusedVariables false

theorem ss_drew {w : World} {A : Option Addr} {n c : Nat} {l : List Sp} (h : Ss w A n c l) : Ss w.drew A n c l := h.keep (Below.refl _ _).drew

set_option maxRecDepth 100000 in
set_option maxHeartbeats 8000000 in
theorem walk (A : Option Addr) (n c : Nat) (l : List Sp) (a b : Int) (w : World) (hs : Ss w A n c l) (ha : W64 a) (hbw : W64 b) :
    Calls Try.prog 8 #[.slice A n c, .agg #[.int .i64 a, .int .i64 b]] w fun e w' => e = .returned (.bool true) ∧ Below w.heap.size w w' := by
  have hl := hs.rd.len
  by_cases hn : n ≤ 100
  case neg =>
    have hb := Below.refl w.heap.size w
    replace hs := hs.alloc (.cells #[.int .i64 a, .int .i64 b] 24)
    have hx := Boxed2.new w 24 (.int .i64 a) (.int .i64 b)
    replace hb := hb.alloc hb.size (.cells #[.int .i64 a, .int .i64 b] 24)
    go_enter Try.func8, Try.ntmps8
    have hc := awake_any (w.alloc (.cells #[.int .i64 a, .int .i64 b] 24))
    go_wp2_with fail
    refine hc.mono ?_
    rintro e w1 ⟨rfl, hb1⟩
    clear hc
    replace hb := hb.trans (hb1.mono hb.size)
    replace hs := hs.keep hb1
    replace hx := hx.below hb1 hx.lt
    have hxp1 := hx.fst
    have hxq1 := hx.snd
    clear hb1
    go_wp2_with fail
    go_ret
    exact ⟨rfl, hb⟩
  case pos =>
  by_cases hok : (mayB l && vld a b) = true
  case neg =>
    have hok' : (mayB l && vld a b) = false := by simpa using hok
    have e1 := addR_bad (l := l) (s := (a, b)) hok'
    have e2 := cutR_bad (l := l) (s := (a, b)) hok'
    clear hok hok'
    have hb := Below.refl w.heap.size w
    replace hs := hs.alloc (.cells #[.int .i64 a, .int .i64 b] 24)
    have hx := Boxed2.new w 24 (.int .i64 a) (.int .i64 b)
    replace hb := hb.alloc hb.size (.cells #[.int .i64 a, .int .i64 b] 24)
    go_enter Try.func8, Try.ntmps8
    have hc := awake_any (w.alloc (.cells #[.int .i64 a, .int .i64 b] 24))
    go_wp2_with fail
    refine hc.mono ?_
    rintro e w1 ⟨rfl, hb1⟩
    clear hc
    replace hb := hb.trans (hb1.mono hb.size)
    replace hs := hs.keep hb1
    replace hx := hx.below hb1 hx.lt
    have hxp1 := hx.fst
    have hxq1 := hx.snd
    clear hb1
    have hc := cut_any _ _ _ _ a b _ hs ha hbw
    rw [e2] at hc
    go_wp2_with fail
    refine hc.mono ?_
    rintro e w2 ⟨R2, n2, c2, rfl, sc, hb2⟩
    clear hc
    replace hb := hb.trans (hb2.mono hb.size)
    replace hs := hs.keep hb2
    replace hx := hx.below hb2 hx.lt
    have hxp2 := hx.fst
    have hxq2 := hx.snd
    clear hb2
    obtain rfl : n2 = 0 := sc.rd.len.symm
    have hc := add_any _ _ _ _ a b _ hs ha hbw
    rw [e1] at hc
    go_wp2_with fail
    refine hc.mono ?_
    rintro e w3 ⟨R3, n3, c3, rfl, sa, hb3⟩
    clear hc
    replace hb := hb.trans (hb3.mono hb.size)
    replace hs := hs.keep hb3
    replace hx := hx.below hb3 hx.lt
    have hxp3 := hx.fst
    have hxq3 := hx.snd
    replace sc := sc.keep hb3
    clear hb3
    go_wp2_with fail
    go_ret
    exact ⟨rfl, hb⟩
  case pos =>
  obtain ⟨hm, hv⟩ : mayB l = true ∧ vld a b = true := by simpa using hok
  clear hok
  have e1 := addR_ok (s := (a, b)) hm hv (by omega)
  have e2 := cutR_ok (s := (a, b)) hm hv (by omega)
  have m1 := ins_may (s := (a, b)) hm hv (by omega)
  have m2 := cut_may (s := (a, b)) hm hv (by omega)
  have hyl : (cutL l (a, b)).length ≤ n + 1 := by have := cutL_len1 (s := (a, b)) (mayB_parts hm).2 (vld_iff.1 hv).2.1; omega
  have e3 := addR_ok (l := cutL l (a, b)) (s := (a, b)) m2 hv (by omega)
  have e4 := cutR_ok (l := cutL l (a, b)) (s := (a, b)) m2 hv (by omega)
  have f3 : ins (cutL l (a, b)) (a, b) = ins l (a, b) := may_eq (ins_may m2 hv (by omega)) m1 (fun f => by
    rw [ins_in' m2 hv, ins_in' hm hv, cut_in' hv]
    constructor
    · rintro (h | h)
      · exact .inl h.1
      · exact .inr h
    · intro h
      by_cases k : a ≤ f ∧ f < b
      · exact .inr k
      · exact .inl ⟨h.resolve_right k, k⟩)
  have f4 : cutL (cutL l (a, b)) (a, b) = cutL l (a, b) := may_eq (cut_may m2 hv (by omega)) m2 (fun f => by
    rw [cut_in' hv, cut_in' hv]
    exact ⟨fun h => h.1, fun h => ⟨h, h.2⟩⟩)
  rw [f3] at e3
  rw [f4] at e4
  have hva := vld_iff.1 hv
  have f5 : gapF (cutL l (a, b)) a = a := by
    rw [gapF_of m2 hva.1]
    exact gap_same (fun h => absurd (show a ≤ a ∧ a < b by omega) ((cut_in' hv a).1 h).2)
  have hs1 : IntKind.i64.wrap ((n : Int) + 1) = (n : Int) + 1 := by rw [IntKind.wrap_i64]; omega
  obtain ⟨x, hx1⟩ : ∃ x, ins l (a, b) = x := ⟨_, rfl⟩
  obtain ⟨y, hy1⟩ : ∃ y, cutL l (a, b) = y := ⟨_, rfl⟩
  rw [hx1] at e1 e3
  rw [hy1] at e2 e3 e4 f5 hyl
  clear hx1 hy1 m1 m2 f3 f4 hva
  have hb := Below.refl w.heap.size w
  replace hs := hs.alloc (.cells #[.int .i64 a, .int .i64 b] 24)
  have hx := Boxed2.new w 24 (.int .i64 a) (.int .i64 b)
  replace hb := hb.alloc hb.size (.cells #[.int .i64 a, .int .i64 b] 24)
  go_enter Try.func8, Try.ntmps8
  have hc := awake_any (w.alloc (.cells #[.int .i64 a, .int .i64 b] 24))
  go_wp2_with fail
  refine hc.mono ?_
  rintro e w1 ⟨rfl, hb1⟩
  clear hc
  replace hb := hb.trans (hb1.mono hb.size)
  replace hs := hs.keep hb1
  replace hx := hx.below hb1 hx.lt
  have hxp1 := hx.fst
  have hxq1 := hx.snd
  clear hb1
  have hc := cut_any _ _ _ _ a b _ hs ha hbw
  rw [e2] at hc
  go_wp2_with fail
  refine hc.mono ?_
  rintro e w2 ⟨R2, n2, c2, rfl, sc, hb2⟩
  clear hc
  replace hb := hb.trans (hb2.mono hb.size)
  replace hs := hs.keep hb2
  replace hx := hx.below hb2 hx.lt
  have hxp2 := hx.fst
  have hxq2 := hx.snd
  clear hb2
  have hn2 : n2 ≤ n + 1 := by rw [← sc.rd.len]; exact hyl
  have hn3 : (n2 : Int) ≤ (n : Int) + 1 := by omega
  clear hyl
  have hc := add_any _ _ _ _ a b _ hs ha hbw
  rw [e1] at hc
  go_wp2_with fail
  refine hc.mono ?_
  rintro e w3 ⟨R3, n3, c3, rfl, sa, hb3⟩
  clear hc
  replace hb := hb.trans (hb3.mono hb.size)
  replace hs := hs.keep hb3
  replace hx := hx.below hb3 hx.lt
  have hxp3 := hx.fst
  have hxq3 := hx.snd
  replace sc := sc.keep hb3
  clear hb3
  have hc := add_any _ _ _ _ a b _ sc ha hbw
  rw [e3] at hc
  go_wp2_with fail
  refine hc.mono ?_
  rintro e w4 ⟨R4, n4, c4, rfl, sb, hb4⟩
  clear hc
  replace hb := hb.trans (hb4.mono hb.size)
  replace hs := hs.keep hb4
  replace hx := hx.below hb4 hx.lt
  have hxp4 := hx.fst
  have hxq4 := hx.snd
  replace sc := sc.keep hb4
  replace sa := sa.keep hb4
  clear hb4
  have hc := cut_any _ _ _ _ a b _ sc ha hbw
  rw [e4] at hc
  go_wp2_with fail
  refine hc.mono ?_
  rintro e w5 ⟨R5, n5, c5, rfl, sd, hb5⟩
  clear hc
  replace hb := hb.trans (hb5.mono hb.size)
  replace hs := hs.keep hb5
  replace hx := hx.below hb5 hx.lt
  have hxp5 := hx.fst
  have hxq5 := hx.snd
  replace sc := sc.keep hb5
  replace sa := sa.keep hb5
  replace sb := sb.keep hb5
  clear hb5
  have hc := same_yes _ _ _ _ _ _ _ _ sb sa
  go_wp2_with fail
  refine hc.mono ?_
  rintro e w6 ⟨rfl, hb6⟩
  clear hc
  replace hb := hb.trans (hb6.mono hb.size)
  replace hs := hs.keep hb6
  replace hx := hx.below hb6 hx.lt
  have hxp6 := hx.fst
  have hxq6 := hx.snd
  replace sc := sc.keep hb6
  replace sa := sa.keep hb6
  replace sb := sb.keep hb6
  replace sd := sd.keep hb6
  clear hb6
  have hc := same_yes _ _ _ _ _ _ _ _ sd sc
  go_wp2_with fail
  refine hc.mono ?_
  rintro e w7 ⟨rfl, hb7⟩
  clear hc
  replace hb := hb.trans (hb7.mono hb.size)
  replace hs := hs.keep hb7
  replace hx := hx.below hb7 hx.lt
  have hxp7 := hx.fst
  have hxq7 := hx.snd
  replace sc := sc.keep hb7
  replace sa := sa.keep hb7
  replace sb := sb.keep hb7
  replace sd := sd.keep hb7
  clear hb7
  have hc := fun w (h : Ss w R2 n2 c2 y) => gap_any _ _ _ _ a w h
  rw [f5] at hc
  go_wp2_with fail
  go_region_held3 (fun w' => w'.cell? ⟨w.heap.size, 0, none⟩ = some (.int .i64 a) ∧ w'.cell? ⟨w.heap.size, 1, none⟩ = some (.int .i64 b)) (first | exact ⟨hxp8, hxq8⟩ | go_keep)
    (first | (go_at_call 19; refine (hc _ ?_).mono ?_; exact (ss_drew sc); rintro e w8 ⟨rfl, hb8⟩; replace hb := hb.drew.trans (hb8.mono hb.size); have hx8 := (hx.below ((Below.refl _ _).drew) hx.lt).below hb8 hx.lt; have hxp8 := hx8.fst; have hxq8 := hx8.snd))
  all_goals go_wp2_with fail
  all_goals go_ret
  all_goals exact ⟨rfl, hb⟩
end Go.Proofs.Yteohgmgfnmmiaaa.spansApart
