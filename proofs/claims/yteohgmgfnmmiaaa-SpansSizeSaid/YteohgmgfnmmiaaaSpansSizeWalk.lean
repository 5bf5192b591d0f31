/- The walk of the law SpansSize. -/
import Derived.Test.YteohgmgfnmmiaaaSpLaw
import Derived.Deep.RegionHeld3
namespace Go.Proofs.Yteohgmgfnmmiaaa.spansSize
open Go.RowKit
set_option linter.unusedVariables false

theorem ss_drew {w : World} {A : Option Addr} {n c : Nat} {l : List Sp} (h : Ss w A n c l) : Ss w.drew A n c l := h.keep (Below.refl _ _).drew

set_option maxRecDepth 100000 in
set_option maxHeartbeats 3000000 in
theorem walk (A : Option Addr) (n c : Nat) (l : List Sp) (a b : Int) (w : World) (hs : Ss w A n c l) (ha : W64 a) (hbw : W64 b) :
    Calls Try.prog 6 #[.slice A n c, .agg #[.int .i64 a, .int .i64 b]] w fun e w' => e = .returned (.bool true) ∧ Below w.heap.size w w' := by
  have hl := hs.rd.len
  have ha' := ha
  have hb' := hbw
  unfold W64 at ha' hb'
  by_cases hn : n ≤ 100
  case neg =>
    have hb := Below.refl w.heap.size w
    replace hs := hs.alloc (.cells #[.int .i64 a, .int .i64 b] 24)
    have hx := Boxed2.new w 24 (.int .i64 a) (.int .i64 b)
    replace hb := hb.alloc hb.size (.cells #[.int .i64 a, .int .i64 b] 24)
    go_enter Try.func6, Try.ntmps6
    have hc := awake_any (w.alloc (.cells #[.int .i64 a, .int .i64 b] 24))
    go_wp2_with fail
    refine hc.mono ?_
    rintro e w1 ⟨rfl, hb1⟩
    clear hc
    replace hb := hb.trans (hb1.mono hb.size)
    replace hs := hs.keep hb1
    replace hx := hx.below hb1 hx.lt
    have hxp1 := hx.fst
    have hxq1 := hx.snd
    clear hb1
    go_wp2_with fail
    go_ret
    exact ⟨rfl, hb⟩
  case pos =>
  by_cases hbt : 1099511627776 < b
  case pos =>
    have hb := Below.refl w.heap.size w
    replace hs := hs.alloc (.cells #[.int .i64 a, .int .i64 b] 24)
    have hx := Boxed2.new w 24 (.int .i64 a) (.int .i64 b)
    replace hb := hb.alloc hb.size (.cells #[.int .i64 a, .int .i64 b] 24)
    go_enter Try.func6, Try.ntmps6
    have hc := awake_any (w.alloc (.cells #[.int .i64 a, .int .i64 b] 24))
    go_wp2_with fail
    refine hc.mono ?_
    rintro e w1 ⟨rfl, hb1⟩
    clear hc
    replace hb := hb.trans (hb1.mono hb.size)
    replace hs := hs.keep hb1
    replace hx := hx.below hb1 hx.lt
    have hxp1 := hx.fst
    have hxq1 := hx.snd
    clear hb1
    go_wp2_with fail
    go_ret
    exact ⟨rfl, hb⟩
  case neg =>
  by_cases hok : (mayB l && vld a b) = true
  case neg =>
    have hok' : (mayB l && vld a b) = false := by simpa using hok
    have e1 := addR_bad (l := l) (s := (a, b)) hok'
    have e2 := cutR_bad (l := l) (s := (a, b)) hok'
    clear hok hok'
    have hb := Below.refl w.heap.size w
    replace hs := hs.alloc (.cells #[.int .i64 a, .int .i64 b] 24)
    have hx := Boxed2.new w 24 (.int .i64 a) (.int .i64 b)
    replace hb := hb.alloc hb.size (.cells #[.int .i64 a, .int .i64 b] 24)
    go_enter Try.func6, Try.ntmps6
    have hc := awake_any (w.alloc (.cells #[.int .i64 a, .int .i64 b] 24))
    go_wp2_with fail
    refine hc.mono ?_
    rintro e w1 ⟨rfl, hb1⟩
    clear hc
    replace hb := hb.trans (hb1.mono hb.size)
    replace hs := hs.keep hb1
    replace hx := hx.below hb1 hx.lt
    have hxp1 := hx.fst
    have hxq1 := hx.snd
    clear hb1
    have hc := add_any _ _ _ _ a b _ hs ha hbw
    rw [e1] at hc
    go_wp2_with fail
    refine hc.mono ?_
    rintro e w2 ⟨R2, n2, c2, rfl, sa, hb2⟩
    clear hc
    replace hb := hb.trans (hb2.mono hb.size)
    replace hs := hs.keep hb2
    replace hx := hx.below hb2 hx.lt
    have hxp2 := hx.fst
    have hxq2 := hx.snd
    clear hb2
    have hc := cut_any _ _ _ _ a b _ hs ha hbw
    rw [e2] at hc
    go_wp2_with fail
    refine hc.mono ?_
    rintro e w3 ⟨R3, n3, c3, rfl, sc, hb3⟩
    clear hc
    replace hb := hb.trans (hb3.mono hb.size)
    replace hs := hs.keep hb3
    replace hx := hx.below hb3 hx.lt
    have hxp3 := hx.fst
    have hxq3 := hx.snd
    replace sa := sa.keep hb3
    clear hb3
    go_wp2_with fail
    go_ret
    exact ⟨rfl, hb⟩
  case pos =>
  obtain ⟨hm, hv⟩ : mayB l = true ∧ vld a b = true := by simpa using hok
  clear hok
  have hva := vld_iff.1 hv
  have e1 := addR_ok (s := (a, b)) hm hv (by omega)
  have e2 := cutR_ok (s := (a, b)) hm hv (by omega)
  have m1 := ins_may (s := (a, b)) hm hv (by omega)
  have m2 := cut_may (s := (a, b)) hm hv (by omega)
  have z0 := sizeF_of hm
  have z1 := sizeF_of m1
  have z2 := sizeF_of m2
  have y1 := ins_size (s := (a, b)) (mayB_parts hm).2 hva.2.1
  have y2 := cutL_size (s := (a, b)) (mayB_parts hm).2 hva.2.1
  have o1 := ov_nonneg (a, b) l
  have o2 := ov_le (s := (a, b)) (mayB_parts hm).2
  have b0 := chain_bd (mayB_parts hm).2 (by omega)
  have t1 : hasB (ins l (a, b)) a b = true := by rw [hasB_of m1 hv, hasIn_iff]; exact ins_has l (a, b)
  have t2 := gap_has (mayB_parts hm).2 hva.2.1
  have t3 := gap_ge l a
  rw [← hasB_of hm hv] at t2
  have t4 : gapF l a = gapIn l a := gapF_of hm hva.1
  rw [← t4] at t2 t3
  clear t4 m1 m2
  obtain ⟨x, hx1⟩ : ∃ x, ins l (a, b) = x := ⟨_, rfl⟩
  obtain ⟨y, hy1⟩ : ∃ y, cutL l (a, b) = y := ⟨_, rfl⟩
  rw [hx1] at e1 z1 t1 y1
  rw [hy1] at e2 z2 y2
  clear hx1 hy1
  obtain ⟨N, hN⟩ : ∃ N, sizeF l = N := ⟨_, rfl⟩
  obtain ⟨O, hO⟩ : ∃ O, ov (a, b) l = O := ⟨_, rfl⟩
  obtain ⟨G, hG⟩ : ∃ G, gapF l a = G := ⟨_, rfl⟩
  rw [hN] at z0
  rw [hO] at y1 y2 o1 o2
  rw [hG] at t2 t3
  rw [← z0] at y1 y2 b0
  rw [y1] at z1
  rw [y2] at z2
  simp only at z1 z2 o2
  clear y1 y2 hO z0
  have b1 := b0.1
  have b2 := b0.2 (by omega)
  clear b0
  have p0 : 0 ≤ N ∧ N ≤ 4611686018427387905 := by omega
  have p1 : 0 ≤ O ∧ O ≤ b - a := by omega
  clear b1 b2 o1 o2
  have w1' : IntKind.i64.wrap (N - (N - O)) = O := by rw [IntKind.wrap_i64]; omega
  have w2' : IntKind.i64.wrap (b - a) = b - a := by rw [IntKind.wrap_i64]; omega
  have w3' : IntKind.i64.wrap (N + (b - a)) = N + (b - a) := by rw [IntKind.wrap_i64]; omega
  have w4' : IntKind.i64.wrap (N + (b - a) - O) = N + (b - a) - O := by rw [IntKind.wrap_i64]; omega
  have p2 : 0 ≤ O := by omega
  have p3 : O ≤ b - a := by omega
  by_cases q : b ≤ G
  · have t5 : hasB l a b = true := t2.1 q
    have q1 : decide (b ≤ G) = true := decide_eq_true q
    clear t2
    have hb := Below.refl w.heap.size w
    replace hs := hs.alloc (.cells #[.int .i64 a, .int .i64 b] 24)
    have hx := Boxed2.new w 24 (.int .i64 a) (.int .i64 b)
    replace hb := hb.alloc hb.size (.cells #[.int .i64 a, .int .i64 b] 24)
    go_enter Try.func6, Try.ntmps6
    have hc := awake_any (w.alloc (.cells #[.int .i64 a, .int .i64 b] 24))
    go_wp2_with fail
    refine hc.mono ?_
    rintro e w1 ⟨rfl, hb1⟩
    clear hc
    replace hb := hb.trans (hb1.mono hb.size)
    replace hs := hs.keep hb1
    replace hx := hx.below hb1 hx.lt
    have hxp1 := hx.fst
    have hxq1 := hx.snd
    clear hb1
    have hc := add_any _ _ _ _ a b _ hs ha hbw
    rw [e1] at hc
    go_wp2_with fail
    refine hc.mono ?_
    rintro e w2 ⟨R2, n2, c2, rfl, sa, hb2⟩
    clear hc
    replace hb := hb.trans (hb2.mono hb.size)
    replace hs := hs.keep hb2
    replace hx := hx.below hb2 hx.lt
    have hxp2 := hx.fst
    have hxq2 := hx.snd
    clear hb2
    have hc := cut_any _ _ _ _ a b _ hs ha hbw
    rw [e2] at hc
    go_wp2_with fail
    refine hc.mono ?_
    rintro e w3 ⟨R3, n3, c3, rfl, sc, hb3⟩
    clear hc
    replace hb := hb.trans (hb3.mono hb.size)
    replace hs := hs.keep hb3
    replace hx := hx.below hb3 hx.lt
    have hxp3 := hx.fst
    have hxq3 := hx.snd
    replace sa := sa.keep hb3
    clear hb3
    have hc := size_any _ _ _ _ _ hs
    rw [hN] at hc
    go_wp2_with fail
    refine hc.mono ?_
    rintro e w4 ⟨rfl, hb4⟩
    clear hc
    replace hb := hb.trans (hb4.mono hb.size)
    replace hs := hs.keep hb4
    replace hx := hx.below hb4 hx.lt
    have hxp4 := hx.fst
    have hxq4 := hx.snd
    replace sa := sa.keep hb4
    replace sc := sc.keep hb4
    clear hb4
    have hc := size_any _ _ _ _ _ sc
    rw [z2] at hc
    go_wp2_with fail
    refine hc.mono ?_
    rintro e w5 ⟨rfl, hb5⟩
    clear hc
    replace hb := hb.trans (hb5.mono hb.size)
    replace hs := hs.keep hb5
    replace hx := hx.below hb5 hx.lt
    have hxp5 := hx.fst
    have hxq5 := hx.snd
    replace sa := sa.keep hb5
    replace sc := sc.keep hb5
    clear hb5
    have hc := gap_any _ _ _ _ a _ hs
    rw [hG] at hc
    go_wp2_with fail
    refine hc.mono ?_
    rintro e w6 ⟨rfl, hb6⟩
    clear hc
    replace hb := hb.trans (hb6.mono hb.size)
    replace hs := hs.keep hb6
    replace hx := hx.below hb6 hx.lt
    have hxp6 := hx.fst
    have hxq6 := hx.snd
    replace sa := sa.keep hb6
    replace sc := sc.keep hb6
    clear hb6
    have hc1 := fun w (h : Ss w R2 n2 c2 x) => size_any _ _ _ _ w h
    rw [z1] at hc1
    have hc2 := fun w (h : Ss w R2 n2 c2 x) => has_any _ _ _ _ a b w h
    rw [t1] at hc2
    have hc3 := fun w (h : Ss w A n c l) => has_any _ _ _ _ a b w h
    rw [t5] at hc3
    go_wp2_with fail
    go_region_held3 (fun w' => w'.cell? ⟨w.heap.size, 0, none⟩ = some (.int .i64 a) ∧ w'.cell? ⟨w.heap.size, 1, none⟩ = some (.int .i64 b)) (first | exact ⟨hxp9, hxq9⟩ | exact ⟨hxp8, hxq8⟩ | exact ⟨hxp7, hxq7⟩ | go_keep)
      (first
        | (go_at_call 17; refine (hc1 _ ?_).mono ?_; exact (ss_drew sa); rintro e w7 ⟨rfl, hb7⟩; have hb71 := hb.drew.trans (hb7.mono hb.size); have hx7 := (hx.below ((Below.refl _ _).drew) hx.lt).below hb7 hx.lt; have hxp7 := hx7.fst; have hxq7 := hx7.snd; have sa7 := (ss_drew sa).keep hb7; have hs7 := (ss_drew hs).keep hb7)
        | (go_at_call_of 15 R2; refine (hc2 _ ?_).mono ?_; exact sa7; rintro e w8 ⟨rfl, hb8⟩; have hb81 := hb71.trans (hb8.mono hb71.size); have hx8 := hx7.below hb8 hx7.lt; have hxp8 := hx8.fst; have hxq8 := hx8.snd; have hs8 := hs7.keep hb8)
        | (go_at_call_of 15 A; refine (hc3 _ ?_).mono ?_; exact hs8; rintro e w9 ⟨rfl, hb9⟩; have hb91 := hb81.trans (hb9.mono hb81.size); have hx9 := hx8.below hb9 hx8.lt; have hxp9 := hx9.fst; have hxq9 := hx9.snd))
    all_goals go_wp2_with fail
    all_goals go_ret
    all_goals exact ⟨rfl, hb91⟩
  · have t5 : hasB l a b = false := by
      cases h : hasB l a b with
      | false => rfl
      | true => exact absurd (t2.2 h) q
    have q1 : decide (b ≤ G) = false := decide_eq_false q
    clear t2
    have hb := Below.refl w.heap.size w
    replace hs := hs.alloc (.cells #[.int .i64 a, .int .i64 b] 24)
    have hx := Boxed2.new w 24 (.int .i64 a) (.int .i64 b)
    replace hb := hb.alloc hb.size (.cells #[.int .i64 a, .int .i64 b] 24)
    go_enter Try.func6, Try.ntmps6
    have hc := awake_any (w.alloc (.cells #[.int .i64 a, .int .i64 b] 24))
    go_wp2_with fail
    refine hc.mono ?_
    rintro e w1 ⟨rfl, hb1⟩
    clear hc
    replace hb := hb.trans (hb1.mono hb.size)
    replace hs := hs.keep hb1
    replace hx := hx.below hb1 hx.lt
    have hxp1 := hx.fst
    have hxq1 := hx.snd
    clear hb1
    have hc := add_any _ _ _ _ a b _ hs ha hbw
    rw [e1] at hc
    go_wp2_with fail
    refine hc.mono ?_
    rintro e w2 ⟨R2, n2, c2, rfl, sa, hb2⟩
    clear hc
    replace hb := hb.trans (hb2.mono hb.size)
    replace hs := hs.keep hb2
    replace hx := hx.below hb2 hx.lt
    have hxp2 := hx.fst
    have hxq2 := hx.snd
    clear hb2
    have hc := cut_any _ _ _ _ a b _ hs ha hbw
    rw [e2] at hc
    go_wp2_with fail
    refine hc.mono ?_
    rintro e w3 ⟨R3, n3, c3, rfl, sc, hb3⟩
    clear hc
    replace hb := hb.trans (hb3.mono hb.size)
    replace hs := hs.keep hb3
    replace hx := hx.below hb3 hx.lt
    have hxp3 := hx.fst
    have hxq3 := hx.snd
    replace sa := sa.keep hb3
    clear hb3
    have hc := size_any _ _ _ _ _ hs
    rw [hN] at hc
    go_wp2_with fail
    refine hc.mono ?_
    rintro e w4 ⟨rfl, hb4⟩
    clear hc
    replace hb := hb.trans (hb4.mono hb.size)
    replace hs := hs.keep hb4
    replace hx := hx.below hb4 hx.lt
    have hxp4 := hx.fst
    have hxq4 := hx.snd
    replace sa := sa.keep hb4
    replace sc := sc.keep hb4
    clear hb4
    have hc := size_any _ _ _ _ _ sc
    rw [z2] at hc
    go_wp2_with fail
    refine hc.mono ?_
    rintro e w5 ⟨rfl, hb5⟩
    clear hc
    replace hb := hb.trans (hb5.mono hb.size)
    replace hs := hs.keep hb5
    replace hx := hx.below hb5 hx.lt
    have hxp5 := hx.fst
    have hxq5 := hx.snd
    replace sa := sa.keep hb5
    replace sc := sc.keep hb5
    clear hb5
    have hc := gap_any _ _ _ _ a _ hs
    rw [hG] at hc
    go_wp2_with fail
    refine hc.mono ?_
    rintro e w6 ⟨rfl, hb6⟩
    clear hc
    replace hb := hb.trans (hb6.mono hb.size)
    replace hs := hs.keep hb6
    replace hx := hx.below hb6 hx.lt
    have hxp6 := hx.fst
    have hxq6 := hx.snd
    replace sa := sa.keep hb6
    replace sc := sc.keep hb6
    clear hb6
    have hc1 := fun w (h : Ss w R2 n2 c2 x) => size_any _ _ _ _ w h
    rw [z1] at hc1
    have hc2 := fun w (h : Ss w R2 n2 c2 x) => has_any _ _ _ _ a b w h
    rw [t1] at hc2
    have hc3 := fun w (h : Ss w A n c l) => has_any _ _ _ _ a b w h
    rw [t5] at hc3
    go_wp2_with fail
    go_region_held3 (fun w' => w'.cell? ⟨w.heap.size, 0, none⟩ = some (.int .i64 a) ∧ w'.cell? ⟨w.heap.size, 1, none⟩ = some (.int .i64 b)) (first | exact ⟨hxp9, hxq9⟩ | exact ⟨hxp8, hxq8⟩ | exact ⟨hxp7, hxq7⟩ | go_keep)
      (first
        | (go_at_call 17; refine (hc1 _ ?_).mono ?_; exact (ss_drew sa); rintro e w7 ⟨rfl, hb7⟩; have hb71 := hb.drew.trans (hb7.mono hb.size); have hx7 := (hx.below ((Below.refl _ _).drew) hx.lt).below hb7 hx.lt; have hxp7 := hx7.fst; have hxq7 := hx7.snd; have sa7 := (ss_drew sa).keep hb7; have hs7 := (ss_drew hs).keep hb7)
        | (go_at_call_of 15 R2; refine (hc2 _ ?_).mono ?_; exact sa7; rintro e w8 ⟨rfl, hb8⟩; have hb81 := hb71.trans (hb8.mono hb71.size); have hx8 := hx7.below hb8 hx7.lt; have hxp8 := hx8.fst; have hxq8 := hx8.snd; have hs8 := hs7.keep hb8)
        | (go_at_call_of 15 A; refine (hc3 _ ?_).mono ?_; exact hs8; rintro e w9 ⟨rfl, hb9⟩; have hb91 := hb81.trans (hb9.mono hb81.size); have hx9 := hx8.below hb9 hx8.lt; have hxp9 := hx9.fst; have hxq9 := hx9.snd))
    all_goals go_wp2_with fail
    all_goals go_ret
    all_goals exact ⟨rfl, hb91⟩
end Go.Proofs.Yteohgmgfnmmiaaa.spansSize
