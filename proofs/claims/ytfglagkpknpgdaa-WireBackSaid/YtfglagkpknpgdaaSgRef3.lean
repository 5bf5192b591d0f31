/- The reference of package wire: Get as a contract of the call. -/
import Derived.Test.YtfglagkpknpgdaaSgRef2
import Derived.Test.YtfglagkpknpgdaaWi8
import Derived.Test.YtfglagkpknpgdaaTail2
import Derived.WalkKit
import Derived.WalkSpells
import Derived.WalkSmall
import Derived.Lib.Hide
import Derived.Below
import Derived.Outline
import Derived.Deep.LoopGhost
import Derived.Deep.DeepCutAuto
import Derived.OrdersHeld
namespace Go.Proofs.Ytfglagkpknpgdaa
open Go.RowKit
set_option linter.unusedVariables false
set_option linter.unusedSimpArgs false

def prsR (l : List Int) (k : Nat) : List Pr := (List.range k).map fun i => (nm l (32 + 8 * i) 4, nm l (36 + 8 * i) 4)
theorem prsR_snoc (l : List Int) (k : Nat) : prsR l (k + 1) = prsR l k ++ [(nm l (32 + 8 * k) 4, nm l (36 + 8 * k) 4)] := by
  unfold prsR; rw [List.range_succ, List.map_append]; rfl
theorem Gotp.under {w w' : World} {base e : Nat} {v : Value} {n : Nat} {l : List Pr} (h : Gotp w base e v n l) (hb : Below w.heap.size w w') : Gotp w' base e v n l := by
  refine ⟨⟨h.row.1, ?_⟩, h.wide⟩
  rcases h.row.2 with h2 | ⟨g, cap, cur, hv, hg, hh, r⟩
  · exact Or.inl h2
  · exact Or.inr ⟨g, cap, cur, hv, hg, (hb.block g (Array.getElem?_eq_some_iff.1 hh).1).trans hh, r⟩
theorem rnum_b (A : Option Addr) (n c k j : Nat) (l : List Int) (w : World) (hr : Rd w A n l) (hn : n ≤ 1000000) (hkj : k + j ≤ n) (hj : j ≤ 4) :
    Calls Try.prog 27 #[.slice A n c, .int .i64 (k : Int), .int .i64 (j : Int)] w fun e w' => e = .returned (.int .i64 (nm l k j)) ∧ Below w.heap.size w w' :=
  (rnum_any A n c k j l w hr hn hkj hj).mono fun e w' ⟨h1, h2⟩ => ⟨h1, by rw [← h2]; exact Below.refl _ _⟩

set_option maxRecDepth 100000 in
set_option maxHeartbeats 8000000 in
theorem rsget_any (A : Option Addr) (n c : Nat) (l : List Int) (w : World) (hs : Sl w A n c l) (hn : n ≤ 1000000) :
    Calls Try.prog 16 #[.slice A n c] w fun e w' => TellG w w' e (getR l) := by
  unfold TellG
  have hl := hs.rd.len
  obtain ⟨Z, hZ⟩ : ∃ Z, w.heap.size = Z := ⟨_, rfl⟩
  rw [hZ]
  obtain ⟨w0, hw0⟩ : ∃ w0, (w.alloc (.cells #[.int .i64 0, .int .i64 0, .bool false, .bool false, .int .u32 0, .int .u32 0, .int .u32 0, .int .u32 0, .int .i64 0, .int .i64 0, .int .u32 0, .int .u32 0, .int .u32 0, .slice none 0 0, .slice none 0 0] 26)).alloc (.cells #[.int .i64 0, .int .i64 0, .bool false, .bool false, .int .u32 0, .int .u32 0, .int .u32 0, .int .u32 0, .int .i64 0, .int .i64 0, .int .u32 0, .int .u32 0, .int .u32 0, .slice none 0 0, .slice none 0 0] 26) = w0 := ⟨_, rfl⟩
  have e0 : Bx w0 Z 26 zeroSeg := by rw [← hw0, ← hZ]; exact (Bx.new w 26 zeroSeg).alloc _
  have y0 : Bx w0 (Z + 1) 26 zeroSeg := by
    rw [← hw0, ← hZ]
    have := Bx.new (w.alloc (.cells #[.int .i64 0, .int .i64 0, .bool false, .bool false, .int .u32 0, .int .u32 0, .int .u32 0, .int .u32 0, .int .i64 0, .int .i64 0, .int .u32 0, .int .u32 0, .int .u32 0, .slice none 0 0, .slice none 0 0] 26)) 26 zeroSeg
    have hsz : (w.alloc (.cells #[.int .i64 0, .int .i64 0, .bool false, .bool false, .int .u32 0, .int .u32 0, .int .u32 0, .int .u32 0, .int .i64 0, .int .i64 0, .int .u32 0, .int .u32 0, .int .u32 0, .slice none 0 0, .slice none 0 0] 26)).heap.size = w.heap.size + 1 := by simp
    rw [hsz] at this; exact this
  have b0 : Below Z w w0 := by rw [← hw0]; exact ((Below.refl _ _).alloc (by omega) _).alloc (by simp; omega) _
  have s0 : Sl w0 A n c l := hs.keep (by rw [hZ]; exact b0)
  have HW0 := Lib.hid hw0; clear hw0
  by_cases h4 : n < 4
  · have hx := getR_short (l := l) (by omega)
    have HX := Lib.hid hx; clear hx
    go_enter Try.func16, Try.ntmps16
    go_wp2_with fail
    rw [HW0.out]
    refine (ropen_short A n c _ h4).mono ?_
    rintro e w1 ⟨rfl, rfl⟩
    go_wp2_with (first | (refine Bx.stepLoad rfl (.tmp 4) rfl rfl y0 rfl ?_) | (refine Bx.stepStore rfl (.tmp 2) (.tmp 19) rfl rfl zeroSeg rfl e0 rfl rfl rfl ?_))
    refine get_end (by rfl) (by rfl) (by rfl) (e0.put zeroSeg) rfl rfl ?_
    rw [HX.out]
    exact ⟨none, 0, 0, none, 0, 0, rfl, Sr.none _, Sl.nil0 _, b0.grown (grown_put _ Z zeroSeg.toArray) (Nat.le_of_lt e0.lt) (fun k hk => by cases hk; omega)⟩
  obtain ⟨M, rfl⟩ : ∃ M, n = M + 4 := ⟨n - 4, by omega⟩
  obtain ⟨C, rfl⟩ := cap4 hs
  by_cases hne : num4 l = adler (l.drop 4)
  case neg =>
    have hx := getR_bad hl hne
    have HX := Lib.hid hx; clear hx
    go_enter Try.func16, Try.ntmps16
    go_wp2_with fail
    rw [HW0.out]
    refine (ropen_bad A M C l _ s0 (by omega) hne).mono ?_
    rintro e w1 ⟨rfl, hb1⟩
    have e1 := e0.kept hb1
    have y1 := y0.kept hb1
    have b1 := b0.trans (hb1.mono (Nat.le_of_lt e0.lt))
    go_wp2_with (first | (refine Bx.stepLoad rfl (.tmp 4) rfl rfl y1 rfl ?_) | (refine Bx.stepStore rfl (.tmp 2) (.tmp 19) rfl rfl zeroSeg rfl e1 rfl rfl rfl ?_))
    refine get_end (by rfl) (by rfl) (by rfl) (e1.put zeroSeg) rfl rfl ?_
    rw [HX.out]
    exact ⟨none, 0, 0, none, 0, 0, rfl, Sr.none _, Sl.nil0 _, b1.grown (grown_put _ Z zeroSeg.toArray) (Nat.le_of_lt e1.lt) (fun k hk => by cases hk; omega)⟩
  case pos =>
  have hx := getR_ok hl hs.rd.small hne
  have HX := Lib.hid hx; clear hx
  go_enter Try.func16, Try.ntmps16
  go_wp2_with fail
  rw [HW0.out]
  clear HW0
  refine (ropen_ok A M C l _ s0 (by omega) hne).mono ?_
  rintro e w1 ⟨R, cq, rfl, s1, hb1⟩
  have e1 := e0.kept hb1
  have y1 := y0.kept hb1
  have b1 := b0.trans (hb1.mono (Nat.le_of_lt e0.lt))
  have l1 := s1.rd.len
  obtain ⟨y, hy⟩ : ∃ y, l.drop 4 = y := ⟨_, rfl⟩
  rw [hy] at s1 l1
  have HXY : getR l = getS y := by rw [HX.out, hy]
  have HG := Lib.hid HXY
  clear hy hne HXY HX hs s0 e0 y0 b0 hb1 hl
  by_cases h32 : M < 32
  · have hx := getS_no l1 (by omega)
    have HX2 := Lib.hid hx; clear hx
    go_wp2_with (first | (refine Bx.stepLoad rfl (.tmp 4) rfl rfl y1 rfl ?_) | (refine Bx.stepStore rfl (.tmp 2) (.tmp 24) rfl rfl zeroSeg rfl e1 rfl rfl rfl ?_))
    refine get_end (by rfl) (by rfl) (by rfl) (e1.put zeroSeg) rfl rfl ?_
    rw [HG.out, HX2.out]
    exact ⟨none, 0, 0, none, 0, 0, rfl, Sr.none _, Sl.nil0 _, b1.grown (grown_put _ Z zeroSeg.toArray) (Nat.le_of_lt e1.lt) (fun k hk => by cases hk; omega)⟩
  obtain ⟨br, orr, rfl, hbl, hc⟩ := s1.rd.spot (by omega)
  have c31 := hc.out 31 (by omega)
  have SM := Lib.hid s1.rd.small
  have hb31 := byt_bd SM.out 31
  obtain ⟨mm, hmm⟩ : ∃ mm : Nat, many y = mm := ⟨_, rfl⟩
  have h31 : byt y 31 = (mm : Int) := by rw [← hmm]; unfold many; omega
  have hmm2 : mm < 256 := by omega
  rw [h31] at c31
  clear h31 hb31
  have HM := Lib.hid hmm; clear hmm
  by_cases h8 : M < 32 + 8 * mm
  · have hx := getS_no l1 (by rw [HM.out]; omega)
    have HX2 := Lib.hid hx; clear hx
    have h8' : (M : Int) < 32 + 8 * (mm : Int) := by omega
    go_wp2_with (first | (refine Bx.stepLoad rfl (.tmp 4) rfl rfl y1 rfl ?_) | (refine Bx.stepStore rfl (.tmp 2) (.tmp 35) rfl rfl zeroSeg rfl e1 rfl rfl rfl ?_))
    refine get_end (by rfl) (by rfl) (by rfl) (e1.put zeroSeg) rfl rfl ?_
    rw [HG.out, HX2.out]
    exact ⟨none, 0, 0, none, 0, 0, rfl, Sr.none _, Sl.nil0 _, b1.grown (grown_put _ Z zeroSeg.toArray) (Nat.le_of_lt e1.lt) (fun k hk => by cases hk; omega)⟩
  have h8' : ¬ ((M : Int) < 32 + 8 * (mm : Int)) := by omega
  have c0 := hc.out 0 (by omega)
  have c1 := hc.out 1 (by omega)
  rw [Nat.add_zero] at c0
  have hb0 := byt_bd SM.out 0
  have hb1 := byt_bd SM.out 1
  obtain ⟨x0, hx0⟩ : ∃ x, byt y 0 = x := ⟨_, rfl⟩
  obtain ⟨x1, hx1⟩ : ∃ x, byt y 1 = x := ⟨_, rfl⟩
  rw [hx0] at c0 hb0
  rw [hx1] at c1 hb1
  obtain ⟨p0, q0⟩ := hb0
  obtain ⟨p1, q1⟩ := hb1
  have H0 := Lib.hid hx0; have H1 := Lib.hid hx1; clear hx0 hx1 hc
  have M0 : 0 < M := by omega
  have M1 : 1 < M := by omega
  have M1i : (1 : Int) < (M : Int) := by omega
  have hn2 := nm_small SM.out 2 (show 2 ≤ 4 by omega)
  obtain ⟨xw, hxw⟩ : ∃ x, nm y 2 2 = x := ⟨_, rfl⟩
  rw [hxw] at hn2
  obtain ⟨nw0, nw1⟩ := hn2
  have HXW := Lib.hid hxw; clear hxw
  go_upto_region 10 with fail
  clear c31
  go_cut [8] (fun s8 wx => ∃ V, s8 = .pointer (some ⟨V, 0, none⟩) ∧ w1.heap.size ≤ V ∧ Bx wx V 26 [.int .i64 (x0 / 16), .int .i64 (x0 % 16), .bool false, .bool false, .int .u32 0, .int .u32 0, .int .u32 0, .int .u32 0, .int .i64 xw, .int .i64 (x1 / 4), .int .u32 0, .int .u32 0, .int .u32 0, .slice none 0 0, .slice none 0 0] ∧ Below w1.heap.size w1 wx)
  case first =>
    have a1 : IntKind.i64.wrap x0 = x0 := by rw [IntKind.wrap_i64]; omega
    have a2 : x0.tdiv 16 = x0 / 16 := Int.tdiv_eq_ediv_of_nonneg p0
    have a3 : IntKind.i64.wrap (x0 / 16) = x0 / 16 := by rw [IntKind.wrap_i64]; omega
    have a4 : x0.tmod 16 = x0 % 16 := Int.tmod_eq_emod_of_nonneg p0
    have a5 : IntKind.i64.wrap x1 = x1 := by rw [IntKind.wrap_i64]; omega
    have a6 : x1.tdiv 4 = x1 / 4 := Int.tdiv_eq_ediv_of_nonneg p1
    have a7 : IntKind.i64.wrap (x1 / 4) = x1 / 4 := by rw [IntKind.wrap_i64]; omega
    have d1 : Below w1.heap.size w1 w1.drew := (Below.refl _ _).drew
    refine wp_region_tail 19 20 (fun (W : World) => W.cell? ⟨br, orr, none⟩ = some (Value.int .u8 x0) ∧ W.cell? ⟨br, orr + 1, none⟩ = some (Value.int .u8 x1)) (by kernel_rfl) (by rfl) (by decide) ?_
    have HS : ((fun (W : World) => W.cell? ⟨br, orr, none⟩ = some (Value.int .u8 x0) ∧ W.cell? ⟨br, orr + 1, none⟩ = some (Value.int .u8 x1))) _ := ⟨(d1.cell (p := ⟨br, orr, none⟩) hbl).trans c0, (d1.cell (p := ⟨br, orr + 1, none⟩) hbl).trans c1⟩
    refine wpAnyT_take (i := 0) (v := ?vv1) rfl (by kernel_rfl) (fun _ _ _ h => h) (Or.inl ⟨by rfl, fun w hSw => ?yy1⟩) HS ?rr1
    case yy1 =>
      (try dsimp only at hSw); go_simp
      try with_reducible rfl
    try simp only [Act.put, List.setIfInBounds_toArray, List.set_cons_zero, List.set_cons_succ]
    refine wpAnyT_take (i := 1) (v := ?vv2) rfl (by kernel_rfl) (fun _ _ _ h => h) (Or.inl ⟨by rfl, fun w hSw => ?yy2⟩) HS ?rr2
    case yy2 =>
      (try dsimp only at hSw); go_simp
      try with_reducible rfl
    try simp only [Act.put, List.setIfInBounds_toArray, List.set_cons_zero, List.set_cons_succ]
    refine wpAnyT_take (i := 2) (v := ?vv3) rfl (by kernel_rfl) (fun _ _ _ h => h) (Or.inl ⟨by rfl, fun w hSw => ?yy3⟩) HS ?rr3
    case yy3 =>
      (try dsimp only at hSw); go_simp
      try with_reducible rfl
    try simp only [Act.put, List.setIfInBounds_toArray, List.set_cons_zero, List.set_cons_succ]
    refine wpAnyT_take (i := 3) (v := .int .i64 x0) rfl (by kernel_rfl) (fun _ _ _ h => h) (Or.inl ⟨by rfl, fun w hSw => ?_⟩) HS ?_
    · (try dsimp only at hSw); go_simp
      try simp only [a1, a2, a3, a4, a5, a6, a7]
    try simp only [Act.put, List.setIfInBounds_toArray, List.set_cons_zero, List.set_cons_succ]
    refine wpAnyT_take (i := 4) (v := .int .i64 (x0 / 16)) rfl (by kernel_rfl) (fun _ _ _ h => h) (Or.inl ⟨by rfl, fun w hSw => ?_⟩) HS ?_
    · (try dsimp only at hSw); go_simp
      try simp only [a1, a2, a3, a4, a5, a6, a7]
    try simp only [Act.put, List.setIfInBounds_toArray, List.set_cons_zero, List.set_cons_succ]
    refine wpAnyT_take (i := 5) (v := ?vv4) rfl (by kernel_rfl) (fun _ _ _ h => h) (Or.inl ⟨by rfl, fun w hSw => ?yy4⟩) HS ?rr4
    case yy4 =>
      (try dsimp only at hSw); go_simp
      try with_reducible rfl
    try simp only [Act.put, List.setIfInBounds_toArray, List.set_cons_zero, List.set_cons_succ]
    refine wpAnyT_take (i := 6) (v := ?vv5) rfl (by kernel_rfl) (fun _ _ _ h => h) (Or.inl ⟨by rfl, fun w hSw => ?yy5⟩) HS ?rr5
    case yy5 =>
      (try dsimp only at hSw); go_simp
      try with_reducible rfl
    try simp only [Act.put, List.setIfInBounds_toArray, List.set_cons_zero, List.set_cons_succ]
    refine wpAnyT_take (i := 7) (v := ?vv6) rfl (by kernel_rfl) (fun _ _ _ h => h) (Or.inl ⟨by rfl, fun w hSw => ?yy6⟩) HS ?rr6
    case yy6 =>
      (try dsimp only at hSw); go_simp
      try with_reducible rfl
    try simp only [Act.put, List.setIfInBounds_toArray, List.set_cons_zero, List.set_cons_succ]
    refine wpAnyT_take (i := 8) (v := .int .i64 x0) rfl (by kernel_rfl) (fun _ _ _ h => h) (Or.inl ⟨by rfl, fun w hSw => ?_⟩) HS ?_
    · (try dsimp only at hSw); go_simp
      try simp only [a1, a2, a3, a4, a5, a6, a7]
    try simp only [Act.put, List.setIfInBounds_toArray, List.set_cons_zero, List.set_cons_succ]
    refine wpAnyT_take (i := 9) (v := .int .i64 (x0 % 16)) rfl (by kernel_rfl) (fun _ _ _ h => h) (Or.inl ⟨by rfl, fun w hSw => ?_⟩) HS ?_
    · (try dsimp only at hSw); go_simp
      try simp only [a1, a2, a3, a4, a5, a6, a7]
    try simp only [Act.put, List.setIfInBounds_toArray, List.set_cons_zero, List.set_cons_succ]
    refine wpAnyT_take (i := 10) (v := ?vv7) rfl (by kernel_rfl) (fun _ _ _ h => h) (Or.inl ⟨by rfl, fun w hSw => ?yy7⟩) HS ?rr7
    case yy7 =>
      (try dsimp only at hSw); go_simp
      try with_reducible rfl
    try simp only [Act.put, List.setIfInBounds_toArray, List.set_cons_zero, List.set_cons_succ]
    refine wpAnyT_take (i := 12) (v := ?vv8) rfl (by kernel_rfl) (fun _ _ _ h => h) (Or.inl ⟨by rfl, fun w hSw => ?yy8⟩) HS ?rr8
    case yy8 =>
      (try dsimp only at hSw); go_simp
      try with_reducible rfl
    try simp only [Act.put, List.setIfInBounds_toArray, List.set_cons_zero, List.set_cons_succ]
    refine wpAnyT_take (i := 13) (v := ?vv9) rfl (by kernel_rfl) (fun _ _ _ h => h) (Or.inl ⟨by rfl, fun w hSw => ?yy9⟩) HS ?rr9
    case yy9 =>
      (try dsimp only at hSw); go_simp
      try with_reducible rfl
    try simp only [Act.put, List.setIfInBounds_toArray, List.set_cons_zero, List.set_cons_succ]
    refine wpAnyT_take (i := 14) (v := ?vv10) rfl (by kernel_rfl) (fun _ _ _ h => h) (Or.inl ⟨by rfl, fun w hSw => ?yy10⟩) HS ?rr10
    case yy10 =>
      (try dsimp only at hSw); go_simp
      try with_reducible rfl
    try simp only [Act.put, List.setIfInBounds_toArray, List.set_cons_zero, List.set_cons_succ]
    refine wpAnyT_take (i := 15) (v := .int .i64 x1) rfl (by kernel_rfl) (fun _ _ _ h => h) (Or.inl ⟨by rfl, fun w hSw => ?_⟩) HS ?_
    · (try dsimp only at hSw); go_simp
      try simp only [a1, a2, a3, a4, a5, a6, a7]
    try simp only [Act.put, List.setIfInBounds_toArray, List.set_cons_zero, List.set_cons_succ]
    refine wpAnyT_take (i := 16) (v := .int .i64 (x1 / 4)) rfl (by kernel_rfl) (fun _ _ _ h => h) (Or.inl ⟨by rfl, fun w hSw => ?_⟩) HS ?_
    · (try dsimp only at hSw); go_simp
      try simp only [a1, a2, a3, a4, a5, a6, a7]
    try simp only [Act.put, List.setIfInBounds_toArray, List.set_cons_zero, List.set_cons_succ]
    refine wpAnyT_two (k1 := 11) (k2 := 18) rfl rfl (by kernel_rfl) (by decide) (by decide) (fun K hK => ?_) (fun K hK => ?_)
    · go_simp
      refine (rnum_b (some ⟨br, orr, none⟩) M cq 2 2 y _ (s1.rd.keep d1) (by omega) (by omega) (by omega)).mono ?_
      rintro e w2 ⟨rfl, hb2⟩
      rw [HXW.out]
      have b2 := d1.trans (hb2.mono (by simp))
      have HS : ((fun (W : World) => W.cell? ⟨br, orr, none⟩ = some (Value.int .u8 x0) ∧ W.cell? ⟨br, orr + 1, none⟩ = some (Value.int .u8 x1))) _ := ⟨(b2.cell (p := ⟨br, orr, none⟩) hbl).trans c0, (b2.cell (p := ⟨br, orr + 1, none⟩) hbl).trans c1⟩
      refine hK _ _ HS ?_
      clear hK K
      try simp only [Act.put, List.setIfInBounds_toArray, List.set_cons_zero, List.set_cons_succ]
      refine wpAnyT_take (i := 17) (v := ?vv11) rfl (by kernel_rfl) (fun _ _ _ h => h) (Or.inl ⟨by rfl, fun w hSw => ?yy11⟩) HS ?rr11
      case yy11 =>
        (try dsimp only at hSw); go_simp
        try with_reducible rfl
      try simp only [Act.put, List.setIfInBounds_toArray, List.set_cons_zero, List.set_cons_succ]
      have b3 := b2.alloc b2.size (.cells #[.int .i64 0, .int .i64 0, .bool false, .bool false, .int .u32 0, .int .u32 0, .int .u32 0, .int .u32 0, .int .i64 0, .int .i64 0, .int .u32 0, .int .u32 0, .int .u32 0, .slice none 0 0, .slice none 0 0] 26)
      refine wpAnyT_one (k := 18) rfl (by kernel_rfl) (by decide) (fun K hK => ?_)
      go_simp
      skip
      have HS : ((fun (W : World) => W.cell? ⟨br, orr, none⟩ = some (Value.int .u8 x0) ∧ W.cell? ⟨br, orr + 1, none⟩ = some (Value.int .u8 x1))) _ := ⟨(b3.cell (p := ⟨br, orr, none⟩) hbl).trans c0, (b3.cell (p := ⟨br, orr + 1, none⟩) hbl).trans c1⟩
      refine hK _ _ HS ?_
      clear hK K
      try simp only [Act.put, List.setIfInBounds_toArray, List.set_cons_zero, List.set_cons_succ]
      refine ⟨by kernel_rfl, ?_⟩
      simp only [List.drop_succ_cons, List.drop_zero]
      go_wp2_with fail
      go_meet
      case rel => exact ⟨_, rfl, b2.size, Bx.new w2 26 [.int .i64 (x0 / 16), .int .i64 (x0 % 16), .bool false, .bool false, .int .u32 0, .int .u32 0, .int .u32 0, .int .u32 0, .int .i64 xw, .int .i64 (x1 / 4), .int .u32 0, .int .u32 0, .int .u32 0, .slice none 0 0, .slice none 0 0], b2.alloc b2.size (.cells #[.int .i64 (x0 / 16), .int .i64 (x0 % 16), .bool false, .bool false, .int .u32 0, .int .u32 0, .int .u32 0, .int .u32 0, .int .i64 xw, .int .i64 (x1 / 4), .int .u32 0, .int .u32 0, .int .u32 0, .slice none 0 0, .slice none 0 0] 26)⟩
    · go_simp
      have b2 := d1.alloc (by simp) (.cells #[.int .i64 0, .int .i64 0, .bool false, .bool false, .int .u32 0, .int .u32 0, .int .u32 0, .int .u32 0, .int .i64 0, .int .i64 0, .int .u32 0, .int .u32 0, .int .u32 0, .slice none 0 0, .slice none 0 0] 26)
      have z2 := Bx.new w1.drew 26 [.int .i64 0, .int .i64 0, .bool false, .bool false, .int .u32 0, .int .u32 0, .int .u32 0, .int .u32 0, .int .i64 0, .int .i64 0, .int .u32 0, .int .u32 0, .int .u32 0, .slice none 0 0, .slice none 0 0]
      have HS : ((fun (W : World) => W.cell? ⟨br, orr, none⟩ = some (Value.int .u8 x0) ∧ W.cell? ⟨br, orr + 1, none⟩ = some (Value.int .u8 x1))) _ := ⟨(b2.cell (p := ⟨br, orr, none⟩) hbl).trans c0, (b2.cell (p := ⟨br, orr + 1, none⟩) hbl).trans c1⟩
      refine hK _ _ HS ?_
      clear hK K
      try simp only [Act.put, List.setIfInBounds_toArray, List.set_cons_zero, List.set_cons_succ]
      refine wpAnyT_one (k := 11) rfl (by kernel_rfl) (by decide) (fun K hK => ?_)
      go_simp
      refine (rnum_b (some ⟨br, orr, none⟩) M cq 2 2 y _ (s1.rd.keep b2) (by omega) (by omega) (by omega)).mono ?_
      rintro e w3 ⟨rfl, hb3⟩
      rw [HXW.out]
      have b3 := b2.trans (hb3.mono b2.size)
      have z3 : Bx w3 w1.heap.size 26 [.int .i64 0, .int .i64 0, .bool false, .bool false, .int .u32 0, .int .u32 0, .int .u32 0, .int .u32 0, .int .i64 0, .int .i64 0, .int .u32 0, .int .u32 0, .int .u32 0, .slice none 0 0, .slice none 0 0] := z2.kept hb3
      have HS : ((fun (W : World) => W.cell? ⟨br, orr, none⟩ = some (Value.int .u8 x0) ∧ W.cell? ⟨br, orr + 1, none⟩ = some (Value.int .u8 x1))) _ := ⟨(b3.cell (p := ⟨br, orr, none⟩) hbl).trans c0, (b3.cell (p := ⟨br, orr + 1, none⟩) hbl).trans c1⟩
      refine hK _ _ HS ?_
      clear hK K
      try simp only [Act.put, List.setIfInBounds_toArray, List.set_cons_zero, List.set_cons_succ]
      refine wpAnyT_take (i := 17) (v := ?vv12) rfl (by kernel_rfl) (fun _ _ _ h => h) (Or.inl ⟨by rfl, fun w hSw => ?yy12⟩) HS ?rr12
      case yy12 =>
        (try dsimp only at hSw); go_simp
        try with_reducible rfl
      try simp only [Act.put, List.setIfInBounds_toArray, List.set_cons_zero, List.set_cons_succ]
      refine ⟨by kernel_rfl, ?_⟩
      simp only [List.drop_succ_cons, List.drop_zero]
      go_wp2_with (refine Bx.stepStore rfl (.tmp 8) (.tmp 53) rfl rfl [.int .i64 (x0 / 16), .int .i64 (x0 % 16), .bool false, .bool false, .int .u32 0, .int .u32 0, .int .u32 0, .int .u32 0, .int .i64 xw, .int .i64 (x1 / 4), .int .u32 0, .int .u32 0, .int .u32 0, .slice none 0 0, .slice none 0 0] rfl z3 rfl rfl rfl ?_)
      go_meet
      case rel => exact ⟨_, rfl, by first | exact b3.size | exact Nat.le_refl _, z3.put _, b3.grown (grown_put _ _ _) b3.size (fun k hk => by cases hk; simp)⟩

  case rest =>
  obtain ⟨V, rfl, hV, v2, bv⟩ := hcut
  rename World => w2
  have e2 := e1.kept bv
  have y2 := y1.kept bv
  have b2 := b1.trans (bv.mono (Nat.le_of_lt e1.lt))
  have su2 : Su w2 V (some ⟨br, orr, none⟩) M cq y := ⟨s1.keep bv, fun _ b o e => by cases e; omega⟩
  have c1 := (bv.cell (p := ⟨br, orr + 1, none⟩) hbl).trans c1
  have hZV : Z + 1 < V := by have := y1.lt; omega
  have hZV0 : Z ≠ V := by omega
  have hZV1 : Z + 1 ≠ V := by omega
  have hbV : br < V := by omega
  clear e1 y1 b1 s1 bv c0
  have nn1 : (x1 % 2 == 1) = decide (x1 % 2 = 1) := rfl
  have nn2 : (x1 / 2 % 2 == 1) = decide (x1 / 2 % 2 = 1) := rfl
  obtain ⟨f1, hf1⟩ : ∃ f1, decide (x1 % 2 = 1) = f1 := ⟨_, rfl⟩
  obtain ⟨f2, hf2⟩ : ∃ f2, decide (x1 / 2 % 2 = 1) = f2 := ⟨_, rfl⟩
  rw [hf1] at nn1
  rw [hf2] at nn2
  have HF1 := Lib.hid hf1; have HF2 := Lib.hid hf2
  have zf2 := v2.free 2; have zc2 := v2.cell 2 rfl; have zf3 := v2.free 3; have zc3 := v2.cell 3 rfl
  have e3 := ((e2.far (p := ⟨V, 2, none⟩) hZV0 (.bool f1)).far (p := ⟨V, 3, none⟩) hZV0 (.bool f2))
  have y3 := ((y2.far (p := ⟨V, 2, none⟩) hZV1 (.bool f1)).far (p := ⟨V, 3, none⟩) hZV1 (.bool f2))
  have v3 := ((v2.set 2 (.bool f1)).set 3 (.bool f2))
  have b3 := ((b2.setCell (p := ⟨V, 2, none⟩) (by simp; omega) (.bool f1)).setCell (p := ⟨V, 3, none⟩) (by simp; omega) (.bool f2))
  have su3 := ((su2.grown (grown_set _ ⟨V, 2, none⟩ (.bool f1)) (fun k hk => by cases hk; exact Nat.le_refl _)).grown (grown_set _ ⟨V, 3, none⟩ (.bool f2)) (fun k hk => by cases hk; exact Nat.le_refl _))
  simp only [List.set_cons_zero, List.set_cons_succ] at v3
  have c1b : (w2.setCell ⟨V, 2, none⟩ (.bool f1)).cell? ⟨br, orr + 1, none⟩ = some (.int .u8 x1) := (World.cell?_of_block (Below.heap_setCell _ _ _ br (show br ≠ V by omega))).trans c1
  go_wp2_with fail
  clear nn1 nn2 hf1 hf2 zf2 zc2 zf3 zc3 c1 c1b e2 y2 v2 b2 su2
  refine (rnum_b (some ⟨br, orr, none⟩) M cq 4 4 y _ su3.sl.rd (by omega) (by omega) (by omega)).mono ?_
  rintro e w4 ⟨rfl, hb4⟩
  have u4 := nm_small SM.out 4 (show 4 ≤ 4 by omega)
  obtain ⟨sq, hsq⟩ : ∃ x, nm y 4 4 = x := ⟨_, rfl⟩
  rw [hsq] at u4 ⊢
  obtain ⟨u4a, u4b⟩ := u4
  have Hsq := Lib.hid hsq; clear hsq
  have e4 := e3.kept hb4; have y4 := y3.kept hb4; have v4 := v3.kept hb4; have b4 := b3.trans (hb4.mono (Nat.le_of_lt e3.lt)); have su4 := su3.keep hb4
  clear e3 y3 v3 b3 su3 hb4
  have zf := v4.free 4; have zc := v4.cell 4 rfl
  have e5 := (e4.far (p := ⟨V, 4, none⟩) hZV0 (.int .u32 sq))
  have y5 := (y4.far (p := ⟨V, 4, none⟩) hZV1 (.int .u32 sq))
  have v5 := (v4.set 4 (.int .u32 sq))
  have b5 := (b4.setCell (p := ⟨V, 4, none⟩) (by simp; omega) (.int .u32 sq))
  have su5 := (su4.grown (grown_set _ ⟨V, 4, none⟩ (.int .u32 sq)) (fun k hk => by cases hk; exact Nat.le_refl _))
  simp only [List.set_cons_zero, List.set_cons_succ] at v5
  go_wp2_with fail
  clear zf zc e4 y4 v4 b4 su4
  refine (rnum_b (some ⟨br, orr, none⟩) M cq 8 4 y _ su5.sl.rd (by omega) (by omega) (by omega)).mono ?_
  rintro e w6 ⟨rfl, hb6⟩
  have u6 := nm_small SM.out 8 (show 4 ≤ 4 by omega)
  obtain ⟨ds, hds⟩ : ∃ x, nm y 8 4 = x := ⟨_, rfl⟩
  rw [hds] at u6 ⊢
  obtain ⟨u6a, u6b⟩ := u6
  have Hds := Lib.hid hds; clear hds
  have e6 := e5.kept hb6; have y6 := y5.kept hb6; have v6 := v5.kept hb6; have b6 := b5.trans (hb6.mono (Nat.le_of_lt e5.lt)); have su6 := su5.keep hb6
  clear e5 y5 v5 b5 su5 hb6
  have zf := v6.free 5; have zc := v6.cell 5 rfl
  have e7 := (e6.far (p := ⟨V, 5, none⟩) hZV0 (.int .u32 ds))
  have y7 := (y6.far (p := ⟨V, 5, none⟩) hZV1 (.int .u32 ds))
  have v7 := (v6.set 5 (.int .u32 ds))
  have b7 := (b6.setCell (p := ⟨V, 5, none⟩) (by simp; omega) (.int .u32 ds))
  have su7 := (su6.grown (grown_set _ ⟨V, 5, none⟩ (.int .u32 ds)) (fun k hk => by cases hk; exact Nat.le_refl _))
  simp only [List.set_cons_zero, List.set_cons_succ] at v7
  go_wp2_with fail
  clear zf zc e6 y6 v6 b6 su6
  refine (rnum_b (some ⟨br, orr, none⟩) M cq 12 4 y _ su7.sl.rd (by omega) (by omega) (by omega)).mono ?_
  rintro e w8 ⟨rfl, hb8⟩
  have u8 := nm_small SM.out 12 (show 4 ≤ 4 by omega)
  obtain ⟨go, hgo⟩ : ∃ x, nm y 12 4 = x := ⟨_, rfl⟩
  rw [hgo] at u8 ⊢
  obtain ⟨u8a, u8b⟩ := u8
  have Hgo := Lib.hid hgo; clear hgo
  have e8 := e7.kept hb8; have y8 := y7.kept hb8; have v8 := v7.kept hb8; have b8 := b7.trans (hb8.mono (Nat.le_of_lt e7.lt)); have su8 := su7.keep hb8
  clear e7 y7 v7 b7 su7 hb8
  have zf := v8.free 6; have zc := v8.cell 6 rfl
  have e9 := (e8.far (p := ⟨V, 6, none⟩) hZV0 (.int .u32 go))
  have y9 := (y8.far (p := ⟨V, 6, none⟩) hZV1 (.int .u32 go))
  have v9 := (v8.set 6 (.int .u32 go))
  have b9 := (b8.setCell (p := ⟨V, 6, none⟩) (by simp; omega) (.int .u32 go))
  have su9 := (su8.grown (grown_set _ ⟨V, 6, none⟩ (.int .u32 go)) (fun k hk => by cases hk; exact Nat.le_refl _))
  simp only [List.set_cons_zero, List.set_cons_succ] at v9
  go_wp2_with fail
  clear zf zc e8 y8 v8 b8 su8
  refine (rnum_b (some ⟨br, orr, none⟩) M cq 16 4 y _ su9.sl.rd (by omega) (by omega) (by omega)).mono ?_
  rintro e w10 ⟨rfl, hb10⟩
  have u10 := nm_small SM.out 16 (show 4 ≤ 4 by omega)
  obtain ⟨dg, hdg⟩ : ∃ x, nm y 16 4 = x := ⟨_, rfl⟩
  rw [hdg] at u10 ⊢
  obtain ⟨u10a, u10b⟩ := u10
  have Hdg := Lib.hid hdg; clear hdg
  have e10 := e9.kept hb10; have y10 := y9.kept hb10; have v10 := v9.kept hb10; have b10 := b9.trans (hb10.mono (Nat.le_of_lt e9.lt)); have su10 := su9.keep hb10
  clear e9 y9 v9 b9 su9 hb10
  have zf := v10.free 7; have zc := v10.cell 7 rfl
  have e11 := (e10.far (p := ⟨V, 7, none⟩) hZV0 (.int .u32 dg))
  have y11 := (y10.far (p := ⟨V, 7, none⟩) hZV1 (.int .u32 dg))
  have v11 := (v10.set 7 (.int .u32 dg))
  have b11 := (b10.setCell (p := ⟨V, 7, none⟩) (by simp; omega) (.int .u32 dg))
  have su11 := (su10.grown (grown_set _ ⟨V, 7, none⟩ (.int .u32 dg)) (fun k hk => by cases hk; exact Nat.le_refl _))
  simp only [List.set_cons_zero, List.set_cons_succ] at v11
  go_wp2_with fail
  clear zf zc e10 y10 v10 b10 su10
  refine (rnum_b (some ⟨br, orr, none⟩) M cq 20 3 y _ su11.sl.rd (by omega) (by omega) (by omega)).mono ?_
  rintro e w12 ⟨rfl, hb12⟩
  have u12 := nm_small SM.out 20 (show 3 ≤ 4 by omega)
  obtain ⟨ce, hce⟩ : ∃ x, nm y 20 3 = x := ⟨_, rfl⟩
  rw [hce] at u12 ⊢
  obtain ⟨u12a, u12b⟩ := u12
  have Hce := Lib.hid hce; clear hce
  have e12 := e11.kept hb12; have y12 := y11.kept hb12; have v12 := v11.kept hb12; have b12 := b11.trans (hb12.mono (Nat.le_of_lt e11.lt)); have su12 := su11.keep hb12
  clear e11 y11 v11 b11 su11 hb12
  have zf := v12.free 10; have zc := v12.cell 10 rfl
  have e13 := (e12.far (p := ⟨V, 10, none⟩) hZV0 (.int .u32 ce))
  have y13 := (y12.far (p := ⟨V, 10, none⟩) hZV1 (.int .u32 ce))
  have v13 := (v12.set 10 (.int .u32 ce))
  have b13 := (b12.setCell (p := ⟨V, 10, none⟩) (by simp; omega) (.int .u32 ce))
  have su13 := (su12.grown (grown_set _ ⟨V, 10, none⟩ (.int .u32 ce)) (fun k hk => by cases hk; exact Nat.le_refl _))
  simp only [List.set_cons_zero, List.set_cons_succ] at v13
  go_wp2_with fail
  clear zf zc e12 y12 v12 b12 su12
  refine (rnum_b (some ⟨br, orr, none⟩) M cq 23 4 y _ su13.sl.rd (by omega) (by omega) (by omega)).mono ?_
  rintro e w14 ⟨rfl, hb14⟩
  have u14 := nm_small SM.out 23 (show 4 ≤ 4 by omega)
  obtain ⟨at_, hat_⟩ : ∃ x, nm y 23 4 = x := ⟨_, rfl⟩
  rw [hat_] at u14 ⊢
  obtain ⟨u14a, u14b⟩ := u14
  have Hat_ := Lib.hid hat_; clear hat_
  have e14 := e13.kept hb14; have y14 := y13.kept hb14; have v14 := v13.kept hb14; have b14 := b13.trans (hb14.mono (Nat.le_of_lt e13.lt)); have su14 := su13.keep hb14
  clear e13 y13 v13 b13 su13 hb14
  have zf := v14.free 11; have zc := v14.cell 11 rfl
  have e15 := (e14.far (p := ⟨V, 11, none⟩) hZV0 (.int .u32 at_))
  have y15 := (y14.far (p := ⟨V, 11, none⟩) hZV1 (.int .u32 at_))
  have v15 := (v14.set 11 (.int .u32 at_))
  have b15 := (b14.setCell (p := ⟨V, 11, none⟩) (by simp; omega) (.int .u32 at_))
  have su15 := (su14.grown (grown_set _ ⟨V, 11, none⟩ (.int .u32 at_)) (fun k hk => by cases hk; exact Nat.le_refl _))
  simp only [List.set_cons_zero, List.set_cons_succ] at v15
  go_wp2_with fail
  clear zf zc e14 y14 v14 b14 su14
  refine (rnum_b (some ⟨br, orr, none⟩) M cq 27 4 y _ su15.sl.rd (by omega) (by omega) (by omega)).mono ?_
  rintro e w16 ⟨rfl, hb16⟩
  have u16 := nm_small SM.out 27 (show 4 ≤ 4 by omega)
  obtain ⟨ec, hec⟩ : ∃ x, nm y 27 4 = x := ⟨_, rfl⟩
  rw [hec] at u16 ⊢
  obtain ⟨u16a, u16b⟩ := u16
  have Hec := Lib.hid hec; clear hec
  have e16 := e15.kept hb16; have y16 := y15.kept hb16; have v16 := v15.kept hb16; have b16 := b15.trans (hb16.mono (Nat.le_of_lt e15.lt)); have su16 := su15.keep hb16
  clear e15 y15 v15 b15 su15 hb16
  have zf := v16.free 12; have zc := v16.cell 12 rfl
  have e17 := (e16.far (p := ⟨V, 12, none⟩) hZV0 (.int .u32 ec))
  have y17 := (y16.far (p := ⟨V, 12, none⟩) hZV1 (.int .u32 ec))
  have v17 := (v16.set 12 (.int .u32 ec))
  have b17 := (b16.setCell (p := ⟨V, 12, none⟩) (by simp; omega) (.int .u32 ec))
  have su17 := (su16.grown (grown_set _ ⟨V, 12, none⟩ (.int .u32 ec)) (fun k hk => by cases hk; exact Nat.le_refl _))
  simp only [List.set_cons_zero, List.set_cons_succ] at v17
  go_wp2_with fail
  clear zf zc e16 y16 v16 b16 su16
  have gp : Gotp _ (V + 1) 46 (.slice none 0 0) 0 (prsR y 0) := Gotp.none (w16.setCell ⟨V, 12, none⟩ (.int .u32 ec)) _ _
  go_loopw [9] (fun i wr => ∃ (q : Nat) (vq : Value), q ≤ mm ∧ i = .int .i64 (q : Int) ∧ Bx wr V 26 [.int .i64 (x0 / 16), .int .i64 (x0 % 16), .bool f1, .bool f2, .int .u32 sq, .int .u32 ds, .int .u32 go, .int .u32 dg, .int .i64 xw, .int .i64 (x1 / 4), .int .u32 ce, .int .u32 at_, .int .u32 ec, vq, .slice none 0 0] ∧ Gotp wr (V + 1) 46 vq q (prsR y q) ∧ Bx wr Z 26 zeroSeg ∧ Bx wr (Z + 1) 26 zeroSeg ∧ Below Z w wr ∧ Su wr V (some ⟨br, orr, none⟩) M cq y) (fun i _ => mm - (intOf i).toNat)
  case atStart => exact ⟨0, .slice none 0 0, Nat.zero_le _, rfl, v17, gp, e17, y17, b17, su17⟩
  case round =>
    clear v17 gp e17 y17 b17 su17 w16
    obtain ⟨q, vq, hq, rfl, vr, gp, er, yr, br_, sur⟩ := hrel
    by_cases hlt : q < mm
    · obtain ⟨z1, hz1⟩ : ∃ z1 : Nat, 32 + 8 * (q : Int) = (z1 : Int) := ⟨32 + 8 * q, by omega⟩
      obtain ⟨z2, hz2⟩ : ∃ z2 : Nat, 36 + 8 * (q : Int) = (z2 : Int) := ⟨36 + 8 * q, by omega⟩
      have ux := nm4_u SM.out z1
      have uy := nm4_u SM.out z2
      have hsn := prsR_snoc y q
      rw [show 32 + 8 * q = z1 by omega, show 36 + 8 * q = z2 by omega] at hsn
      obtain ⟨px, hpx⟩ : ∃ x, nm y z1 4 = x := ⟨_, rfl⟩
      obtain ⟨py, hpy⟩ : ∃ x, nm y z2 4 = x := ⟨_, rfl⟩
      rw [hpx] at ux hsn
      rw [hpy] at uy hsn
      have HSN := Lib.hid hsn; clear hsn
      have ux0 : 0 ≤ px := ux.1; have ux1 : px < 4294967296 := ux.2; have uy0 : 0 ≤ py := uy.1; have uy1 : py < 4294967296 := uy.2
      have a1 : IntKind.i64.wrap (8 * (q : Int)) = 8 * (q : Int) := by rw [IntKind.wrap_i64]; omega
      have a2 : IntKind.i64.wrap (32 + 8 * (q : Int)) = (z1 : Int) := by rw [IntKind.wrap_i64]; omega
      have a3 : IntKind.i64.wrap (36 + 8 * (q : Int)) = (z2 : Int) := by rw [IntKind.wrap_i64]; omega
      have a4 : IntKind.u32.wrap px = px := by rw [IntKind.wrap_u32']; omega
      have a5 : IntKind.u32.wrap py = py := by rw [IntKind.wrap_u32']; omega
      have a6 : IntKind.i64.wrap (z1 : Int) = (z1 : Int) := by rw [IntKind.wrap_i64]; omega
      have a7 : IntKind.i64.wrap (z2 : Int) = (z2 : Int) := by rw [IntKind.wrap_i64]; omega
      go_upto_region 23 with fail
      have e4 := er.drew; have y4 := yr.drew; have v4 := vr.drew; have b4 := br_.drew; have su4 := sur.keep (Below.refl _ _).drew; have gp4 := gp.under (Below.refl _ _).drew
      clear er yr vr br_ sur gp
      refine wp_region_tail 16 19 (fun (W : World) => W.cell? ⟨V, 13, none⟩ = some vq) (by kernel_rfl) (by rfl) (by decide) ?_
      have HS : ((fun (W : World) => W.cell? ⟨V, 13, none⟩ = some vq)) _ := v4.cell 13 rfl
      refine wpAnyT_take (i := 0) (v := ?vv13) rfl (by kernel_rfl) (fun _ _ _ h => h) (Or.inl ⟨by rfl, fun w hSw => ?yy13⟩) HS ?rr13
      case yy13 =>
        (try dsimp only at hSw); go_simp
        try with_reducible rfl
      try simp only [Act.put, List.setIfInBounds_toArray, List.set_cons_zero, List.set_cons_succ]
      refine wpAnyT_take (i := 1) (v := ?vv14) rfl (by kernel_rfl) (fun _ _ _ h => h) (Or.inl ⟨by rfl, fun w hSw => ?yy14⟩) HS ?rr14
      case yy14 =>
        (try dsimp only at hSw); go_simp
        try with_reducible rfl
      try simp only [Act.put, List.setIfInBounds_toArray, List.set_cons_zero, List.set_cons_succ]
      refine wpAnyT_take (i := 2) (v := ?vv15) rfl (by kernel_rfl) (fun _ _ _ h => h) (Or.inl ⟨by rfl, fun w hSw => ?yy15⟩) HS ?rr15
      case yy15 =>
        (try dsimp only at hSw); go_simp
        try with_reducible rfl
      try simp only [Act.put, List.setIfInBounds_toArray, List.set_cons_zero, List.set_cons_succ]
      refine wpAnyT_take (i := 3) (v := ?vv16) rfl (by kernel_rfl) (fun _ _ _ h => h) (Or.inl ⟨by rfl, fun w hSw => ?yy16⟩) HS ?rr16
      case yy16 =>
        (try dsimp only at hSw); go_simp
        try with_reducible rfl
      try simp only [Act.put, List.setIfInBounds_toArray, List.set_cons_zero, List.set_cons_succ]
      refine wpAnyT_take (i := 4) (v := .int .i64 (8 * (q : Int))) rfl (by kernel_rfl) (fun _ _ _ h => h) (Or.inl ⟨by rfl, fun w hSw => ?_⟩) HS ?_
      · (try dsimp only at hSw); go_simp
        try simp only [a1, a2, a3, a4, a5, a6, a7]
      try simp only [Act.put, List.setIfInBounds_toArray, List.set_cons_zero, List.set_cons_succ]
      refine wpAnyT_take (i := 5) (v := .int .i64 (z1 : Int)) rfl (by kernel_rfl) (fun _ _ _ h => h) (Or.inl ⟨by rfl, fun w hSw => ?_⟩) HS ?_
      · (try dsimp only at hSw); go_simp
        try simp only [a1, a2, a3, a4, a5, a6, a7]
      try simp only [Act.put, List.setIfInBounds_toArray, List.set_cons_zero, List.set_cons_succ]
      refine wpAnyT_take (i := 8) (v := ?vv19) rfl (by kernel_rfl) (fun _ _ _ h => h) (Or.inl ⟨by rfl, fun w hSw => ?yy19⟩) HS ?rr19
      case yy19 =>
        (try dsimp only at hSw); go_simp
        try with_reducible rfl
      try simp only [Act.put, List.setIfInBounds_toArray, List.set_cons_zero, List.set_cons_succ]
      refine wpAnyT_take (i := 9) (v := ?vv20) rfl (by kernel_rfl) (fun _ _ _ h => h) (Or.inl ⟨by rfl, fun w hSw => ?yy20⟩) HS ?rr20
      case yy20 =>
        (try dsimp only at hSw); go_simp
        try with_reducible rfl
      try simp only [Act.put, List.setIfInBounds_toArray, List.set_cons_zero, List.set_cons_succ]
      refine wpAnyT_take (i := 10) (v := .int .i64 (8 * (q : Int))) rfl (by kernel_rfl) (fun _ _ _ h => h) (Or.inl ⟨by rfl, fun w hSw => ?_⟩) HS ?_
      · (try dsimp only at hSw); go_simp
        try simp only [a1, a2, a3, a4, a5, a6, a7]
      try simp only [Act.put, List.setIfInBounds_toArray, List.set_cons_zero, List.set_cons_succ]
      refine wpAnyT_take (i := 11) (v := .int .i64 (z2 : Int)) rfl (by kernel_rfl) (fun _ _ _ h => h) (Or.inl ⟨by rfl, fun w hSw => ?_⟩) HS ?_
      · (try dsimp only at hSw); go_simp
        try simp only [a1, a2, a3, a4, a5, a6, a7]
      try simp only [Act.put, List.setIfInBounds_toArray, List.set_cons_zero, List.set_cons_succ]
      refine wpAnyT_one (k := 6) rfl (by kernel_rfl) (by decide) (fun K hK => ?_)
      go_simp
      refine (rnum_b (some ⟨br, orr, none⟩) M cq z1 4 y _ su4.sl.rd (by omega) (by omega) (by omega)).mono ?_
      rintro e w5 ⟨rfl, hb5⟩
      rw [hpx]
      have e5 := e4.kept hb5; have y5 := y4.kept hb5; have v5 := v4.kept hb5; have b5 := b4.trans (hb5.mono (Nat.le_of_lt e4.lt)); have su5 := su4.keep hb5; have gp5 := gp4.under hb5
      have HS : ((fun (W : World) => W.cell? ⟨V, 13, none⟩ = some vq)) _ := v5.cell 13 rfl
      refine hK _ _ HS ?_
      clear hK K
      try simp only [Act.put, List.setIfInBounds_toArray, List.set_cons_zero, List.set_cons_succ]
      refine wpAnyT_take (i := 7) (v := .int .u32 px) rfl (by kernel_rfl) (fun _ _ _ h => h) (Or.inl ⟨by rfl, fun w hSw => ?_⟩) HS ?_
      · (try dsimp only at hSw); go_simp
        try simp only [a1, a2, a3, a4, a5, a6, a7]
      try simp only [Act.put, List.setIfInBounds_toArray, List.set_cons_zero, List.set_cons_succ]
      refine wpAnyT_one (k := 12) rfl (by kernel_rfl) (by decide) (fun K hK => ?_)
      go_simp
      refine (rnum_b (some ⟨br, orr, none⟩) M cq z2 4 y _ su5.sl.rd (by omega) (by omega) (by omega)).mono ?_
      rintro e w6 ⟨rfl, hb6⟩
      rw [hpy]
      have e6 := e5.kept hb6; have y6 := y5.kept hb6; have v6 := v5.kept hb6; have b6 := b5.trans (hb6.mono (Nat.le_of_lt e5.lt)); have su6 := su5.keep hb6; have gp6 := gp5.under hb6
      have HS : ((fun (W : World) => W.cell? ⟨V, 13, none⟩ = some vq)) _ := v6.cell 13 rfl
      refine hK _ _ HS ?_
      clear hK K
      try simp only [Act.put, List.setIfInBounds_toArray, List.set_cons_zero, List.set_cons_succ]
      refine wpAnyT_take (i := 13) (v := .int .u32 py) rfl (by kernel_rfl) (fun _ _ _ h => h) (Or.inl ⟨by rfl, fun w hSw => ?_⟩) HS ?_
      · (try dsimp only at hSw); go_simp
        try simp only [a1, a2, a3, a4, a5, a6, a7]
      try simp only [Act.put, List.setIfInBounds_toArray, List.set_cons_zero, List.set_cons_succ]
      refine wpAnyT_take (i := 14) (v := ?vv25) rfl (by kernel_rfl) (fun _ _ _ h => h) (Or.inl ⟨by rfl, fun w hSw => ?yy25⟩) HS ?rr25
      case yy25 =>
        (try dsimp only at hSw); go_simp
        try with_reducible rfl
      try simp only [Act.put, List.setIfInBounds_toArray, List.set_cons_zero, List.set_cons_succ]
      refine wpAnyT_one (k := 15) rfl (by kernel_rfl) (by decide) (fun K hK => ?_)
      go_simp
      have e7 := e6.alloc (.cells #[.int .u32 px, .int .u32 py] 46); have y7 := y6.alloc (.cells #[.int .u32 px, .int .u32 py] 46); have v7 := v6.alloc (.cells #[.int .u32 px, .int .u32 py] 46); have b7 := b6.alloc (Nat.le_of_lt e6.lt) (.cells #[.int .u32 px, .int .u32 py] 46); have su7 := su6.keep ((Below.refl _ _).alloc (Nat.le_refl _) (.cells #[.int .u32 px, .int .u32 py] 46)); have gp7 := gp6.under ((Below.refl _ _).alloc (Nat.le_refl _) (.cells #[.int .u32 px, .int .u32 py] 46)); have s7 := sr_one w6 ux uy 46
      have HS : ((fun (W : World) => W.cell? ⟨V, 13, none⟩ = some vq)) _ := v7.cell 13 rfl
      refine hK _ _ HS ?_
      clear hK K
      try simp only [Act.put, List.setIfInBounds_toArray, List.set_cons_zero, List.set_cons_succ]
      refine ⟨by kernel_rfl, ?_⟩
      simp only [List.drop_succ_cons, List.drop_zero]

      have nV : some V ≠ vq.ownBlock := fun h => by have := (gp7.row.lt V h.symm).1; omega
      have nZ : some Z ≠ vq.ownBlock := fun h => by have := (gp7.row.lt Z h.symm).1; omega
      have nY : some (Z + 1) ≠ vq.ownBlock := fun h => by have := (gp7.row.lt (Z + 1) h.symm).1; omega
      have hV7 : V + 1 ≤ (w6.alloc (.cells #[.int .u32 px, .int .u32 py] 46)).heap.size := v7.lt
      go_wp2_with (at_builtin; refine wpList_appp _ rfl (.tmp 101) (.tmp 115) 23 rfl (V + 1) 46 Try.underlying23 info_pr vq q _ rfl gp7 rfl s7.nil s7.rd (by omega) hV7 ?_; intro v8v w8 gp8 g8 at8; obtain ⟨A8, c8, rfl, hs8⟩ := gp8.ss; have v8 := v7.grown g8 nV; have zf := v8.free 13; have zc := v8.cell 13 rfl)
      have e8 := (e7.grown g8 nZ).far (p := ⟨V, 13, none⟩) hZV0 (.slice A8 (q + 1) c8)
      have y8 := (y7.grown g8 nY).far (p := ⟨V, 13, none⟩) hZV1 (.slice A8 (q + 1) c8)
      have b8 := (b7.grown g8 (Nat.le_of_lt e7.lt) (fun k hk => by have := (gp7.row.lt k hk).1; omega)).setCell (p := ⟨V, 13, none⟩) (by simp; omega) (.slice A8 (q + 1) c8)
      have su8 := (su7.grown g8 (fun k hk => by have := (gp7.row.lt k hk).1; omega)).grown (grown_set _ ⟨V, 13, none⟩ (.slice A8 (q + 1) c8)) (fun k hk => by cases hk; exact Nat.le_refl _)
      have gp9 := gp8.far (grown_set _ ⟨V, 13, none⟩ (.slice A8 (q + 1) c8)) (Nat.lt_succ_self V)
      go_roundw
      case rel => exact ⟨q + 1, .slice A8 (q + 1) c8, by omega, by go_num, v8.set 13 (.slice A8 (q + 1) c8), by rw [HSN.out]; exact gp9, e8, y8, b8, su8⟩
      case measure => simp [intOf]; omega
    · obtain rfl : mm = q := by omega
      obtain ⟨G, dG, rfl, hsc⟩ := gp.sc
      obtain ⟨zk, hzk⟩ : ∃ zk : Nat, 32 + 8 * (mm : Int) = (zk : Int) := ⟨32 + 8 * mm, by omega⟩
      obtain ⟨N2, hN2⟩ : ∃ N2, M = N2 + zk := ⟨M - zk, by omega⟩
      obtain ⟨D2, hD2⟩ : ∃ D2, cq = D2 + zk := ⟨cq - zk, by have := sur.sl.le; omega⟩
      subst hN2 hD2
      have hle2 : N2 ≤ D2 := by have := sur.sl.le; omega
      have hcut := fun w => run_cutK Try.prog 24 5 Try.underlying24 info_u8 (some ⟨br, orr, none⟩) zk N2 D2 w hle2
      have a1 : IntKind.i64.wrap (8 * (mm : Int)) = 8 * (mm : Int) := by rw [IntKind.wrap_i64]; omega
      have a2 : IntKind.i64.wrap (zk : Int) = (zk : Int) := by rw [IntKind.wrap_i64]; omega
      have hPS : (⟨x0 / 16, x0 % 16, f1, f2, sq, ds, go, dg, xw, x1 / 4, ce, at_, ec, prsR y mm, y.drop zk⟩ : Sg) = parS y := by
        unfold parS prsR
        rw [HM.out, H0.out, H1.out, HXW.out, HF1.out, HF2.out, Hsq.out, Hds.out, Hgo.out, Hdg.out, Hce.out, Hat_.out, Hec.out, show 32 + 8 * mm = zk by omega]
      have HPS := Lib.hid hPS; clear hPS
      have hlp : (prsR y mm).length = mm := by unfold prsR; simp
      have hlb : (y.drop zk).length = N2 := by rw [List.length_drop, l1]; omega
      have hsu := sur.sl
      go_upto_region 24 with fail
      have e4 := er.drew; have y4 := yr.drew; have v4 := vr.drew; have b4 := br_.drew; have hsc4 := hsc.keep (Below.refl _ _).drew
      have s4 := (hsu.keep (Below.refl _ _).drew).cutK
      clear er yr vr br_ sur gp hsc hsu
      refine wp_region_tail 7 10 (fun (W : World) => W.cell? ⟨V, 14, none⟩ = some (Value.slice none 0 0)) (by kernel_rfl) (by rfl) (by decide) ?_
      have HS : ((fun (W : World) => W.cell? ⟨V, 14, none⟩ = some (Value.slice none 0 0))) _ := v4.cell 14 rfl
      refine wpAnyT_take (i := 0) (v := ?vv26) rfl (by kernel_rfl) (fun _ _ _ h => h) (Or.inl ⟨by rfl, fun w hSw => ?yy26⟩) HS ?rr26
      case yy26 =>
        (try dsimp only at hSw); go_simp
        try with_reducible rfl
      try simp only [Act.put, List.setIfInBounds_toArray, List.set_cons_zero, List.set_cons_succ]
      refine wpAnyT_take (i := 1) (v := ?vv27) rfl (by kernel_rfl) (fun _ _ _ h => h) (Or.inl ⟨by rfl, fun w hSw => ?yy27⟩) HS ?rr27
      case yy27 =>
        (try dsimp only at hSw); go_simp
        try with_reducible rfl
      try simp only [Act.put, List.setIfInBounds_toArray, List.set_cons_zero, List.set_cons_succ]
      refine wpAnyT_take (i := 2) (v := ?vv28) rfl (by kernel_rfl) (fun _ _ _ h => h) (Or.inl ⟨by rfl, fun w hSw => ?yy28⟩) HS ?rr28
      case yy28 =>
        (try dsimp only at hSw); go_simp
        try with_reducible rfl
      try simp only [Act.put, List.setIfInBounds_toArray, List.set_cons_zero, List.set_cons_succ]
      refine wpAnyT_take (i := 3) (v := ?vv29) rfl (by kernel_rfl) (fun _ _ _ h => h) (Or.inl ⟨by rfl, fun w hSw => ?yy29⟩) HS ?rr29
      case yy29 =>
        (try dsimp only at hSw); go_simp
        try with_reducible rfl
      try simp only [Act.put, List.setIfInBounds_toArray, List.set_cons_zero, List.set_cons_succ]
      refine wpAnyT_take (i := 4) (v := .int .i64 (8 * (mm : Int))) rfl (by kernel_rfl) (fun _ _ _ h => h) (Or.inl ⟨by rfl, fun w hSw => ?_⟩) HS ?_
      · (try dsimp only at hSw); go_simp
        try simp only [a1, a2, hcut]
      try simp only [Act.put, List.setIfInBounds_toArray, List.set_cons_zero, List.set_cons_succ]
      refine wpAnyT_take (i := 5) (v := .int .i64 (zk : Int)) rfl (by kernel_rfl) (fun _ _ _ h => h) (Or.inl ⟨by rfl, fun w hSw => ?_⟩) HS ?_
      · (try dsimp only at hSw); go_simp
        try simp only [a1, a2, hcut]
      try simp only [Act.put, List.setIfInBounds_toArray, List.set_cons_zero, List.set_cons_succ]
      refine wpAnyT_take (i := 6) (v := .slice (cutA (some ⟨br, orr, none⟩) zk (D2 + zk)) N2 D2) rfl (by kernel_rfl) (fun _ _ _ h => h) (Or.inl ⟨by rfl, fun w hSw => ?_⟩) HS ?_
      · (try dsimp only at hSw); go_simp
        try simp only [a1, a2, hcut]
      try simp only [Act.put, List.setIfInBounds_toArray, List.set_cons_zero, List.set_cons_succ]
      refine ⟨by kernel_rfl, ?_⟩
      simp only [List.drop_succ_cons, List.drop_zero]

      have hV4 := v4.lt
      go_wp2_with (first | (at_builtin; refine wpList_app _ rfl (.tmp 119) (.tmp 124) 24 rfl (V + 1) 5 Try.underlying24 info_u8 (.slice none 0 0) 0 [] rfl (World.ownsRow_nil _ _ _ _) rfl s4.nil s4.rd (by omega) hV4 ?_; intro v8v w8 ho8 g8 at8; simp only [Nat.zero_add, List.nil_append] at ho8; have gt8 : Got w8 (V + 1) v8v N2 (y.drop zk) := ⟨ho8, small_drop SM.out zk⟩; obtain ⟨A9, c9, rfl, s9⟩ := gt8.sl; have v8 := v4.grown g8 (fun h => by cases h); have zf := v8.free 14; have zc := v8.cell 14 rfl; have v9 := v8.set 14 (.slice A9 N2 c9); simp only [List.set_cons_zero, List.set_cons_succ] at v9) | (refine Bx.stepLoad rfl (.tmp 8) rfl rfl v9 rfl ?_))
      have e8 := (e4.grown g8 (fun h => by cases h)).far (p := ⟨V, 14, none⟩) hZV0 (.slice A9 N2 c9)
      have y8 := (y4.grown g8 (fun h => by cases h)).far (p := ⟨V, 14, none⟩) hZV1 (.slice A9 N2 c9)
      have b8 := (b4.grown g8 (Nat.le_of_lt e4.lt) (fun k hk => by cases hk)).setCell (p := ⟨V, 14, none⟩) (by simp; omega) (.slice A9 N2 c9)
      have sc8 := (hsc4.grown g8 (fun k hk => by cases hk)).grown (grown_set _ ⟨V, 14, none⟩ (.slice A9 N2 c9)) (fun k hk => by cases hk; exact Nat.lt_succ_self V)
      have s10 := s9.apart v8 (by simp) (grown_set _ ⟨V, 14, none⟩ (.slice A9 N2 c9))
      clear e4 y4 v4 b4 hsc4 s4 s9 v8 zf zc gt8 ho8
      refine (rsmay_any (x0 / 16) (x0 % 16) f1 f2 sq ds go dg xw (x1 / 4) ce at_ ec G mm dG A9 N2 c9 (prsR y mm) (y.drop zk) _ hlp hlb (by omega) (by omega)).mono ?_
      rintro e w9 ⟨rfl, hb9⟩
      rw [HPS.out]
      have e9 := e8.kept hb9; have y9 := y8.kept hb9; have v10 := v9.kept hb9; have b9 := b8.trans (hb9.mono (Nat.le_of_lt e8.lt)); have sc9 := sc8.keep hb9; have s11 := s10.keep hb9
      clear e8 y8 v9 b8 sc8 s10
      have hgy := getS_yes l1 (by rw [HM.out]; omega)
      cases hsm : smay (parS y) with
      | false =>
        rw [hsm, if_neg (by simp)] at hgy
        have HX2 := Lib.hid hgy; clear hgy
        go_wp2_with (first | (refine Bx.stepLoad rfl (.tmp 4) rfl rfl y9 rfl ?_) | (refine Bx.stepStore rfl (.tmp 2) (.tmp 131) rfl rfl zeroSeg rfl e9 rfl rfl rfl ?_))
        refine get_end (by rfl) (by rfl) (by rfl) (e9.put zeroSeg) rfl rfl ?_
        rw [HG.out, HX2.out]
        exact ⟨none, 0, 0, none, 0, 0, rfl, Sr.none _, Sl.nil0 _, b9.grown (grown_put _ Z zeroSeg.toArray) (Nat.le_of_lt e9.lt) (fun k hk => by cases hk; omega)⟩
      | true =>
        rw [hsm, if_pos rfl] at hgy
        have HX2 := Lib.hid hgy; clear hgy
        go_wp2_with (first | (refine Bx.stepLoad rfl (.tmp 8) rfl rfl v10 rfl ?_) | (refine Bx.stepStore rfl (.tmp 2) (.tmp 132) rfl rfl [.int .i64 (x0 / 16), .int .i64 (x0 % 16), .bool f1, .bool f2, .int .u32 sq, .int .u32 ds, .int .u32 go, .int .u32 dg, .int .i64 xw, .int .i64 (x1 / 4), .int .u32 ce, .int .u32 at_, .int .u32 ec, .slice G mm dG, .slice A9 N2 c9] rfl e9 rfl rfl rfl ?_))
        refine get_end (by rfl) (by rfl) (by rfl) (e9.put [.int .i64 (x0 / 16), .int .i64 (x0 % 16), .bool f1, .bool f2, .int .u32 sq, .int .u32 ds, .int .u32 go, .int .u32 dg, .int .i64 xw, .int .i64 (x1 / 4), .int .u32 ce, .int .u32 at_, .int .u32 ec, .slice G mm dG, .slice A9 N2 c9]) rfl rfl ?_
        rw [HG.out, HX2.out, ← HPS.out]
        exact ⟨G, mm, dG, A9, N2, c9, rfl, (sc9.grown (grown_put _ Z #[.int .i64 (x0 / 16), .int .i64 (x0 % 16), .bool f1, .bool f2, .int .u32 sq, .int .u32 ds, .int .u32 go, .int .u32 dg, .int .i64 xw, .int .i64 (x1 / 4), .int .u32 ce, .int .u32 at_, .int .u32 ec, .slice G mm dG, .slice A9 N2 c9]) (fun k hk => by cases hk; omega)).sr, s11.apart e9 (by unfold zeroSeg; simp) (grown_put _ Z #[.int .i64 (x0 / 16), .int .i64 (x0 % 16), .bool f1, .bool f2, .int .u32 sq, .int .u32 ds, .int .u32 go, .int .u32 dg, .int .i64 xw, .int .i64 (x1 / 4), .int .u32 ce, .int .u32 at_, .int .u32 ec, .slice G mm dG, .slice A9 N2 c9]), b9.grown (grown_put _ Z #[.int .i64 (x0 / 16), .int .i64 (x0 % 16), .bool f1, .bool f2, .int .u32 sq, .int .u32 ds, .int .u32 go, .int .u32 dg, .int .i64 xw, .int .i64 (x1 / 4), .int .u32 ce, .int .u32 at_, .int .u32 ec, .slice G mm dG, .slice A9 N2 c9]) (Nat.le_of_lt e9.lt) (fun k hk => by cases hk; omega)⟩
end Go.Proofs.Ytfglagkpknpgdaa
