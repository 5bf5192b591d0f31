/- TimerTells: the walk. -/
import Derived.Test.YtbkmadlekigjfaaProg
import Derived.Test.YtbkmadlekigjfaaTmAwake
import Derived.Test.YtbkmadlekigjfaaTail2
import Derived.WalkKit
import Derived.WalkSpells
import Derived.WalkSmall
import Derived.Lib.Hide
import Derived.Below
import Derived.Outline
import Derived.Deep.QuietTactic
import Derived.BigQuiet
import Derived.IntWalk
import Derived.Deep.DeepCutAuto
import Derived.OrdersHeld
import Derived.StillTail
import Derived.Test.YtbkmadlekigjfaaTail
import Derived.Laws.Rows
import Derived.Laws.Tables
namespace Go.Proofs.Ytbkmadlekigjfaa.timerTells
open Go.RowKit
set_option linter.unusedVariables false
set_option linter.unusedSimpArgs false
set_option maxRecDepth 100000 in
set_option maxHeartbeats 8000000 in
theorem walk (r : Rt) (A : Option Addr) (n c : Nat) (l : List Prt) (pb : Bool) (now most : Int) (T : Option Addr) (m d : Nat) (t : List Tmr) (w : World) (hs : Se w A n c l) (ht : Se w T m d t) :
    Calls Try.prog 3 #[.agg #[.bool r.has, .int .i64 r.srtt, .int .i64 r.vr, .int .i64 r.rto, .int .i64 r.shift], .slice A n c, .bool pb, .int .i64 now, .int .i64 most, .slice T m d] w fun e w' => e = .returned (.bool true) ∧ Below w.heap.size w w' := by
  obtain ⟨B, hB⟩ : ∃ B, w.heap.size = B := ⟨_, rfl⟩
  rw [hB]
  have hl := ht.rd.len
  have m1 := hs.le; have m2 := hs.max; have m4 := ht.le; have m5 := ht.max
  have m3 : n ≤ 9223372036854775807 := by unfold maxLen at m2; omega
  have m6 : m ≤ 9223372036854775807 := by unfold maxLen at m5; omega
  clear m1 m2 m4 m5
  have HL := Lib.hid hl
  have e0 := Bx.new w 23 [.bool r.has, .int .i64 r.srtt, .int .i64 r.vr, .int .i64 r.rto, .int .i64 r.shift]
  rw [hB] at e0
  have b0 : Below B w (w.alloc (.cells #[.bool r.has, .int .i64 r.srtt, .int .i64 r.vr, .int .i64 r.rto, .int .i64 r.shift] 23)) := by rw [← hB]; exact (Below.refl _ _).alloc (Nat.le_refl _) _
  have s0 := hs.alloc (.cells #[.bool r.has, .int .i64 r.srtt, .int .i64 r.vr, .int .i64 r.rto, .int .i64 r.shift] 23); have t0 := ht.alloc (.cells #[.bool r.has, .int .i64 r.srtt, .int .i64 r.vr, .int .i64 r.rto, .int .i64 r.shift] 23)
  clear hs ht hl
  go_enter Try.func3, Try.ntmps3
  go_wp2_with fail
  generalize w.alloc (.cells #[.bool r.has, .int .i64 r.srtt, .int .i64 r.vr, .int .i64 r.rto, .int .i64 r.shift] 23) = w1 at e0 b0 s0 t0 ⊢
  refine (tiawake_any _).mono ?_
  rintro e w2 ⟨rfl, hb2⟩
  have e2 := e0.kept hb2; have b2 := b0.trans (hb2.mono (Nat.le_of_lt e0.lt)); have s2 := s0.keep hb2; have t2 := t0.keep hb2
  clear e0 b0 s0 t0 hb2 hB
  by_cases c0 : 520 < n
  case pos =>
    have d0 : decide ((520 : Int) < (n : Int)) = true := decide_eq_true (by omega)
    have d0' : decide (520 < n) = true := decide_eq_true c0
    go_wp2_with fail
    go_ret
    exact ⟨rfl, b2⟩
  have d0 : decide ((520 : Int) < (n : Int)) = false := decide_eq_false (by omega)
  have d0' : decide (520 < n) = false := decide_eq_false c0
  by_cases c1 : 50 < m
  case pos =>
    have d1 : decide ((50 : Int) < (m : Int)) = true := decide_eq_true (by omega)
    have d1' : decide (50 < m) = true := decide_eq_true c1
    go_wp2_with fail
    go_ret
    exact ⟨rfl, b2⟩
  have d1 : decide ((50 : Int) < (m : Int)) = false := decide_eq_false (by omega)
  have d1' : decide (50 < m) = false := decide_eq_false c1
  obtain ⟨S, hS⟩ : ∃ S, setR r l pb now most = S := ⟨_, rfl⟩
  obtain ⟨S, se⟩ := S
  have HS0 := Lib.hid hS
  clear hS
  go_wp2_with (refine rt_load rfl (.tmp 6) rfl rfl e2 rfl ?_)
  refine (tiset_any r A n c l pb now most _ s2).mono ?_
  rintro e u3 ⟨he, hb3⟩
  rw [HS0.out] at he
  dsimp only at he
  subst he
  have hB2 : B ≤ w2.heap.size := Nat.le_of_lt e2.lt
  have e3 := (e2.kept hb3).alloc (.cells #[.int .i64 S.kd, .int .i64 S.at_] 28); have s3 := (s2.keep hb3).alloc (.cells #[.int .i64 S.kd, .int .i64 S.at_] 28); have t3 := (t2.keep hb3).alloc (.cells #[.int .i64 S.kd, .int .i64 S.at_] 28)
  have b3 := (b2.trans (hb3.mono hB2)).alloc (Nat.le_trans hB2 hb3.size) (.cells #[.int .i64 S.kd, .int .i64 S.at_] 28)
  have f3 := Bx.new u3 28 [.int .i64 S.kd, .int .i64 S.at_]
  clear e2 s2 t2 b2 hb3 hB2
  go_upto_region 5 with fail
  obtain ⟨Q, hQ⟩ : ∃ Q, u3.heap.size = Q := ⟨_, rfl⟩
  rw [hQ] at f3 ⊢
  generalize u3.alloc (.cells #[.int .i64 S.kd, .int .i64 S.at_] 28) = w3 at e3 s3 t3 b3 f3 ⊢
  clear hQ
  go_wp2_with (refine rt_load rfl (.tmp 6) rfl rfl e3 rfl ?_)
  refine (rtmset_any r A n c l pb now most _ s3).mono ?_
  rintro e u4 ⟨he, hb4⟩
  rw [HS0.out] at he
  dsimp only at he
  subst he
  have hB3 : B ≤ w3.heap.size := Nat.le_of_lt e3.lt
  have t4 := (t3.keep hb4).alloc (.cells #[.int .i64 S.kd, .int .i64 S.at_] 28); have f4 := (f3.kept hb4).alloc (.cells #[.int .i64 S.kd, .int .i64 S.at_] 28)
  have b4 := (b3.trans (hb4.mono hB3)).alloc (Nat.le_trans hB3 hb4.size) (.cells #[.int .i64 S.kd, .int .i64 S.at_] 28)
  have hB4 : B ≤ (u4.alloc (.cells #[.int .i64 S.kd, .int .i64 S.at_] 28)).heap.size := by rw [World.size_alloc]; exact Nat.le_trans hB3 (Nat.le_trans hb4.size (Nat.le_succ _))
  have g4 := Bx.new u4 28 [.int .i64 S.kd, .int .i64 S.at_]
  clear e3 s3 t3 b3 f3 hb4 hB3
  go_upto_region 6 with fail
  obtain ⟨R, hR⟩ : ∃ R, u4.heap.size = R := ⟨_, rfl⟩
  rw [hR] at g4 ⊢
  generalize u4.alloc (.cells #[.int .i64 S.kd, .int .i64 S.at_] 28) = w4 at t4 b4 f4 g4 hB4 ⊢
  clear hR HS0
  go_wp2_with fail
  go_loopw [18] (fun s18 wr => ∃ k : Nat, k ≤ m ∧ s18 = .int .i64 (k : Int) ∧ Below w4.heap.size w4 wr) (fun i _ => m - (intOf i).toNat)
  case atStart => exact ⟨0, Nat.zero_le _, rfl, Below.refl _ _⟩
  case round =>
    obtain ⟨k, hkm, rfl, hbr⟩ := hrel
    by_cases hlt : k < m
    case neg =>
      obtain rfl : k = m := by omega
      have hd : decide (k < k) = false := decide_eq_false (by omega)
      have fr := f4.kept hbr; have gr := g4.kept hbr; have tr := t4.keep hbr; have br := b4.trans (hbr.mono hB4)
      have hBr : B ≤ wr.heap.size := Nat.le_trans hB4 hbr.size
      obtain ⟨F, hF⟩ : ∃ F, firstR t = F := ⟨_, rfl⟩
      have HF := Lib.hid hF
      clear f4 g4 t4 b4 hbr hF hB4
      have x0 := fr.cell 0 rfl; have x1 := fr.cell 1 rfl; have y0 := gr.cell 0 rfl; have y1 := gr.cell 1 rfl
      go_wp2_with (first
        | (go_at_call 15; refine (tifirst_any _ _ _ t _ tr).mono ?_; rintro e w6 ⟨rfl, hb6⟩; rw [HF.out]; have t6 := tr.keep hb6; have b6 : Below B w w6 := br.trans (hb6.mono hBr); have hB6 : B ≤ w6.heap.size := Nat.le_trans hBr hb6.size)
        | (go_at_call 16; refine (rtmfirst_any _ _ _ t _ t6).mono ?_; rintro e w7 ⟨rfl, hb7⟩; rw [HF.out]; have b7 : Below B w w7 := b6.trans (hb7.mono hB6)))
      go_ret
      exact ⟨rfl, b7⟩
    case pos =>
    have hd : decide (k < m) = true := decide_eq_true hlt
    obtain ⟨tb, tof, rfl, htl, hc⟩ := t4.rd.at_ (by omega)
    have X := tm_below (tm_at hc hlt) hbr htl
    have htr : tb < wr.heap.size := Nat.lt_of_lt_of_le htl hbr.size
    obtain ⟨p, hp⟩ : ∃ p, ge t k = p := ⟨_, rfl⟩
    rw [hp] at X
    obtain ⟨q, hq⟩ : ∃ q, tmB p = q := ⟨_, rfl⟩
    obtain ⟨D, hD⟩ : ∃ D, tdueR p now = D := ⟨_, rfl⟩
    have HQ := Lib.hid hq; have HD := Lib.hid hD
    clear hc hp hq hD
    go_upto_region 9 with fail
    have dd : Below wr.heap.size wr wr.drew := (Below.refl _ _).drew
    refine wp_region_tail 25 26 (fun (W : World) => TmAt W tb (tof + k * 2) p ∧ Below wr.heap.size wr W) (by kernel_rfl) (by rfl) (by decide) ?_
    have HS : ((fun (W : World) => TmAt W tb (tof + k * 2) p ∧ Below wr.heap.size wr W)) _ := ⟨tm_below X dd htr, dd⟩
    refine wpAnyT_take (i := 0) (v := ?vv1) rfl (by kernel_rfl) (fun _ _ _ h => h) (Or.inl ⟨by rfl, fun w hSw => ?yy1⟩) HS ?rr1
    case yy1 =>
      (try dsimp only at hSw); go_simp
      try with_reducible rfl
    try simp only [Act.put, List.setIfInBounds_toArray, List.set_cons_zero, List.set_cons_succ]
    refine wpAnyT_take (i := 1) (v := ?vv2) rfl (by kernel_rfl) (fun _ _ _ h => h) (Or.inl ⟨by rfl, fun w hSw => ?yy2⟩) HS ?rr2
    case yy2 =>
      (try dsimp only at hSw); go_simp
      try with_reducible rfl
    try simp only [Act.put, List.setIfInBounds_toArray, List.set_cons_zero, List.set_cons_succ]
    refine wpAnyT_take (i := 2) (v := ?vv3) rfl (by kernel_rfl) (fun _ _ _ h => h) (Or.inl ⟨by rfl, fun w hSw => ?yy3⟩) HS ?rr3
    case yy3 =>
      (try dsimp only at hSw); go_simp
      try with_reducible rfl
    try simp only [Act.put, List.setIfInBounds_toArray, List.set_cons_zero, List.set_cons_succ]
    refine wpAnyT_take (i := 3) (v := .agg #[.int .i64 p.kd, .int .i64 p.at_]) rfl (by kernel_rfl) (fun _ _ _ h => h) (Or.inl ⟨by rfl, fun w hSw => ?_⟩) HS ?_
    · obtain ⟨⟨c0, c1⟩, hbw⟩ := hSw; go_simp
    try simp only [Act.put, List.setIfInBounds_toArray, List.set_cons_zero, List.set_cons_succ]
    refine wpAnyT_take (i := 5) (v := ?vv4) rfl (by kernel_rfl) (fun _ _ _ h => h) (Or.inl ⟨by rfl, fun w hSw => ?yy4⟩) HS ?rr4
    case yy4 =>
      (try dsimp only at hSw); go_simp
      try with_reducible rfl
    try simp only [Act.put, List.setIfInBounds_toArray, List.set_cons_zero, List.set_cons_succ]
    refine wpAnyT_take (i := 6) (v := ?vv5) rfl (by kernel_rfl) (fun _ _ _ h => h) (Or.inl ⟨by rfl, fun w hSw => ?yy5⟩) HS ?rr5
    case yy5 =>
      (try dsimp only at hSw); go_simp
      try with_reducible rfl
    try simp only [Act.put, List.setIfInBounds_toArray, List.set_cons_zero, List.set_cons_succ]
    refine wpAnyT_take (i := 7) (v := ?vv6) rfl (by kernel_rfl) (fun _ _ _ h => h) (Or.inl ⟨by rfl, fun w hSw => ?yy6⟩) HS ?rr6
    case yy6 =>
      (try dsimp only at hSw); go_simp
      try with_reducible rfl
    try simp only [Act.put, List.setIfInBounds_toArray, List.set_cons_zero, List.set_cons_succ]
    refine wpAnyT_take (i := 8) (v := .agg #[.int .i64 p.kd, .int .i64 p.at_]) rfl (by kernel_rfl) (fun _ _ _ h => h) (Or.inl ⟨by rfl, fun w hSw => ?_⟩) HS ?_
    · obtain ⟨⟨c0, c1⟩, hbw⟩ := hSw; go_simp
    try simp only [Act.put, List.setIfInBounds_toArray, List.set_cons_zero, List.set_cons_succ]
    refine wpAnyT_one (k := 4) rfl (by kernel_rfl) (by decide) (fun K hK => ?_)
    go_simp
    refine (timay_any p _).mono ?_
    rintro e y1 ⟨rfl, hy1⟩
    rw [HQ.out]
    have HS : ((fun (W : World) => TmAt W tb (tof + k * 2) p ∧ Below wr.heap.size wr W)) _ := ⟨tm_below HS.1 hy1 (Nat.lt_of_lt_of_le htr HS.2.size), HS.2.trans (hy1.mono HS.2.size)⟩
    refine hK _ _ HS ?_
    clear hK K
    try simp only [Act.put, List.setIfInBounds_toArray, List.set_cons_zero, List.set_cons_succ]
    refine wpAnyT_one (k := 9) rfl (by kernel_rfl) (by decide) (fun K hK => ?_)
    go_simp
    refine (rtmmay_any p _).mono ?_
    rintro e y2 ⟨rfl, hy2⟩
    rw [HQ.out]
    have HS : ((fun (W : World) => TmAt W tb (tof + k * 2) p ∧ Below wr.heap.size wr W)) _ := ⟨tm_below HS.1 hy2 (Nat.lt_of_lt_of_le htr HS.2.size), HS.2.trans (hy2.mono HS.2.size)⟩
    refine hK _ _ HS ?_
    clear hK K
    try simp only [Act.put, List.setIfInBounds_toArray, List.set_cons_zero, List.set_cons_succ]
    refine wpAnyT_take (i := 10) (v := ?vv7) rfl (by kernel_rfl) (fun _ _ _ h => h) (Or.inl ⟨by rfl, fun w hSw => ?yy7⟩) HS ?rr7
    case yy7 =>
      (try dsimp only at hSw); go_simp
      try with_reducible rfl
    try simp only [Act.put, List.setIfInBounds_toArray, List.set_cons_zero, List.set_cons_succ]
    refine wpAnyT_take (i := 11) (v := ?vv8) rfl (by kernel_rfl) (fun _ _ _ h => h) (Or.inl ⟨by rfl, fun w hSw => ?yy8⟩) HS ?rr8
    case yy8 =>
      (try dsimp only at hSw); go_simp
      try with_reducible rfl
    try simp only [Act.put, List.setIfInBounds_toArray, List.set_cons_zero, List.set_cons_succ]
    refine wpAnyT_take (i := 12) (v := ?vv9) rfl (by kernel_rfl) (fun _ _ _ h => h) (Or.inl ⟨by rfl, fun w hSw => ?yy9⟩) HS ?rr9
    case yy9 =>
      (try dsimp only at hSw); go_simp
      try with_reducible rfl
    try simp only [Act.put, List.setIfInBounds_toArray, List.set_cons_zero, List.set_cons_succ]
    refine wpAnyT_take (i := 13) (v := ?vv10) rfl (by kernel_rfl) (fun _ _ _ h => h) (Or.inl ⟨by rfl, fun w hSw => ?yy10⟩) HS ?rr10
    case yy10 =>
      (try dsimp only at hSw); go_simp
      try with_reducible rfl
    try simp only [Act.put, List.setIfInBounds_toArray, List.set_cons_zero, List.set_cons_succ]
    refine wpAnyT_take (i := 14) (v := ?vv11) rfl (by kernel_rfl) (fun _ _ _ h => h) (Or.inl ⟨by rfl, fun w hSw => ?yy11⟩) HS ?rr11
    case yy11 =>
      (try dsimp only at hSw); go_simp
      try with_reducible rfl
    try simp only [Act.put, List.setIfInBounds_toArray, List.set_cons_zero, List.set_cons_succ]
    refine wpAnyT_take (i := 15) (v := .agg #[.int .i64 p.kd, .int .i64 p.at_]) rfl (by kernel_rfl) (fun _ _ _ h => h) (Or.inl ⟨by rfl, fun w hSw => ?_⟩) HS ?_
    · obtain ⟨⟨c0, c1⟩, hbw⟩ := hSw; go_simp
    try simp only [Act.put, List.setIfInBounds_toArray, List.set_cons_zero, List.set_cons_succ]
    refine wpAnyT_take (i := 16) (v := ?vv12) rfl (by kernel_rfl) (fun _ _ _ h => h) (Or.inl ⟨by rfl, fun w hSw => ?yy12⟩) HS ?rr12
    case yy12 =>
      (try dsimp only at hSw); go_simp
      try with_reducible rfl
    try simp only [Act.put, List.setIfInBounds_toArray, List.set_cons_zero, List.set_cons_succ]
    refine wpAnyT_take (i := 18) (v := ?vv13) rfl (by kernel_rfl) (fun _ _ _ h => h) (Or.inl ⟨by rfl, fun w hSw => ?yy13⟩) HS ?rr13
    case yy13 =>
      (try dsimp only at hSw); go_simp
      try with_reducible rfl
    try simp only [Act.put, List.setIfInBounds_toArray, List.set_cons_zero, List.set_cons_succ]
    refine wpAnyT_take (i := 19) (v := ?vv14) rfl (by kernel_rfl) (fun _ _ _ h => h) (Or.inl ⟨by rfl, fun w hSw => ?yy14⟩) HS ?rr14
    case yy14 =>
      (try dsimp only at hSw); go_simp
      try with_reducible rfl
    try simp only [Act.put, List.setIfInBounds_toArray, List.set_cons_zero, List.set_cons_succ]
    refine wpAnyT_take (i := 20) (v := ?vv15) rfl (by kernel_rfl) (fun _ _ _ h => h) (Or.inl ⟨by rfl, fun w hSw => ?yy15⟩) HS ?rr15
    case yy15 =>
      (try dsimp only at hSw); go_simp
      try with_reducible rfl
    try simp only [Act.put, List.setIfInBounds_toArray, List.set_cons_zero, List.set_cons_succ]
    refine wpAnyT_take (i := 21) (v := .agg #[.int .i64 p.kd, .int .i64 p.at_]) rfl (by kernel_rfl) (fun _ _ _ h => h) (Or.inl ⟨by rfl, fun w hSw => ?_⟩) HS ?_
    · obtain ⟨⟨c0, c1⟩, hbw⟩ := hSw; go_simp
    try simp only [Act.put, List.setIfInBounds_toArray, List.set_cons_zero, List.set_cons_succ]
    refine wpAnyT_take (i := 22) (v := ?vv16) rfl (by kernel_rfl) (fun _ _ _ h => h) (Or.inl ⟨by rfl, fun w hSw => ?yy16⟩) HS ?rr16
    case yy16 =>
      (try dsimp only at hSw); go_simp
      try with_reducible rfl
    try simp only [Act.put, List.setIfInBounds_toArray, List.set_cons_zero, List.set_cons_succ]
    refine wpAnyT_one (k := 17) rfl (by kernel_rfl) (by decide) (fun K hK => ?_)
    go_simp
    refine (tidue_any p now _).mono ?_
    rintro e y3 ⟨rfl, hy3⟩
    rw [HD.out]
    have HS : ((fun (W : World) => TmAt W tb (tof + k * 2) p ∧ Below wr.heap.size wr W)) _ := ⟨tm_below HS.1 hy3 (Nat.lt_of_lt_of_le htr HS.2.size), HS.2.trans (hy3.mono HS.2.size)⟩
    refine hK _ _ HS ?_
    clear hK K
    try simp only [Act.put, List.setIfInBounds_toArray, List.set_cons_zero, List.set_cons_succ]
    refine wpAnyT_one (k := 23) rfl (by kernel_rfl) (by decide) (fun K hK => ?_)
    go_simp
    refine (rtmdue_any p now _).mono ?_
    rintro e y4 ⟨rfl, hy4⟩
    rw [HD.out]
    have HS : ((fun (W : World) => TmAt W tb (tof + k * 2) p ∧ Below wr.heap.size wr W)) _ := ⟨tm_below HS.1 hy4 (Nat.lt_of_lt_of_le htr HS.2.size), HS.2.trans (hy4.mono HS.2.size)⟩
    refine hK _ _ HS ?_
    clear hK K
    try simp only [Act.put, List.setIfInBounds_toArray, List.set_cons_zero, List.set_cons_succ]
    refine wpAnyT_take (i := 24) (v := ?vv17) rfl (by kernel_rfl) (fun _ _ _ h => h) (Or.inl ⟨by rfl, fun w hSw => ?yy17⟩) HS ?rr17
    case yy17 =>
      (try dsimp only at hSw); go_simp
      try with_reducible rfl
    try simp only [Act.put, List.setIfInBounds_toArray, List.set_cons_zero, List.set_cons_succ]
    refine ⟨by kernel_rfl, ?_⟩
    simp only [List.drop_succ_cons, List.drop_zero]
    have hbz := hbr.trans (HS.2.mono hbr.size)
    clear HS dd X
    go_wp2_with fail
    go_roundw
    case rel => exact ⟨k + 1, by omega, by go_num, hbz⟩
    case measure => simp [intOf]; omega
end Go.Proofs.Ytbkmadlekigjfaa.timerTells
