/- SentSpan: the walk. -/
import Derived.Test.YtnbamacdcggaeaaStAwake
import Derived.Test.YtnbamacdcggaeaaStMath
import Derived.Test.YtnbamacdcggaeaaSentAgainWalk
import Derived.OrdersHeld
import Derived.StillTail
import Derived.Test.YtnbamacdcggaeaaTail
import Derived.WalkKit
import Derived.WalkSpells
import Derived.WalkSmall
import Derived.Lib.Hide
import Derived.Below
import Derived.Outline
import Derived.Deep.QuietTactic
import Derived.BigQuiet
import Derived.IntWalk
import Derived.Deep.DeepCutAuto
import Derived.OwnWalk
namespace Go.Proofs.Ytnbamacdcggaeaa.sentSpan
open Go.RowKit
set_option linter.unusedVariables false
set_option linter.unusedSimpArgs false

theorem send_span {l : List Prt} {x : Prt} (hc : chainB (l ++ [x]) = true) (hl : l.length < 500) (hm : smayB l = true) : (spanR (l ++ [x])).2 = endP x ∧ (0 < l.length → (spanR (l ++ [x])).1 = (spanR l).1 ∧ x.seq = (spanR l).2) ∧ flightR (l ++ [x]) = flySum l + flyL x ∧ POk x := by
  have hm2 := send_may hc hl
  have hch := (chainB_iff _).1 hc
  have hlen : (l ++ [x]).length = l.length + 1 := by simp
  have hx := hch l.length (by omega)
  have hgx : ge (l ++ [x]) l.length = x := ge_snoc l x
  refine ⟨?_, fun h0 => ⟨?_, ?_⟩, ?_, ?_⟩
  · rw [span_eq hm2 (by omega), hlen, Nat.add_sub_cancel, hgx]
  · rw [span_eq hm2 (by omega), span_eq hm h0, ge_app h0]
  · have h2 := hx.2 h0
    rw [hgx, ge_app (by omega)] at h2
    rw [span_eq hm h0]
    exact h2
  · unfold flightR
    rw [if_pos hm2, flySum_snoc]
  · have h2 := hx.1
    rwa [hgx] at h2
theorem again_span {l : List Prt} {k : Nat} {a : Int} (hk : k < l.length) (hm : smayB l = true) (ha : t60 a = true) (hc : (ge l k).came = false) (ht : (ge l k).tries ≤ 999) : spanR (l.set k (againP (ge l k) a)) = spanR l := by
  have hseq : ∀ j, (ge (l.set k (againP (ge l k) a)) j).seq = (ge l j).seq ∧ (ge (l.set k (againP (ge l k) a)) j).len = (ge l j).len := fun j => by
    rw [ge_set hk]
    split
    · next e => subst e; exact ⟨rfl, rfl⟩
    · exact ⟨rfl, rfl⟩
  rw [span_eq (sentAgain.again_may hk hm ha hc ht) (by rw [List.length_set]; omega), span_eq hm (by omega), List.length_set]
  unfold endP
  rw [(hseq 0).1, (hseq _).1, (hseq _).2]
theorem again_fly {l : List Prt} {k : Nat} {a : Int} (hk : k < l.length) (hm : smayB l = true) (ha : t60 a = true) (hc : (ge l k).came = false) (ht : (ge l k).tries ≤ 999) : flySum l ≤ flightR (l.set k (againP (ge l k) a)) ∧ flightR (l.set k (againP (ge l k) a)) ≤ flySum l + 1460 := by
  unfold flightR
  rw [if_pos (sentAgain.again_may hk hm ha hc ht), flySum_set hk]
  have hp := (((smay_iff l).1 hm).2 k hk).1
  have h1 := hp.l1; have h2 := hp.l2
  have e1 : flyL (againP (ge l k) a) = (ge l k).len := by unfold flyL againP; dsimp only; rw [hc]; rfl
  rw [e1]
  unfold flyL
  split <;> omega

set_option maxRecDepth 100000 in
set_option maxHeartbeats 16000000 in
theorem walk (A : Option Addr) (n c : Nat) (l : List Prt) (x : Prt) (a : Int) (w : World) (hs : Se w A n c l) (hx : PrtW x) :
    Calls Try.prog 5 #[.slice A n c, .agg #[.int .i64 x.seq, .int .i64 x.len, .int .i64 x.dsn, .int .i64 x.at_, .int .i64 x.tries, .bool x.came, .bool x.lost, .int .i64 x.total, .int .i64 x.last], .int .i64 a] w fun e w' => e = .returned (.bool true) ∧ Below w.heap.size w w' := by
  obtain ⟨B, hB⟩ : ∃ B, w.heap.size = B := ⟨_, rfl⟩
  rw [hB]
  have hl := hs.rd.len
  have m1 := hs.le; have m2 := hs.max
  unfold maxLen at m2
  have e0 : Bx (w.alloc (.cells #[.int .i64 x.seq, .int .i64 x.len, .int .i64 x.dsn, .int .i64 x.at_, .int .i64 x.tries, .bool x.came, .bool x.lost, .int .i64 x.total, .int .i64 x.last] 24)) w.heap.size 24 [.int .i64 x.seq, .int .i64 x.len, .int .i64 x.dsn, .int .i64 x.at_, .int .i64 x.tries, .bool x.came, .bool x.lost, .int .i64 x.total, .int .i64 x.last] := Bx.new w 24 [.int .i64 x.seq, .int .i64 x.len, .int .i64 x.dsn, .int .i64 x.at_, .int .i64 x.tries, .bool x.came, .bool x.lost, .int .i64 x.total, .int .i64 x.last]
  rw [hB] at e0
  have b0 : Below B w (w.alloc (.cells #[.int .i64 x.seq, .int .i64 x.len, .int .i64 x.dsn, .int .i64 x.at_, .int .i64 x.tries, .bool x.came, .bool x.lost, .int .i64 x.total, .int .i64 x.last] 24)) := by rw [← hB]; exact (Below.refl _ _).alloc (Nat.le_refl _) _
  have s0 := hs.alloc (.cells #[.int .i64 x.seq, .int .i64 x.len, .int .i64 x.dsn, .int .i64 x.at_, .int .i64 x.tries, .bool x.came, .bool x.lost, .int .i64 x.total, .int .i64 x.last] 24)
  have HL := Lib.hid hl; have HB := Lib.hid hB
  clear hl hs
  go_enter Try.func5, Try.ntmps5
  go_upto_region 1 with fail
  generalize w.alloc (.cells #[.int .i64 x.seq, .int .i64 x.len, .int .i64 x.dsn, .int .i64 x.at_, .int .i64 x.tries, .bool x.came, .bool x.lost, .int .i64 x.total, .int .i64 x.last] 24) = w0 at e0 b0 s0 ⊢
  have hB0 : B < w0.heap.size := e0.lt
  go_upto_region 2 with (go_at_call 9; refine (staw_any _).mono ?_; rintro e w1 ⟨rfl, hb1⟩)
  have e1 := e0.kept hb1; have b1 : Below B w w1 := b0.trans (hb1.mono (Nat.le_of_lt hB0)); have s1 := s0.keep hb1
  have hB1 : B < w1.heap.size := e1.lt
  by_cases hn : 520 < n
  · have d1 : decide ((520 : Int) < (n : Int)) = true := decide_eq_true (by omega)
    have d2 : decide (520 < n) = true := decide_eq_true hn
    go_wp2_with fail
    go_ret
    exact ⟨rfl, b1⟩
  have d1 : decide ((520 : Int) < (n : Int)) = false := decide_eq_false (by omega)
  have d2 : decide (520 < n) = false := decide_eq_false hn
  have hn520 : n ≤ 1000 := by omega
  clear hn m1 m2 hb1 e0 b0 s0 hB0
  have hm := stmay_any A n c l w1 s1
  cases hk : smayB l with
  | false =>
    rw [hk] at hm
    clear hk
    go_wp2_with (go_at_call 17; refine hm.mono ?_; rintro e w2 ⟨rfl, hb2⟩)
    go_ret
    exact ⟨rfl, b1.trans (hb2.mono (Nat.le_of_lt hB1))⟩
  | true =>
  rw [hk] at hm
  have hfs := fly_span hk
  have hfl : flightR l = flySum l := by unfold flightR; rw [if_pos hk]
  have hbd : 0 < l.length → 0 ≤ (spanR l).1 ∧ (spanR l).1 < (spanR l).2 ∧ (spanR l).2 ≤ 1152921504606848436 := span_bd hk
  have hz0 : ¬ 0 < l.length → spanR l = (0, 0) := fun h => span_zero (fun k => h k.1)
  have hsb : 0 ≤ (spanR l).1 ∧ (spanR l).1 ≤ (spanR l).2 ∧ (spanR l).2 ≤ 1152921504606848436 := by
    by_cases h : 0 < l.length
    · have := hbd h; omega
    · rw [hz0 h]; dsimp only; omega
  obtain ⟨fl, hfle⟩ : ∃ f, flySum l = f := ⟨_, rfl⟩
  obtain ⟨sx, hsx⟩ : ∃ s, spanR l = s := ⟨_, rfl⟩
  rw [hfle] at hfl hfs
  rw [hsx] at hfs hsb
  obtain ⟨sf, su⟩ := sx
  obtain ⟨q0, q1, q2⟩ := hsb
  obtain ⟨f0, f1⟩ := hfs
  dsimp only at q0 q1 q2 f1
  have HK := Lib.hid hk; have HSX := Lib.hid hsx; have HFL := Lib.hid hfl; have HFE := Lib.hid hfle
  clear hk hsx hfl hfle hbd hz0
  go_upto_region 5 with (first
    | (go_at_call 17; refine hm.mono ?_; rintro e w2 ⟨rfl, hb2⟩; have s2 := s1.keep hb2; have e2 := e1.kept hb2; have b2 : Below B w w2 := b1.trans (hb2.mono (Nat.le_of_lt hB1)))
    | (go_at_call 21; refine (stspan_any A n c l w2 s2).mono ?_; rintro e w3 ⟨he, hb3⟩; rw [HSX.out] at he; subst he; have s3 := s2.keep hb3; have e3 := e2.kept hb3; have b3 : Below B w w3 := b2.trans (hb3.mono (Nat.le_of_lt e2.lt))))
  clear hm e1 b1 s1 hB1 e2 b2 s2 hb2 hb3
  have y4 := Bx.new w3 37 [.int .i64 sf, .int .i64 su]
  have e4 := e3.alloc (.cells #[.int .i64 sf, .int .i64 su] 37)
  have s4 := s3.alloc (.cells #[.int .i64 sf, .int .i64 su] 37)
  have b4 : Below B w (w3.alloc (.cells #[.int .i64 sf, .int .i64 su] 37)) := b3.alloc (Nat.le_of_lt e3.lt) _
  have hPB : B < w3.heap.size := e3.lt
  obtain ⟨P, hP⟩ : ∃ P, w3.heap.size = P := ⟨_, rfl⟩
  rw [hP] at y4 hPB ⊢
  generalize w3.alloc (.cells #[.int .i64 sf, .int .i64 su] 37) = w4 at y4 e4 s4 b4 ⊢
  clear e3 s3 b3 hP
  go_upto_region 6 with (go_at_call 19; refine (stflight_any A n c l w4 s4).mono ?_; rintro e w5 ⟨he, hb5⟩; rw [HFL.out] at he; subst he; have s5 := s4.keep hb5; have e5 := e4.kept hb5; have y5 := y4.kept hb5; have b5 : Below B w w5 := b4.trans (hb5.mono (Nat.le_of_lt e4.lt)))
  clear e4 s4 y4 b4 hb5
  have c0 := y5.cell 0 rfl; have c1 := y5.cell 1 rfl
  have g1 : decide (fl < 0) = false := decide_eq_false (by omega)
  have g2 : decide (su - sf < fl) = false := decide_eq_false (by omega)
  have hs1 : IntKind.i64.wrap (su - sf) = su - sf := IntWalk.i64_in _ (by omega)
  obtain ⟨r1, hr1⟩ : ∃ r, sendR l x = r := ⟨_, rfl⟩
  have HR1 := Lib.hid hr1
  have hsc := send_cases l x
  rw [hr1] at hsc
  have HSC := Lib.hid hsc
  have F1 := Lib.hid f1
  clear hr1 hsc f1
  go_upto_region 8 with fail
  clear c0 c1 g1 g2 hs1
  go_upto_region 9 with (first
    | (refine st_load rfl (.tmp 4) rfl rfl e5 rfl ?_)
    | (go_at_call 10; refine (stsend_any A n c l x w5 s5 hx hn520).mono ?_; rintro e w6 ⟨G, m, d, he, ht1, hb6⟩; rw [HR1.out] at he ht1; subst he))
  (try dsimp only at ht1 ⊢)
  have e6 := e5.kept hb6; have y6 := y5.kept hb6; have s6 := s5.keep hb6; have b6 : Below B w w6 := b5.trans (hb6.mono (Nat.le_of_lt e5.lt))
  clear e5 y5 s5 b5 hb6
  have HT1 := Lib.hid ht1.se
  clear ht1
  rcases HSC.out with ⟨er, her, hre⟩ | ⟨hcb, hl5, hre⟩
  · subst hre
    (try dsimp only)
    have h1 : (er == 0) = false := by simpa using her
    have h2 : (er != 0) = true := by simpa using her
    clear her HSC HR1 HT1
    obtain ⟨r2, hr2⟩ : ∃ r, againR l x.seq a = r := ⟨_, rfl⟩
    have HR2 := Lib.hid hr2
    have hac := sentAgain.again_cases l x.seq a
    rw [hr2] at hac
    have HAC := Lib.hid hac
    have j0 := e6.cell 0 rfl
    clear hr2 hac
    go_upto_region 17 with (go_at_call 13; refine (stagain_any A n c l x.seq a w6 s6 hn520).mono ?_; rintro e w7 ⟨G2, m2, d2', he, ht2, hb7⟩; rw [HR2.out] at he ht2; subst he)
    (try dsimp only at ht2 ⊢)
    have y7 := y6.kept hb7; have b7 : Below B w w7 := b6.trans (hb7.mono (Nat.le_of_lt e6.lt)); have hBj : B < w7.heap.size := Nat.lt_of_lt_of_le e6.lt hb7.size
    have HT2 := Lib.hid ht2.se
    clear ht2 hb7 j0 e6 s6 y6 b6
    rcases HAC.out with ⟨er2, her2, hre2⟩ | ⟨k0, hk0, hq0, hc0, ht0, hmay, ha60, hre2⟩
    · subst hre2
      (try dsimp only)
      have h3 : (er2 != 0) = true := by simpa using her2
      have h4 : (er2 == 0) = false := by simpa using her2
      clear her2 HAC HR2 HT2
      refine wp_region_tail 24 26 (fun (W : World) => Below B w W) (by kernel_rfl) (by rfl) (by decide) ?_
      have HS : ((fun (W : World) => Below B w W)) w7.drew := b7.drew
      refine wpAnyT_take (i := 0) (v := ?vv139) rfl (by kernel_rfl) (fun _ _ _ h => h) (Or.inl ⟨by rfl, fun w hSw => ?yy139⟩) HS ?rr139
      case yy139 =>
        (try dsimp only at hSw); go_simp
        try with_reducible rfl
      try simp only [Act.put, List.setIfInBounds_toArray, List.set_cons_zero, List.set_cons_succ]
      refine wpAnyT_take (i := 1) (v := ?vv140) rfl (by kernel_rfl) (fun _ _ _ h => h) (Or.inl ⟨by rfl, fun w hSw => ?yy140⟩) HS ?rr140
      case yy140 =>
        (try dsimp only at hSw); go_simp
        try with_reducible rfl
      try simp only [Act.put, List.setIfInBounds_toArray, List.set_cons_zero, List.set_cons_succ]
      refine wpAnyT_take (i := 2) (v := ?vv141) rfl (by kernel_rfl) (fun _ _ _ h => h) (Or.inl ⟨by rfl, fun w hSw => ?yy141⟩) HS ?rr141
      case yy141 =>
        (try dsimp only at hSw); go_simp
        try with_reducible rfl
      try simp only [Act.put, List.setIfInBounds_toArray, List.set_cons_zero, List.set_cons_succ]
      refine wpAnyT_take (i := 3) (v := undef) rfl (by kernel_rfl) (fun _ _ _ h => h) (Or.inr ⟨by kernel_rfl, rfl⟩) HS ?_
      try simp only [Act.put, List.setIfInBounds_toArray, List.set_cons_zero, List.set_cons_succ]
      refine wpAnyT_take (i := 4) (v := undef) rfl (by kernel_rfl) (fun _ _ _ h => h) (Or.inr ⟨by kernel_rfl, rfl⟩) HS ?_
      try simp only [Act.put, List.setIfInBounds_toArray, List.set_cons_zero, List.set_cons_succ]
      refine wpAnyT_take (i := 5) (v := undef) rfl (by kernel_rfl) (fun _ _ _ h => h) (Or.inr ⟨by kernel_rfl, rfl⟩) HS ?_
      try simp only [Act.put, List.setIfInBounds_toArray, List.set_cons_zero, List.set_cons_succ]
      refine wpAnyT_take (i := 6) (v := undef) rfl (by kernel_rfl) (fun _ _ _ h => h) (Or.inr ⟨by kernel_rfl, rfl⟩) HS ?_
      try simp only [Act.put, List.setIfInBounds_toArray, List.set_cons_zero, List.set_cons_succ]
      refine wpAnyT_take (i := 7) (v := undef) rfl (by kernel_rfl) (fun _ _ _ h => h) (Or.inr ⟨by kernel_rfl, rfl⟩) HS ?_
      try simp only [Act.put, List.setIfInBounds_toArray, List.set_cons_zero, List.set_cons_succ]
      refine wpAnyT_take (i := 8) (v := undef) rfl (by kernel_rfl) (fun _ _ _ h => h) (Or.inr ⟨by kernel_rfl, rfl⟩) HS ?_
      try simp only [Act.put, List.setIfInBounds_toArray, List.set_cons_zero, List.set_cons_succ]
      refine wpAnyT_take (i := 9) (v := undef) rfl (by kernel_rfl) (fun _ _ _ h => h) (Or.inr ⟨by kernel_rfl, rfl⟩) HS ?_
      try simp only [Act.put, List.setIfInBounds_toArray, List.set_cons_zero, List.set_cons_succ]
      refine wpAnyT_take (i := 10) (v := undef) rfl (by kernel_rfl) (fun _ _ _ h => h) (Or.inr ⟨by kernel_rfl, rfl⟩) HS ?_
      try simp only [Act.put, List.setIfInBounds_toArray, List.set_cons_zero, List.set_cons_succ]
      refine wpAnyT_take (i := 11) (v := undef) rfl (by kernel_rfl) (fun _ _ _ h => h) (Or.inr ⟨by kernel_rfl, rfl⟩) HS ?_
      try simp only [Act.put, List.setIfInBounds_toArray, List.set_cons_zero, List.set_cons_succ]
      refine wpAnyT_take (i := 12) (v := undef) rfl (by kernel_rfl) (fun _ _ _ h => h) (Or.inr ⟨by kernel_rfl, rfl⟩) HS ?_
      try simp only [Act.put, List.setIfInBounds_toArray, List.set_cons_zero, List.set_cons_succ]
      refine wpAnyT_take (i := 13) (v := undef) rfl (by kernel_rfl) (fun _ _ _ h => h) (Or.inr ⟨by kernel_rfl, rfl⟩) HS ?_
      try simp only [Act.put, List.setIfInBounds_toArray, List.set_cons_zero, List.set_cons_succ]
      refine wpAnyT_take (i := 14) (v := undef) rfl (by kernel_rfl) (fun _ _ _ h => h) (Or.inr ⟨by kernel_rfl, rfl⟩) HS ?_
      try simp only [Act.put, List.setIfInBounds_toArray, List.set_cons_zero, List.set_cons_succ]
      refine wpAnyT_take (i := 15) (v := undef) rfl (by kernel_rfl) (fun _ _ _ h => h) (Or.inr ⟨by kernel_rfl, rfl⟩) HS ?_
      try simp only [Act.put, List.setIfInBounds_toArray, List.set_cons_zero, List.set_cons_succ]
      refine wpAnyT_take (i := 16) (v := undef) rfl (by kernel_rfl) (fun _ _ _ h => h) (Or.inr ⟨by kernel_rfl, rfl⟩) HS ?_
      try simp only [Act.put, List.setIfInBounds_toArray, List.set_cons_zero, List.set_cons_succ]
      refine wpAnyT_take (i := 17) (v := undef) rfl (by kernel_rfl) (fun _ _ _ h => h) (Or.inr ⟨by kernel_rfl, rfl⟩) HS ?_
      try simp only [Act.put, List.setIfInBounds_toArray, List.set_cons_zero, List.set_cons_succ]
      refine wpAnyT_take (i := 18) (v := undef) rfl (by kernel_rfl) (fun _ _ _ h => h) (Or.inr ⟨by kernel_rfl, rfl⟩) HS ?_
      try simp only [Act.put, List.setIfInBounds_toArray, List.set_cons_zero, List.set_cons_succ]
      refine wpAnyT_take (i := 19) (v := undef) rfl (by kernel_rfl) (fun _ _ _ h => h) (Or.inr ⟨by kernel_rfl, rfl⟩) HS ?_
      try simp only [Act.put, List.setIfInBounds_toArray, List.set_cons_zero, List.set_cons_succ]
      refine wpAnyT_take (i := 20) (v := undef) rfl (by kernel_rfl) (fun _ _ _ h => h) (Or.inr ⟨by kernel_rfl, rfl⟩) HS ?_
      try simp only [Act.put, List.setIfInBounds_toArray, List.set_cons_zero, List.set_cons_succ]
      refine wpAnyT_take (i := 21) (v := undef) rfl (by kernel_rfl) (fun _ _ _ h => h) (Or.inr ⟨by kernel_rfl, rfl⟩) HS ?_
      try simp only [Act.put, List.setIfInBounds_toArray, List.set_cons_zero, List.set_cons_succ]
      refine wpAnyT_take (i := 22) (v := undef) rfl (by kernel_rfl) (fun _ _ _ h => h) (Or.inr ⟨by kernel_rfl, rfl⟩) HS ?_
      try simp only [Act.put, List.setIfInBounds_toArray, List.set_cons_zero, List.set_cons_succ]
      refine wpAnyT_take (i := 23) (v := undef) rfl (by kernel_rfl) (fun _ _ _ h => h) (Or.inr ⟨by kernel_rfl, rfl⟩) HS ?_
      try simp only [Act.put, List.setIfInBounds_toArray, List.set_cons_zero, List.set_cons_succ]
      refine ⟨by kernel_rfl, ?_⟩
      simp only [List.drop_succ_cons, List.drop_zero]
      go_wp2_with fail
      go_ret
      exact ⟨rfl, HS⟩
    · subst hre2
      (try dsimp only at HT2 ⊢)
      have hsp := again_span hk0 hmay ha60 hc0 ht0
      have hfl2 := again_fly hk0 hmay ha60 hc0 ht0
      have hmm := sentAgain.again_may hk0 hmay ha60 hc0 ht0
      rw [HSX.out] at hsp
      rw [HFE.out] at hfl2
      obtain ⟨L2, hL2⟩ : ∃ L, l.set k0 (againP (ge l k0) a) = L := ⟨_, rfl⟩
      rw [hL2] at hsp hfl2 hmm HT2
      obtain ⟨fa, hfa⟩ : ∃ f, flightR L2 = f := ⟨_, rfl⟩
      rw [hfa] at hfl2
      have HSP := Lib.hid hsp; have HFA := Lib.hid hfa; have HMM := Lib.hid hmm
      obtain ⟨p1, p2⟩ := hfl2
      have o1 : decide (fl ≤ fa) = true := decide_eq_true p1
      have o2 : decide (fa ≤ fl + 1460) = true := decide_eq_true p2
      have o3 : IntKind.i64.wrap (fl + 1460) = fl + 1460 := IntWalk.i64_in _ (by have := F1.out; omega)
      clear hsp hfa hmm hL2 hk0 hq0 hc0 ht0 hmay ha60 HAC HR2
      refine wp_region_tail 24 26 (fun (W : World) => Bx W P 37 [.int .i64 sf, .int .i64 su] ∧ Below w7.heap.size w7 W) (by kernel_rfl) (by rfl) (by decide) ?_
      have HS : ((fun (W : World) => Bx W P 37 [.int .i64 sf, .int .i64 su] ∧ Below w7.heap.size w7 W)) w7.drew := ⟨y7.drew, (Below.refl _ _).drew⟩
      refine wpAnyT_take (i := 0) (v := ?vv142) rfl (by kernel_rfl) (fun _ _ _ h => h) (Or.inl ⟨by rfl, fun w hSw => ?yy142⟩) HS ?rr142
      case yy142 =>
        (try dsimp only at hSw); go_simp
        try with_reducible rfl
      try simp only [Act.put, List.setIfInBounds_toArray, List.set_cons_zero, List.set_cons_succ]
      refine wpAnyT_take (i := 1) (v := ?vv143) rfl (by kernel_rfl) (fun _ _ _ h => h) (Or.inl ⟨by rfl, fun w hSw => ?yy143⟩) HS ?rr143
      case yy143 =>
        (try dsimp only at hSw); go_simp
        try with_reducible rfl
      try simp only [Act.put, List.setIfInBounds_toArray, List.set_cons_zero, List.set_cons_succ]
      refine wpAnyT_take (i := 2) (v := ?vv144) rfl (by kernel_rfl) (fun _ _ _ h => h) (Or.inl ⟨by rfl, fun w hSw => ?yy144⟩) HS ?rr144
      case yy144 =>
        (try dsimp only at hSw); go_simp
        try with_reducible rfl
      try simp only [Act.put, List.setIfInBounds_toArray, List.set_cons_zero, List.set_cons_succ]
      refine wpAnyT_take (i := 3) (v := ?vv145) rfl (by kernel_rfl) (fun _ _ _ h => h) (Or.inl ⟨by rfl, fun w hSw => ?yy145⟩) HS ?rr145
      case yy145 =>
        (try dsimp only at hSw); go_simp
        try with_reducible rfl
      try simp only [Act.put, List.setIfInBounds_toArray, List.set_cons_zero, List.set_cons_succ]
      refine wpAnyT_take (i := 5) (v := .agg #[.int .i64 sf, .int .i64 su]) rfl (by kernel_rfl) (fun _ _ _ h => h) (sg_yields (by rfl) (.tmp 8) rfl rfl [.int .i64 sf, .int .i64 su] rfl 37 (fun W hW => hW.1)) HS ?_
      try simp only [Act.put, List.setIfInBounds_toArray, List.set_cons_zero, List.set_cons_succ]
      refine wpAnyT_one (k := 4) rfl (by kernel_rfl) (by decide) (fun K hK => ?_)
      go_simp
      refine (stspan_any G2 m2 d2' L2 _ (HT2.out.keep HS.2)).mono ?_
      rintro e wc1 ⟨he, hbc⟩
      rw [HSP.out] at he
      subst he
      have HS : ((fun (W : World) => Bx W P 37 [.int .i64 sf, .int .i64 su] ∧ Below w7.heap.size w7 W)) _ := ⟨HS.1.kept hbc, HS.2.trans (hbc.mono HS.2.size)⟩
      refine hK _ _ HS ?_
      clear hK K
      try simp only [Act.put, List.setIfInBounds_toArray, List.set_cons_zero, List.set_cons_succ]
      refine wpAnyT_take (i := 6) (v := ?vv147) rfl (by kernel_rfl) (fun _ _ _ h => h) (Or.inl ⟨by rfl, fun w hSw => ?yy147⟩) HS ?rr147
      case yy147 =>
        (try dsimp only at hSw); go_simp
        try with_reducible rfl
      try simp only [Act.put, List.setIfInBounds_toArray, List.set_cons_zero, List.set_cons_succ]
      refine wpAnyT_take (i := 7) (v := ?vv148) rfl (by kernel_rfl) (fun _ _ _ h => h) (Or.inl ⟨by rfl, fun w hSw => ?yy148⟩) HS ?rr148
      case yy148 =>
        (try dsimp only at hSw); go_simp
        try with_reducible rfl
      try simp only [Act.put, List.setIfInBounds_toArray, List.set_cons_zero, List.set_cons_succ]
      refine wpAnyT_take (i := 8) (v := ?vv149) rfl (by kernel_rfl) (fun _ _ _ h => h) (Or.inl ⟨by rfl, fun w hSw => ?yy149⟩) HS ?rr149
      case yy149 =>
        (try dsimp only at hSw); go_simp
        try with_reducible rfl
      try simp only [Act.put, List.setIfInBounds_toArray, List.set_cons_zero, List.set_cons_succ]
      refine wpAnyT_take (i := 10) (v := ?vv150) rfl (by kernel_rfl) (fun _ _ _ h => h) (Or.inl ⟨by rfl, fun w hSw => ?yy150⟩) HS ?rr150
      case yy150 =>
        (try dsimp only at hSw); go_simp
        try with_reducible rfl
      try simp only [Act.put, List.setIfInBounds_toArray, List.set_cons_zero, List.set_cons_succ]
      refine wpAnyT_one (k := 9) rfl (by kernel_rfl) (by decide) (fun K hK => ?_)
      go_simp
      refine (stflight_any G2 m2 d2' L2 _ (HT2.out.keep HS.2)).mono ?_
      rintro e wc2 ⟨he, hbc⟩
      rw [HFA.out] at he
      subst he
      have HS : ((fun (W : World) => Bx W P 37 [.int .i64 sf, .int .i64 su] ∧ Below w7.heap.size w7 W)) _ := ⟨HS.1.kept hbc, HS.2.trans (hbc.mono HS.2.size)⟩
      refine hK _ _ HS ?_
      clear hK K
      try simp only [Act.put, List.setIfInBounds_toArray, List.set_cons_zero, List.set_cons_succ]
      refine wpAnyT_take (i := 11) (v := ?vv151) rfl (by kernel_rfl) (fun _ _ _ h => h) (Or.inl ⟨by rfl, fun w hSw => ?yy151⟩) HS ?rr151
      case yy151 =>
        (try dsimp only at hSw); go_simp
        try with_reducible rfl
      try simp only [Act.put, List.setIfInBounds_toArray, List.set_cons_zero, List.set_cons_succ]
      refine wpAnyT_take (i := 12) (v := ?vv152) rfl (by kernel_rfl) (fun _ _ _ h => h) (Or.inl ⟨by rfl, fun w hSw => ?yy152⟩) HS ?rr152
      case yy152 =>
        (try dsimp only at hSw); go_simp
        try with_reducible rfl
      try simp only [Act.put, List.setIfInBounds_toArray, List.set_cons_zero, List.set_cons_succ]
      refine wpAnyT_take (i := 13) (v := ?vv153) rfl (by kernel_rfl) (fun _ _ _ h => h) (Or.inl ⟨by rfl, fun w hSw => ?yy153⟩) HS ?rr153
      case yy153 =>
        (try dsimp only at hSw); go_simp
        try with_reducible rfl
      try simp only [Act.put, List.setIfInBounds_toArray, List.set_cons_zero, List.set_cons_succ]
      refine wpAnyT_take (i := 14) (v := ?vv154) rfl (by kernel_rfl) (fun _ _ _ h => h) (Or.inl ⟨by rfl, fun w hSw => ?yy154⟩) HS ?rr154
      case yy154 =>
        (try dsimp only at hSw); go_simp
        try with_reducible rfl
      try simp only [Act.put, List.setIfInBounds_toArray, List.set_cons_zero, List.set_cons_succ]
      refine wpAnyT_take (i := 16) (v := ?vv155) rfl (by kernel_rfl) (fun _ _ _ h => h) (Or.inl ⟨by rfl, fun w hSw => ?yy155⟩) HS ?rr155
      case yy155 =>
        (try dsimp only at hSw); go_simp
        try with_reducible rfl
      try simp only [Act.put, List.setIfInBounds_toArray, List.set_cons_zero, List.set_cons_succ]
      refine wpAnyT_take (i := 17) (v := ?vv156) rfl (by kernel_rfl) (fun _ _ _ h => h) (Or.inl ⟨by rfl, fun w hSw => ?yy156⟩) HS ?rr156
      case yy156 =>
        (try dsimp only at hSw); go_simp
        try with_reducible rfl
      try simp only [Act.put, List.setIfInBounds_toArray, List.set_cons_zero, List.set_cons_succ]
      refine wpAnyT_one (k := 15) rfl (by kernel_rfl) (by decide) (fun K hK => ?_)
      go_simp
      refine (stflight_any G2 m2 d2' L2 _ (HT2.out.keep HS.2)).mono ?_
      rintro e wc3 ⟨he, hbc⟩
      rw [HFA.out] at he
      subst he
      have HS : ((fun (W : World) => Bx W P 37 [.int .i64 sf, .int .i64 su] ∧ Below w7.heap.size w7 W)) _ := ⟨HS.1.kept hbc, HS.2.trans (hbc.mono HS.2.size)⟩
      refine hK _ _ HS ?_
      clear hK K
      try simp only [Act.put, List.setIfInBounds_toArray, List.set_cons_zero, List.set_cons_succ]
      refine wpAnyT_take (i := 18) (v := ?vv157) rfl (by kernel_rfl) (fun _ _ _ h => h) (Or.inl ⟨by rfl, fun w hSw => ?yy157⟩) HS ?rr157
      case yy157 =>
        (try dsimp only at hSw); go_simp
        try with_reducible rfl
      try simp only [Act.put, List.setIfInBounds_toArray, List.set_cons_zero, List.set_cons_succ]
      refine wpAnyT_take (i := 19) (v := ?vv158) rfl (by kernel_rfl) (fun _ _ _ h => h) (Or.inl ⟨by rfl, fun w hSw => ?yy158⟩) HS ?rr158
      case yy158 =>
        (try dsimp only at hSw); go_simp
        try with_reducible rfl
      try simp only [Act.put, List.setIfInBounds_toArray, List.set_cons_zero, List.set_cons_succ]
      refine wpAnyT_take (i := 20) (v := ?vv159) rfl (by kernel_rfl) (fun _ _ _ h => h) (Or.inl ⟨by rfl, fun w hSw => ?yy159⟩) HS ?rr159
      case yy159 =>
        (try dsimp only at hSw); go_simp
        try with_reducible rfl
      try simp only [Act.put, List.setIfInBounds_toArray, List.set_cons_zero, List.set_cons_succ]
      refine wpAnyT_take (i := 21) (v := ?vv160) rfl (by kernel_rfl) (fun _ _ _ h => h) (Or.inl ⟨by rfl, fun w hSw => ?yy160⟩) HS ?rr160
      case yy160 =>
        (try dsimp only at hSw); go_simp
        try with_reducible rfl
      try simp only [Act.put, List.setIfInBounds_toArray, List.set_cons_zero, List.set_cons_succ]
      refine wpAnyT_one (k := 22) rfl (by kernel_rfl) (by decide) (fun K hK => ?_)
      go_simp
      refine (stmay_any G2 m2 d2' L2 _ (HT2.out.keep HS.2)).mono ?_
      rintro e wc4 ⟨he, hbc⟩
      rw [HMM.out] at he
      subst he
      have HS : ((fun (W : World) => Bx W P 37 [.int .i64 sf, .int .i64 su] ∧ Below w7.heap.size w7 W)) _ := ⟨HS.1.kept hbc, HS.2.trans (hbc.mono HS.2.size)⟩
      refine hK _ _ HS ?_
      clear hK K
      try simp only [Act.put, List.setIfInBounds_toArray, List.set_cons_zero, List.set_cons_succ]
      refine wpAnyT_take (i := 23) (v := ?vv161) rfl (by kernel_rfl) (fun _ _ _ h => h) (Or.inl ⟨by rfl, fun w hSw => ?yy161⟩) HS ?rr161
      case yy161 =>
        (try dsimp only at hSw); go_simp
        try with_reducible rfl
      try simp only [Act.put, List.setIfInBounds_toArray, List.set_cons_zero, List.set_cons_succ]
      refine ⟨by kernel_rfl, ?_⟩
      simp only [List.drop_succ_cons, List.drop_zero]
      go_wp2_with fail
      go_ret
      exact ⟨rfl, b7.trans (HS.2.mono (Nat.le_of_lt hBj))⟩
  · subst hre
    (try dsimp only at HT1 ⊢)
    obtain ⟨z1, z2, z3, z4⟩ := send_span hcb hl5 HK.out
    rw [HSX.out] at z2
    rw [HFE.out] at z3
    dsimp only at z2
    have hxb := pok_end z4
    have hfx := fly_bd0 z4
    have hx2 := z4.l2
    have hend : endP x = x.seq + x.len := rfl
    obtain ⟨sx2, hsx2⟩ : ∃ s, spanR (l ++ [x]) = s := ⟨_, rfl⟩
    rw [hsx2] at z1 z2
    obtain ⟨tf, tu⟩ := sx2
    dsimp only at z1 z2
    rw [hend] at z1 hxb
    subst z1
    have HS2 := Lib.hid hsx2; have HZ3 := Lib.hid z3
    have HZ2 := Lib.hid z2
    obtain ⟨h1a, h1b, h1c, h1d, _⟩ := hxb
    clear hsx2 z3 z2 z4 hcb hl5 HSC HR1 hend
    go_upto_region 12 with (go_at_call 21; refine (stspan_any G m d _ w6 HT1.out).mono ?_; rintro e w7 ⟨he, hb7⟩; rw [HS2.out] at he; subst he; have s7 := s6.keep hb7; have e7 := e6.kept hb7; have y7 := y6.kept hb7; have b7 : Below B w w7 := b6.trans (hb7.mono (Nat.le_of_lt e6.lt)))
    have t8 := Lib.hid ((HT1.out.keep hb7).alloc (.cells #[.int .i64 tf, .int .i64 (x.seq + x.len)] 37))
    have v8 := Bx.new w7 37 [.int .i64 tf, .int .i64 (x.seq + x.len)]
    have e8 := e7.alloc (.cells #[.int .i64 tf, .int .i64 (x.seq + x.len)] 37)
    have y8 := y7.alloc (.cells #[.int .i64 tf, .int .i64 (x.seq + x.len)] 37)
    have s8 := s7.alloc (.cells #[.int .i64 tf, .int .i64 (x.seq + x.len)] 37)
    have b8 : Below B w (w7.alloc (.cells #[.int .i64 tf, .int .i64 (x.seq + x.len)] 37)) := b7.alloc (Nat.le_of_lt e7.lt) _
    obtain ⟨P2, hP2⟩ : ∃ P, w7.heap.size = P := ⟨_, rfl⟩
    rw [hP2] at v8 ⊢
    generalize w7.alloc (.cells #[.int .i64 tf, .int .i64 (x.seq + x.len)] 37) = w8 at t8 v8 e8 y8 s8 b8 ⊢
    clear e6 s6 y6 b6 e7 s7 y7 b7 hb7 hP2 HT1
    have k0 := e8.cell 0 rfl; have k1 := e8.cell 1 rfl; have k5 := e8.cell 5 rfl; have k6 := e8.cell 6 rfl
    have c0 := y8.cell 0 rfl; have c1 := y8.cell 1 rfl
    have v0 := v8.cell 0 rfl; have v1 := v8.cell 1 rfl
    have hsu : IntKind.i64.wrap (x.seq + x.len) = x.seq + x.len := IntWalk.i64_in _ (by omega)
    have hmr : flyL x = if (!x.came && !x.lost) = true then x.len else 0 := rfl
    have HMR := Lib.hid hmr
    obtain ⟨fx, hfxe⟩ : ∃ f, flyL x = f := ⟨_, rfl⟩
    rw [hfxe] at hfx
    have HFX := Lib.hid hfxe
    have hsf : IntKind.i64.wrap (fl + fx) = fl + fx := IntWalk.i64_in _ (by have := F1.out; omega)
    have hZ3 : flightR (l ++ [x]) = fl + fx := by rw [HZ3.out, HFX.out]
    have HZ4 := Lib.hid hZ3
    clear hmr hfxe hZ3
    cases hcm : x.came with
    | true =>
      rw [hcm] at k5
      have hfv : fx = 0 := by rw [← HFX.out, HMR.out, hcm]; rfl
      subst hfv
      have HZ5 := Lib.hid (show flightR (l ++ [x]) = fl by rw [HZ4.out, Int.add_zero]); clear hsf; have hsf : IntKind.i64.wrap fl = fl := IntWalk.i64_in _ (by have := F1.out; omega)
      have HCMx := Lib.hid hcm; clear hcm HFX HMR HZ3
      by_cases hz : 0 < l.length
      · obtain ⟨w1e, w2e⟩ := HZ2.out hz
        have hn0 : 0 < n := by have := HL.out; omega
        have hn1 : decide ((0 : Int) < (n : Int)) = true := decide_eq_true (by omega)
        have i1 : (tf != sf) = false := by simp [w1e]
        have i2 : (x.seq != su) = false := by simp [w2e]
        have i1' : (tf == sf) = true := by simp [w1e]
        have i2' : (x.seq == su) = true := by simp [w2e]
        clear w1e w2e hz
        go_upto_region 16 with (go_at_call 19; refine (stflight_any G m d _ w8 t8.out).mono ?_; rintro e w9 ⟨he, hb9⟩; rw [HZ5.out] at he; subst he; have s9 := s8.keep hb9; have e9 := e8.kept hb9; have y9 := y8.kept hb9; have b9 : Below B w w9 := b8.trans (hb9.mono (Nat.le_of_lt e8.lt)))
        clear e8 s8 y8 v8 b8 t8 hb9 k0 k1 k5 k6 c0 c1 v0 v1
        obtain ⟨r2, hr2⟩ : ∃ r, againR l x.seq a = r := ⟨_, rfl⟩
        have HR2 := Lib.hid hr2
        have hac := sentAgain.again_cases l x.seq a
        rw [hr2] at hac
        have HAC := Lib.hid hac
        have j0 := e9.cell 0 rfl
        clear hr2 hac
        go_upto_region 17 with (go_at_call 13; refine (stagain_any A n c l x.seq a w9 s9 hn520).mono ?_; rintro e w10 ⟨G2, m2, d2', he, ht2, hb10⟩; rw [HR2.out] at he ht2; subst he)
        (try dsimp only at ht2 ⊢)
        have y10 := y9.kept hb10; have b10 : Below B w w10 := b9.trans (hb10.mono (Nat.le_of_lt e9.lt)); have hBj : B < w10.heap.size := Nat.lt_of_lt_of_le e9.lt hb10.size
        have HT2 := Lib.hid ht2.se
        clear ht2 hb10 j0 e9 s9 y9 b9
        rcases HAC.out with ⟨er2, her2, hre2⟩ | ⟨k0, hk0, hq0, hc0, ht0, hmay, ha60, hre2⟩
        · subst hre2
          (try dsimp only)
          have h3 : (er2 != 0) = true := by simpa using her2
          have h4 : (er2 == 0) = false := by simpa using her2
          clear her2 HAC HR2 HT2
          refine wp_region_tail 24 26 (fun (W : World) => Below B w W) (by kernel_rfl) (by rfl) (by decide) ?_
          have HS : ((fun (W : World) => Below B w W)) w10.drew := b10.drew
          refine wpAnyT_take (i := 0) (v := ?vv1) rfl (by kernel_rfl) (fun _ _ _ h => h) (Or.inl ⟨by rfl, fun w hSw => ?yy1⟩) HS ?rr1
          case yy1 =>
            (try dsimp only at hSw); go_simp
            try with_reducible rfl
          try simp only [Act.put, List.setIfInBounds_toArray, List.set_cons_zero, List.set_cons_succ]
          refine wpAnyT_take (i := 1) (v := ?vv2) rfl (by kernel_rfl) (fun _ _ _ h => h) (Or.inl ⟨by rfl, fun w hSw => ?yy2⟩) HS ?rr2
          case yy2 =>
            (try dsimp only at hSw); go_simp
            try with_reducible rfl
          try simp only [Act.put, List.setIfInBounds_toArray, List.set_cons_zero, List.set_cons_succ]
          refine wpAnyT_take (i := 2) (v := ?vv3) rfl (by kernel_rfl) (fun _ _ _ h => h) (Or.inl ⟨by rfl, fun w hSw => ?yy3⟩) HS ?rr3
          case yy3 =>
            (try dsimp only at hSw); go_simp
            try with_reducible rfl
          try simp only [Act.put, List.setIfInBounds_toArray, List.set_cons_zero, List.set_cons_succ]
          refine wpAnyT_take (i := 3) (v := undef) rfl (by kernel_rfl) (fun _ _ _ h => h) (Or.inr ⟨by kernel_rfl, rfl⟩) HS ?_
          try simp only [Act.put, List.setIfInBounds_toArray, List.set_cons_zero, List.set_cons_succ]
          refine wpAnyT_take (i := 4) (v := undef) rfl (by kernel_rfl) (fun _ _ _ h => h) (Or.inr ⟨by kernel_rfl, rfl⟩) HS ?_
          try simp only [Act.put, List.setIfInBounds_toArray, List.set_cons_zero, List.set_cons_succ]
          refine wpAnyT_take (i := 5) (v := undef) rfl (by kernel_rfl) (fun _ _ _ h => h) (Or.inr ⟨by kernel_rfl, rfl⟩) HS ?_
          try simp only [Act.put, List.setIfInBounds_toArray, List.set_cons_zero, List.set_cons_succ]
          refine wpAnyT_take (i := 6) (v := undef) rfl (by kernel_rfl) (fun _ _ _ h => h) (Or.inr ⟨by kernel_rfl, rfl⟩) HS ?_
          try simp only [Act.put, List.setIfInBounds_toArray, List.set_cons_zero, List.set_cons_succ]
          refine wpAnyT_take (i := 7) (v := undef) rfl (by kernel_rfl) (fun _ _ _ h => h) (Or.inr ⟨by kernel_rfl, rfl⟩) HS ?_
          try simp only [Act.put, List.setIfInBounds_toArray, List.set_cons_zero, List.set_cons_succ]
          refine wpAnyT_take (i := 8) (v := undef) rfl (by kernel_rfl) (fun _ _ _ h => h) (Or.inr ⟨by kernel_rfl, rfl⟩) HS ?_
          try simp only [Act.put, List.setIfInBounds_toArray, List.set_cons_zero, List.set_cons_succ]
          refine wpAnyT_take (i := 9) (v := undef) rfl (by kernel_rfl) (fun _ _ _ h => h) (Or.inr ⟨by kernel_rfl, rfl⟩) HS ?_
          try simp only [Act.put, List.setIfInBounds_toArray, List.set_cons_zero, List.set_cons_succ]
          refine wpAnyT_take (i := 10) (v := undef) rfl (by kernel_rfl) (fun _ _ _ h => h) (Or.inr ⟨by kernel_rfl, rfl⟩) HS ?_
          try simp only [Act.put, List.setIfInBounds_toArray, List.set_cons_zero, List.set_cons_succ]
          refine wpAnyT_take (i := 11) (v := undef) rfl (by kernel_rfl) (fun _ _ _ h => h) (Or.inr ⟨by kernel_rfl, rfl⟩) HS ?_
          try simp only [Act.put, List.setIfInBounds_toArray, List.set_cons_zero, List.set_cons_succ]
          refine wpAnyT_take (i := 12) (v := undef) rfl (by kernel_rfl) (fun _ _ _ h => h) (Or.inr ⟨by kernel_rfl, rfl⟩) HS ?_
          try simp only [Act.put, List.setIfInBounds_toArray, List.set_cons_zero, List.set_cons_succ]
          refine wpAnyT_take (i := 13) (v := undef) rfl (by kernel_rfl) (fun _ _ _ h => h) (Or.inr ⟨by kernel_rfl, rfl⟩) HS ?_
          try simp only [Act.put, List.setIfInBounds_toArray, List.set_cons_zero, List.set_cons_succ]
          refine wpAnyT_take (i := 14) (v := undef) rfl (by kernel_rfl) (fun _ _ _ h => h) (Or.inr ⟨by kernel_rfl, rfl⟩) HS ?_
          try simp only [Act.put, List.setIfInBounds_toArray, List.set_cons_zero, List.set_cons_succ]
          refine wpAnyT_take (i := 15) (v := undef) rfl (by kernel_rfl) (fun _ _ _ h => h) (Or.inr ⟨by kernel_rfl, rfl⟩) HS ?_
          try simp only [Act.put, List.setIfInBounds_toArray, List.set_cons_zero, List.set_cons_succ]
          refine wpAnyT_take (i := 16) (v := undef) rfl (by kernel_rfl) (fun _ _ _ h => h) (Or.inr ⟨by kernel_rfl, rfl⟩) HS ?_
          try simp only [Act.put, List.setIfInBounds_toArray, List.set_cons_zero, List.set_cons_succ]
          refine wpAnyT_take (i := 17) (v := undef) rfl (by kernel_rfl) (fun _ _ _ h => h) (Or.inr ⟨by kernel_rfl, rfl⟩) HS ?_
          try simp only [Act.put, List.setIfInBounds_toArray, List.set_cons_zero, List.set_cons_succ]
          refine wpAnyT_take (i := 18) (v := undef) rfl (by kernel_rfl) (fun _ _ _ h => h) (Or.inr ⟨by kernel_rfl, rfl⟩) HS ?_
          try simp only [Act.put, List.setIfInBounds_toArray, List.set_cons_zero, List.set_cons_succ]
          refine wpAnyT_take (i := 19) (v := undef) rfl (by kernel_rfl) (fun _ _ _ h => h) (Or.inr ⟨by kernel_rfl, rfl⟩) HS ?_
          try simp only [Act.put, List.setIfInBounds_toArray, List.set_cons_zero, List.set_cons_succ]
          refine wpAnyT_take (i := 20) (v := undef) rfl (by kernel_rfl) (fun _ _ _ h => h) (Or.inr ⟨by kernel_rfl, rfl⟩) HS ?_
          try simp only [Act.put, List.setIfInBounds_toArray, List.set_cons_zero, List.set_cons_succ]
          refine wpAnyT_take (i := 21) (v := undef) rfl (by kernel_rfl) (fun _ _ _ h => h) (Or.inr ⟨by kernel_rfl, rfl⟩) HS ?_
          try simp only [Act.put, List.setIfInBounds_toArray, List.set_cons_zero, List.set_cons_succ]
          refine wpAnyT_take (i := 22) (v := undef) rfl (by kernel_rfl) (fun _ _ _ h => h) (Or.inr ⟨by kernel_rfl, rfl⟩) HS ?_
          try simp only [Act.put, List.setIfInBounds_toArray, List.set_cons_zero, List.set_cons_succ]
          refine wpAnyT_take (i := 23) (v := undef) rfl (by kernel_rfl) (fun _ _ _ h => h) (Or.inr ⟨by kernel_rfl, rfl⟩) HS ?_
          try simp only [Act.put, List.setIfInBounds_toArray, List.set_cons_zero, List.set_cons_succ]
          refine ⟨by kernel_rfl, ?_⟩
          simp only [List.drop_succ_cons, List.drop_zero]
          go_wp2_with fail
          go_ret
          exact ⟨rfl, HS⟩
        · subst hre2
          (try dsimp only at HT2 ⊢)
          have hsp := again_span hk0 hmay ha60 hc0 ht0
          have hfl2 := again_fly hk0 hmay ha60 hc0 ht0
          have hmm := sentAgain.again_may hk0 hmay ha60 hc0 ht0
          rw [HSX.out] at hsp
          rw [HFE.out] at hfl2
          obtain ⟨L2, hL2⟩ : ∃ L, l.set k0 (againP (ge l k0) a) = L := ⟨_, rfl⟩
          rw [hL2] at hsp hfl2 hmm HT2
          obtain ⟨fa, hfa⟩ : ∃ f, flightR L2 = f := ⟨_, rfl⟩
          rw [hfa] at hfl2
          have HSP := Lib.hid hsp; have HFA := Lib.hid hfa; have HMM := Lib.hid hmm
          obtain ⟨p1, p2⟩ := hfl2
          have o1 : decide (fl ≤ fa) = true := decide_eq_true p1
          have o2 : decide (fa ≤ fl + 1460) = true := decide_eq_true p2
          have o3 : IntKind.i64.wrap (fl + 1460) = fl + 1460 := IntWalk.i64_in _ (by have := F1.out; omega)
          clear hsp hfa hmm hL2 hk0 hq0 hc0 ht0 hmay ha60 HAC HR2
          refine wp_region_tail 24 26 (fun (W : World) => Bx W P 37 [.int .i64 sf, .int .i64 su] ∧ Below w10.heap.size w10 W) (by kernel_rfl) (by rfl) (by decide) ?_
          have HS : ((fun (W : World) => Bx W P 37 [.int .i64 sf, .int .i64 su] ∧ Below w10.heap.size w10 W)) w10.drew := ⟨y10.drew, (Below.refl _ _).drew⟩
          refine wpAnyT_take (i := 0) (v := ?vv4) rfl (by kernel_rfl) (fun _ _ _ h => h) (Or.inl ⟨by rfl, fun w hSw => ?yy4⟩) HS ?rr4
          case yy4 =>
            (try dsimp only at hSw); go_simp
            try with_reducible rfl
          try simp only [Act.put, List.setIfInBounds_toArray, List.set_cons_zero, List.set_cons_succ]
          refine wpAnyT_take (i := 1) (v := ?vv5) rfl (by kernel_rfl) (fun _ _ _ h => h) (Or.inl ⟨by rfl, fun w hSw => ?yy5⟩) HS ?rr5
          case yy5 =>
            (try dsimp only at hSw); go_simp
            try with_reducible rfl
          try simp only [Act.put, List.setIfInBounds_toArray, List.set_cons_zero, List.set_cons_succ]
          refine wpAnyT_take (i := 2) (v := ?vv6) rfl (by kernel_rfl) (fun _ _ _ h => h) (Or.inl ⟨by rfl, fun w hSw => ?yy6⟩) HS ?rr6
          case yy6 =>
            (try dsimp only at hSw); go_simp
            try with_reducible rfl
          try simp only [Act.put, List.setIfInBounds_toArray, List.set_cons_zero, List.set_cons_succ]
          refine wpAnyT_take (i := 3) (v := ?vv7) rfl (by kernel_rfl) (fun _ _ _ h => h) (Or.inl ⟨by rfl, fun w hSw => ?yy7⟩) HS ?rr7
          case yy7 =>
            (try dsimp only at hSw); go_simp
            try with_reducible rfl
          try simp only [Act.put, List.setIfInBounds_toArray, List.set_cons_zero, List.set_cons_succ]
          refine wpAnyT_take (i := 5) (v := .agg #[.int .i64 sf, .int .i64 su]) rfl (by kernel_rfl) (fun _ _ _ h => h) (sg_yields (by rfl) (.tmp 8) rfl rfl [.int .i64 sf, .int .i64 su] rfl 37 (fun W hW => hW.1)) HS ?_
          try simp only [Act.put, List.setIfInBounds_toArray, List.set_cons_zero, List.set_cons_succ]
          refine wpAnyT_one (k := 4) rfl (by kernel_rfl) (by decide) (fun K hK => ?_)
          go_simp
          refine (stspan_any G2 m2 d2' L2 _ (HT2.out.keep HS.2)).mono ?_
          rintro e wc1 ⟨he, hbc⟩
          rw [HSP.out] at he
          subst he
          have HS : ((fun (W : World) => Bx W P 37 [.int .i64 sf, .int .i64 su] ∧ Below w10.heap.size w10 W)) _ := ⟨HS.1.kept hbc, HS.2.trans (hbc.mono HS.2.size)⟩
          refine hK _ _ HS ?_
          clear hK K
          try simp only [Act.put, List.setIfInBounds_toArray, List.set_cons_zero, List.set_cons_succ]
          refine wpAnyT_take (i := 6) (v := ?vv9) rfl (by kernel_rfl) (fun _ _ _ h => h) (Or.inl ⟨by rfl, fun w hSw => ?yy9⟩) HS ?rr9
          case yy9 =>
            (try dsimp only at hSw); go_simp
            try with_reducible rfl
          try simp only [Act.put, List.setIfInBounds_toArray, List.set_cons_zero, List.set_cons_succ]
          refine wpAnyT_take (i := 7) (v := ?vv10) rfl (by kernel_rfl) (fun _ _ _ h => h) (Or.inl ⟨by rfl, fun w hSw => ?yy10⟩) HS ?rr10
          case yy10 =>
            (try dsimp only at hSw); go_simp
            try with_reducible rfl
          try simp only [Act.put, List.setIfInBounds_toArray, List.set_cons_zero, List.set_cons_succ]
          refine wpAnyT_take (i := 8) (v := ?vv11) rfl (by kernel_rfl) (fun _ _ _ h => h) (Or.inl ⟨by rfl, fun w hSw => ?yy11⟩) HS ?rr11
          case yy11 =>
            (try dsimp only at hSw); go_simp
            try with_reducible rfl
          try simp only [Act.put, List.setIfInBounds_toArray, List.set_cons_zero, List.set_cons_succ]
          refine wpAnyT_take (i := 10) (v := ?vv12) rfl (by kernel_rfl) (fun _ _ _ h => h) (Or.inl ⟨by rfl, fun w hSw => ?yy12⟩) HS ?rr12
          case yy12 =>
            (try dsimp only at hSw); go_simp
            try with_reducible rfl
          try simp only [Act.put, List.setIfInBounds_toArray, List.set_cons_zero, List.set_cons_succ]
          refine wpAnyT_one (k := 9) rfl (by kernel_rfl) (by decide) (fun K hK => ?_)
          go_simp
          refine (stflight_any G2 m2 d2' L2 _ (HT2.out.keep HS.2)).mono ?_
          rintro e wc2 ⟨he, hbc⟩
          rw [HFA.out] at he
          subst he
          have HS : ((fun (W : World) => Bx W P 37 [.int .i64 sf, .int .i64 su] ∧ Below w10.heap.size w10 W)) _ := ⟨HS.1.kept hbc, HS.2.trans (hbc.mono HS.2.size)⟩
          refine hK _ _ HS ?_
          clear hK K
          try simp only [Act.put, List.setIfInBounds_toArray, List.set_cons_zero, List.set_cons_succ]
          refine wpAnyT_take (i := 11) (v := ?vv13) rfl (by kernel_rfl) (fun _ _ _ h => h) (Or.inl ⟨by rfl, fun w hSw => ?yy13⟩) HS ?rr13
          case yy13 =>
            (try dsimp only at hSw); go_simp
            try with_reducible rfl
          try simp only [Act.put, List.setIfInBounds_toArray, List.set_cons_zero, List.set_cons_succ]
          refine wpAnyT_take (i := 12) (v := ?vv14) rfl (by kernel_rfl) (fun _ _ _ h => h) (Or.inl ⟨by rfl, fun w hSw => ?yy14⟩) HS ?rr14
          case yy14 =>
            (try dsimp only at hSw); go_simp
            try with_reducible rfl
          try simp only [Act.put, List.setIfInBounds_toArray, List.set_cons_zero, List.set_cons_succ]
          refine wpAnyT_take (i := 13) (v := ?vv15) rfl (by kernel_rfl) (fun _ _ _ h => h) (Or.inl ⟨by rfl, fun w hSw => ?yy15⟩) HS ?rr15
          case yy15 =>
            (try dsimp only at hSw); go_simp
            try with_reducible rfl
          try simp only [Act.put, List.setIfInBounds_toArray, List.set_cons_zero, List.set_cons_succ]
          refine wpAnyT_take (i := 14) (v := ?vv16) rfl (by kernel_rfl) (fun _ _ _ h => h) (Or.inl ⟨by rfl, fun w hSw => ?yy16⟩) HS ?rr16
          case yy16 =>
            (try dsimp only at hSw); go_simp
            try with_reducible rfl
          try simp only [Act.put, List.setIfInBounds_toArray, List.set_cons_zero, List.set_cons_succ]
          refine wpAnyT_take (i := 16) (v := ?vv17) rfl (by kernel_rfl) (fun _ _ _ h => h) (Or.inl ⟨by rfl, fun w hSw => ?yy17⟩) HS ?rr17
          case yy17 =>
            (try dsimp only at hSw); go_simp
            try with_reducible rfl
          try simp only [Act.put, List.setIfInBounds_toArray, List.set_cons_zero, List.set_cons_succ]
          refine wpAnyT_take (i := 17) (v := ?vv18) rfl (by kernel_rfl) (fun _ _ _ h => h) (Or.inl ⟨by rfl, fun w hSw => ?yy18⟩) HS ?rr18
          case yy18 =>
            (try dsimp only at hSw); go_simp
            try with_reducible rfl
          try simp only [Act.put, List.setIfInBounds_toArray, List.set_cons_zero, List.set_cons_succ]
          refine wpAnyT_one (k := 15) rfl (by kernel_rfl) (by decide) (fun K hK => ?_)
          go_simp
          refine (stflight_any G2 m2 d2' L2 _ (HT2.out.keep HS.2)).mono ?_
          rintro e wc3 ⟨he, hbc⟩
          rw [HFA.out] at he
          subst he
          have HS : ((fun (W : World) => Bx W P 37 [.int .i64 sf, .int .i64 su] ∧ Below w10.heap.size w10 W)) _ := ⟨HS.1.kept hbc, HS.2.trans (hbc.mono HS.2.size)⟩
          refine hK _ _ HS ?_
          clear hK K
          try simp only [Act.put, List.setIfInBounds_toArray, List.set_cons_zero, List.set_cons_succ]
          refine wpAnyT_take (i := 18) (v := ?vv19) rfl (by kernel_rfl) (fun _ _ _ h => h) (Or.inl ⟨by rfl, fun w hSw => ?yy19⟩) HS ?rr19
          case yy19 =>
            (try dsimp only at hSw); go_simp
            try with_reducible rfl
          try simp only [Act.put, List.setIfInBounds_toArray, List.set_cons_zero, List.set_cons_succ]
          refine wpAnyT_take (i := 19) (v := ?vv20) rfl (by kernel_rfl) (fun _ _ _ h => h) (Or.inl ⟨by rfl, fun w hSw => ?yy20⟩) HS ?rr20
          case yy20 =>
            (try dsimp only at hSw); go_simp
            try with_reducible rfl
          try simp only [Act.put, List.setIfInBounds_toArray, List.set_cons_zero, List.set_cons_succ]
          refine wpAnyT_take (i := 20) (v := ?vv21) rfl (by kernel_rfl) (fun _ _ _ h => h) (Or.inl ⟨by rfl, fun w hSw => ?yy21⟩) HS ?rr21
          case yy21 =>
            (try dsimp only at hSw); go_simp
            try with_reducible rfl
          try simp only [Act.put, List.setIfInBounds_toArray, List.set_cons_zero, List.set_cons_succ]
          refine wpAnyT_take (i := 21) (v := ?vv22) rfl (by kernel_rfl) (fun _ _ _ h => h) (Or.inl ⟨by rfl, fun w hSw => ?yy22⟩) HS ?rr22
          case yy22 =>
            (try dsimp only at hSw); go_simp
            try with_reducible rfl
          try simp only [Act.put, List.setIfInBounds_toArray, List.set_cons_zero, List.set_cons_succ]
          refine wpAnyT_one (k := 22) rfl (by kernel_rfl) (by decide) (fun K hK => ?_)
          go_simp
          refine (stmay_any G2 m2 d2' L2 _ (HT2.out.keep HS.2)).mono ?_
          rintro e wc4 ⟨he, hbc⟩
          rw [HMM.out] at he
          subst he
          have HS : ((fun (W : World) => Bx W P 37 [.int .i64 sf, .int .i64 su] ∧ Below w10.heap.size w10 W)) _ := ⟨HS.1.kept hbc, HS.2.trans (hbc.mono HS.2.size)⟩
          refine hK _ _ HS ?_
          clear hK K
          try simp only [Act.put, List.setIfInBounds_toArray, List.set_cons_zero, List.set_cons_succ]
          refine wpAnyT_take (i := 23) (v := ?vv23) rfl (by kernel_rfl) (fun _ _ _ h => h) (Or.inl ⟨by rfl, fun w hSw => ?yy23⟩) HS ?rr23
          case yy23 =>
            (try dsimp only at hSw); go_simp
            try with_reducible rfl
          try simp only [Act.put, List.setIfInBounds_toArray, List.set_cons_zero, List.set_cons_succ]
          refine ⟨by kernel_rfl, ?_⟩
          simp only [List.drop_succ_cons, List.drop_zero]
          go_wp2_with fail
          go_ret
          exact ⟨rfl, b10.trans (HS.2.mono (Nat.le_of_lt hBj))⟩
      · have hn0 : n = 0 := by have := HL.out; omega
        have hn1 : decide ((0 : Int) < (n : Int)) = false := decide_eq_false (by omega)
        have hn2 : decide (0 < n) = false := decide_eq_false (by omega)
        clear hz hn0
        go_upto_region 16 with (go_at_call 19; refine (stflight_any G m d _ w8 t8.out).mono ?_; rintro e w9 ⟨he, hb9⟩; rw [HZ5.out] at he; subst he; have s9 := s8.keep hb9; have e9 := e8.kept hb9; have y9 := y8.kept hb9; have b9 : Below B w w9 := b8.trans (hb9.mono (Nat.le_of_lt e8.lt)))
        clear e8 s8 y8 v8 b8 t8 hb9 k0 k1 k5 k6 c0 c1 v0 v1
        obtain ⟨r2, hr2⟩ : ∃ r, againR l x.seq a = r := ⟨_, rfl⟩
        have HR2 := Lib.hid hr2
        have hac := sentAgain.again_cases l x.seq a
        rw [hr2] at hac
        have HAC := Lib.hid hac
        have j0 := e9.cell 0 rfl
        clear hr2 hac
        go_upto_region 17 with (go_at_call 13; refine (stagain_any A n c l x.seq a w9 s9 hn520).mono ?_; rintro e w10 ⟨G2, m2, d2', he, ht2, hb10⟩; rw [HR2.out] at he ht2; subst he)
        (try dsimp only at ht2 ⊢)
        have y10 := y9.kept hb10; have b10 : Below B w w10 := b9.trans (hb10.mono (Nat.le_of_lt e9.lt)); have hBj : B < w10.heap.size := Nat.lt_of_lt_of_le e9.lt hb10.size
        have HT2 := Lib.hid ht2.se
        clear ht2 hb10 j0 e9 s9 y9 b9
        rcases HAC.out with ⟨er2, her2, hre2⟩ | ⟨k0, hk0, hq0, hc0, ht0, hmay, ha60, hre2⟩
        · subst hre2
          (try dsimp only)
          have h3 : (er2 != 0) = true := by simpa using her2
          have h4 : (er2 == 0) = false := by simpa using her2
          clear her2 HAC HR2 HT2
          refine wp_region_tail 24 26 (fun (W : World) => Below B w W) (by kernel_rfl) (by rfl) (by decide) ?_
          have HS : ((fun (W : World) => Below B w W)) w10.drew := b10.drew
          refine wpAnyT_take (i := 0) (v := ?vv24) rfl (by kernel_rfl) (fun _ _ _ h => h) (Or.inl ⟨by rfl, fun w hSw => ?yy24⟩) HS ?rr24
          case yy24 =>
            (try dsimp only at hSw); go_simp
            try with_reducible rfl
          try simp only [Act.put, List.setIfInBounds_toArray, List.set_cons_zero, List.set_cons_succ]
          refine wpAnyT_take (i := 1) (v := ?vv25) rfl (by kernel_rfl) (fun _ _ _ h => h) (Or.inl ⟨by rfl, fun w hSw => ?yy25⟩) HS ?rr25
          case yy25 =>
            (try dsimp only at hSw); go_simp
            try with_reducible rfl
          try simp only [Act.put, List.setIfInBounds_toArray, List.set_cons_zero, List.set_cons_succ]
          refine wpAnyT_take (i := 2) (v := ?vv26) rfl (by kernel_rfl) (fun _ _ _ h => h) (Or.inl ⟨by rfl, fun w hSw => ?yy26⟩) HS ?rr26
          case yy26 =>
            (try dsimp only at hSw); go_simp
            try with_reducible rfl
          try simp only [Act.put, List.setIfInBounds_toArray, List.set_cons_zero, List.set_cons_succ]
          refine wpAnyT_take (i := 3) (v := undef) rfl (by kernel_rfl) (fun _ _ _ h => h) (Or.inr ⟨by kernel_rfl, rfl⟩) HS ?_
          try simp only [Act.put, List.setIfInBounds_toArray, List.set_cons_zero, List.set_cons_succ]
          refine wpAnyT_take (i := 4) (v := undef) rfl (by kernel_rfl) (fun _ _ _ h => h) (Or.inr ⟨by kernel_rfl, rfl⟩) HS ?_
          try simp only [Act.put, List.setIfInBounds_toArray, List.set_cons_zero, List.set_cons_succ]
          refine wpAnyT_take (i := 5) (v := undef) rfl (by kernel_rfl) (fun _ _ _ h => h) (Or.inr ⟨by kernel_rfl, rfl⟩) HS ?_
          try simp only [Act.put, List.setIfInBounds_toArray, List.set_cons_zero, List.set_cons_succ]
          refine wpAnyT_take (i := 6) (v := undef) rfl (by kernel_rfl) (fun _ _ _ h => h) (Or.inr ⟨by kernel_rfl, rfl⟩) HS ?_
          try simp only [Act.put, List.setIfInBounds_toArray, List.set_cons_zero, List.set_cons_succ]
          refine wpAnyT_take (i := 7) (v := undef) rfl (by kernel_rfl) (fun _ _ _ h => h) (Or.inr ⟨by kernel_rfl, rfl⟩) HS ?_
          try simp only [Act.put, List.setIfInBounds_toArray, List.set_cons_zero, List.set_cons_succ]
          refine wpAnyT_take (i := 8) (v := undef) rfl (by kernel_rfl) (fun _ _ _ h => h) (Or.inr ⟨by kernel_rfl, rfl⟩) HS ?_
          try simp only [Act.put, List.setIfInBounds_toArray, List.set_cons_zero, List.set_cons_succ]
          refine wpAnyT_take (i := 9) (v := undef) rfl (by kernel_rfl) (fun _ _ _ h => h) (Or.inr ⟨by kernel_rfl, rfl⟩) HS ?_
          try simp only [Act.put, List.setIfInBounds_toArray, List.set_cons_zero, List.set_cons_succ]
          refine wpAnyT_take (i := 10) (v := undef) rfl (by kernel_rfl) (fun _ _ _ h => h) (Or.inr ⟨by kernel_rfl, rfl⟩) HS ?_
          try simp only [Act.put, List.setIfInBounds_toArray, List.set_cons_zero, List.set_cons_succ]
          refine wpAnyT_take (i := 11) (v := undef) rfl (by kernel_rfl) (fun _ _ _ h => h) (Or.inr ⟨by kernel_rfl, rfl⟩) HS ?_
          try simp only [Act.put, List.setIfInBounds_toArray, List.set_cons_zero, List.set_cons_succ]
          refine wpAnyT_take (i := 12) (v := undef) rfl (by kernel_rfl) (fun _ _ _ h => h) (Or.inr ⟨by kernel_rfl, rfl⟩) HS ?_
          try simp only [Act.put, List.setIfInBounds_toArray, List.set_cons_zero, List.set_cons_succ]
          refine wpAnyT_take (i := 13) (v := undef) rfl (by kernel_rfl) (fun _ _ _ h => h) (Or.inr ⟨by kernel_rfl, rfl⟩) HS ?_
          try simp only [Act.put, List.setIfInBounds_toArray, List.set_cons_zero, List.set_cons_succ]
          refine wpAnyT_take (i := 14) (v := undef) rfl (by kernel_rfl) (fun _ _ _ h => h) (Or.inr ⟨by kernel_rfl, rfl⟩) HS ?_
          try simp only [Act.put, List.setIfInBounds_toArray, List.set_cons_zero, List.set_cons_succ]
          refine wpAnyT_take (i := 15) (v := undef) rfl (by kernel_rfl) (fun _ _ _ h => h) (Or.inr ⟨by kernel_rfl, rfl⟩) HS ?_
          try simp only [Act.put, List.setIfInBounds_toArray, List.set_cons_zero, List.set_cons_succ]
          refine wpAnyT_take (i := 16) (v := undef) rfl (by kernel_rfl) (fun _ _ _ h => h) (Or.inr ⟨by kernel_rfl, rfl⟩) HS ?_
          try simp only [Act.put, List.setIfInBounds_toArray, List.set_cons_zero, List.set_cons_succ]
          refine wpAnyT_take (i := 17) (v := undef) rfl (by kernel_rfl) (fun _ _ _ h => h) (Or.inr ⟨by kernel_rfl, rfl⟩) HS ?_
          try simp only [Act.put, List.setIfInBounds_toArray, List.set_cons_zero, List.set_cons_succ]
          refine wpAnyT_take (i := 18) (v := undef) rfl (by kernel_rfl) (fun _ _ _ h => h) (Or.inr ⟨by kernel_rfl, rfl⟩) HS ?_
          try simp only [Act.put, List.setIfInBounds_toArray, List.set_cons_zero, List.set_cons_succ]
          refine wpAnyT_take (i := 19) (v := undef) rfl (by kernel_rfl) (fun _ _ _ h => h) (Or.inr ⟨by kernel_rfl, rfl⟩) HS ?_
          try simp only [Act.put, List.setIfInBounds_toArray, List.set_cons_zero, List.set_cons_succ]
          refine wpAnyT_take (i := 20) (v := undef) rfl (by kernel_rfl) (fun _ _ _ h => h) (Or.inr ⟨by kernel_rfl, rfl⟩) HS ?_
          try simp only [Act.put, List.setIfInBounds_toArray, List.set_cons_zero, List.set_cons_succ]
          refine wpAnyT_take (i := 21) (v := undef) rfl (by kernel_rfl) (fun _ _ _ h => h) (Or.inr ⟨by kernel_rfl, rfl⟩) HS ?_
          try simp only [Act.put, List.setIfInBounds_toArray, List.set_cons_zero, List.set_cons_succ]
          refine wpAnyT_take (i := 22) (v := undef) rfl (by kernel_rfl) (fun _ _ _ h => h) (Or.inr ⟨by kernel_rfl, rfl⟩) HS ?_
          try simp only [Act.put, List.setIfInBounds_toArray, List.set_cons_zero, List.set_cons_succ]
          refine wpAnyT_take (i := 23) (v := undef) rfl (by kernel_rfl) (fun _ _ _ h => h) (Or.inr ⟨by kernel_rfl, rfl⟩) HS ?_
          try simp only [Act.put, List.setIfInBounds_toArray, List.set_cons_zero, List.set_cons_succ]
          refine ⟨by kernel_rfl, ?_⟩
          simp only [List.drop_succ_cons, List.drop_zero]
          go_wp2_with fail
          go_ret
          exact ⟨rfl, HS⟩
        · subst hre2
          (try dsimp only at HT2 ⊢)
          have hsp := again_span hk0 hmay ha60 hc0 ht0
          have hfl2 := again_fly hk0 hmay ha60 hc0 ht0
          have hmm := sentAgain.again_may hk0 hmay ha60 hc0 ht0
          rw [HSX.out] at hsp
          rw [HFE.out] at hfl2
          obtain ⟨L2, hL2⟩ : ∃ L, l.set k0 (againP (ge l k0) a) = L := ⟨_, rfl⟩
          rw [hL2] at hsp hfl2 hmm HT2
          obtain ⟨fa, hfa⟩ : ∃ f, flightR L2 = f := ⟨_, rfl⟩
          rw [hfa] at hfl2
          have HSP := Lib.hid hsp; have HFA := Lib.hid hfa; have HMM := Lib.hid hmm
          obtain ⟨p1, p2⟩ := hfl2
          have o1 : decide (fl ≤ fa) = true := decide_eq_true p1
          have o2 : decide (fa ≤ fl + 1460) = true := decide_eq_true p2
          have o3 : IntKind.i64.wrap (fl + 1460) = fl + 1460 := IntWalk.i64_in _ (by have := F1.out; omega)
          clear hsp hfa hmm hL2 hk0 hq0 hc0 ht0 hmay ha60 HAC HR2
          refine wp_region_tail 24 26 (fun (W : World) => Bx W P 37 [.int .i64 sf, .int .i64 su] ∧ Below w10.heap.size w10 W) (by kernel_rfl) (by rfl) (by decide) ?_
          have HS : ((fun (W : World) => Bx W P 37 [.int .i64 sf, .int .i64 su] ∧ Below w10.heap.size w10 W)) w10.drew := ⟨y10.drew, (Below.refl _ _).drew⟩
          refine wpAnyT_take (i := 0) (v := ?vv27) rfl (by kernel_rfl) (fun _ _ _ h => h) (Or.inl ⟨by rfl, fun w hSw => ?yy27⟩) HS ?rr27
          case yy27 =>
            (try dsimp only at hSw); go_simp
            try with_reducible rfl
          try simp only [Act.put, List.setIfInBounds_toArray, List.set_cons_zero, List.set_cons_succ]
          refine wpAnyT_take (i := 1) (v := ?vv28) rfl (by kernel_rfl) (fun _ _ _ h => h) (Or.inl ⟨by rfl, fun w hSw => ?yy28⟩) HS ?rr28
          case yy28 =>
            (try dsimp only at hSw); go_simp
            try with_reducible rfl
          try simp only [Act.put, List.setIfInBounds_toArray, List.set_cons_zero, List.set_cons_succ]
          refine wpAnyT_take (i := 2) (v := ?vv29) rfl (by kernel_rfl) (fun _ _ _ h => h) (Or.inl ⟨by rfl, fun w hSw => ?yy29⟩) HS ?rr29
          case yy29 =>
            (try dsimp only at hSw); go_simp
            try with_reducible rfl
          try simp only [Act.put, List.setIfInBounds_toArray, List.set_cons_zero, List.set_cons_succ]
          refine wpAnyT_take (i := 3) (v := ?vv30) rfl (by kernel_rfl) (fun _ _ _ h => h) (Or.inl ⟨by rfl, fun w hSw => ?yy30⟩) HS ?rr30
          case yy30 =>
            (try dsimp only at hSw); go_simp
            try with_reducible rfl
          try simp only [Act.put, List.setIfInBounds_toArray, List.set_cons_zero, List.set_cons_succ]
          refine wpAnyT_take (i := 5) (v := .agg #[.int .i64 sf, .int .i64 su]) rfl (by kernel_rfl) (fun _ _ _ h => h) (sg_yields (by rfl) (.tmp 8) rfl rfl [.int .i64 sf, .int .i64 su] rfl 37 (fun W hW => hW.1)) HS ?_
          try simp only [Act.put, List.setIfInBounds_toArray, List.set_cons_zero, List.set_cons_succ]
          refine wpAnyT_one (k := 4) rfl (by kernel_rfl) (by decide) (fun K hK => ?_)
          go_simp
          refine (stspan_any G2 m2 d2' L2 _ (HT2.out.keep HS.2)).mono ?_
          rintro e wc1 ⟨he, hbc⟩
          rw [HSP.out] at he
          subst he
          have HS : ((fun (W : World) => Bx W P 37 [.int .i64 sf, .int .i64 su] ∧ Below w10.heap.size w10 W)) _ := ⟨HS.1.kept hbc, HS.2.trans (hbc.mono HS.2.size)⟩
          refine hK _ _ HS ?_
          clear hK K
          try simp only [Act.put, List.setIfInBounds_toArray, List.set_cons_zero, List.set_cons_succ]
          refine wpAnyT_take (i := 6) (v := ?vv32) rfl (by kernel_rfl) (fun _ _ _ h => h) (Or.inl ⟨by rfl, fun w hSw => ?yy32⟩) HS ?rr32
          case yy32 =>
            (try dsimp only at hSw); go_simp
            try with_reducible rfl
          try simp only [Act.put, List.setIfInBounds_toArray, List.set_cons_zero, List.set_cons_succ]
          refine wpAnyT_take (i := 7) (v := ?vv33) rfl (by kernel_rfl) (fun _ _ _ h => h) (Or.inl ⟨by rfl, fun w hSw => ?yy33⟩) HS ?rr33
          case yy33 =>
            (try dsimp only at hSw); go_simp
            try with_reducible rfl
          try simp only [Act.put, List.setIfInBounds_toArray, List.set_cons_zero, List.set_cons_succ]
          refine wpAnyT_take (i := 8) (v := ?vv34) rfl (by kernel_rfl) (fun _ _ _ h => h) (Or.inl ⟨by rfl, fun w hSw => ?yy34⟩) HS ?rr34
          case yy34 =>
            (try dsimp only at hSw); go_simp
            try with_reducible rfl
          try simp only [Act.put, List.setIfInBounds_toArray, List.set_cons_zero, List.set_cons_succ]
          refine wpAnyT_take (i := 10) (v := ?vv35) rfl (by kernel_rfl) (fun _ _ _ h => h) (Or.inl ⟨by rfl, fun w hSw => ?yy35⟩) HS ?rr35
          case yy35 =>
            (try dsimp only at hSw); go_simp
            try with_reducible rfl
          try simp only [Act.put, List.setIfInBounds_toArray, List.set_cons_zero, List.set_cons_succ]
          refine wpAnyT_one (k := 9) rfl (by kernel_rfl) (by decide) (fun K hK => ?_)
          go_simp
          refine (stflight_any G2 m2 d2' L2 _ (HT2.out.keep HS.2)).mono ?_
          rintro e wc2 ⟨he, hbc⟩
          rw [HFA.out] at he
          subst he
          have HS : ((fun (W : World) => Bx W P 37 [.int .i64 sf, .int .i64 su] ∧ Below w10.heap.size w10 W)) _ := ⟨HS.1.kept hbc, HS.2.trans (hbc.mono HS.2.size)⟩
          refine hK _ _ HS ?_
          clear hK K
          try simp only [Act.put, List.setIfInBounds_toArray, List.set_cons_zero, List.set_cons_succ]
          refine wpAnyT_take (i := 11) (v := ?vv36) rfl (by kernel_rfl) (fun _ _ _ h => h) (Or.inl ⟨by rfl, fun w hSw => ?yy36⟩) HS ?rr36
          case yy36 =>
            (try dsimp only at hSw); go_simp
            try with_reducible rfl
          try simp only [Act.put, List.setIfInBounds_toArray, List.set_cons_zero, List.set_cons_succ]
          refine wpAnyT_take (i := 12) (v := ?vv37) rfl (by kernel_rfl) (fun _ _ _ h => h) (Or.inl ⟨by rfl, fun w hSw => ?yy37⟩) HS ?rr37
          case yy37 =>
            (try dsimp only at hSw); go_simp
            try with_reducible rfl
          try simp only [Act.put, List.setIfInBounds_toArray, List.set_cons_zero, List.set_cons_succ]
          refine wpAnyT_take (i := 13) (v := ?vv38) rfl (by kernel_rfl) (fun _ _ _ h => h) (Or.inl ⟨by rfl, fun w hSw => ?yy38⟩) HS ?rr38
          case yy38 =>
            (try dsimp only at hSw); go_simp
            try with_reducible rfl
          try simp only [Act.put, List.setIfInBounds_toArray, List.set_cons_zero, List.set_cons_succ]
          refine wpAnyT_take (i := 14) (v := ?vv39) rfl (by kernel_rfl) (fun _ _ _ h => h) (Or.inl ⟨by rfl, fun w hSw => ?yy39⟩) HS ?rr39
          case yy39 =>
            (try dsimp only at hSw); go_simp
            try with_reducible rfl
          try simp only [Act.put, List.setIfInBounds_toArray, List.set_cons_zero, List.set_cons_succ]
          refine wpAnyT_take (i := 16) (v := ?vv40) rfl (by kernel_rfl) (fun _ _ _ h => h) (Or.inl ⟨by rfl, fun w hSw => ?yy40⟩) HS ?rr40
          case yy40 =>
            (try dsimp only at hSw); go_simp
            try with_reducible rfl
          try simp only [Act.put, List.setIfInBounds_toArray, List.set_cons_zero, List.set_cons_succ]
          refine wpAnyT_take (i := 17) (v := ?vv41) rfl (by kernel_rfl) (fun _ _ _ h => h) (Or.inl ⟨by rfl, fun w hSw => ?yy41⟩) HS ?rr41
          case yy41 =>
            (try dsimp only at hSw); go_simp
            try with_reducible rfl
          try simp only [Act.put, List.setIfInBounds_toArray, List.set_cons_zero, List.set_cons_succ]
          refine wpAnyT_one (k := 15) rfl (by kernel_rfl) (by decide) (fun K hK => ?_)
          go_simp
          refine (stflight_any G2 m2 d2' L2 _ (HT2.out.keep HS.2)).mono ?_
          rintro e wc3 ⟨he, hbc⟩
          rw [HFA.out] at he
          subst he
          have HS : ((fun (W : World) => Bx W P 37 [.int .i64 sf, .int .i64 su] ∧ Below w10.heap.size w10 W)) _ := ⟨HS.1.kept hbc, HS.2.trans (hbc.mono HS.2.size)⟩
          refine hK _ _ HS ?_
          clear hK K
          try simp only [Act.put, List.setIfInBounds_toArray, List.set_cons_zero, List.set_cons_succ]
          refine wpAnyT_take (i := 18) (v := ?vv42) rfl (by kernel_rfl) (fun _ _ _ h => h) (Or.inl ⟨by rfl, fun w hSw => ?yy42⟩) HS ?rr42
          case yy42 =>
            (try dsimp only at hSw); go_simp
            try with_reducible rfl
          try simp only [Act.put, List.setIfInBounds_toArray, List.set_cons_zero, List.set_cons_succ]
          refine wpAnyT_take (i := 19) (v := ?vv43) rfl (by kernel_rfl) (fun _ _ _ h => h) (Or.inl ⟨by rfl, fun w hSw => ?yy43⟩) HS ?rr43
          case yy43 =>
            (try dsimp only at hSw); go_simp
            try with_reducible rfl
          try simp only [Act.put, List.setIfInBounds_toArray, List.set_cons_zero, List.set_cons_succ]
          refine wpAnyT_take (i := 20) (v := ?vv44) rfl (by kernel_rfl) (fun _ _ _ h => h) (Or.inl ⟨by rfl, fun w hSw => ?yy44⟩) HS ?rr44
          case yy44 =>
            (try dsimp only at hSw); go_simp
            try with_reducible rfl
          try simp only [Act.put, List.setIfInBounds_toArray, List.set_cons_zero, List.set_cons_succ]
          refine wpAnyT_take (i := 21) (v := ?vv45) rfl (by kernel_rfl) (fun _ _ _ h => h) (Or.inl ⟨by rfl, fun w hSw => ?yy45⟩) HS ?rr45
          case yy45 =>
            (try dsimp only at hSw); go_simp
            try with_reducible rfl
          try simp only [Act.put, List.setIfInBounds_toArray, List.set_cons_zero, List.set_cons_succ]
          refine wpAnyT_one (k := 22) rfl (by kernel_rfl) (by decide) (fun K hK => ?_)
          go_simp
          refine (stmay_any G2 m2 d2' L2 _ (HT2.out.keep HS.2)).mono ?_
          rintro e wc4 ⟨he, hbc⟩
          rw [HMM.out] at he
          subst he
          have HS : ((fun (W : World) => Bx W P 37 [.int .i64 sf, .int .i64 su] ∧ Below w10.heap.size w10 W)) _ := ⟨HS.1.kept hbc, HS.2.trans (hbc.mono HS.2.size)⟩
          refine hK _ _ HS ?_
          clear hK K
          try simp only [Act.put, List.setIfInBounds_toArray, List.set_cons_zero, List.set_cons_succ]
          refine wpAnyT_take (i := 23) (v := ?vv46) rfl (by kernel_rfl) (fun _ _ _ h => h) (Or.inl ⟨by rfl, fun w hSw => ?yy46⟩) HS ?rr46
          case yy46 =>
            (try dsimp only at hSw); go_simp
            try with_reducible rfl
          try simp only [Act.put, List.setIfInBounds_toArray, List.set_cons_zero, List.set_cons_succ]
          refine ⟨by kernel_rfl, ?_⟩
          simp only [List.drop_succ_cons, List.drop_zero]
          go_wp2_with fail
          go_ret
          exact ⟨rfl, b10.trans (HS.2.mono (Nat.le_of_lt hBj))⟩
    | false =>
      rw [hcm] at k5
      cases hls : x.lost with
      | true =>
        rw [hls] at k6
        have hfv : fx = 0 := by rw [← HFX.out, HMR.out, hcm, hls]; rfl
        subst hfv
        have HZ5 := Lib.hid (show flightR (l ++ [x]) = fl by rw [HZ4.out, Int.add_zero]); clear hsf; have hsf : IntKind.i64.wrap fl = fl := IntWalk.i64_in _ (by have := F1.out; omega)
        have HCMx := Lib.hid hcm; have HLSx := Lib.hid hls; clear hcm hls HFX HMR HZ3
        by_cases hz : 0 < l.length
        · obtain ⟨w1e, w2e⟩ := HZ2.out hz
          have hn0 : 0 < n := by have := HL.out; omega
          have hn1 : decide ((0 : Int) < (n : Int)) = true := decide_eq_true (by omega)
          have i1 : (tf != sf) = false := by simp [w1e]
          have i2 : (x.seq != su) = false := by simp [w2e]
          have i1' : (tf == sf) = true := by simp [w1e]
          have i2' : (x.seq == su) = true := by simp [w2e]
          clear w1e w2e hz
          go_upto_region 16 with (go_at_call 19; refine (stflight_any G m d _ w8 t8.out).mono ?_; rintro e w9 ⟨he, hb9⟩; rw [HZ5.out] at he; subst he; have s9 := s8.keep hb9; have e9 := e8.kept hb9; have y9 := y8.kept hb9; have b9 : Below B w w9 := b8.trans (hb9.mono (Nat.le_of_lt e8.lt)))
          clear e8 s8 y8 v8 b8 t8 hb9 k0 k1 k5 k6 c0 c1 v0 v1
          obtain ⟨r2, hr2⟩ : ∃ r, againR l x.seq a = r := ⟨_, rfl⟩
          have HR2 := Lib.hid hr2
          have hac := sentAgain.again_cases l x.seq a
          rw [hr2] at hac
          have HAC := Lib.hid hac
          have j0 := e9.cell 0 rfl
          clear hr2 hac
          go_upto_region 17 with (go_at_call 13; refine (stagain_any A n c l x.seq a w9 s9 hn520).mono ?_; rintro e w10 ⟨G2, m2, d2', he, ht2, hb10⟩; rw [HR2.out] at he ht2; subst he)
          (try dsimp only at ht2 ⊢)
          have y10 := y9.kept hb10; have b10 : Below B w w10 := b9.trans (hb10.mono (Nat.le_of_lt e9.lt)); have hBj : B < w10.heap.size := Nat.lt_of_lt_of_le e9.lt hb10.size
          have HT2 := Lib.hid ht2.se
          clear ht2 hb10 j0 e9 s9 y9 b9
          rcases HAC.out with ⟨er2, her2, hre2⟩ | ⟨k0, hk0, hq0, hc0, ht0, hmay, ha60, hre2⟩
          · subst hre2
            (try dsimp only)
            have h3 : (er2 != 0) = true := by simpa using her2
            have h4 : (er2 == 0) = false := by simpa using her2
            clear her2 HAC HR2 HT2
            refine wp_region_tail 24 26 (fun (W : World) => Below B w W) (by kernel_rfl) (by rfl) (by decide) ?_
            have HS : ((fun (W : World) => Below B w W)) w10.drew := b10.drew
            refine wpAnyT_take (i := 0) (v := ?vv47) rfl (by kernel_rfl) (fun _ _ _ h => h) (Or.inl ⟨by rfl, fun w hSw => ?yy47⟩) HS ?rr47
            case yy47 =>
              (try dsimp only at hSw); go_simp
              try with_reducible rfl
            try simp only [Act.put, List.setIfInBounds_toArray, List.set_cons_zero, List.set_cons_succ]
            refine wpAnyT_take (i := 1) (v := ?vv48) rfl (by kernel_rfl) (fun _ _ _ h => h) (Or.inl ⟨by rfl, fun w hSw => ?yy48⟩) HS ?rr48
            case yy48 =>
              (try dsimp only at hSw); go_simp
              try with_reducible rfl
            try simp only [Act.put, List.setIfInBounds_toArray, List.set_cons_zero, List.set_cons_succ]
            refine wpAnyT_take (i := 2) (v := ?vv49) rfl (by kernel_rfl) (fun _ _ _ h => h) (Or.inl ⟨by rfl, fun w hSw => ?yy49⟩) HS ?rr49
            case yy49 =>
              (try dsimp only at hSw); go_simp
              try with_reducible rfl
            try simp only [Act.put, List.setIfInBounds_toArray, List.set_cons_zero, List.set_cons_succ]
            refine wpAnyT_take (i := 3) (v := undef) rfl (by kernel_rfl) (fun _ _ _ h => h) (Or.inr ⟨by kernel_rfl, rfl⟩) HS ?_
            try simp only [Act.put, List.setIfInBounds_toArray, List.set_cons_zero, List.set_cons_succ]
            refine wpAnyT_take (i := 4) (v := undef) rfl (by kernel_rfl) (fun _ _ _ h => h) (Or.inr ⟨by kernel_rfl, rfl⟩) HS ?_
            try simp only [Act.put, List.setIfInBounds_toArray, List.set_cons_zero, List.set_cons_succ]
            refine wpAnyT_take (i := 5) (v := undef) rfl (by kernel_rfl) (fun _ _ _ h => h) (Or.inr ⟨by kernel_rfl, rfl⟩) HS ?_
            try simp only [Act.put, List.setIfInBounds_toArray, List.set_cons_zero, List.set_cons_succ]
            refine wpAnyT_take (i := 6) (v := undef) rfl (by kernel_rfl) (fun _ _ _ h => h) (Or.inr ⟨by kernel_rfl, rfl⟩) HS ?_
            try simp only [Act.put, List.setIfInBounds_toArray, List.set_cons_zero, List.set_cons_succ]
            refine wpAnyT_take (i := 7) (v := undef) rfl (by kernel_rfl) (fun _ _ _ h => h) (Or.inr ⟨by kernel_rfl, rfl⟩) HS ?_
            try simp only [Act.put, List.setIfInBounds_toArray, List.set_cons_zero, List.set_cons_succ]
            refine wpAnyT_take (i := 8) (v := undef) rfl (by kernel_rfl) (fun _ _ _ h => h) (Or.inr ⟨by kernel_rfl, rfl⟩) HS ?_
            try simp only [Act.put, List.setIfInBounds_toArray, List.set_cons_zero, List.set_cons_succ]
            refine wpAnyT_take (i := 9) (v := undef) rfl (by kernel_rfl) (fun _ _ _ h => h) (Or.inr ⟨by kernel_rfl, rfl⟩) HS ?_
            try simp only [Act.put, List.setIfInBounds_toArray, List.set_cons_zero, List.set_cons_succ]
            refine wpAnyT_take (i := 10) (v := undef) rfl (by kernel_rfl) (fun _ _ _ h => h) (Or.inr ⟨by kernel_rfl, rfl⟩) HS ?_
            try simp only [Act.put, List.setIfInBounds_toArray, List.set_cons_zero, List.set_cons_succ]
            refine wpAnyT_take (i := 11) (v := undef) rfl (by kernel_rfl) (fun _ _ _ h => h) (Or.inr ⟨by kernel_rfl, rfl⟩) HS ?_
            try simp only [Act.put, List.setIfInBounds_toArray, List.set_cons_zero, List.set_cons_succ]
            refine wpAnyT_take (i := 12) (v := undef) rfl (by kernel_rfl) (fun _ _ _ h => h) (Or.inr ⟨by kernel_rfl, rfl⟩) HS ?_
            try simp only [Act.put, List.setIfInBounds_toArray, List.set_cons_zero, List.set_cons_succ]
            refine wpAnyT_take (i := 13) (v := undef) rfl (by kernel_rfl) (fun _ _ _ h => h) (Or.inr ⟨by kernel_rfl, rfl⟩) HS ?_
            try simp only [Act.put, List.setIfInBounds_toArray, List.set_cons_zero, List.set_cons_succ]
            refine wpAnyT_take (i := 14) (v := undef) rfl (by kernel_rfl) (fun _ _ _ h => h) (Or.inr ⟨by kernel_rfl, rfl⟩) HS ?_
            try simp only [Act.put, List.setIfInBounds_toArray, List.set_cons_zero, List.set_cons_succ]
            refine wpAnyT_take (i := 15) (v := undef) rfl (by kernel_rfl) (fun _ _ _ h => h) (Or.inr ⟨by kernel_rfl, rfl⟩) HS ?_
            try simp only [Act.put, List.setIfInBounds_toArray, List.set_cons_zero, List.set_cons_succ]
            refine wpAnyT_take (i := 16) (v := undef) rfl (by kernel_rfl) (fun _ _ _ h => h) (Or.inr ⟨by kernel_rfl, rfl⟩) HS ?_
            try simp only [Act.put, List.setIfInBounds_toArray, List.set_cons_zero, List.set_cons_succ]
            refine wpAnyT_take (i := 17) (v := undef) rfl (by kernel_rfl) (fun _ _ _ h => h) (Or.inr ⟨by kernel_rfl, rfl⟩) HS ?_
            try simp only [Act.put, List.setIfInBounds_toArray, List.set_cons_zero, List.set_cons_succ]
            refine wpAnyT_take (i := 18) (v := undef) rfl (by kernel_rfl) (fun _ _ _ h => h) (Or.inr ⟨by kernel_rfl, rfl⟩) HS ?_
            try simp only [Act.put, List.setIfInBounds_toArray, List.set_cons_zero, List.set_cons_succ]
            refine wpAnyT_take (i := 19) (v := undef) rfl (by kernel_rfl) (fun _ _ _ h => h) (Or.inr ⟨by kernel_rfl, rfl⟩) HS ?_
            try simp only [Act.put, List.setIfInBounds_toArray, List.set_cons_zero, List.set_cons_succ]
            refine wpAnyT_take (i := 20) (v := undef) rfl (by kernel_rfl) (fun _ _ _ h => h) (Or.inr ⟨by kernel_rfl, rfl⟩) HS ?_
            try simp only [Act.put, List.setIfInBounds_toArray, List.set_cons_zero, List.set_cons_succ]
            refine wpAnyT_take (i := 21) (v := undef) rfl (by kernel_rfl) (fun _ _ _ h => h) (Or.inr ⟨by kernel_rfl, rfl⟩) HS ?_
            try simp only [Act.put, List.setIfInBounds_toArray, List.set_cons_zero, List.set_cons_succ]
            refine wpAnyT_take (i := 22) (v := undef) rfl (by kernel_rfl) (fun _ _ _ h => h) (Or.inr ⟨by kernel_rfl, rfl⟩) HS ?_
            try simp only [Act.put, List.setIfInBounds_toArray, List.set_cons_zero, List.set_cons_succ]
            refine wpAnyT_take (i := 23) (v := undef) rfl (by kernel_rfl) (fun _ _ _ h => h) (Or.inr ⟨by kernel_rfl, rfl⟩) HS ?_
            try simp only [Act.put, List.setIfInBounds_toArray, List.set_cons_zero, List.set_cons_succ]
            refine ⟨by kernel_rfl, ?_⟩
            simp only [List.drop_succ_cons, List.drop_zero]
            go_wp2_with fail
            go_ret
            exact ⟨rfl, HS⟩
          · subst hre2
            (try dsimp only at HT2 ⊢)
            have hsp := again_span hk0 hmay ha60 hc0 ht0
            have hfl2 := again_fly hk0 hmay ha60 hc0 ht0
            have hmm := sentAgain.again_may hk0 hmay ha60 hc0 ht0
            rw [HSX.out] at hsp
            rw [HFE.out] at hfl2
            obtain ⟨L2, hL2⟩ : ∃ L, l.set k0 (againP (ge l k0) a) = L := ⟨_, rfl⟩
            rw [hL2] at hsp hfl2 hmm HT2
            obtain ⟨fa, hfa⟩ : ∃ f, flightR L2 = f := ⟨_, rfl⟩
            rw [hfa] at hfl2
            have HSP := Lib.hid hsp; have HFA := Lib.hid hfa; have HMM := Lib.hid hmm
            obtain ⟨p1, p2⟩ := hfl2
            have o1 : decide (fl ≤ fa) = true := decide_eq_true p1
            have o2 : decide (fa ≤ fl + 1460) = true := decide_eq_true p2
            have o3 : IntKind.i64.wrap (fl + 1460) = fl + 1460 := IntWalk.i64_in _ (by have := F1.out; omega)
            clear hsp hfa hmm hL2 hk0 hq0 hc0 ht0 hmay ha60 HAC HR2
            refine wp_region_tail 24 26 (fun (W : World) => Bx W P 37 [.int .i64 sf, .int .i64 su] ∧ Below w10.heap.size w10 W) (by kernel_rfl) (by rfl) (by decide) ?_
            have HS : ((fun (W : World) => Bx W P 37 [.int .i64 sf, .int .i64 su] ∧ Below w10.heap.size w10 W)) w10.drew := ⟨y10.drew, (Below.refl _ _).drew⟩
            refine wpAnyT_take (i := 0) (v := ?vv50) rfl (by kernel_rfl) (fun _ _ _ h => h) (Or.inl ⟨by rfl, fun w hSw => ?yy50⟩) HS ?rr50
            case yy50 =>
              (try dsimp only at hSw); go_simp
              try with_reducible rfl
            try simp only [Act.put, List.setIfInBounds_toArray, List.set_cons_zero, List.set_cons_succ]
            refine wpAnyT_take (i := 1) (v := ?vv51) rfl (by kernel_rfl) (fun _ _ _ h => h) (Or.inl ⟨by rfl, fun w hSw => ?yy51⟩) HS ?rr51
            case yy51 =>
              (try dsimp only at hSw); go_simp
              try with_reducible rfl
            try simp only [Act.put, List.setIfInBounds_toArray, List.set_cons_zero, List.set_cons_succ]
            refine wpAnyT_take (i := 2) (v := ?vv52) rfl (by kernel_rfl) (fun _ _ _ h => h) (Or.inl ⟨by rfl, fun w hSw => ?yy52⟩) HS ?rr52
            case yy52 =>
              (try dsimp only at hSw); go_simp
              try with_reducible rfl
            try simp only [Act.put, List.setIfInBounds_toArray, List.set_cons_zero, List.set_cons_succ]
            refine wpAnyT_take (i := 3) (v := ?vv53) rfl (by kernel_rfl) (fun _ _ _ h => h) (Or.inl ⟨by rfl, fun w hSw => ?yy53⟩) HS ?rr53
            case yy53 =>
              (try dsimp only at hSw); go_simp
              try with_reducible rfl
            try simp only [Act.put, List.setIfInBounds_toArray, List.set_cons_zero, List.set_cons_succ]
            refine wpAnyT_take (i := 5) (v := .agg #[.int .i64 sf, .int .i64 su]) rfl (by kernel_rfl) (fun _ _ _ h => h) (sg_yields (by rfl) (.tmp 8) rfl rfl [.int .i64 sf, .int .i64 su] rfl 37 (fun W hW => hW.1)) HS ?_
            try simp only [Act.put, List.setIfInBounds_toArray, List.set_cons_zero, List.set_cons_succ]
            refine wpAnyT_one (k := 4) rfl (by kernel_rfl) (by decide) (fun K hK => ?_)
            go_simp
            refine (stspan_any G2 m2 d2' L2 _ (HT2.out.keep HS.2)).mono ?_
            rintro e wc1 ⟨he, hbc⟩
            rw [HSP.out] at he
            subst he
            have HS : ((fun (W : World) => Bx W P 37 [.int .i64 sf, .int .i64 su] ∧ Below w10.heap.size w10 W)) _ := ⟨HS.1.kept hbc, HS.2.trans (hbc.mono HS.2.size)⟩
            refine hK _ _ HS ?_
            clear hK K
            try simp only [Act.put, List.setIfInBounds_toArray, List.set_cons_zero, List.set_cons_succ]
            refine wpAnyT_take (i := 6) (v := ?vv55) rfl (by kernel_rfl) (fun _ _ _ h => h) (Or.inl ⟨by rfl, fun w hSw => ?yy55⟩) HS ?rr55
            case yy55 =>
              (try dsimp only at hSw); go_simp
              try with_reducible rfl
            try simp only [Act.put, List.setIfInBounds_toArray, List.set_cons_zero, List.set_cons_succ]
            refine wpAnyT_take (i := 7) (v := ?vv56) rfl (by kernel_rfl) (fun _ _ _ h => h) (Or.inl ⟨by rfl, fun w hSw => ?yy56⟩) HS ?rr56
            case yy56 =>
              (try dsimp only at hSw); go_simp
              try with_reducible rfl
            try simp only [Act.put, List.setIfInBounds_toArray, List.set_cons_zero, List.set_cons_succ]
            refine wpAnyT_take (i := 8) (v := ?vv57) rfl (by kernel_rfl) (fun _ _ _ h => h) (Or.inl ⟨by rfl, fun w hSw => ?yy57⟩) HS ?rr57
            case yy57 =>
              (try dsimp only at hSw); go_simp
              try with_reducible rfl
            try simp only [Act.put, List.setIfInBounds_toArray, List.set_cons_zero, List.set_cons_succ]
            refine wpAnyT_take (i := 10) (v := ?vv58) rfl (by kernel_rfl) (fun _ _ _ h => h) (Or.inl ⟨by rfl, fun w hSw => ?yy58⟩) HS ?rr58
            case yy58 =>
              (try dsimp only at hSw); go_simp
              try with_reducible rfl
            try simp only [Act.put, List.setIfInBounds_toArray, List.set_cons_zero, List.set_cons_succ]
            refine wpAnyT_one (k := 9) rfl (by kernel_rfl) (by decide) (fun K hK => ?_)
            go_simp
            refine (stflight_any G2 m2 d2' L2 _ (HT2.out.keep HS.2)).mono ?_
            rintro e wc2 ⟨he, hbc⟩
            rw [HFA.out] at he
            subst he
            have HS : ((fun (W : World) => Bx W P 37 [.int .i64 sf, .int .i64 su] ∧ Below w10.heap.size w10 W)) _ := ⟨HS.1.kept hbc, HS.2.trans (hbc.mono HS.2.size)⟩
            refine hK _ _ HS ?_
            clear hK K
            try simp only [Act.put, List.setIfInBounds_toArray, List.set_cons_zero, List.set_cons_succ]
            refine wpAnyT_take (i := 11) (v := ?vv59) rfl (by kernel_rfl) (fun _ _ _ h => h) (Or.inl ⟨by rfl, fun w hSw => ?yy59⟩) HS ?rr59
            case yy59 =>
              (try dsimp only at hSw); go_simp
              try with_reducible rfl
            try simp only [Act.put, List.setIfInBounds_toArray, List.set_cons_zero, List.set_cons_succ]
            refine wpAnyT_take (i := 12) (v := ?vv60) rfl (by kernel_rfl) (fun _ _ _ h => h) (Or.inl ⟨by rfl, fun w hSw => ?yy60⟩) HS ?rr60
            case yy60 =>
              (try dsimp only at hSw); go_simp
              try with_reducible rfl
            try simp only [Act.put, List.setIfInBounds_toArray, List.set_cons_zero, List.set_cons_succ]
            refine wpAnyT_take (i := 13) (v := ?vv61) rfl (by kernel_rfl) (fun _ _ _ h => h) (Or.inl ⟨by rfl, fun w hSw => ?yy61⟩) HS ?rr61
            case yy61 =>
              (try dsimp only at hSw); go_simp
              try with_reducible rfl
            try simp only [Act.put, List.setIfInBounds_toArray, List.set_cons_zero, List.set_cons_succ]
            refine wpAnyT_take (i := 14) (v := ?vv62) rfl (by kernel_rfl) (fun _ _ _ h => h) (Or.inl ⟨by rfl, fun w hSw => ?yy62⟩) HS ?rr62
            case yy62 =>
              (try dsimp only at hSw); go_simp
              try with_reducible rfl
            try simp only [Act.put, List.setIfInBounds_toArray, List.set_cons_zero, List.set_cons_succ]
            refine wpAnyT_take (i := 16) (v := ?vv63) rfl (by kernel_rfl) (fun _ _ _ h => h) (Or.inl ⟨by rfl, fun w hSw => ?yy63⟩) HS ?rr63
            case yy63 =>
              (try dsimp only at hSw); go_simp
              try with_reducible rfl
            try simp only [Act.put, List.setIfInBounds_toArray, List.set_cons_zero, List.set_cons_succ]
            refine wpAnyT_take (i := 17) (v := ?vv64) rfl (by kernel_rfl) (fun _ _ _ h => h) (Or.inl ⟨by rfl, fun w hSw => ?yy64⟩) HS ?rr64
            case yy64 =>
              (try dsimp only at hSw); go_simp
              try with_reducible rfl
            try simp only [Act.put, List.setIfInBounds_toArray, List.set_cons_zero, List.set_cons_succ]
            refine wpAnyT_one (k := 15) rfl (by kernel_rfl) (by decide) (fun K hK => ?_)
            go_simp
            refine (stflight_any G2 m2 d2' L2 _ (HT2.out.keep HS.2)).mono ?_
            rintro e wc3 ⟨he, hbc⟩
            rw [HFA.out] at he
            subst he
            have HS : ((fun (W : World) => Bx W P 37 [.int .i64 sf, .int .i64 su] ∧ Below w10.heap.size w10 W)) _ := ⟨HS.1.kept hbc, HS.2.trans (hbc.mono HS.2.size)⟩
            refine hK _ _ HS ?_
            clear hK K
            try simp only [Act.put, List.setIfInBounds_toArray, List.set_cons_zero, List.set_cons_succ]
            refine wpAnyT_take (i := 18) (v := ?vv65) rfl (by kernel_rfl) (fun _ _ _ h => h) (Or.inl ⟨by rfl, fun w hSw => ?yy65⟩) HS ?rr65
            case yy65 =>
              (try dsimp only at hSw); go_simp
              try with_reducible rfl
            try simp only [Act.put, List.setIfInBounds_toArray, List.set_cons_zero, List.set_cons_succ]
            refine wpAnyT_take (i := 19) (v := ?vv66) rfl (by kernel_rfl) (fun _ _ _ h => h) (Or.inl ⟨by rfl, fun w hSw => ?yy66⟩) HS ?rr66
            case yy66 =>
              (try dsimp only at hSw); go_simp
              try with_reducible rfl
            try simp only [Act.put, List.setIfInBounds_toArray, List.set_cons_zero, List.set_cons_succ]
            refine wpAnyT_take (i := 20) (v := ?vv67) rfl (by kernel_rfl) (fun _ _ _ h => h) (Or.inl ⟨by rfl, fun w hSw => ?yy67⟩) HS ?rr67
            case yy67 =>
              (try dsimp only at hSw); go_simp
              try with_reducible rfl
            try simp only [Act.put, List.setIfInBounds_toArray, List.set_cons_zero, List.set_cons_succ]
            refine wpAnyT_take (i := 21) (v := ?vv68) rfl (by kernel_rfl) (fun _ _ _ h => h) (Or.inl ⟨by rfl, fun w hSw => ?yy68⟩) HS ?rr68
            case yy68 =>
              (try dsimp only at hSw); go_simp
              try with_reducible rfl
            try simp only [Act.put, List.setIfInBounds_toArray, List.set_cons_zero, List.set_cons_succ]
            refine wpAnyT_one (k := 22) rfl (by kernel_rfl) (by decide) (fun K hK => ?_)
            go_simp
            refine (stmay_any G2 m2 d2' L2 _ (HT2.out.keep HS.2)).mono ?_
            rintro e wc4 ⟨he, hbc⟩
            rw [HMM.out] at he
            subst he
            have HS : ((fun (W : World) => Bx W P 37 [.int .i64 sf, .int .i64 su] ∧ Below w10.heap.size w10 W)) _ := ⟨HS.1.kept hbc, HS.2.trans (hbc.mono HS.2.size)⟩
            refine hK _ _ HS ?_
            clear hK K
            try simp only [Act.put, List.setIfInBounds_toArray, List.set_cons_zero, List.set_cons_succ]
            refine wpAnyT_take (i := 23) (v := ?vv69) rfl (by kernel_rfl) (fun _ _ _ h => h) (Or.inl ⟨by rfl, fun w hSw => ?yy69⟩) HS ?rr69
            case yy69 =>
              (try dsimp only at hSw); go_simp
              try with_reducible rfl
            try simp only [Act.put, List.setIfInBounds_toArray, List.set_cons_zero, List.set_cons_succ]
            refine ⟨by kernel_rfl, ?_⟩
            simp only [List.drop_succ_cons, List.drop_zero]
            go_wp2_with fail
            go_ret
            exact ⟨rfl, b10.trans (HS.2.mono (Nat.le_of_lt hBj))⟩
        · have hn0 : n = 0 := by have := HL.out; omega
          have hn1 : decide ((0 : Int) < (n : Int)) = false := decide_eq_false (by omega)
          have hn2 : decide (0 < n) = false := decide_eq_false (by omega)
          clear hz hn0
          go_upto_region 16 with (go_at_call 19; refine (stflight_any G m d _ w8 t8.out).mono ?_; rintro e w9 ⟨he, hb9⟩; rw [HZ5.out] at he; subst he; have s9 := s8.keep hb9; have e9 := e8.kept hb9; have y9 := y8.kept hb9; have b9 : Below B w w9 := b8.trans (hb9.mono (Nat.le_of_lt e8.lt)))
          clear e8 s8 y8 v8 b8 t8 hb9 k0 k1 k5 k6 c0 c1 v0 v1
          obtain ⟨r2, hr2⟩ : ∃ r, againR l x.seq a = r := ⟨_, rfl⟩
          have HR2 := Lib.hid hr2
          have hac := sentAgain.again_cases l x.seq a
          rw [hr2] at hac
          have HAC := Lib.hid hac
          have j0 := e9.cell 0 rfl
          clear hr2 hac
          go_upto_region 17 with (go_at_call 13; refine (stagain_any A n c l x.seq a w9 s9 hn520).mono ?_; rintro e w10 ⟨G2, m2, d2', he, ht2, hb10⟩; rw [HR2.out] at he ht2; subst he)
          (try dsimp only at ht2 ⊢)
          have y10 := y9.kept hb10; have b10 : Below B w w10 := b9.trans (hb10.mono (Nat.le_of_lt e9.lt)); have hBj : B < w10.heap.size := Nat.lt_of_lt_of_le e9.lt hb10.size
          have HT2 := Lib.hid ht2.se
          clear ht2 hb10 j0 e9 s9 y9 b9
          rcases HAC.out with ⟨er2, her2, hre2⟩ | ⟨k0, hk0, hq0, hc0, ht0, hmay, ha60, hre2⟩
          · subst hre2
            (try dsimp only)
            have h3 : (er2 != 0) = true := by simpa using her2
            have h4 : (er2 == 0) = false := by simpa using her2
            clear her2 HAC HR2 HT2
            refine wp_region_tail 24 26 (fun (W : World) => Below B w W) (by kernel_rfl) (by rfl) (by decide) ?_
            have HS : ((fun (W : World) => Below B w W)) w10.drew := b10.drew
            refine wpAnyT_take (i := 0) (v := ?vv70) rfl (by kernel_rfl) (fun _ _ _ h => h) (Or.inl ⟨by rfl, fun w hSw => ?yy70⟩) HS ?rr70
            case yy70 =>
              (try dsimp only at hSw); go_simp
              try with_reducible rfl
            try simp only [Act.put, List.setIfInBounds_toArray, List.set_cons_zero, List.set_cons_succ]
            refine wpAnyT_take (i := 1) (v := ?vv71) rfl (by kernel_rfl) (fun _ _ _ h => h) (Or.inl ⟨by rfl, fun w hSw => ?yy71⟩) HS ?rr71
            case yy71 =>
              (try dsimp only at hSw); go_simp
              try with_reducible rfl
            try simp only [Act.put, List.setIfInBounds_toArray, List.set_cons_zero, List.set_cons_succ]
            refine wpAnyT_take (i := 2) (v := ?vv72) rfl (by kernel_rfl) (fun _ _ _ h => h) (Or.inl ⟨by rfl, fun w hSw => ?yy72⟩) HS ?rr72
            case yy72 =>
              (try dsimp only at hSw); go_simp
              try with_reducible rfl
            try simp only [Act.put, List.setIfInBounds_toArray, List.set_cons_zero, List.set_cons_succ]
            refine wpAnyT_take (i := 3) (v := undef) rfl (by kernel_rfl) (fun _ _ _ h => h) (Or.inr ⟨by kernel_rfl, rfl⟩) HS ?_
            try simp only [Act.put, List.setIfInBounds_toArray, List.set_cons_zero, List.set_cons_succ]
            refine wpAnyT_take (i := 4) (v := undef) rfl (by kernel_rfl) (fun _ _ _ h => h) (Or.inr ⟨by kernel_rfl, rfl⟩) HS ?_
            try simp only [Act.put, List.setIfInBounds_toArray, List.set_cons_zero, List.set_cons_succ]
            refine wpAnyT_take (i := 5) (v := undef) rfl (by kernel_rfl) (fun _ _ _ h => h) (Or.inr ⟨by kernel_rfl, rfl⟩) HS ?_
            try simp only [Act.put, List.setIfInBounds_toArray, List.set_cons_zero, List.set_cons_succ]
            refine wpAnyT_take (i := 6) (v := undef) rfl (by kernel_rfl) (fun _ _ _ h => h) (Or.inr ⟨by kernel_rfl, rfl⟩) HS ?_
            try simp only [Act.put, List.setIfInBounds_toArray, List.set_cons_zero, List.set_cons_succ]
            refine wpAnyT_take (i := 7) (v := undef) rfl (by kernel_rfl) (fun _ _ _ h => h) (Or.inr ⟨by kernel_rfl, rfl⟩) HS ?_
            try simp only [Act.put, List.setIfInBounds_toArray, List.set_cons_zero, List.set_cons_succ]
            refine wpAnyT_take (i := 8) (v := undef) rfl (by kernel_rfl) (fun _ _ _ h => h) (Or.inr ⟨by kernel_rfl, rfl⟩) HS ?_
            try simp only [Act.put, List.setIfInBounds_toArray, List.set_cons_zero, List.set_cons_succ]
            refine wpAnyT_take (i := 9) (v := undef) rfl (by kernel_rfl) (fun _ _ _ h => h) (Or.inr ⟨by kernel_rfl, rfl⟩) HS ?_
            try simp only [Act.put, List.setIfInBounds_toArray, List.set_cons_zero, List.set_cons_succ]
            refine wpAnyT_take (i := 10) (v := undef) rfl (by kernel_rfl) (fun _ _ _ h => h) (Or.inr ⟨by kernel_rfl, rfl⟩) HS ?_
            try simp only [Act.put, List.setIfInBounds_toArray, List.set_cons_zero, List.set_cons_succ]
            refine wpAnyT_take (i := 11) (v := undef) rfl (by kernel_rfl) (fun _ _ _ h => h) (Or.inr ⟨by kernel_rfl, rfl⟩) HS ?_
            try simp only [Act.put, List.setIfInBounds_toArray, List.set_cons_zero, List.set_cons_succ]
            refine wpAnyT_take (i := 12) (v := undef) rfl (by kernel_rfl) (fun _ _ _ h => h) (Or.inr ⟨by kernel_rfl, rfl⟩) HS ?_
            try simp only [Act.put, List.setIfInBounds_toArray, List.set_cons_zero, List.set_cons_succ]
            refine wpAnyT_take (i := 13) (v := undef) rfl (by kernel_rfl) (fun _ _ _ h => h) (Or.inr ⟨by kernel_rfl, rfl⟩) HS ?_
            try simp only [Act.put, List.setIfInBounds_toArray, List.set_cons_zero, List.set_cons_succ]
            refine wpAnyT_take (i := 14) (v := undef) rfl (by kernel_rfl) (fun _ _ _ h => h) (Or.inr ⟨by kernel_rfl, rfl⟩) HS ?_
            try simp only [Act.put, List.setIfInBounds_toArray, List.set_cons_zero, List.set_cons_succ]
            refine wpAnyT_take (i := 15) (v := undef) rfl (by kernel_rfl) (fun _ _ _ h => h) (Or.inr ⟨by kernel_rfl, rfl⟩) HS ?_
            try simp only [Act.put, List.setIfInBounds_toArray, List.set_cons_zero, List.set_cons_succ]
            refine wpAnyT_take (i := 16) (v := undef) rfl (by kernel_rfl) (fun _ _ _ h => h) (Or.inr ⟨by kernel_rfl, rfl⟩) HS ?_
            try simp only [Act.put, List.setIfInBounds_toArray, List.set_cons_zero, List.set_cons_succ]
            refine wpAnyT_take (i := 17) (v := undef) rfl (by kernel_rfl) (fun _ _ _ h => h) (Or.inr ⟨by kernel_rfl, rfl⟩) HS ?_
            try simp only [Act.put, List.setIfInBounds_toArray, List.set_cons_zero, List.set_cons_succ]
            refine wpAnyT_take (i := 18) (v := undef) rfl (by kernel_rfl) (fun _ _ _ h => h) (Or.inr ⟨by kernel_rfl, rfl⟩) HS ?_
            try simp only [Act.put, List.setIfInBounds_toArray, List.set_cons_zero, List.set_cons_succ]
            refine wpAnyT_take (i := 19) (v := undef) rfl (by kernel_rfl) (fun _ _ _ h => h) (Or.inr ⟨by kernel_rfl, rfl⟩) HS ?_
            try simp only [Act.put, List.setIfInBounds_toArray, List.set_cons_zero, List.set_cons_succ]
            refine wpAnyT_take (i := 20) (v := undef) rfl (by kernel_rfl) (fun _ _ _ h => h) (Or.inr ⟨by kernel_rfl, rfl⟩) HS ?_
            try simp only [Act.put, List.setIfInBounds_toArray, List.set_cons_zero, List.set_cons_succ]
            refine wpAnyT_take (i := 21) (v := undef) rfl (by kernel_rfl) (fun _ _ _ h => h) (Or.inr ⟨by kernel_rfl, rfl⟩) HS ?_
            try simp only [Act.put, List.setIfInBounds_toArray, List.set_cons_zero, List.set_cons_succ]
            refine wpAnyT_take (i := 22) (v := undef) rfl (by kernel_rfl) (fun _ _ _ h => h) (Or.inr ⟨by kernel_rfl, rfl⟩) HS ?_
            try simp only [Act.put, List.setIfInBounds_toArray, List.set_cons_zero, List.set_cons_succ]
            refine wpAnyT_take (i := 23) (v := undef) rfl (by kernel_rfl) (fun _ _ _ h => h) (Or.inr ⟨by kernel_rfl, rfl⟩) HS ?_
            try simp only [Act.put, List.setIfInBounds_toArray, List.set_cons_zero, List.set_cons_succ]
            refine ⟨by kernel_rfl, ?_⟩
            simp only [List.drop_succ_cons, List.drop_zero]
            go_wp2_with fail
            go_ret
            exact ⟨rfl, HS⟩
          · subst hre2
            (try dsimp only at HT2 ⊢)
            have hsp := again_span hk0 hmay ha60 hc0 ht0
            have hfl2 := again_fly hk0 hmay ha60 hc0 ht0
            have hmm := sentAgain.again_may hk0 hmay ha60 hc0 ht0
            rw [HSX.out] at hsp
            rw [HFE.out] at hfl2
            obtain ⟨L2, hL2⟩ : ∃ L, l.set k0 (againP (ge l k0) a) = L := ⟨_, rfl⟩
            rw [hL2] at hsp hfl2 hmm HT2
            obtain ⟨fa, hfa⟩ : ∃ f, flightR L2 = f := ⟨_, rfl⟩
            rw [hfa] at hfl2
            have HSP := Lib.hid hsp; have HFA := Lib.hid hfa; have HMM := Lib.hid hmm
            obtain ⟨p1, p2⟩ := hfl2
            have o1 : decide (fl ≤ fa) = true := decide_eq_true p1
            have o2 : decide (fa ≤ fl + 1460) = true := decide_eq_true p2
            have o3 : IntKind.i64.wrap (fl + 1460) = fl + 1460 := IntWalk.i64_in _ (by have := F1.out; omega)
            clear hsp hfa hmm hL2 hk0 hq0 hc0 ht0 hmay ha60 HAC HR2
            refine wp_region_tail 24 26 (fun (W : World) => Bx W P 37 [.int .i64 sf, .int .i64 su] ∧ Below w10.heap.size w10 W) (by kernel_rfl) (by rfl) (by decide) ?_
            have HS : ((fun (W : World) => Bx W P 37 [.int .i64 sf, .int .i64 su] ∧ Below w10.heap.size w10 W)) w10.drew := ⟨y10.drew, (Below.refl _ _).drew⟩
            refine wpAnyT_take (i := 0) (v := ?vv73) rfl (by kernel_rfl) (fun _ _ _ h => h) (Or.inl ⟨by rfl, fun w hSw => ?yy73⟩) HS ?rr73
            case yy73 =>
              (try dsimp only at hSw); go_simp
              try with_reducible rfl
            try simp only [Act.put, List.setIfInBounds_toArray, List.set_cons_zero, List.set_cons_succ]
            refine wpAnyT_take (i := 1) (v := ?vv74) rfl (by kernel_rfl) (fun _ _ _ h => h) (Or.inl ⟨by rfl, fun w hSw => ?yy74⟩) HS ?rr74
            case yy74 =>
              (try dsimp only at hSw); go_simp
              try with_reducible rfl
            try simp only [Act.put, List.setIfInBounds_toArray, List.set_cons_zero, List.set_cons_succ]
            refine wpAnyT_take (i := 2) (v := ?vv75) rfl (by kernel_rfl) (fun _ _ _ h => h) (Or.inl ⟨by rfl, fun w hSw => ?yy75⟩) HS ?rr75
            case yy75 =>
              (try dsimp only at hSw); go_simp
              try with_reducible rfl
            try simp only [Act.put, List.setIfInBounds_toArray, List.set_cons_zero, List.set_cons_succ]
            refine wpAnyT_take (i := 3) (v := ?vv76) rfl (by kernel_rfl) (fun _ _ _ h => h) (Or.inl ⟨by rfl, fun w hSw => ?yy76⟩) HS ?rr76
            case yy76 =>
              (try dsimp only at hSw); go_simp
              try with_reducible rfl
            try simp only [Act.put, List.setIfInBounds_toArray, List.set_cons_zero, List.set_cons_succ]
            refine wpAnyT_take (i := 5) (v := .agg #[.int .i64 sf, .int .i64 su]) rfl (by kernel_rfl) (fun _ _ _ h => h) (sg_yields (by rfl) (.tmp 8) rfl rfl [.int .i64 sf, .int .i64 su] rfl 37 (fun W hW => hW.1)) HS ?_
            try simp only [Act.put, List.setIfInBounds_toArray, List.set_cons_zero, List.set_cons_succ]
            refine wpAnyT_one (k := 4) rfl (by kernel_rfl) (by decide) (fun K hK => ?_)
            go_simp
            refine (stspan_any G2 m2 d2' L2 _ (HT2.out.keep HS.2)).mono ?_
            rintro e wc1 ⟨he, hbc⟩
            rw [HSP.out] at he
            subst he
            have HS : ((fun (W : World) => Bx W P 37 [.int .i64 sf, .int .i64 su] ∧ Below w10.heap.size w10 W)) _ := ⟨HS.1.kept hbc, HS.2.trans (hbc.mono HS.2.size)⟩
            refine hK _ _ HS ?_
            clear hK K
            try simp only [Act.put, List.setIfInBounds_toArray, List.set_cons_zero, List.set_cons_succ]
            refine wpAnyT_take (i := 6) (v := ?vv78) rfl (by kernel_rfl) (fun _ _ _ h => h) (Or.inl ⟨by rfl, fun w hSw => ?yy78⟩) HS ?rr78
            case yy78 =>
              (try dsimp only at hSw); go_simp
              try with_reducible rfl
            try simp only [Act.put, List.setIfInBounds_toArray, List.set_cons_zero, List.set_cons_succ]
            refine wpAnyT_take (i := 7) (v := ?vv79) rfl (by kernel_rfl) (fun _ _ _ h => h) (Or.inl ⟨by rfl, fun w hSw => ?yy79⟩) HS ?rr79
            case yy79 =>
              (try dsimp only at hSw); go_simp
              try with_reducible rfl
            try simp only [Act.put, List.setIfInBounds_toArray, List.set_cons_zero, List.set_cons_succ]
            refine wpAnyT_take (i := 8) (v := ?vv80) rfl (by kernel_rfl) (fun _ _ _ h => h) (Or.inl ⟨by rfl, fun w hSw => ?yy80⟩) HS ?rr80
            case yy80 =>
              (try dsimp only at hSw); go_simp
              try with_reducible rfl
            try simp only [Act.put, List.setIfInBounds_toArray, List.set_cons_zero, List.set_cons_succ]
            refine wpAnyT_take (i := 10) (v := ?vv81) rfl (by kernel_rfl) (fun _ _ _ h => h) (Or.inl ⟨by rfl, fun w hSw => ?yy81⟩) HS ?rr81
            case yy81 =>
              (try dsimp only at hSw); go_simp
              try with_reducible rfl
            try simp only [Act.put, List.setIfInBounds_toArray, List.set_cons_zero, List.set_cons_succ]
            refine wpAnyT_one (k := 9) rfl (by kernel_rfl) (by decide) (fun K hK => ?_)
            go_simp
            refine (stflight_any G2 m2 d2' L2 _ (HT2.out.keep HS.2)).mono ?_
            rintro e wc2 ⟨he, hbc⟩
            rw [HFA.out] at he
            subst he
            have HS : ((fun (W : World) => Bx W P 37 [.int .i64 sf, .int .i64 su] ∧ Below w10.heap.size w10 W)) _ := ⟨HS.1.kept hbc, HS.2.trans (hbc.mono HS.2.size)⟩
            refine hK _ _ HS ?_
            clear hK K
            try simp only [Act.put, List.setIfInBounds_toArray, List.set_cons_zero, List.set_cons_succ]
            refine wpAnyT_take (i := 11) (v := ?vv82) rfl (by kernel_rfl) (fun _ _ _ h => h) (Or.inl ⟨by rfl, fun w hSw => ?yy82⟩) HS ?rr82
            case yy82 =>
              (try dsimp only at hSw); go_simp
              try with_reducible rfl
            try simp only [Act.put, List.setIfInBounds_toArray, List.set_cons_zero, List.set_cons_succ]
            refine wpAnyT_take (i := 12) (v := ?vv83) rfl (by kernel_rfl) (fun _ _ _ h => h) (Or.inl ⟨by rfl, fun w hSw => ?yy83⟩) HS ?rr83
            case yy83 =>
              (try dsimp only at hSw); go_simp
              try with_reducible rfl
            try simp only [Act.put, List.setIfInBounds_toArray, List.set_cons_zero, List.set_cons_succ]
            refine wpAnyT_take (i := 13) (v := ?vv84) rfl (by kernel_rfl) (fun _ _ _ h => h) (Or.inl ⟨by rfl, fun w hSw => ?yy84⟩) HS ?rr84
            case yy84 =>
              (try dsimp only at hSw); go_simp
              try with_reducible rfl
            try simp only [Act.put, List.setIfInBounds_toArray, List.set_cons_zero, List.set_cons_succ]
            refine wpAnyT_take (i := 14) (v := ?vv85) rfl (by kernel_rfl) (fun _ _ _ h => h) (Or.inl ⟨by rfl, fun w hSw => ?yy85⟩) HS ?rr85
            case yy85 =>
              (try dsimp only at hSw); go_simp
              try with_reducible rfl
            try simp only [Act.put, List.setIfInBounds_toArray, List.set_cons_zero, List.set_cons_succ]
            refine wpAnyT_take (i := 16) (v := ?vv86) rfl (by kernel_rfl) (fun _ _ _ h => h) (Or.inl ⟨by rfl, fun w hSw => ?yy86⟩) HS ?rr86
            case yy86 =>
              (try dsimp only at hSw); go_simp
              try with_reducible rfl
            try simp only [Act.put, List.setIfInBounds_toArray, List.set_cons_zero, List.set_cons_succ]
            refine wpAnyT_take (i := 17) (v := ?vv87) rfl (by kernel_rfl) (fun _ _ _ h => h) (Or.inl ⟨by rfl, fun w hSw => ?yy87⟩) HS ?rr87
            case yy87 =>
              (try dsimp only at hSw); go_simp
              try with_reducible rfl
            try simp only [Act.put, List.setIfInBounds_toArray, List.set_cons_zero, List.set_cons_succ]
            refine wpAnyT_one (k := 15) rfl (by kernel_rfl) (by decide) (fun K hK => ?_)
            go_simp
            refine (stflight_any G2 m2 d2' L2 _ (HT2.out.keep HS.2)).mono ?_
            rintro e wc3 ⟨he, hbc⟩
            rw [HFA.out] at he
            subst he
            have HS : ((fun (W : World) => Bx W P 37 [.int .i64 sf, .int .i64 su] ∧ Below w10.heap.size w10 W)) _ := ⟨HS.1.kept hbc, HS.2.trans (hbc.mono HS.2.size)⟩
            refine hK _ _ HS ?_
            clear hK K
            try simp only [Act.put, List.setIfInBounds_toArray, List.set_cons_zero, List.set_cons_succ]
            refine wpAnyT_take (i := 18) (v := ?vv88) rfl (by kernel_rfl) (fun _ _ _ h => h) (Or.inl ⟨by rfl, fun w hSw => ?yy88⟩) HS ?rr88
            case yy88 =>
              (try dsimp only at hSw); go_simp
              try with_reducible rfl
            try simp only [Act.put, List.setIfInBounds_toArray, List.set_cons_zero, List.set_cons_succ]
            refine wpAnyT_take (i := 19) (v := ?vv89) rfl (by kernel_rfl) (fun _ _ _ h => h) (Or.inl ⟨by rfl, fun w hSw => ?yy89⟩) HS ?rr89
            case yy89 =>
              (try dsimp only at hSw); go_simp
              try with_reducible rfl
            try simp only [Act.put, List.setIfInBounds_toArray, List.set_cons_zero, List.set_cons_succ]
            refine wpAnyT_take (i := 20) (v := ?vv90) rfl (by kernel_rfl) (fun _ _ _ h => h) (Or.inl ⟨by rfl, fun w hSw => ?yy90⟩) HS ?rr90
            case yy90 =>
              (try dsimp only at hSw); go_simp
              try with_reducible rfl
            try simp only [Act.put, List.setIfInBounds_toArray, List.set_cons_zero, List.set_cons_succ]
            refine wpAnyT_take (i := 21) (v := ?vv91) rfl (by kernel_rfl) (fun _ _ _ h => h) (Or.inl ⟨by rfl, fun w hSw => ?yy91⟩) HS ?rr91
            case yy91 =>
              (try dsimp only at hSw); go_simp
              try with_reducible rfl
            try simp only [Act.put, List.setIfInBounds_toArray, List.set_cons_zero, List.set_cons_succ]
            refine wpAnyT_one (k := 22) rfl (by kernel_rfl) (by decide) (fun K hK => ?_)
            go_simp
            refine (stmay_any G2 m2 d2' L2 _ (HT2.out.keep HS.2)).mono ?_
            rintro e wc4 ⟨he, hbc⟩
            rw [HMM.out] at he
            subst he
            have HS : ((fun (W : World) => Bx W P 37 [.int .i64 sf, .int .i64 su] ∧ Below w10.heap.size w10 W)) _ := ⟨HS.1.kept hbc, HS.2.trans (hbc.mono HS.2.size)⟩
            refine hK _ _ HS ?_
            clear hK K
            try simp only [Act.put, List.setIfInBounds_toArray, List.set_cons_zero, List.set_cons_succ]
            refine wpAnyT_take (i := 23) (v := ?vv92) rfl (by kernel_rfl) (fun _ _ _ h => h) (Or.inl ⟨by rfl, fun w hSw => ?yy92⟩) HS ?rr92
            case yy92 =>
              (try dsimp only at hSw); go_simp
              try with_reducible rfl
            try simp only [Act.put, List.setIfInBounds_toArray, List.set_cons_zero, List.set_cons_succ]
            refine ⟨by kernel_rfl, ?_⟩
            simp only [List.drop_succ_cons, List.drop_zero]
            go_wp2_with fail
            go_ret
            exact ⟨rfl, b10.trans (HS.2.mono (Nat.le_of_lt hBj))⟩
      | false =>
        rw [hls] at k6
        have hfv : fx = x.len := by rw [← HFX.out, HMR.out, hcm, hls]; rfl
        subst hfv
        have HZ5 := HZ4
        have HCMx := Lib.hid hcm; have HLSx := Lib.hid hls; clear hcm hls HFX HMR HZ3
        by_cases hz : 0 < l.length
        · obtain ⟨w1e, w2e⟩ := HZ2.out hz
          have hn0 : 0 < n := by have := HL.out; omega
          have hn1 : decide ((0 : Int) < (n : Int)) = true := decide_eq_true (by omega)
          have i1 : (tf != sf) = false := by simp [w1e]
          have i2 : (x.seq != su) = false := by simp [w2e]
          have i1' : (tf == sf) = true := by simp [w1e]
          have i2' : (x.seq == su) = true := by simp [w2e]
          clear w1e w2e hz
          go_upto_region 16 with (go_at_call 19; refine (stflight_any G m d _ w8 t8.out).mono ?_; rintro e w9 ⟨he, hb9⟩; rw [HZ5.out] at he; subst he; have s9 := s8.keep hb9; have e9 := e8.kept hb9; have y9 := y8.kept hb9; have b9 : Below B w w9 := b8.trans (hb9.mono (Nat.le_of_lt e8.lt)))
          clear e8 s8 y8 v8 b8 t8 hb9 k0 k1 k5 k6 c0 c1 v0 v1
          obtain ⟨r2, hr2⟩ : ∃ r, againR l x.seq a = r := ⟨_, rfl⟩
          have HR2 := Lib.hid hr2
          have hac := sentAgain.again_cases l x.seq a
          rw [hr2] at hac
          have HAC := Lib.hid hac
          have j0 := e9.cell 0 rfl
          clear hr2 hac
          go_upto_region 17 with (go_at_call 13; refine (stagain_any A n c l x.seq a w9 s9 hn520).mono ?_; rintro e w10 ⟨G2, m2, d2', he, ht2, hb10⟩; rw [HR2.out] at he ht2; subst he)
          (try dsimp only at ht2 ⊢)
          have y10 := y9.kept hb10; have b10 : Below B w w10 := b9.trans (hb10.mono (Nat.le_of_lt e9.lt)); have hBj : B < w10.heap.size := Nat.lt_of_lt_of_le e9.lt hb10.size
          have HT2 := Lib.hid ht2.se
          clear ht2 hb10 j0 e9 s9 y9 b9
          rcases HAC.out with ⟨er2, her2, hre2⟩ | ⟨k0, hk0, hq0, hc0, ht0, hmay, ha60, hre2⟩
          · subst hre2
            (try dsimp only)
            have h3 : (er2 != 0) = true := by simpa using her2
            have h4 : (er2 == 0) = false := by simpa using her2
            clear her2 HAC HR2 HT2
            refine wp_region_tail 24 26 (fun (W : World) => Below B w W) (by kernel_rfl) (by rfl) (by decide) ?_
            have HS : ((fun (W : World) => Below B w W)) w10.drew := b10.drew
            refine wpAnyT_take (i := 0) (v := ?vv93) rfl (by kernel_rfl) (fun _ _ _ h => h) (Or.inl ⟨by rfl, fun w hSw => ?yy93⟩) HS ?rr93
            case yy93 =>
              (try dsimp only at hSw); go_simp
              try with_reducible rfl
            try simp only [Act.put, List.setIfInBounds_toArray, List.set_cons_zero, List.set_cons_succ]
            refine wpAnyT_take (i := 1) (v := ?vv94) rfl (by kernel_rfl) (fun _ _ _ h => h) (Or.inl ⟨by rfl, fun w hSw => ?yy94⟩) HS ?rr94
            case yy94 =>
              (try dsimp only at hSw); go_simp
              try with_reducible rfl
            try simp only [Act.put, List.setIfInBounds_toArray, List.set_cons_zero, List.set_cons_succ]
            refine wpAnyT_take (i := 2) (v := ?vv95) rfl (by kernel_rfl) (fun _ _ _ h => h) (Or.inl ⟨by rfl, fun w hSw => ?yy95⟩) HS ?rr95
            case yy95 =>
              (try dsimp only at hSw); go_simp
              try with_reducible rfl
            try simp only [Act.put, List.setIfInBounds_toArray, List.set_cons_zero, List.set_cons_succ]
            refine wpAnyT_take (i := 3) (v := undef) rfl (by kernel_rfl) (fun _ _ _ h => h) (Or.inr ⟨by kernel_rfl, rfl⟩) HS ?_
            try simp only [Act.put, List.setIfInBounds_toArray, List.set_cons_zero, List.set_cons_succ]
            refine wpAnyT_take (i := 4) (v := undef) rfl (by kernel_rfl) (fun _ _ _ h => h) (Or.inr ⟨by kernel_rfl, rfl⟩) HS ?_
            try simp only [Act.put, List.setIfInBounds_toArray, List.set_cons_zero, List.set_cons_succ]
            refine wpAnyT_take (i := 5) (v := undef) rfl (by kernel_rfl) (fun _ _ _ h => h) (Or.inr ⟨by kernel_rfl, rfl⟩) HS ?_
            try simp only [Act.put, List.setIfInBounds_toArray, List.set_cons_zero, List.set_cons_succ]
            refine wpAnyT_take (i := 6) (v := undef) rfl (by kernel_rfl) (fun _ _ _ h => h) (Or.inr ⟨by kernel_rfl, rfl⟩) HS ?_
            try simp only [Act.put, List.setIfInBounds_toArray, List.set_cons_zero, List.set_cons_succ]
            refine wpAnyT_take (i := 7) (v := undef) rfl (by kernel_rfl) (fun _ _ _ h => h) (Or.inr ⟨by kernel_rfl, rfl⟩) HS ?_
            try simp only [Act.put, List.setIfInBounds_toArray, List.set_cons_zero, List.set_cons_succ]
            refine wpAnyT_take (i := 8) (v := undef) rfl (by kernel_rfl) (fun _ _ _ h => h) (Or.inr ⟨by kernel_rfl, rfl⟩) HS ?_
            try simp only [Act.put, List.setIfInBounds_toArray, List.set_cons_zero, List.set_cons_succ]
            refine wpAnyT_take (i := 9) (v := undef) rfl (by kernel_rfl) (fun _ _ _ h => h) (Or.inr ⟨by kernel_rfl, rfl⟩) HS ?_
            try simp only [Act.put, List.setIfInBounds_toArray, List.set_cons_zero, List.set_cons_succ]
            refine wpAnyT_take (i := 10) (v := undef) rfl (by kernel_rfl) (fun _ _ _ h => h) (Or.inr ⟨by kernel_rfl, rfl⟩) HS ?_
            try simp only [Act.put, List.setIfInBounds_toArray, List.set_cons_zero, List.set_cons_succ]
            refine wpAnyT_take (i := 11) (v := undef) rfl (by kernel_rfl) (fun _ _ _ h => h) (Or.inr ⟨by kernel_rfl, rfl⟩) HS ?_
            try simp only [Act.put, List.setIfInBounds_toArray, List.set_cons_zero, List.set_cons_succ]
            refine wpAnyT_take (i := 12) (v := undef) rfl (by kernel_rfl) (fun _ _ _ h => h) (Or.inr ⟨by kernel_rfl, rfl⟩) HS ?_
            try simp only [Act.put, List.setIfInBounds_toArray, List.set_cons_zero, List.set_cons_succ]
            refine wpAnyT_take (i := 13) (v := undef) rfl (by kernel_rfl) (fun _ _ _ h => h) (Or.inr ⟨by kernel_rfl, rfl⟩) HS ?_
            try simp only [Act.put, List.setIfInBounds_toArray, List.set_cons_zero, List.set_cons_succ]
            refine wpAnyT_take (i := 14) (v := undef) rfl (by kernel_rfl) (fun _ _ _ h => h) (Or.inr ⟨by kernel_rfl, rfl⟩) HS ?_
            try simp only [Act.put, List.setIfInBounds_toArray, List.set_cons_zero, List.set_cons_succ]
            refine wpAnyT_take (i := 15) (v := undef) rfl (by kernel_rfl) (fun _ _ _ h => h) (Or.inr ⟨by kernel_rfl, rfl⟩) HS ?_
            try simp only [Act.put, List.setIfInBounds_toArray, List.set_cons_zero, List.set_cons_succ]
            refine wpAnyT_take (i := 16) (v := undef) rfl (by kernel_rfl) (fun _ _ _ h => h) (Or.inr ⟨by kernel_rfl, rfl⟩) HS ?_
            try simp only [Act.put, List.setIfInBounds_toArray, List.set_cons_zero, List.set_cons_succ]
            refine wpAnyT_take (i := 17) (v := undef) rfl (by kernel_rfl) (fun _ _ _ h => h) (Or.inr ⟨by kernel_rfl, rfl⟩) HS ?_
            try simp only [Act.put, List.setIfInBounds_toArray, List.set_cons_zero, List.set_cons_succ]
            refine wpAnyT_take (i := 18) (v := undef) rfl (by kernel_rfl) (fun _ _ _ h => h) (Or.inr ⟨by kernel_rfl, rfl⟩) HS ?_
            try simp only [Act.put, List.setIfInBounds_toArray, List.set_cons_zero, List.set_cons_succ]
            refine wpAnyT_take (i := 19) (v := undef) rfl (by kernel_rfl) (fun _ _ _ h => h) (Or.inr ⟨by kernel_rfl, rfl⟩) HS ?_
            try simp only [Act.put, List.setIfInBounds_toArray, List.set_cons_zero, List.set_cons_succ]
            refine wpAnyT_take (i := 20) (v := undef) rfl (by kernel_rfl) (fun _ _ _ h => h) (Or.inr ⟨by kernel_rfl, rfl⟩) HS ?_
            try simp only [Act.put, List.setIfInBounds_toArray, List.set_cons_zero, List.set_cons_succ]
            refine wpAnyT_take (i := 21) (v := undef) rfl (by kernel_rfl) (fun _ _ _ h => h) (Or.inr ⟨by kernel_rfl, rfl⟩) HS ?_
            try simp only [Act.put, List.setIfInBounds_toArray, List.set_cons_zero, List.set_cons_succ]
            refine wpAnyT_take (i := 22) (v := undef) rfl (by kernel_rfl) (fun _ _ _ h => h) (Or.inr ⟨by kernel_rfl, rfl⟩) HS ?_
            try simp only [Act.put, List.setIfInBounds_toArray, List.set_cons_zero, List.set_cons_succ]
            refine wpAnyT_take (i := 23) (v := undef) rfl (by kernel_rfl) (fun _ _ _ h => h) (Or.inr ⟨by kernel_rfl, rfl⟩) HS ?_
            try simp only [Act.put, List.setIfInBounds_toArray, List.set_cons_zero, List.set_cons_succ]
            refine ⟨by kernel_rfl, ?_⟩
            simp only [List.drop_succ_cons, List.drop_zero]
            go_wp2_with fail
            go_ret
            exact ⟨rfl, HS⟩
          · subst hre2
            (try dsimp only at HT2 ⊢)
            have hsp := again_span hk0 hmay ha60 hc0 ht0
            have hfl2 := again_fly hk0 hmay ha60 hc0 ht0
            have hmm := sentAgain.again_may hk0 hmay ha60 hc0 ht0
            rw [HSX.out] at hsp
            rw [HFE.out] at hfl2
            obtain ⟨L2, hL2⟩ : ∃ L, l.set k0 (againP (ge l k0) a) = L := ⟨_, rfl⟩
            rw [hL2] at hsp hfl2 hmm HT2
            obtain ⟨fa, hfa⟩ : ∃ f, flightR L2 = f := ⟨_, rfl⟩
            rw [hfa] at hfl2
            have HSP := Lib.hid hsp; have HFA := Lib.hid hfa; have HMM := Lib.hid hmm
            obtain ⟨p1, p2⟩ := hfl2
            have o1 : decide (fl ≤ fa) = true := decide_eq_true p1
            have o2 : decide (fa ≤ fl + 1460) = true := decide_eq_true p2
            have o3 : IntKind.i64.wrap (fl + 1460) = fl + 1460 := IntWalk.i64_in _ (by have := F1.out; omega)
            clear hsp hfa hmm hL2 hk0 hq0 hc0 ht0 hmay ha60 HAC HR2
            refine wp_region_tail 24 26 (fun (W : World) => Bx W P 37 [.int .i64 sf, .int .i64 su] ∧ Below w10.heap.size w10 W) (by kernel_rfl) (by rfl) (by decide) ?_
            have HS : ((fun (W : World) => Bx W P 37 [.int .i64 sf, .int .i64 su] ∧ Below w10.heap.size w10 W)) w10.drew := ⟨y10.drew, (Below.refl _ _).drew⟩
            refine wpAnyT_take (i := 0) (v := ?vv96) rfl (by kernel_rfl) (fun _ _ _ h => h) (Or.inl ⟨by rfl, fun w hSw => ?yy96⟩) HS ?rr96
            case yy96 =>
              (try dsimp only at hSw); go_simp
              try with_reducible rfl
            try simp only [Act.put, List.setIfInBounds_toArray, List.set_cons_zero, List.set_cons_succ]
            refine wpAnyT_take (i := 1) (v := ?vv97) rfl (by kernel_rfl) (fun _ _ _ h => h) (Or.inl ⟨by rfl, fun w hSw => ?yy97⟩) HS ?rr97
            case yy97 =>
              (try dsimp only at hSw); go_simp
              try with_reducible rfl
            try simp only [Act.put, List.setIfInBounds_toArray, List.set_cons_zero, List.set_cons_succ]
            refine wpAnyT_take (i := 2) (v := ?vv98) rfl (by kernel_rfl) (fun _ _ _ h => h) (Or.inl ⟨by rfl, fun w hSw => ?yy98⟩) HS ?rr98
            case yy98 =>
              (try dsimp only at hSw); go_simp
              try with_reducible rfl
            try simp only [Act.put, List.setIfInBounds_toArray, List.set_cons_zero, List.set_cons_succ]
            refine wpAnyT_take (i := 3) (v := ?vv99) rfl (by kernel_rfl) (fun _ _ _ h => h) (Or.inl ⟨by rfl, fun w hSw => ?yy99⟩) HS ?rr99
            case yy99 =>
              (try dsimp only at hSw); go_simp
              try with_reducible rfl
            try simp only [Act.put, List.setIfInBounds_toArray, List.set_cons_zero, List.set_cons_succ]
            refine wpAnyT_take (i := 5) (v := .agg #[.int .i64 sf, .int .i64 su]) rfl (by kernel_rfl) (fun _ _ _ h => h) (sg_yields (by rfl) (.tmp 8) rfl rfl [.int .i64 sf, .int .i64 su] rfl 37 (fun W hW => hW.1)) HS ?_
            try simp only [Act.put, List.setIfInBounds_toArray, List.set_cons_zero, List.set_cons_succ]
            refine wpAnyT_one (k := 4) rfl (by kernel_rfl) (by decide) (fun K hK => ?_)
            go_simp
            refine (stspan_any G2 m2 d2' L2 _ (HT2.out.keep HS.2)).mono ?_
            rintro e wc1 ⟨he, hbc⟩
            rw [HSP.out] at he
            subst he
            have HS : ((fun (W : World) => Bx W P 37 [.int .i64 sf, .int .i64 su] ∧ Below w10.heap.size w10 W)) _ := ⟨HS.1.kept hbc, HS.2.trans (hbc.mono HS.2.size)⟩
            refine hK _ _ HS ?_
            clear hK K
            try simp only [Act.put, List.setIfInBounds_toArray, List.set_cons_zero, List.set_cons_succ]
            refine wpAnyT_take (i := 6) (v := ?vv101) rfl (by kernel_rfl) (fun _ _ _ h => h) (Or.inl ⟨by rfl, fun w hSw => ?yy101⟩) HS ?rr101
            case yy101 =>
              (try dsimp only at hSw); go_simp
              try with_reducible rfl
            try simp only [Act.put, List.setIfInBounds_toArray, List.set_cons_zero, List.set_cons_succ]
            refine wpAnyT_take (i := 7) (v := ?vv102) rfl (by kernel_rfl) (fun _ _ _ h => h) (Or.inl ⟨by rfl, fun w hSw => ?yy102⟩) HS ?rr102
            case yy102 =>
              (try dsimp only at hSw); go_simp
              try with_reducible rfl
            try simp only [Act.put, List.setIfInBounds_toArray, List.set_cons_zero, List.set_cons_succ]
            refine wpAnyT_take (i := 8) (v := ?vv103) rfl (by kernel_rfl) (fun _ _ _ h => h) (Or.inl ⟨by rfl, fun w hSw => ?yy103⟩) HS ?rr103
            case yy103 =>
              (try dsimp only at hSw); go_simp
              try with_reducible rfl
            try simp only [Act.put, List.setIfInBounds_toArray, List.set_cons_zero, List.set_cons_succ]
            refine wpAnyT_take (i := 10) (v := ?vv104) rfl (by kernel_rfl) (fun _ _ _ h => h) (Or.inl ⟨by rfl, fun w hSw => ?yy104⟩) HS ?rr104
            case yy104 =>
              (try dsimp only at hSw); go_simp
              try with_reducible rfl
            try simp only [Act.put, List.setIfInBounds_toArray, List.set_cons_zero, List.set_cons_succ]
            refine wpAnyT_one (k := 9) rfl (by kernel_rfl) (by decide) (fun K hK => ?_)
            go_simp
            refine (stflight_any G2 m2 d2' L2 _ (HT2.out.keep HS.2)).mono ?_
            rintro e wc2 ⟨he, hbc⟩
            rw [HFA.out] at he
            subst he
            have HS : ((fun (W : World) => Bx W P 37 [.int .i64 sf, .int .i64 su] ∧ Below w10.heap.size w10 W)) _ := ⟨HS.1.kept hbc, HS.2.trans (hbc.mono HS.2.size)⟩
            refine hK _ _ HS ?_
            clear hK K
            try simp only [Act.put, List.setIfInBounds_toArray, List.set_cons_zero, List.set_cons_succ]
            refine wpAnyT_take (i := 11) (v := ?vv105) rfl (by kernel_rfl) (fun _ _ _ h => h) (Or.inl ⟨by rfl, fun w hSw => ?yy105⟩) HS ?rr105
            case yy105 =>
              (try dsimp only at hSw); go_simp
              try with_reducible rfl
            try simp only [Act.put, List.setIfInBounds_toArray, List.set_cons_zero, List.set_cons_succ]
            refine wpAnyT_take (i := 12) (v := ?vv106) rfl (by kernel_rfl) (fun _ _ _ h => h) (Or.inl ⟨by rfl, fun w hSw => ?yy106⟩) HS ?rr106
            case yy106 =>
              (try dsimp only at hSw); go_simp
              try with_reducible rfl
            try simp only [Act.put, List.setIfInBounds_toArray, List.set_cons_zero, List.set_cons_succ]
            refine wpAnyT_take (i := 13) (v := ?vv107) rfl (by kernel_rfl) (fun _ _ _ h => h) (Or.inl ⟨by rfl, fun w hSw => ?yy107⟩) HS ?rr107
            case yy107 =>
              (try dsimp only at hSw); go_simp
              try with_reducible rfl
            try simp only [Act.put, List.setIfInBounds_toArray, List.set_cons_zero, List.set_cons_succ]
            refine wpAnyT_take (i := 14) (v := ?vv108) rfl (by kernel_rfl) (fun _ _ _ h => h) (Or.inl ⟨by rfl, fun w hSw => ?yy108⟩) HS ?rr108
            case yy108 =>
              (try dsimp only at hSw); go_simp
              try with_reducible rfl
            try simp only [Act.put, List.setIfInBounds_toArray, List.set_cons_zero, List.set_cons_succ]
            refine wpAnyT_take (i := 16) (v := ?vv109) rfl (by kernel_rfl) (fun _ _ _ h => h) (Or.inl ⟨by rfl, fun w hSw => ?yy109⟩) HS ?rr109
            case yy109 =>
              (try dsimp only at hSw); go_simp
              try with_reducible rfl
            try simp only [Act.put, List.setIfInBounds_toArray, List.set_cons_zero, List.set_cons_succ]
            refine wpAnyT_take (i := 17) (v := ?vv110) rfl (by kernel_rfl) (fun _ _ _ h => h) (Or.inl ⟨by rfl, fun w hSw => ?yy110⟩) HS ?rr110
            case yy110 =>
              (try dsimp only at hSw); go_simp
              try with_reducible rfl
            try simp only [Act.put, List.setIfInBounds_toArray, List.set_cons_zero, List.set_cons_succ]
            refine wpAnyT_one (k := 15) rfl (by kernel_rfl) (by decide) (fun K hK => ?_)
            go_simp
            refine (stflight_any G2 m2 d2' L2 _ (HT2.out.keep HS.2)).mono ?_
            rintro e wc3 ⟨he, hbc⟩
            rw [HFA.out] at he
            subst he
            have HS : ((fun (W : World) => Bx W P 37 [.int .i64 sf, .int .i64 su] ∧ Below w10.heap.size w10 W)) _ := ⟨HS.1.kept hbc, HS.2.trans (hbc.mono HS.2.size)⟩
            refine hK _ _ HS ?_
            clear hK K
            try simp only [Act.put, List.setIfInBounds_toArray, List.set_cons_zero, List.set_cons_succ]
            refine wpAnyT_take (i := 18) (v := ?vv111) rfl (by kernel_rfl) (fun _ _ _ h => h) (Or.inl ⟨by rfl, fun w hSw => ?yy111⟩) HS ?rr111
            case yy111 =>
              (try dsimp only at hSw); go_simp
              try with_reducible rfl
            try simp only [Act.put, List.setIfInBounds_toArray, List.set_cons_zero, List.set_cons_succ]
            refine wpAnyT_take (i := 19) (v := ?vv112) rfl (by kernel_rfl) (fun _ _ _ h => h) (Or.inl ⟨by rfl, fun w hSw => ?yy112⟩) HS ?rr112
            case yy112 =>
              (try dsimp only at hSw); go_simp
              try with_reducible rfl
            try simp only [Act.put, List.setIfInBounds_toArray, List.set_cons_zero, List.set_cons_succ]
            refine wpAnyT_take (i := 20) (v := ?vv113) rfl (by kernel_rfl) (fun _ _ _ h => h) (Or.inl ⟨by rfl, fun w hSw => ?yy113⟩) HS ?rr113
            case yy113 =>
              (try dsimp only at hSw); go_simp
              try with_reducible rfl
            try simp only [Act.put, List.setIfInBounds_toArray, List.set_cons_zero, List.set_cons_succ]
            refine wpAnyT_take (i := 21) (v := ?vv114) rfl (by kernel_rfl) (fun _ _ _ h => h) (Or.inl ⟨by rfl, fun w hSw => ?yy114⟩) HS ?rr114
            case yy114 =>
              (try dsimp only at hSw); go_simp
              try with_reducible rfl
            try simp only [Act.put, List.setIfInBounds_toArray, List.set_cons_zero, List.set_cons_succ]
            refine wpAnyT_one (k := 22) rfl (by kernel_rfl) (by decide) (fun K hK => ?_)
            go_simp
            refine (stmay_any G2 m2 d2' L2 _ (HT2.out.keep HS.2)).mono ?_
            rintro e wc4 ⟨he, hbc⟩
            rw [HMM.out] at he
            subst he
            have HS : ((fun (W : World) => Bx W P 37 [.int .i64 sf, .int .i64 su] ∧ Below w10.heap.size w10 W)) _ := ⟨HS.1.kept hbc, HS.2.trans (hbc.mono HS.2.size)⟩
            refine hK _ _ HS ?_
            clear hK K
            try simp only [Act.put, List.setIfInBounds_toArray, List.set_cons_zero, List.set_cons_succ]
            refine wpAnyT_take (i := 23) (v := ?vv115) rfl (by kernel_rfl) (fun _ _ _ h => h) (Or.inl ⟨by rfl, fun w hSw => ?yy115⟩) HS ?rr115
            case yy115 =>
              (try dsimp only at hSw); go_simp
              try with_reducible rfl
            try simp only [Act.put, List.setIfInBounds_toArray, List.set_cons_zero, List.set_cons_succ]
            refine ⟨by kernel_rfl, ?_⟩
            simp only [List.drop_succ_cons, List.drop_zero]
            go_wp2_with fail
            go_ret
            exact ⟨rfl, b10.trans (HS.2.mono (Nat.le_of_lt hBj))⟩
        · have hn0 : n = 0 := by have := HL.out; omega
          have hn1 : decide ((0 : Int) < (n : Int)) = false := decide_eq_false (by omega)
          have hn2 : decide (0 < n) = false := decide_eq_false (by omega)
          clear hz hn0
          go_upto_region 16 with (go_at_call 19; refine (stflight_any G m d _ w8 t8.out).mono ?_; rintro e w9 ⟨he, hb9⟩; rw [HZ5.out] at he; subst he; have s9 := s8.keep hb9; have e9 := e8.kept hb9; have y9 := y8.kept hb9; have b9 : Below B w w9 := b8.trans (hb9.mono (Nat.le_of_lt e8.lt)))
          clear e8 s8 y8 v8 b8 t8 hb9 k0 k1 k5 k6 c0 c1 v0 v1
          obtain ⟨r2, hr2⟩ : ∃ r, againR l x.seq a = r := ⟨_, rfl⟩
          have HR2 := Lib.hid hr2
          have hac := sentAgain.again_cases l x.seq a
          rw [hr2] at hac
          have HAC := Lib.hid hac
          have j0 := e9.cell 0 rfl
          clear hr2 hac
          go_upto_region 17 with (go_at_call 13; refine (stagain_any A n c l x.seq a w9 s9 hn520).mono ?_; rintro e w10 ⟨G2, m2, d2', he, ht2, hb10⟩; rw [HR2.out] at he ht2; subst he)
          (try dsimp only at ht2 ⊢)
          have y10 := y9.kept hb10; have b10 : Below B w w10 := b9.trans (hb10.mono (Nat.le_of_lt e9.lt)); have hBj : B < w10.heap.size := Nat.lt_of_lt_of_le e9.lt hb10.size
          have HT2 := Lib.hid ht2.se
          clear ht2 hb10 j0 e9 s9 y9 b9
          rcases HAC.out with ⟨er2, her2, hre2⟩ | ⟨k0, hk0, hq0, hc0, ht0, hmay, ha60, hre2⟩
          · subst hre2
            (try dsimp only)
            have h3 : (er2 != 0) = true := by simpa using her2
            have h4 : (er2 == 0) = false := by simpa using her2
            clear her2 HAC HR2 HT2
            refine wp_region_tail 24 26 (fun (W : World) => Below B w W) (by kernel_rfl) (by rfl) (by decide) ?_
            have HS : ((fun (W : World) => Below B w W)) w10.drew := b10.drew
            refine wpAnyT_take (i := 0) (v := ?vv116) rfl (by kernel_rfl) (fun _ _ _ h => h) (Or.inl ⟨by rfl, fun w hSw => ?yy116⟩) HS ?rr116
            case yy116 =>
              (try dsimp only at hSw); go_simp
              try with_reducible rfl
            try simp only [Act.put, List.setIfInBounds_toArray, List.set_cons_zero, List.set_cons_succ]
            refine wpAnyT_take (i := 1) (v := ?vv117) rfl (by kernel_rfl) (fun _ _ _ h => h) (Or.inl ⟨by rfl, fun w hSw => ?yy117⟩) HS ?rr117
            case yy117 =>
              (try dsimp only at hSw); go_simp
              try with_reducible rfl
            try simp only [Act.put, List.setIfInBounds_toArray, List.set_cons_zero, List.set_cons_succ]
            refine wpAnyT_take (i := 2) (v := ?vv118) rfl (by kernel_rfl) (fun _ _ _ h => h) (Or.inl ⟨by rfl, fun w hSw => ?yy118⟩) HS ?rr118
            case yy118 =>
              (try dsimp only at hSw); go_simp
              try with_reducible rfl
            try simp only [Act.put, List.setIfInBounds_toArray, List.set_cons_zero, List.set_cons_succ]
            refine wpAnyT_take (i := 3) (v := undef) rfl (by kernel_rfl) (fun _ _ _ h => h) (Or.inr ⟨by kernel_rfl, rfl⟩) HS ?_
            try simp only [Act.put, List.setIfInBounds_toArray, List.set_cons_zero, List.set_cons_succ]
            refine wpAnyT_take (i := 4) (v := undef) rfl (by kernel_rfl) (fun _ _ _ h => h) (Or.inr ⟨by kernel_rfl, rfl⟩) HS ?_
            try simp only [Act.put, List.setIfInBounds_toArray, List.set_cons_zero, List.set_cons_succ]
            refine wpAnyT_take (i := 5) (v := undef) rfl (by kernel_rfl) (fun _ _ _ h => h) (Or.inr ⟨by kernel_rfl, rfl⟩) HS ?_
            try simp only [Act.put, List.setIfInBounds_toArray, List.set_cons_zero, List.set_cons_succ]
            refine wpAnyT_take (i := 6) (v := undef) rfl (by kernel_rfl) (fun _ _ _ h => h) (Or.inr ⟨by kernel_rfl, rfl⟩) HS ?_
            try simp only [Act.put, List.setIfInBounds_toArray, List.set_cons_zero, List.set_cons_succ]
            refine wpAnyT_take (i := 7) (v := undef) rfl (by kernel_rfl) (fun _ _ _ h => h) (Or.inr ⟨by kernel_rfl, rfl⟩) HS ?_
            try simp only [Act.put, List.setIfInBounds_toArray, List.set_cons_zero, List.set_cons_succ]
            refine wpAnyT_take (i := 8) (v := undef) rfl (by kernel_rfl) (fun _ _ _ h => h) (Or.inr ⟨by kernel_rfl, rfl⟩) HS ?_
            try simp only [Act.put, List.setIfInBounds_toArray, List.set_cons_zero, List.set_cons_succ]
            refine wpAnyT_take (i := 9) (v := undef) rfl (by kernel_rfl) (fun _ _ _ h => h) (Or.inr ⟨by kernel_rfl, rfl⟩) HS ?_
            try simp only [Act.put, List.setIfInBounds_toArray, List.set_cons_zero, List.set_cons_succ]
            refine wpAnyT_take (i := 10) (v := undef) rfl (by kernel_rfl) (fun _ _ _ h => h) (Or.inr ⟨by kernel_rfl, rfl⟩) HS ?_
            try simp only [Act.put, List.setIfInBounds_toArray, List.set_cons_zero, List.set_cons_succ]
            refine wpAnyT_take (i := 11) (v := undef) rfl (by kernel_rfl) (fun _ _ _ h => h) (Or.inr ⟨by kernel_rfl, rfl⟩) HS ?_
            try simp only [Act.put, List.setIfInBounds_toArray, List.set_cons_zero, List.set_cons_succ]
            refine wpAnyT_take (i := 12) (v := undef) rfl (by kernel_rfl) (fun _ _ _ h => h) (Or.inr ⟨by kernel_rfl, rfl⟩) HS ?_
            try simp only [Act.put, List.setIfInBounds_toArray, List.set_cons_zero, List.set_cons_succ]
            refine wpAnyT_take (i := 13) (v := undef) rfl (by kernel_rfl) (fun _ _ _ h => h) (Or.inr ⟨by kernel_rfl, rfl⟩) HS ?_
            try simp only [Act.put, List.setIfInBounds_toArray, List.set_cons_zero, List.set_cons_succ]
            refine wpAnyT_take (i := 14) (v := undef) rfl (by kernel_rfl) (fun _ _ _ h => h) (Or.inr ⟨by kernel_rfl, rfl⟩) HS ?_
            try simp only [Act.put, List.setIfInBounds_toArray, List.set_cons_zero, List.set_cons_succ]
            refine wpAnyT_take (i := 15) (v := undef) rfl (by kernel_rfl) (fun _ _ _ h => h) (Or.inr ⟨by kernel_rfl, rfl⟩) HS ?_
            try simp only [Act.put, List.setIfInBounds_toArray, List.set_cons_zero, List.set_cons_succ]
            refine wpAnyT_take (i := 16) (v := undef) rfl (by kernel_rfl) (fun _ _ _ h => h) (Or.inr ⟨by kernel_rfl, rfl⟩) HS ?_
            try simp only [Act.put, List.setIfInBounds_toArray, List.set_cons_zero, List.set_cons_succ]
            refine wpAnyT_take (i := 17) (v := undef) rfl (by kernel_rfl) (fun _ _ _ h => h) (Or.inr ⟨by kernel_rfl, rfl⟩) HS ?_
            try simp only [Act.put, List.setIfInBounds_toArray, List.set_cons_zero, List.set_cons_succ]
            refine wpAnyT_take (i := 18) (v := undef) rfl (by kernel_rfl) (fun _ _ _ h => h) (Or.inr ⟨by kernel_rfl, rfl⟩) HS ?_
            try simp only [Act.put, List.setIfInBounds_toArray, List.set_cons_zero, List.set_cons_succ]
            refine wpAnyT_take (i := 19) (v := undef) rfl (by kernel_rfl) (fun _ _ _ h => h) (Or.inr ⟨by kernel_rfl, rfl⟩) HS ?_
            try simp only [Act.put, List.setIfInBounds_toArray, List.set_cons_zero, List.set_cons_succ]
            refine wpAnyT_take (i := 20) (v := undef) rfl (by kernel_rfl) (fun _ _ _ h => h) (Or.inr ⟨by kernel_rfl, rfl⟩) HS ?_
            try simp only [Act.put, List.setIfInBounds_toArray, List.set_cons_zero, List.set_cons_succ]
            refine wpAnyT_take (i := 21) (v := undef) rfl (by kernel_rfl) (fun _ _ _ h => h) (Or.inr ⟨by kernel_rfl, rfl⟩) HS ?_
            try simp only [Act.put, List.setIfInBounds_toArray, List.set_cons_zero, List.set_cons_succ]
            refine wpAnyT_take (i := 22) (v := undef) rfl (by kernel_rfl) (fun _ _ _ h => h) (Or.inr ⟨by kernel_rfl, rfl⟩) HS ?_
            try simp only [Act.put, List.setIfInBounds_toArray, List.set_cons_zero, List.set_cons_succ]
            refine wpAnyT_take (i := 23) (v := undef) rfl (by kernel_rfl) (fun _ _ _ h => h) (Or.inr ⟨by kernel_rfl, rfl⟩) HS ?_
            try simp only [Act.put, List.setIfInBounds_toArray, List.set_cons_zero, List.set_cons_succ]
            refine ⟨by kernel_rfl, ?_⟩
            simp only [List.drop_succ_cons, List.drop_zero]
            go_wp2_with fail
            go_ret
            exact ⟨rfl, HS⟩
          · subst hre2
            (try dsimp only at HT2 ⊢)
            have hsp := again_span hk0 hmay ha60 hc0 ht0
            have hfl2 := again_fly hk0 hmay ha60 hc0 ht0
            have hmm := sentAgain.again_may hk0 hmay ha60 hc0 ht0
            rw [HSX.out] at hsp
            rw [HFE.out] at hfl2
            obtain ⟨L2, hL2⟩ : ∃ L, l.set k0 (againP (ge l k0) a) = L := ⟨_, rfl⟩
            rw [hL2] at hsp hfl2 hmm HT2
            obtain ⟨fa, hfa⟩ : ∃ f, flightR L2 = f := ⟨_, rfl⟩
            rw [hfa] at hfl2
            have HSP := Lib.hid hsp; have HFA := Lib.hid hfa; have HMM := Lib.hid hmm
            obtain ⟨p1, p2⟩ := hfl2
            have o1 : decide (fl ≤ fa) = true := decide_eq_true p1
            have o2 : decide (fa ≤ fl + 1460) = true := decide_eq_true p2
            have o3 : IntKind.i64.wrap (fl + 1460) = fl + 1460 := IntWalk.i64_in _ (by have := F1.out; omega)
            clear hsp hfa hmm hL2 hk0 hq0 hc0 ht0 hmay ha60 HAC HR2
            refine wp_region_tail 24 26 (fun (W : World) => Bx W P 37 [.int .i64 sf, .int .i64 su] ∧ Below w10.heap.size w10 W) (by kernel_rfl) (by rfl) (by decide) ?_
            have HS : ((fun (W : World) => Bx W P 37 [.int .i64 sf, .int .i64 su] ∧ Below w10.heap.size w10 W)) w10.drew := ⟨y10.drew, (Below.refl _ _).drew⟩
            refine wpAnyT_take (i := 0) (v := ?vv119) rfl (by kernel_rfl) (fun _ _ _ h => h) (Or.inl ⟨by rfl, fun w hSw => ?yy119⟩) HS ?rr119
            case yy119 =>
              (try dsimp only at hSw); go_simp
              try with_reducible rfl
            try simp only [Act.put, List.setIfInBounds_toArray, List.set_cons_zero, List.set_cons_succ]
            refine wpAnyT_take (i := 1) (v := ?vv120) rfl (by kernel_rfl) (fun _ _ _ h => h) (Or.inl ⟨by rfl, fun w hSw => ?yy120⟩) HS ?rr120
            case yy120 =>
              (try dsimp only at hSw); go_simp
              try with_reducible rfl
            try simp only [Act.put, List.setIfInBounds_toArray, List.set_cons_zero, List.set_cons_succ]
            refine wpAnyT_take (i := 2) (v := ?vv121) rfl (by kernel_rfl) (fun _ _ _ h => h) (Or.inl ⟨by rfl, fun w hSw => ?yy121⟩) HS ?rr121
            case yy121 =>
              (try dsimp only at hSw); go_simp
              try with_reducible rfl
            try simp only [Act.put, List.setIfInBounds_toArray, List.set_cons_zero, List.set_cons_succ]
            refine wpAnyT_take (i := 3) (v := ?vv122) rfl (by kernel_rfl) (fun _ _ _ h => h) (Or.inl ⟨by rfl, fun w hSw => ?yy122⟩) HS ?rr122
            case yy122 =>
              (try dsimp only at hSw); go_simp
              try with_reducible rfl
            try simp only [Act.put, List.setIfInBounds_toArray, List.set_cons_zero, List.set_cons_succ]
            refine wpAnyT_take (i := 5) (v := .agg #[.int .i64 sf, .int .i64 su]) rfl (by kernel_rfl) (fun _ _ _ h => h) (sg_yields (by rfl) (.tmp 8) rfl rfl [.int .i64 sf, .int .i64 su] rfl 37 (fun W hW => hW.1)) HS ?_
            try simp only [Act.put, List.setIfInBounds_toArray, List.set_cons_zero, List.set_cons_succ]
            refine wpAnyT_one (k := 4) rfl (by kernel_rfl) (by decide) (fun K hK => ?_)
            go_simp
            refine (stspan_any G2 m2 d2' L2 _ (HT2.out.keep HS.2)).mono ?_
            rintro e wc1 ⟨he, hbc⟩
            rw [HSP.out] at he
            subst he
            have HS : ((fun (W : World) => Bx W P 37 [.int .i64 sf, .int .i64 su] ∧ Below w10.heap.size w10 W)) _ := ⟨HS.1.kept hbc, HS.2.trans (hbc.mono HS.2.size)⟩
            refine hK _ _ HS ?_
            clear hK K
            try simp only [Act.put, List.setIfInBounds_toArray, List.set_cons_zero, List.set_cons_succ]
            refine wpAnyT_take (i := 6) (v := ?vv124) rfl (by kernel_rfl) (fun _ _ _ h => h) (Or.inl ⟨by rfl, fun w hSw => ?yy124⟩) HS ?rr124
            case yy124 =>
              (try dsimp only at hSw); go_simp
              try with_reducible rfl
            try simp only [Act.put, List.setIfInBounds_toArray, List.set_cons_zero, List.set_cons_succ]
            refine wpAnyT_take (i := 7) (v := ?vv125) rfl (by kernel_rfl) (fun _ _ _ h => h) (Or.inl ⟨by rfl, fun w hSw => ?yy125⟩) HS ?rr125
            case yy125 =>
              (try dsimp only at hSw); go_simp
              try with_reducible rfl
            try simp only [Act.put, List.setIfInBounds_toArray, List.set_cons_zero, List.set_cons_succ]
            refine wpAnyT_take (i := 8) (v := ?vv126) rfl (by kernel_rfl) (fun _ _ _ h => h) (Or.inl ⟨by rfl, fun w hSw => ?yy126⟩) HS ?rr126
            case yy126 =>
              (try dsimp only at hSw); go_simp
              try with_reducible rfl
            try simp only [Act.put, List.setIfInBounds_toArray, List.set_cons_zero, List.set_cons_succ]
            refine wpAnyT_take (i := 10) (v := ?vv127) rfl (by kernel_rfl) (fun _ _ _ h => h) (Or.inl ⟨by rfl, fun w hSw => ?yy127⟩) HS ?rr127
            case yy127 =>
              (try dsimp only at hSw); go_simp
              try with_reducible rfl
            try simp only [Act.put, List.setIfInBounds_toArray, List.set_cons_zero, List.set_cons_succ]
            refine wpAnyT_one (k := 9) rfl (by kernel_rfl) (by decide) (fun K hK => ?_)
            go_simp
            refine (stflight_any G2 m2 d2' L2 _ (HT2.out.keep HS.2)).mono ?_
            rintro e wc2 ⟨he, hbc⟩
            rw [HFA.out] at he
            subst he
            have HS : ((fun (W : World) => Bx W P 37 [.int .i64 sf, .int .i64 su] ∧ Below w10.heap.size w10 W)) _ := ⟨HS.1.kept hbc, HS.2.trans (hbc.mono HS.2.size)⟩
            refine hK _ _ HS ?_
            clear hK K
            try simp only [Act.put, List.setIfInBounds_toArray, List.set_cons_zero, List.set_cons_succ]
            refine wpAnyT_take (i := 11) (v := ?vv128) rfl (by kernel_rfl) (fun _ _ _ h => h) (Or.inl ⟨by rfl, fun w hSw => ?yy128⟩) HS ?rr128
            case yy128 =>
              (try dsimp only at hSw); go_simp
              try with_reducible rfl
            try simp only [Act.put, List.setIfInBounds_toArray, List.set_cons_zero, List.set_cons_succ]
            refine wpAnyT_take (i := 12) (v := ?vv129) rfl (by kernel_rfl) (fun _ _ _ h => h) (Or.inl ⟨by rfl, fun w hSw => ?yy129⟩) HS ?rr129
            case yy129 =>
              (try dsimp only at hSw); go_simp
              try with_reducible rfl
            try simp only [Act.put, List.setIfInBounds_toArray, List.set_cons_zero, List.set_cons_succ]
            refine wpAnyT_take (i := 13) (v := ?vv130) rfl (by kernel_rfl) (fun _ _ _ h => h) (Or.inl ⟨by rfl, fun w hSw => ?yy130⟩) HS ?rr130
            case yy130 =>
              (try dsimp only at hSw); go_simp
              try with_reducible rfl
            try simp only [Act.put, List.setIfInBounds_toArray, List.set_cons_zero, List.set_cons_succ]
            refine wpAnyT_take (i := 14) (v := ?vv131) rfl (by kernel_rfl) (fun _ _ _ h => h) (Or.inl ⟨by rfl, fun w hSw => ?yy131⟩) HS ?rr131
            case yy131 =>
              (try dsimp only at hSw); go_simp
              try with_reducible rfl
            try simp only [Act.put, List.setIfInBounds_toArray, List.set_cons_zero, List.set_cons_succ]
            refine wpAnyT_take (i := 16) (v := ?vv132) rfl (by kernel_rfl) (fun _ _ _ h => h) (Or.inl ⟨by rfl, fun w hSw => ?yy132⟩) HS ?rr132
            case yy132 =>
              (try dsimp only at hSw); go_simp
              try with_reducible rfl
            try simp only [Act.put, List.setIfInBounds_toArray, List.set_cons_zero, List.set_cons_succ]
            refine wpAnyT_take (i := 17) (v := ?vv133) rfl (by kernel_rfl) (fun _ _ _ h => h) (Or.inl ⟨by rfl, fun w hSw => ?yy133⟩) HS ?rr133
            case yy133 =>
              (try dsimp only at hSw); go_simp
              try with_reducible rfl
            try simp only [Act.put, List.setIfInBounds_toArray, List.set_cons_zero, List.set_cons_succ]
            refine wpAnyT_one (k := 15) rfl (by kernel_rfl) (by decide) (fun K hK => ?_)
            go_simp
            refine (stflight_any G2 m2 d2' L2 _ (HT2.out.keep HS.2)).mono ?_
            rintro e wc3 ⟨he, hbc⟩
            rw [HFA.out] at he
            subst he
            have HS : ((fun (W : World) => Bx W P 37 [.int .i64 sf, .int .i64 su] ∧ Below w10.heap.size w10 W)) _ := ⟨HS.1.kept hbc, HS.2.trans (hbc.mono HS.2.size)⟩
            refine hK _ _ HS ?_
            clear hK K
            try simp only [Act.put, List.setIfInBounds_toArray, List.set_cons_zero, List.set_cons_succ]
            refine wpAnyT_take (i := 18) (v := ?vv134) rfl (by kernel_rfl) (fun _ _ _ h => h) (Or.inl ⟨by rfl, fun w hSw => ?yy134⟩) HS ?rr134
            case yy134 =>
              (try dsimp only at hSw); go_simp
              try with_reducible rfl
            try simp only [Act.put, List.setIfInBounds_toArray, List.set_cons_zero, List.set_cons_succ]
            refine wpAnyT_take (i := 19) (v := ?vv135) rfl (by kernel_rfl) (fun _ _ _ h => h) (Or.inl ⟨by rfl, fun w hSw => ?yy135⟩) HS ?rr135
            case yy135 =>
              (try dsimp only at hSw); go_simp
              try with_reducible rfl
            try simp only [Act.put, List.setIfInBounds_toArray, List.set_cons_zero, List.set_cons_succ]
            refine wpAnyT_take (i := 20) (v := ?vv136) rfl (by kernel_rfl) (fun _ _ _ h => h) (Or.inl ⟨by rfl, fun w hSw => ?yy136⟩) HS ?rr136
            case yy136 =>
              (try dsimp only at hSw); go_simp
              try with_reducible rfl
            try simp only [Act.put, List.setIfInBounds_toArray, List.set_cons_zero, List.set_cons_succ]
            refine wpAnyT_take (i := 21) (v := ?vv137) rfl (by kernel_rfl) (fun _ _ _ h => h) (Or.inl ⟨by rfl, fun w hSw => ?yy137⟩) HS ?rr137
            case yy137 =>
              (try dsimp only at hSw); go_simp
              try with_reducible rfl
            try simp only [Act.put, List.setIfInBounds_toArray, List.set_cons_zero, List.set_cons_succ]
            refine wpAnyT_one (k := 22) rfl (by kernel_rfl) (by decide) (fun K hK => ?_)
            go_simp
            refine (stmay_any G2 m2 d2' L2 _ (HT2.out.keep HS.2)).mono ?_
            rintro e wc4 ⟨he, hbc⟩
            rw [HMM.out] at he
            subst he
            have HS : ((fun (W : World) => Bx W P 37 [.int .i64 sf, .int .i64 su] ∧ Below w10.heap.size w10 W)) _ := ⟨HS.1.kept hbc, HS.2.trans (hbc.mono HS.2.size)⟩
            refine hK _ _ HS ?_
            clear hK K
            try simp only [Act.put, List.setIfInBounds_toArray, List.set_cons_zero, List.set_cons_succ]
            refine wpAnyT_take (i := 23) (v := ?vv138) rfl (by kernel_rfl) (fun _ _ _ h => h) (Or.inl ⟨by rfl, fun w hSw => ?yy138⟩) HS ?rr138
            case yy138 =>
              (try dsimp only at hSw); go_simp
              try with_reducible rfl
            try simp only [Act.put, List.setIfInBounds_toArray, List.set_cons_zero, List.set_cons_succ]
            refine ⟨by kernel_rfl, ?_⟩
            simp only [List.drop_succ_cons, List.drop_zero]
            go_wp2_with fail
            go_ret
            exact ⟨rfl, b10.trans (HS.2.mono (Nat.le_of_lt hBj))⟩
end Go.Proofs.Ytnbamacdcggaeaa.sentSpan
