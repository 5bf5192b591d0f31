/- SentTells: the walk. -/
import Derived.Test.YtnbamacdcggaeaaStAwake
import Derived.Test.YtnbamacdcggaeaaStMath
import Derived.Test.YtnbamacdcggaeaaStRef4
import Derived.WalkKit
import Derived.WalkSpells
import Derived.WalkSmall
import Derived.Lib.Hide
import Derived.Below
import Derived.Outline
import Derived.Deep.QuietTactic
import Derived.BigQuiet
import Derived.IntWalk
import Derived.Deep.DeepCutAuto
import Derived.OwnWalk
namespace Go.Proofs.Ytnbamacdcggaeaa.sentTells
open Go.RowKit
set_option linter.unusedVariables false
set_option linter.unusedSimpArgs false

theorem same_refl (A : Option Addr) (n c : Nat) (l : List Prt) (A' : Option Addr) (n' c' : Nat) (w : World) (hs : Se w A n c l) (hs' : Se w A' n' c' l) :
    Calls Try.prog 12 #[.slice A n c, .slice A' n' c'] w fun e w' => e = .returned (.bool true) ∧ Below w.heap.size w w' := by
  refine (rstsame_any A n c l A' n' c' l w hs hs').mono ?_
  rintro e w' ⟨rfl, hb⟩
  exact ⟨by rw [decide_eq_true rfl], hb⟩

set_option maxRecDepth 100000 in
set_option maxHeartbeats 16000000 in
theorem walk (A : Option Addr) (n c : Nat) (l : List Prt) (x : Prt) (seq at_ got : Int) (A' : Option Addr) (n' c' : Nat) (sk : List Sp) (w : World) (hs : Se w A n c l) (hx : PrtW x) (hk : Ss w A' n' c' sk) :
    Calls Try.prog 3 #[.slice A n c, .agg #[.int .i64 x.seq, .int .i64 x.len, .int .i64 x.dsn, .int .i64 x.at_, .int .i64 x.tries, .bool x.came, .bool x.lost, .int .i64 x.total, .int .i64 x.last], .int .i64 seq, .int .i64 at_, .int .i64 got, .slice A' n' c'] w fun e w' => e = .returned (.bool true) ∧ Below w.heap.size w w' := by
  obtain ⟨B, hB⟩ : ∃ B, w.heap.size = B := ⟨_, rfl⟩
  rw [hB]
  have hl := hs.rd.len; have hkl := hk.rd.len
  have m1 := hs.le; have m2 := hs.max; have m4 := hk.le; have m5 := hk.max
  unfold maxLen at m2 m5
  have hnil := hs.nil
  have e0 : Bx (w.alloc (.cells #[.int .i64 x.seq, .int .i64 x.len, .int .i64 x.dsn, .int .i64 x.at_, .int .i64 x.tries, .bool x.came, .bool x.lost, .int .i64 x.total, .int .i64 x.last] 24)) w.heap.size 24 [.int .i64 x.seq, .int .i64 x.len, .int .i64 x.dsn, .int .i64 x.at_, .int .i64 x.tries, .bool x.came, .bool x.lost, .int .i64 x.total, .int .i64 x.last] := Bx.new w 24 [.int .i64 x.seq, .int .i64 x.len, .int .i64 x.dsn, .int .i64 x.at_, .int .i64 x.tries, .bool x.came, .bool x.lost, .int .i64 x.total, .int .i64 x.last]
  rw [hB] at e0
  have b0 : Below B w (w.alloc (.cells #[.int .i64 x.seq, .int .i64 x.len, .int .i64 x.dsn, .int .i64 x.at_, .int .i64 x.tries, .bool x.came, .bool x.lost, .int .i64 x.total, .int .i64 x.last] 24)) := by rw [← hB]; exact (Below.refl _ _).alloc (Nat.le_refl _) _
  have HA := Lib.hid hs; have HK := Lib.hid hk; have HB := Lib.hid hB; have HN := Lib.hid hnil
  clear hl hkl hs hk hnil
  go_enter Try.func3, Try.ntmps3
  go_upto_region 1 with fail
  generalize w.alloc (.cells #[.int .i64 x.seq, .int .i64 x.len, .int .i64 x.dsn, .int .i64 x.at_, .int .i64 x.tries, .bool x.came, .bool x.lost, .int .i64 x.total, .int .i64 x.last] 24) = w0 at e0 b0 ⊢
  have hB0 : B < w0.heap.size := e0.lt
  go_upto_region 2 with (go_at_call 9; refine (staw_any _).mono ?_; rintro e w1 ⟨rfl, hb1⟩; have e1 := e0.kept hb1; have b1 : Below B w w1 := b0.trans (hb1.mono (Nat.le_of_lt hB0)))
  by_cases hn : 520 < n
  · have d1 : decide ((520 : Int) < (n : Int)) = true := decide_eq_true (by omega)
    have d2 : decide (520 < n) = true := decide_eq_true hn
    go_wp2_with fail
    go_ret
    exact ⟨rfl, b1⟩
  have d1 : decide ((520 : Int) < (n : Int)) = false := decide_eq_false (by omega)
  have d2 : decide (520 < n) = false := decide_eq_false hn
  by_cases hn' : 50 < n'
  · have d3 : decide ((50 : Int) < (n' : Int)) = true := decide_eq_true (by omega)
    have d4 : decide (50 < n') = true := decide_eq_true hn'
    clear hn
    go_wp2_with fail
    go_ret
    exact ⟨rfl, b1⟩
  have d3 : decide ((50 : Int) < (n' : Int)) = false := decide_eq_false (by omega)
  have d4 : decide (50 < n') = false := decide_eq_false hn'
  have hn520 : n ≤ 1000 := by omega
  have hn50 : n' ≤ 1000 := by omega
  clear hn hn' m1 m2 m4 m5 e0 b0 hb1
  obtain ⟨r1, hr1⟩ : ∃ r, sendR l x = r := ⟨_, rfl⟩
  obtain ⟨r2, hr2⟩ : ∃ r, againR l seq at_ = r := ⟨_, rfl⟩
  obtain ⟨r3, hr3⟩ : ∃ r, heardR l got sk = r := ⟨_, rfl⟩
  have HR1 := Lib.hid hr1; have HR2 := Lib.hid hr2; have HR3 := Lib.hid hr3
  clear hr1 hr2 hr3
  have hB1 : B < w1.heap.size := e1.lt
  have hs1 : Se w1 A n c l := HA.out.keep (by rw [HB.out]; exact b1)
  have hk1 : Ss w1 A' n' c' sk := HK.out.keep (by rw [HB.out]; exact b1)
  go_upto_region 5 with (at_builtin; refine wpList_appe w1 rfl (.const (.slice none 0 0)) (.tmp 47) 22 rfl B 24 Try.underlying22 (.agg #[.int .i64 0, .int .i64 0, .int .i64 0, .int .i64 0, .int .i64 0, .bool false, .bool false, .int .i64 0, .int .i64 0]) 64 info_prt (by decide) _ 0 ([] : List Prt) rfl (Goe.none _ _ _) rfl HN.out hs1.rd (by unfold maxLen; omega) (by omega) (by omega) ?_; intro v2 w2 hg2 hgr2 _; have hb2 : Below w1.heap.size w1 w2 := (Below.refl _ _).grown hgr2 (Nat.le_refl _) (fun k hk => by cases hk))
  have e2 := e1.kept hb2; have b2 : Below B w w2 := b1.trans (hb2.mono (Nat.le_of_lt hB1)); have s2 := hs1.keep hb2; have k2 := hk1.keep hb2
  have hgo : Goe w2 B 24 v2 n l := by have := hg2; simpa using this
  obtain ⟨GW, dW, rfl, sneW⟩ := hgo.sne
  have a2 := sneW.se
  clear e1 b1 hs1 hk1 hg2 hgr2 hb2 hgo sneW hB1
  have hB2 : B < w2.heap.size := e2.lt
  go_upto_region 6 with (first | (refine st_load rfl (.tmp 7) rfl rfl e2 rfl ?_) | (go_at_call 10; refine (stsend_any A n c l x w2 s2 hx hn520).mono ?_; rintro e w3 ⟨G1, g1, d5, he, hA1, hb3⟩; rw [HR1.out] at he hA1; subst he))
  (try dsimp only)
  have e3 := e2.kept hb3; have b3 : Below B w w3 := b2.trans (hb3.mono (Nat.le_of_lt hB2)); have s3 := s2.keep hb3; have k3 := k2.keep hb3
  have a3 := a2.keep hb3
  have p3 := hA1.se
  clear e2 b2 s2 k2 hB2 a2 hb3
  have hB3 : B < w3.heap.size := e3.lt
  go_upto_region 7 with (first | (refine st_load rfl (.tmp 7) rfl rfl e3 rfl ?_) | (go_at_call 11; refine (rstsend_any A n c l x w3 s3 hx hn520).mono ?_; rintro e w4 ⟨G2, g2, d6, he, hA2, hb4⟩; rw [HR1.out] at he hA2; subst he))
  (try dsimp only)
  have e4 := e3.kept hb4; have b4 : Below B w w4 := b3.trans (hb4.mono (Nat.le_of_lt hB3)); have s4 := s3.keep hb4; have k4 := k3.keep hb4
  have a4 := a3.keep hb4
  have p4 := p3.keep hb4
  have q4 := hA2.se
  clear e3 b3 s3 k3 hB3 a3 p3 hb4
  have hB4 : B < w4.heap.size := e4.lt
  go_upto_region 8 with (go_at_call 12; refine (same_refl G1 g1 d5 r1.1 G2 g2 d6 w4 p4 q4).mono ?_; rintro e w5 ⟨rfl, hb5⟩)
  (try dsimp only)
  have e5 := e4.kept hb5; have b5 : Below B w w5 := b4.trans (hb5.mono (Nat.le_of_lt hB4)); have s5 := s4.keep hb5; have k5 := k4.keep hb5
  have a5 := a4.keep hb5
  have p5 := p4.keep hb5
  have q5 := q4.keep hb5
  clear e4 b4 s4 k4 hB4 a4 p4 q4 hb5
  have hB5 : B < w5.heap.size := e5.lt
  go_upto_region 9 with (go_at_call 13; refine (stagain_any A n c l seq at_ w5 s5 hn520).mono ?_; rintro e w6 ⟨G3, g3, d7, he, hA3, hb6⟩; rw [HR2.out] at he hA3; subst he)
  (try dsimp only)
  have e6 := e5.kept hb6; have b6 : Below B w w6 := b5.trans (hb6.mono (Nat.le_of_lt hB5)); have s6 := s5.keep hb6; have k6 := k5.keep hb6
  have a6 := a5.keep hb6
  have p6 := hA3.se
  clear e5 b5 s5 k5 hB5 a5 hb6
  have hB6 : B < w6.heap.size := e6.lt
  go_upto_region 10 with (go_at_call 14; refine (rstagain_any A n c l seq at_ w6 s6).mono ?_; rintro e w7 ⟨G4, g4, d8, he, hA4, hb7⟩; rw [HR2.out] at he hA4; subst he)
  (try dsimp only)
  have e7 := e6.kept hb7; have b7 : Below B w w7 := b6.trans (hb7.mono (Nat.le_of_lt hB6)); have s7 := s6.keep hb7; have k7 := k6.keep hb7
  have a7 := a6.keep hb7
  have p7 := p6.keep hb7
  have q7 := hA4.se
  clear e6 b6 s6 k6 hB6 a6 p6 hb7
  have hB7 : B < w7.heap.size := e7.lt
  go_upto_region 11 with (go_at_call 12; refine (same_refl G3 g3 d7 r2.1 G4 g4 d8 w7 p7 q7).mono ?_; rintro e w8 ⟨rfl, hb8⟩)
  (try dsimp only)
  have e8 := e7.kept hb8; have b8 : Below B w w8 := b7.trans (hb8.mono (Nat.le_of_lt hB7)); have s8 := s7.keep hb8; have k8 := k7.keep hb8
  have a8 := a7.keep hb8
  have p8 := p7.keep hb8
  have q8 := q7.keep hb8
  clear e7 b7 s7 k7 hB7 a7 p7 q7 hb8
  have hB8 : B < w8.heap.size := e8.lt
  go_upto_region 12 with (go_at_call 15; refine (stheard_any A n c l got A' n' c' sk w8 s8 k8 hn520 hn50).mono ?_; rintro e w9 ⟨G5, g5, d9, G6, g6, d10, he, hA5, hA6, hb9⟩; rw [HR3.out] at he hA5 hA6; subst he)
  (try dsimp only)
  have e9 := e8.kept hb9; have b9 : Below B w w9 := b8.trans (hb9.mono (Nat.le_of_lt hB8)); have s9 := s8.keep hb9; have k9 := k8.keep hb9
  have a9 := a8.keep hb9
  have p9 := hA5.se
  have u9 := hA6.se
  clear e8 b8 s8 k8 hB8 a8 hb9
  have hB9 : B < w9.heap.size := e9.lt
  go_upto_region 13 with (go_at_call 16; refine (rstheard_any A n c l got A' n' c' sk w9 s9 k9).mono ?_; rintro e w10 ⟨G7, g7, d11, G8, g8, d12, he, hA7, hA8, hb10⟩; rw [HR3.out] at he hA7 hA8; subst he)
  (try dsimp only)
  have e10 := e9.kept hb10; have b10 : Below B w w10 := b9.trans (hb10.mono (Nat.le_of_lt hB9)); have s10 := s9.keep hb10; have k10 := k9.keep hb10
  have a10 := a9.keep hb10
  have p10 := p9.keep hb10
  have u10 := u9.keep hb10
  have q10 := hA7.se
  have z10 := hA8.se
  clear e9 b9 s9 k9 hB9 a9 p9 u9 hb10
  go_upto_region 14 with (first | (go_at_call_of 12 G5; refine (same_refl G5 g5 d9 r3.1 G7 g7 d11 w10 p10 q10).mono ?_; rintro e w11 ⟨rfl, hb11⟩; have e11 := e10.kept hb11; have b11 : Below B w w11 := b10.trans (hb11.mono (Nat.le_of_lt e10.lt)); have s11 := s10.keep hb11; have a11 := a10.keep hb11; have u11 := u10.keep hb11; have z11 := z10.keep hb11) | (go_at_call_of 12 G6; refine (same_refl G6 g6 d10 r3.2.1 G8 g8 d12 w11 u11 z11).mono ?_; rintro e w12 ⟨rfl, hb12⟩; have e12 := e11.kept hb12; have b12 : Below B w w12 := b11.trans (hb12.mono (Nat.le_of_lt e11.lt)); have s12 := s11.keep hb12; have a12 := a11.keep hb12))
  clear e10 b10 s10 a10 e11 b11 s11 a11 k10
  go_upto_region 15 with (go_at_call 12; refine (same_refl A n c l GW n dW w12 s12 a12).mono ?_; rintro e w13 ⟨rfl, hb13⟩; have e13 := e12.kept hb13; have b13 : Below B w w13 := b12.trans (hb13.mono (Nat.le_of_lt e12.lt)); have s13 := s12.keep hb13; have a13 := a12.keep hb13)
  clear e12 b12 s12 a12 a13
  obtain ⟨q1, hq1⟩ : ∃ q, smayB l = q := ⟨_, rfl⟩
  obtain ⟨q2, hq2⟩ : ∃ q, flightR l = q := ⟨_, rfl⟩
  obtain ⟨q3, hq3⟩ : ∃ q, spanR l = q := ⟨_, rfl⟩
  have H1 := Lib.hid hq1; have H2 := Lib.hid hq2; have H3 := Lib.hid hq3
  obtain ⟨q31, q32⟩ := q3
  clear hq1 hq2 hq3
  go_wp2_with (first | (go_at_call 17; refine (stmay_any A n c l w13 s13).mono ?_; rintro e w14 ⟨he, hb14⟩; rw [H1.out] at he; subst he; have e14 := e13.kept hb14; have b14 : Below B w w14 := b13.trans (hb14.mono (Nat.le_of_lt e13.lt)); have s14 := s13.keep hb14) | (go_at_call 18; refine (rstmay_any A n c l w14 s14).mono ?_; rintro e w15 ⟨he, hb15⟩; rw [H1.out] at he; subst he; have e15 := e14.kept hb15; have b15 : Below B w w15 := b14.trans (hb15.mono (Nat.le_of_lt e14.lt)); have s15 := s14.keep hb15) | (go_at_call 19; refine (stflight_any A n c l w15 s15).mono ?_; rintro e w16 ⟨he, hb16⟩; rw [H2.out] at he; subst he; have e16 := e15.kept hb16; have b16 : Below B w w16 := b15.trans (hb16.mono (Nat.le_of_lt e15.lt)); have s16 := s15.keep hb16) | (go_at_call 20; refine (rstflight_any A n c l w16 s16).mono ?_; rintro e w17 ⟨he, hb17⟩; rw [H2.out] at he; subst he; have e17 := e16.kept hb17; have b17 : Below B w w17 := b16.trans (hb17.mono (Nat.le_of_lt e16.lt)); have s17 := s16.keep hb17) | (go_at_call 21; refine (stspan_any A n c l w17 s17).mono ?_; rintro e w18 ⟨he, hb18⟩; rw [H3.out] at he; subst he; have e18 := e17.kept hb18; have b18 : Below B w w18 := b17.trans (hb18.mono (Nat.le_of_lt e17.lt)); have s18 := s17.keep hb18) | (go_at_call 22; refine (rstspan_any A n c l w18 s18).mono ?_; rintro e w19 ⟨he, hb19⟩; rw [H3.out] at he; subst he; have e19 := e18.kept hb19; have b19 : Below B w w19 := b18.trans (hb19.mono (Nat.le_of_lt e18.lt)); have s19 := s18.keep hb19))
  go_ret
  exact ⟨rfl, b19⟩
end Go.Proofs.Ytnbamacdcggaeaa.sentTells
