/- RackLost: the walk. -/
import Derived.Test.YtlanplobdgchaaaProg
import Derived.Test.YtlanplobdgchaaaRkAwake
import Derived.Test.YtlanplobdgchaaaRkMath
import Derived.Test.YtlanplobdgchaaaStL
import Derived.Deep.LoopGhost
import Derived.WalkKit
import Derived.WalkSpells
import Derived.WalkSmall
import Derived.Lib.Hide
import Derived.Below
import Derived.Outline
import Derived.Deep.QuietTactic
import Derived.BigQuiet
import Derived.IntWalk
import Derived.Deep.DeepCutAuto
import Derived.OrdersHeld
import Derived.StillTail
import Derived.Test.YtlanplobdgchaaaTail
import Derived.Laws.Rows
import Derived.Laws.Tables
namespace Go.Proofs.Ytlanplobdgchaaa.rackLost
open Go.RowKit
set_option linter.unusedVariables false
set_option linter.unusedSimpArgs false

set_option maxRecDepth 100000 in
set_option maxHeartbeats 16000000 in
theorem walk (v : Rkv) (A : Option Addr) (n c : Nat) (l : List Prt) (now slack : Int) (w : World) (hs : Se w A n c l) :
    Calls Try.prog 4 #[.agg #[.int .i64 v.at_, .int .i64 v.end_, .int .i64 v.took, .int .i64 v.far, .bool v.mixed, .int .i64 v.quarters], .slice A n c, .int .i64 now, .int .i64 slack] w fun e w' => e = .returned (.bool true) ∧ Below w.heap.size w w' := by
  obtain ⟨B, hB⟩ : ∃ B, w.heap.size = B := ⟨_, rfl⟩
  rw [hB]
  have hl := hs.rd.len
  have m1 := hs.le
  have m2 := hs.max
  have m3 : n ≤ 9223372036854775807 := by unfold maxLen at m2; omega
  clear m1 m2
  have HL := Lib.hid hl
  have e0 := Bx.new w 23 [.int .i64 v.at_, .int .i64 v.end_, .int .i64 v.took, .int .i64 v.far, .bool v.mixed, .int .i64 v.quarters]
  rw [hB] at e0
  have b0 : Below B w (w.alloc (.cells #[.int .i64 v.at_, .int .i64 v.end_, .int .i64 v.took, .int .i64 v.far, .bool v.mixed, .int .i64 v.quarters] 23)) := by rw [← hB]; exact (Below.refl _ _).alloc (Nat.le_refl _) _
  have s0 := hs.alloc (.cells #[.int .i64 v.at_, .int .i64 v.end_, .int .i64 v.took, .int .i64 v.far, .bool v.mixed, .int .i64 v.quarters] 23)
  clear hs hl
  go_enter Try.func4, Try.ntmps4
  go_wp2_with fail
  generalize w.alloc (.cells #[.int .i64 v.at_, .int .i64 v.end_, .int .i64 v.took, .int .i64 v.far, .bool v.mixed, .int .i64 v.quarters] 23) = w1 at e0 b0 s0 ⊢
  refine (rakawake_any _).mono ?_
  rintro e w2 ⟨rfl, hb2⟩
  have e2 := e0.kept hb2; have b2 := b0.trans (hb2.mono (Nat.le_of_lt e0.lt)); have s2 := s0.keep hb2
  clear e0 b0 s0 hb2 hB
  by_cases c0 : 520 < n
  case pos =>
    have d0 : decide ((520 : Int) < (n : Int)) = true := decide_eq_true (by omega)
    have d0' : decide (520 < n) = true := decide_eq_true c0
    go_wp2_with fail
    go_ret
    exact ⟨rfl, b2⟩
  have d0 : decide ((520 : Int) < (n : Int)) = false := decide_eq_false (by omega)
  have d0' : decide (520 < n) = false := decide_eq_false c0
  have hn1 : n ≤ 1000 := by omega
  by_cases hok : LostOk v l now slack
  case neg =>
    have hx : lostR v l now slack = ([], 0, 0, 1) := lost_no hok
    have HX := Lib.hid hx
    clear hx hok
    go_wp2_with (refine rk_load rfl (.tmp 4) rfl rfl e2 rfl ?_)
    refine (raklost_any v A n c l _ _ _ s2 hn1).mono ?_
    rintro e w3 ⟨G1, m1, d1, he, hsG, hb3⟩
    rw [HX.out] at he hsG
    dsimp only at he hsG
    subst he
    obtain rfl : 0 = m1 := hsG.se.rd.len
    have b3 := b2.trans (hb3.mono (Nat.le_of_lt e2.lt))
    clear hsG
    go_wp2_with fail
    go_ret
    exact ⟨rfl, b3⟩
  case pos =>
  have hx := lost_ok hok
  obtain ⟨hk, hf, ht, hr⟩ := hok
  obtain ⟨t0, t1⟩ := (t60_iff now).1 ht
  obtain ⟨r0, r1⟩ := (brief_iff slack).1 hr
  have hv := (rkmay_iff v).1 hk
  have k0 := hv.k0; have k1 := hv.k1
  have hD := fun h => next_lost (v := v) (l := l) (now := now) (slack := slack) hk hf t0 r0 h
  have hmay := lost_may (v := v) (l := l) (now := now) (slack := slack) hf
  have hfl := lost_flight (v := v) (l := l) (now := now) (slack := slack) hf
  obtain ⟨N1, hN1⟩ : ∃ N, lostN v now slack l = N := ⟨_, rfl⟩
  obtain ⟨D, hDn⟩ : ∃ D, nextN v now slack l = D := ⟨_, rfl⟩
  rw [hN1, hDn] at hx
  rw [hDn] at hD
  have HX := Lib.hid hx; have HK := Lib.hid hk; have HF := Lib.hid hf; have HD := Lib.hid hD; have HMAY := Lib.hid hmay; have HFL := Lib.hid hfl; have HN1 := Lib.hid hN1
  clear hk hf ht hr hv hx hD hmay hfl hN1 hDn
  go_wp2_with (refine rk_load rfl (.tmp 4) rfl rfl e2 rfl ?_)
  refine (raklost_any v A n c l _ _ _ s2 hn1).mono ?_
  rintro e w3 ⟨G1, m1, d1, he, hsG, hb3⟩
  rw [HX.out] at he hsG
  dsimp only at he hsG
  subst he
  obtain rfl : n = m1 := HL.out.symm.trans ((lostL_len _ _ _ _).symm.trans hsG.se.rd.len)
  have e3 := e2.kept hb3; have s3 := s2.keep hb3; have b3 := b2.trans (hb3.mono (Nat.le_of_lt e2.lt)); have g3 := hsG.se
  have hB3 : B ≤ w3.heap.size := Nat.le_of_lt e3.lt
  clear e2 s2 b2 hb3 hsG
  go_wp2_with fail
  go_loopw [14, 15] (fun s14 s15 wr => ∃ k : Nat, k ≤ n ∧ s15 = .int .i64 (k : Int) ∧ s14 = .int .i64 (lostN v now slack (l.take k)) ∧ Below w3.heap.size w3 wr) (fun _ i _ => n - (intOf i).toNat)
  case atStart => exact ⟨0, Nat.zero_le _, rfl, rfl, Below.refl _ _⟩
  case round =>
    obtain ⟨k, hkn, rfl, rfl, hbr⟩ := hrel
    have er := e3.kept hbr; have sr := s3.keep hbr; have gr := g3.keep hbr; have br := b3.trans (hbr.mono hB3)
    by_cases hlt : k < n
    case neg =>
      obtain rfl : k = n := by omega
      have hd : decide (k < k) = false := decide_eq_false (by omega)
      have htk : l.take k = l := by rw [← HL.out]; exact List.take_length
      rw [htk, HN1.out]
      clear htk e3 s3 g3 b3 hB3 hbr
      obtain ⟨Y, hY⟩ : ∃ Y, lostR v (lostL v now slack l) D slack = Y := ⟨_, rfl⟩
      have hDD : D = 0 ∨ (now < D ∧ (Y.2.2.2 ≠ 0 ∨ 1 ≤ Y.2.1)) := by
        by_cases h0 : D = 0
        · exact .inl h0
        · obtain ⟨g1, g2⟩ := HD.out h0
          refine .inr ⟨g1, ?_⟩
          by_cases hok : LostOk v (lostL v now slack l) D slack
          · rw [← hY, lost_ok hok]; exact .inr g2
          · rw [← hY, lost_no hok]; exact .inl (by decide)
      obtain ⟨Y1, Y2, Y3, Y4⟩ := Y
      dsimp only at hDD
      have HY := Lib.hid hY
      clear hY
      go_wp2_with (refine rk_load rfl (.tmp 4) rfl rfl er rfl ?_)
      refine (raklost_any v G1 k d1 _ _ _ _ gr hn1).mono ?_
      rintro e w4 ⟨G2, m2, d2, he, hsG, hb4⟩
      rw [HY.out] at he hsG
      dsimp only at he hsG
      subst he
      have e4 := er.kept hb4; have s4 := sr.keep hb4; have g4 := gr.keep hb4; have b4 := br.trans (hb4.mono (Nat.le_of_lt er.lt))
      have hB4 : B ≤ w4.heap.size := Nat.le_of_lt e4.lt
      clear er sr gr br hsG hb4 e4 HX HY HD HN1
      have hMy := stmay_any G1 k d1 _ w4 g4
      rw [HMAY.out] at hMy
      obtain ⟨F1, hF1⟩ : ∃ F, flightR (lostL v now slack l) = F := ⟨_, rfl⟩
      obtain ⟨F2, hF2⟩ : ∃ F, flightR l = F := ⟨_, rfl⟩
      have hff := HFL.out
      rw [hF1, hF2] at hff
      have hdf : decide (F1 ≤ F2) = true := decide_eq_true hff
      have HF1 := Lib.hid hF1; have HF2 := Lib.hid hF2
      have HMY := Lib.hid hMy; have HG := Lib.hid g4; have HS := Lib.hid s4
      clear HMAY HFL hF1 hF2 hMy g4 s4 hff
      rcases hDD with rfl | ⟨q1, q2⟩
      · go_wp2_with (first
          | (go_at_call 20; refine HMY.out.mono ?_; rintro e w6 ⟨rfl, hb6⟩; have gg6 := HG.out.keep hb6; have ss6 := HS.out.keep hb6; have b6 : Below B w w6 := b4.trans (hb6.mono hB4); have hB6 : B ≤ w6.heap.size := Nat.le_trans hB4 hb6.size)
          | (go_at_call 21; refine (stflight_any _ _ _ _ _ gg6).mono ?_; rintro e w7 ⟨rfl, hb7⟩; rw [HF1.out]; have ss7 := ss6.keep hb7; have b7 : Below B w w7 := b6.trans (hb7.mono hB6); have hB7 : B ≤ w7.heap.size := Nat.le_trans hB6 hb7.size; clear gg6)
          | (go_at_call 21; refine (stflight_any _ _ _ _ _ ss7).mono ?_; rintro e w8 ⟨rfl, hb8⟩; rw [HF2.out]; have b8 : Below B w w8 := b7.trans (hb8.mono hB7)))
        go_ret
        exact ⟨rfl, b8⟩
      · have dz : (D == 0) = false := by
          have : D ≠ 0 := by omega
          simpa using this
        have dn : decide (now < D) = true := decide_eq_true q1
        by_cases y4 : Y4 = 0
        · subst y4
          have y2 : 1 ≤ Y2 := q2.resolve_left (fun h => h rfl)
          have dy : decide (1 ≤ Y2) = true := decide_eq_true y2
          clear q2
          go_wp2_with (first
            | (go_at_call 20; refine HMY.out.mono ?_; rintro e w6 ⟨rfl, hb6⟩; have gg6 := HG.out.keep hb6; have ss6 := HS.out.keep hb6; have b6 : Below B w w6 := b4.trans (hb6.mono hB4); have hB6 : B ≤ w6.heap.size := Nat.le_trans hB4 hb6.size)
            | (go_at_call 21; refine (stflight_any _ _ _ _ _ gg6).mono ?_; rintro e w7 ⟨rfl, hb7⟩; rw [HF1.out]; have ss7 := ss6.keep hb7; have b7 : Below B w w7 := b6.trans (hb7.mono hB6); have hB7 : B ≤ w7.heap.size := Nat.le_trans hB6 hb7.size; clear gg6)
            | (go_at_call 21; refine (stflight_any _ _ _ _ _ ss7).mono ?_; rintro e w8 ⟨rfl, hb8⟩; rw [HF2.out]; have b8 : Below B w w8 := b7.trans (hb8.mono hB7)))
          go_ret
          exact ⟨rfl, b8⟩
        · have dy : (Y4 == 0) = false := by simpa using y4
          clear q2
          go_wp2_with (first
            | (go_at_call 20; refine HMY.out.mono ?_; rintro e w6 ⟨rfl, hb6⟩; have gg6 := HG.out.keep hb6; have ss6 := HS.out.keep hb6; have b6 : Below B w w6 := b4.trans (hb6.mono hB4); have hB6 : B ≤ w6.heap.size := Nat.le_trans hB4 hb6.size)
            | (go_at_call 21; refine (stflight_any _ _ _ _ _ gg6).mono ?_; rintro e w7 ⟨rfl, hb7⟩; rw [HF1.out]; have ss7 := ss6.keep hb7; have b7 : Below B w w7 := b6.trans (hb7.mono hB6); have hB7 : B ≤ w7.heap.size := Nat.le_trans hB6 hb7.size; clear gg6)
            | (go_at_call 21; refine (stflight_any _ _ _ _ _ ss7).mono ?_; rintro e w8 ⟨rfl, hb8⟩; rw [HF2.out]; have b8 : Below B w w8 := b7.trans (hb8.mono hB7)))
          go_ret
          exact ⟨rfl, b8⟩
    case pos =>
    have hd : decide (k < n) = true := decide_eq_true hlt
    have hkl : k < l.length := by rw [HL.out]; exact hlt
    have hp1 := part_mem HF.out (ge_mem hkl)
    have hlb := lostN_bd (v := v) (now := now) (slack := slack) (l.take k)
    have htk : (l.take k).length = k := by rw [List.length_take]; omega
    rw [htk] at hlb
    obtain ⟨lb0, lb1⟩ := hlb
    have hstep := lostN_take (k := k) v now slack hkl
    have hge1 := lostL_ge v now slack l hkl
    obtain ⟨pA, pO, hA, hal, hcA⟩ := sr.rd.at_ (by omega)
    obtain ⟨pG, pQ, hG, hgl, hcG⟩ := gr.rd.at_ (by omega)
    subst hA hG
    have X := prt_at hcA hlt
    have c0 := X.c0; have c1 := X.c1; have c2 := X.c2; have c3 := X.c3; have c4 := X.c4; have c5 := X.c5; have c6 := X.c6; have c7 := X.c7; have c8 := X.c8
    have Z := prt_at hcG hlt
    rw [hge1] at Z
    obtain ⟨p, hp⟩ : ∃ p, ge l k = p := ⟨_, rfl⟩
    rw [hp] at X Z hp1 c0 c1 c2 c3 c4 c5 c6 c7 c8 hstep
    obtain ⟨F, hF⟩ : ∃ F, lostN v now slack (l.take k) = F := ⟨_, rfl⟩
    rw [hF] at lb0 lb1 hstep ⊢
    obtain ⟨pa0, pa1⟩ := (t60_iff p.at_).1 hp1.at_
    have HZ := Lib.hid Z; have HXX := Lib.hid X; have HST := Lib.hid hstep
    clear hcA hcG X Z hp hF htk hkl hge1 hp1 hstep e3 s3 g3 sr gr hB3
    go_upto_region 14 with fail
    have n5 := Bx.new wr 26 [.int .i64 p.seq, .int .i64 p.len, .int .i64 p.dsn, .int .i64 p.at_, .int .i64 p.tries, .bool p.came, .bool p.lost, .int .i64 p.total, .int .i64 p.last]
    have bn : Below wr.heap.size wr (wr.alloc (.cells #[.int .i64 p.seq, .int .i64 p.len, .int .i64 p.dsn, .int .i64 p.at_, .int .i64 p.tries, .bool p.came, .bool p.lost, .int .i64 p.total, .int .i64 p.last] 26)) := (Below.refl _ _).alloc (Nat.le_refl _) _
    have e5 := er.alloc (.cells #[.int .i64 p.seq, .int .i64 p.len, .int .i64 p.dsn, .int .i64 p.at_, .int .i64 p.tries, .bool p.came, .bool p.lost, .int .i64 p.total, .int .i64 p.last] 26); have hb5 := hbr.alloc (hbr.size) (.cells #[.int .i64 p.seq, .int .i64 p.len, .int .i64 p.dsn, .int .i64 p.at_, .int .i64 p.tries, .bool p.came, .bool p.lost, .int .i64 p.total, .int .i64 p.last] 26); have b5 := br.alloc (Nat.le_of_lt er.lt) (.cells #[.int .i64 p.seq, .int .i64 p.len, .int .i64 p.dsn, .int .i64 p.at_, .int .i64 p.tries, .bool p.came, .bool p.lost, .int .i64 p.total, .int .i64 p.last] 26)
    have X5 := HXX.out.keep bn hal; have Z5 := HZ.out.keep bn hgl
    obtain ⟨Q, hQ⟩ : ∃ Q, wr.heap.size = Q := ⟨_, rfl⟩
    have hBQ : B < Q := by rw [← hQ]; exact er.lt
    have haQ : pA < Q := by rw [← hQ]; exact hal
    have hgQ : pG < Q := by rw [← hQ]; exact hgl
    have hwQ : w3.heap.size ≤ Q := by rw [← hQ]; exact hbr.size
    rw [hQ] at n5 ⊢
    generalize wr.alloc (.cells #[.int .i64 p.seq, .int .i64 p.len, .int .i64 p.dsn, .int .i64 p.at_, .int .i64 p.tries, .bool p.came, .bool p.lost, .int .i64 p.total, .int .i64 p.last] 26) = w5 at n5 e5 b5 hb5 X5 Z5 ⊢
    clear c0 c1 c2 c3 c4 c5 c6 c7 c8 bn er br hbr hQ hal hgl HZ HXX
    have hfw : IntKind.i64.wrap (F + 1) = F + 1 := IntWalk.i64_in _ (by omega)
    cases hla : lateB v now slack p with
    | false =>
      rw [lostP_not hla] at Z5
      have hst := HST.out
      rw [hla, if_neg (by simp)] at hst
      have z0 := Z5.c0; have z1 := Z5.c1; have z2 := Z5.c2; have z3 := Z5.c3; have z4 := Z5.c4; have z5 := Z5.c5; have z6 := Z5.c6; have z7 := Z5.c7; have z8 := Z5.c8
      have x0 := n5.cell 0 rfl; have x1 := n5.cell 1 rfl; have x2 := n5.cell 2 rfl; have x3 := n5.cell 3 rfl; have x4 := n5.cell 4 rfl; have x5 := n5.cell 5 rfl; have x6 := n5.cell 6 rfl; have x7 := n5.cell 7 rfl; have x8 := n5.cell 8 rfl
      have HSTT := Lib.hid hst
      clear hst hla HST X5 Z5
      go_quiet (fail)
      go_wp2_with fail
      go_roundw
      case rel => exact ⟨k + 1, by omega, by go_num, by rw [HSTT.out], below_drewN hb5 _⟩
      case measure => simp [intOf]; omega
    | true =>
      obtain ⟨h5, h6, hle, hdu⟩ := late_facts hla
      unfold dueR at hdu
      rw [lostP_late hla] at Z5
      have hst := HST.out
      rw [hla, if_pos rfl] at hst
      have hg1 : decide (v.at_ < p.at_) = false := decide_eq_false (by omega)
      have hg2 : decide (now - p.at_ < v.took + slack) = false := decide_eq_false (by omega)
      have hw1 : IntKind.i64.wrap (now - p.at_) = now - p.at_ := IntWalk.i64_in _ (by omega)
      have hw2 : IntKind.i64.wrap (v.took + slack) = v.took + slack := IntWalk.i64_in _ (by omega)
      have n6 := n5
      rw [h5, h6] at n6
      have z0 := Z5.c0; have z1 := Z5.c1; have z2 := Z5.c2; have z3 := Z5.c3; have z4 := Z5.c4; have z5 := Z5.c5; have z6 := Z5.c6; have z7 := Z5.c7; have z8 := Z5.c8
      dsimp only at z0 z1 z2 z3 z4 z5 z6 z7 z8
      have y5 := X5.c5; have y6 := X5.c6
      rw [h5] at z5 y5
      rw [h6] at y6
      have x0 := n6.cell 0 rfl; have x1 := n6.cell 1 rfl; have x2 := n6.cell 2 rfl; have x3 := n6.cell 3 rfl; have x4 := n6.cell 4 rfl; have x5 := n6.cell 5 rfl; have x6 := n6.cell 6 rfl; have x7 := n6.cell 7 rfl; have x8 := n6.cell 8 rfl
      have HSTT := Lib.hid hst; have HZ := Lib.hid Z5; have HXX := Lib.hid X5; have H5 := Lib.hid h5; have H6 := Lib.hid h6
      clear hst hla HST X5 Z5 hle hdu n5 h5 h6
      go_quiet (fail)
      go_upto_region 15 with fail
      generalize hW : w5.drewN nq = w6
      have bd : Below w5.heap.size w5 w6 := by rw [← hW]; exact below_drewN (Below.refl _ _) _
      have m6 := n6.kept bd; have e6 := e5.kept bd; have b6 := b5.trans (bd.mono (Nat.le_of_lt e5.lt)); have hb6 := hb5.trans (bd.mono hb5.size)
      have X6 := prt_below HXX.out bd (Nat.lt_trans haQ n6.lt); have Z6 := prt_below HZ.out bd (Nat.lt_trans hgQ n6.lt)
      clear hW bd n6 e5 b5 hb5 HXX HZ x0 x1 x2 x3 x4 x5 x6 x7 x8 y5 y6 z0 z1 z2 z3 z4 z5 z6 z7 z8
      have x6 := m6.cell 6 rfl; have f6 := m6.free 6
      have m7 := m6.set 6 (.bool true)
      simp only [List.set_cons_zero, List.set_cons_succ] at m7
      have bs : Below Q w6 (w6.setCell ⟨Q, 6, none⟩ (.bool true)) := (Below.refl _ _).setCell (p := ⟨Q, 6, none⟩) (Nat.le_refl _) _
      have e7 := e6.below bs hBQ; have b7 := b6.trans (bs.mono (Nat.le_of_lt hBQ)); have hb7 := hb6.trans (bs.mono hwQ)
      have X7 := prt_below X6 bs haQ; have Z7 := prt_below Z6 bs hgQ
      clear m6 e6 b6 hb6 X6 Z6 bs
      go_upto_region 16 with fail
      generalize w6.setCell ⟨Q, 6, none⟩ (.bool true) = w7 at m7 e7 b7 hb7 X7 Z7 ⊢
      clear x6 f6
      have z0 := Z7.c0; have z1 := Z7.c1; have z2 := Z7.c2; have z3 := Z7.c3; have z4 := Z7.c4; have z5 := Z7.c5; have z6 := Z7.c6; have z7 := Z7.c7; have z8 := Z7.c8
      dsimp only at z0 z1 z2 z3 z4 z5 z6 z7 z8
      have y5 := X7.c5; have y6 := X7.c6
      rw [H5.out] at z5 y5
      rw [H6.out] at y6
      have x0 := m7.cell 0 rfl; have x1 := m7.cell 1 rfl; have x2 := m7.cell 2 rfl; have x3 := m7.cell 3 rfl; have x4 := m7.cell 4 rfl; have x5 := m7.cell 5 rfl; have x6 := m7.cell 6 rfl; have x7 := m7.cell 7 rfl; have x8 := m7.cell 8 rfl
      have r0 := e7.cell 0 rfl; have r2 := e7.cell 2 rfl
      clear X7 Z7
      go_quiet (fail)
      go_wp2_with fail
      go_roundw
      case rel => exact ⟨k + 1, by omega, by go_num, by rw [HSTT.out], below_drewN hb7 _⟩
      case measure => simp [intOf]; omega
end Go.Proofs.Ytlanplobdgchaaa.rackLost
