/- RkL5 RaTell FlG LeL4. -/
import Derived.Test.YtbijhkhkigdddaaGreatM12
import Derived.Scope
set_option linter.all false
set_option maxRecDepth 100000
set_option maxHeartbeats 32000000
namespace Go.Proofs.YtbijhkhkigdddaaGreat
open Go.RowKit
theorem raklost_any (v : Rkv) (A : Option Addr) (n c : Nat) (l : List Prt) (now slack : Int) (w : World) (hs : Se w A n c l) (hn : n ≤ 1000) :
  Calls Tryz.prog 132 #[.agg #[v.at_, v.end_, v.took, v.far, v.mixed, v.quarters], .slice A n c, now, slack] w fun e w' => TellL w w' e (lostR v l now slack) := by
 unfold TellL
 obtain ⟨B, hB⟩ : ∃ B, w.heap.size = B := ⟨_, rfl⟩
 have hl := hs.rd.len
 have m1 := hs.le
 have m2 := hs.max
 have m3 : n ≤ 9223372036854775807 := by unfold maxLen at m2; omega
 clear m1 m2
 have e0 := Bx.new w 34 [v.at_, v.end_, v.took, v.far, v.mixed, v.quarters]
 have b0 : Below w.heap.size w (w.alloc (.cells #[v.at_, v.end_, v.took, v.far, v.mixed, v.quarters] 34)) := (Zb).alloc Zr _
 rw [hB] at e0 b0
 obtain ⟨z, hz⟩ : ∃ z, lostR v l now slack = z := ⟨_, rfl⟩
 rw [hz]
 have HZ := Zh hz
 have HL := Zh hl; have HA := Zh hs; have HB := Zh hB
 rw [hB]
 clear hz hs hl
 go_enter Tryz.func132, Tryz.ntmps132
 go_wp2_with (refine rk_load rfl (.tmp 4) rfl rfl e0 rfl ?_)
 generalize w.alloc (.cells #[v.at_, v.end_, v.took, v.far, v.mixed, v.quarters] 34) = w1 at e0 b0 ⊢
 refine (rakmay_any v _).mono ?_
 rintro e w2 ⟨rfl, hb2⟩
 have e2 := e0.kept hb2; have b2 := b0.trans (hb2.mono (Zl e0.lt))
 have hBs : B ≤ w2.heap.size := Zl e2.lt
 clear e0 b0 hb2
 have hm := stmay_any A n c l w2 (HA.out.keep (by rw [HB.out]; exact b2))
 cases hk : rkmay v with
 | false =>
  have hz := HZ.out
  rw [lost_no (fun h => by have := h.1; rw [hk] at this; cases this)] at hz
  subst hz
  clear HZ hk
  go_wp2_with fail
  (try simp only [Exit.inBlock, Exit.then]); refine bodyPost_ret (results_tmp4 rfl _ _ _) rfl ?_
  exact ⟨none, 0, 0, rfl, Sne.none _ _, b2⟩
 | true =>
 cases hf : smayB l with
 | false =>
  rw [hf] at hm
  have hz := HZ.out
  rw [lost_no (fun h => by have := h.2.1; rw [hf] at this; cases this)] at hz
  subst hz
  clear HZ hk
  go_wp2_with (first
   | (go_at_call 97; refine hm.mono ?_; rintro e w3 ⟨rfl, hb3⟩; have e3 := e2.kept hb3; have b3 : Below B w w3 := b2.trans (hb3.mono hBs))
   | (go_at_call 105; refine (rkwin_any _ _ _ _).mono ?_; rintro e wx ⟨rfl, rfl⟩))
  (try simp only [Exit.inBlock, Exit.then]); refine bodyPost_ret (results_tmp4 rfl _ _ _) rfl ?_
  exact ⟨none, 0, 0, rfl, Sne.none _ _, b3⟩
 | true =>
 rw [hf] at hm
 cases ht : winB now 0 1152921504606846976 with
 | false =>
  have hz := HZ.out
  rw [lost_no (fun h => by have := h.2.2.1; rw [← win60, ht] at this; cases this)] at hz
  subst hz
  clear HZ hk
  clear hf
  go_wp2_with (first
   | (go_at_call 97; refine hm.mono ?_; rintro e w3 ⟨rfl, hb3⟩; have e3 := e2.kept hb3; have b3 : Below B w w3 := b2.trans (hb3.mono hBs))
   | (go_at_call 105; refine (rkwin_any _ _ _ _).mono ?_; rintro e wx ⟨rfl, rfl⟩))
  (try simp only [Exit.inBlock, Exit.then]); refine bodyPost_ret (results_tmp4 rfl _ _ _) rfl ?_
  exact ⟨none, 0, 0, rfl, Sne.none _ _, b3⟩
 | true =>
 cases hr : winB slack 0 1099511627776 with
 | false =>
  have hz := HZ.out
  rw [lost_no (fun h => by have := h.2.2.2; rw [← win40, hr] at this; cases this)] at hz
  subst hz
  clear HZ hk
  clear hf
  go_wp2_with (first
   | (go_at_call 97; refine hm.mono ?_; rintro e w3 ⟨rfl, hb3⟩; have e3 := e2.kept hb3; have b3 : Below B w w3 := b2.trans (hb3.mono hBs))
   | (go_at_call 105; refine (rkwin_any _ _ _ _).mono ?_; rintro e wx ⟨rfl, rfl⟩))
  (try simp only [Exit.inBlock, Exit.then]); refine bodyPost_ret (results_tmp4 rfl _ _ _) rfl ?_
  exact ⟨none, 0, 0, rfl, Sne.none _ _, b3⟩
 | true =>
 have hz := HZ.out
 rw [lost_ok ⟨hk, hf, by rw [← win60]; exact ht, by rw [← win40]; exact hr⟩] at hz
 have hv := (rkmay_iff v).1 hk
 have k0 := hv.k0; have k1 := hv.k1
 have hrb := (win_iff slack 0 1099511627776).1 hr
 obtain ⟨hle, hch⟩ := (smay_iff l).1 hf
 have hn5 : n ≤ 500 := by have := HL.out; omega
 have HCH := Zh hch; have HZ2 := Zh hz
 obtain ⟨r0, r1⟩ := hrb
 clear HZ hk hf hz hv hle hch
 go_upto_region 3 with (first
  | (go_at_call 97; refine hm.mono ?_; rintro e w3 ⟨rfl, hb3⟩; have e3 := e2.kept hb3; have b3 : Below B w w3 := b2.trans (hb3.mono hBs))
  | (go_at_call 105; refine (rkwin_any _ _ _ _).mono ?_; rintro e wx ⟨rfl, rfl⟩))
 clear ht hr e2 b2 hb3 hBs
 have hsz3 : B < w3.heap.size := e3.lt
 have hs3 : Se w3 A n c l := HA.out.keep (by rw [HB.out]; exact b3)
 have hcl := stclone_any A n c l w3 hs3 (by omega)
 go_upto_region 4 with (go_at_call 112; refine hcl.mono ?_; rintro e w4 ⟨R, d, rfl, hg4, hb4⟩)
 have b4 : Below B w w4 := b3.trans (hb4.mono (Zl hsz3))
 have e4 := e3.kept hb4
 have g4 : Goe w4 (B + 1) 57 (.slice R n d) n l := goe_mono hg4 (by omega)
 clear hg4 hb4 hs3 e3 b3 hsz3 hcl hm
 go_wp2_with fail
 go_loopw [12, 13, 39] (fun s12 s13 s39 wr => ∃ k : Nat, k ≤ n ∧ s39 = .int .i64 (k : Int) ∧ s12 = .int .i64 (lostN v now slack (l.take k)) ∧ s13 = .int .i64 (nextN v now slack (l.take k)) ∧ Hid (Goe wr (B + 1) 57 (.slice R n d) n (lostTo v now slack l k)) ∧ Bx wr B 34 [v.at_, v.end_, v.took, v.far, v.mixed, v.quarters] ∧ Below B w wr) (fun _ _ i _ => n - (intOf i).toNat)
 case atStart => exact ⟨0, Nat.zero_le _, rfl, rfl, rfl, Zh (by rw [lostTo_zero]; exact g4), e4, b4⟩
 case round =>
  obtain ⟨k, hkn, rfl, rfl, rfl, HG, er, br⟩ := hrel
  clear e4 b4 g4
  by_cases hlt : k < n
  case neg =>
   obtain rfl : k = n := by omega
   have hd : decide (k < k) = false := Zf (by omega)
   have hz := HZ2.out
   subst hz
   have hg := HG.out
   rw [show lostTo v now slack l k = lostL v now slack l by rw [← HL.out]; exact lostTo_all _ _ _ _] at hg
   have ht : l.take k = l := by rw [← HL.out]; exact List.take_length
   rw [ht]
   obtain ⟨G, d', hgv, hsn⟩ := hg.sne
   cases hgv
   clear HZ2 hg ht
   go_wp2_with fail
   (try simp only [Exit.inBlock, Exit.then]); refine bodyPost_ret (results_tmp4 rfl _ _ _) rfl ?_
   exact ⟨_, _, _, rfl, hsn.mono (by omega), br⟩
  case pos =>
  have hd : decide (k < n) = true := Zt hlt
  have hkl : k < l.length := by rw [HL.out]; exact hlt
  have HKL := Zh hkl
  obtain ⟨g, cap, hv3, hgB1, hgB2⟩ := HG.out.row.form (by omega)
  cases hv3
  have hpk := (HCH.out k hkl).1
  have hpw := HA.out.rd.ok.ge (i := k) hkl
  have hlb := lostN_bd (v := v) (now := now) (slack := slack) (l.take k)
  have htk : (l.take k).length = k := by rw [List.length_take]; omega
  rw [htk] at hlb
  obtain ⟨lb0, lb1⟩ := hlb
  obtain ⟨p, hp⟩ : ∃ p, ge l k = p := ⟨_, rfl⟩
  rw [hp] at hpk hpw
  have hge : ge (lostTo v now slack l k) k = p := by rw [lostTo_ge hkl, hp]
  have htl : (lostTo v now slack l k).length = n := HG.out.len
  have i9 : k * 9 + 9 ≤ n * 9 := by omega
  have e9 : n * El.k Prt = n * 9 := rfl
  have c0 := (HG.out.row.cellAt (k * 9 + 0) (by omega)).trans (evals_at _ k 0 (.int .i64 p.seq) (by omega) (by rw [hge]; rfl))
  have c1 := (HG.out.row.cellAt (k * 9 + 1) (by omega)).trans (evals_at _ k 1 (.int .i64 p.len) (by omega) (by rw [hge]; rfl))
  have c2 := (HG.out.row.cellAt (k * 9 + 2) (by omega)).trans (evals_at _ k 2 (.int .i64 p.dsn) (by omega) (by rw [hge]; rfl))
  have c3 := (HG.out.row.cellAt (k * 9 + 3) (by omega)).trans (evals_at _ k 3 (.int .i64 p.at_) (by omega) (by rw [hge]; rfl))
  have c4 := (HG.out.row.cellAt (k * 9 + 4) (by omega)).trans (evals_at _ k 4 (.int .i64 p.tries) (by omega) (by rw [hge]; rfl))
  have c5 := (HG.out.row.cellAt (k * 9 + 5) (by omega)).trans (evals_at _ k 5 (.bool p.came) (by omega) (by rw [hge]; rfl))
  have c6 := (HG.out.row.cellAt (k * 9 + 6) (by omega)).trans (evals_at _ k 6 (.bool p.lost) (by omega) (by rw [hge]; rfl))
  have c7 := (HG.out.row.cellAt (k * 9 + 7) (by omega)).trans (evals_at _ k 7 (.int .i64 p.total) (by omega) (by rw [hge]; rfl))
  have c8 := (HG.out.row.cellAt (k * 9 + 8) (by omega)).trans (evals_at _ k 8 (.int .i64 p.last) (by omega) (by rw [hge]; rfl))
  simp only [Nat.add_zero] at c0
  have hps := (t60_iff p.seq).1 hpk.seq; have hpa := (t60_iff p.at_).1 hpk.at_; have hpl1 := hpk.l1; have hpl2 := hpk.l2
  obtain ⟨hps0, hps1⟩ := hps
  obtain ⟨hpa0, hpa1⟩ := hpa
  have HP := Zh hp; have HPW := Zh hpw
  obtain ⟨F, hF⟩ : ∃ F, lostN v now slack (l.take k) = F := ⟨_, rfl⟩
  obtain ⟨N, hN⟩ : ∃ N, nextN v now slack (l.take k) = N := ⟨_, rfl⟩
  rw [hF] at lb0 lb1 ⊢
  rw [hN]
  have HF := Zh hF; have HNX := Zh hN
  obtain ⟨E, hE⟩ : ∃ E, endP p = E := ⟨_, rfl⟩
  have hee : EndOk ⟨p.seq, p.len, p.dsn, p.at_, p.tries, false, false, p.total, p.last⟩ := endOk (x := p) hpk
  have hof := fun W => rkof_any ⟨p.seq, p.len, p.dsn, p.at_, p.tries, false, false, p.total, p.last⟩ W hee
  rw [show endP ⟨p.seq, p.len, p.dsn, p.at_, p.tries, false, false, p.total, p.last⟩ = E from hE] at hof
  have hbef := fun W => before_any p.at_ E v.at_ v.end_ W
  obtain ⟨S1, hS1⟩ : ∃ S, p.at_ + v.took = S := ⟨_, rfl⟩
  have wS : IntKind.i64.wrap (p.at_ + v.took) = S1 := by rw [← hS1]; exact IntWalk.i64_in _ (by omega)
  obtain ⟨D, hD⟩ : ∃ D, S1 + slack = D := ⟨_, rfl⟩
  have wD : IntKind.i64.wrap (S1 + slack) = D := by rw [← hD]; exact IntWalk.i64_in _ (by omega)
  have hdue : dueR v slack p = D := by unfold dueR; rw [hS1, hD]
  have HE := Zh hE; have HDUE := Zh hdue; have HGE := Zh hge
  clear hpk hpw hp htk hF hN hE hee hS1 hD hdue hge htl hkl i9 e9
  go_upto_region 8 with fail
  have n5 := Bx.new wr 57 [p.seq, p.len, p.dsn, p.at_, p.tries, p.came, p.lost, p.total, p.last]
  have e5 := er.alloc (.cells #[p.seq, p.len, p.dsn, p.at_, p.tries, p.came, p.lost, p.total, p.last] 57); have g5 := HG.out.alloc (.cells #[p.seq, p.len, p.dsn, p.at_, p.tries, p.came, p.lost, p.total, p.last] 57); have b5 := br.alloc (Zl er.lt) (.cells #[p.seq, p.len, p.dsn, p.at_, p.tries, p.came, p.lost, p.total, p.last] 57)
  obtain ⟨Q, hQ⟩ : ∃ Q, wr.heap.size = Q := ⟨_, rfl⟩
  have hgQ : g < Q := by omega
  rw [hQ] at n5 ⊢
  generalize wr.alloc (.cells #[p.seq, p.len, p.dsn, p.at_, p.tries, p.came, p.lost, p.total, p.last] 57) = w5 at n5 e5 g5 b5 ⊢
  have HG5 := Zh g5
  clear c0 c1 c2 c3 c4 c5 c6 c7 c8 g5 HG er br hQ
  cases h5 : p.came with
  | true =>
   rw [h5] at n5
   have H5 := Zh h5; clear h5
   have hrs := round_skip (v := v) (now := now) (slack := slack) HKL.out (late_none (by rw [HP.out]; exact seen_came H5.out)) (wait_none (by rw [HP.out]; exact seen_came H5.out))
   rw [HF.out, HNX.out] at hrs
   have HRS := Zh hrs; clear hrs
   refine tB 16 17 (fun (W : World) => Bx W Q 57 [p.seq, p.len, p.dsn, p.at_, p.tries, .bool true, p.lost, p.total, p.last] ∧ Bx W B 34 [v.at_, v.end_, v.took, v.far, v.mixed, v.quarters] ∧ Goe W (B + 1) 57 (.slice (some ⟨g, 0, none⟩) n d) n (lostTo v now slack l k) ∧ (W.cell? ⟨Q, 0, none⟩ = some (.int .i64 p.seq) ∧ W.cell? ⟨Q, 1, none⟩ = some (.int .i64 p.len) ∧ W.cell? ⟨Q, 2, none⟩ = some (.int .i64 p.dsn) ∧ W.cell? ⟨Q, 3, none⟩ = some (.int .i64 p.at_) ∧ W.cell? ⟨Q, 4, none⟩ = some (.int .i64 p.tries) ∧ W.cell? ⟨Q, 5, none⟩ = some (.bool true) ∧ W.cell? ⟨Q, 6, none⟩ = some (.bool p.lost) ∧ W.cell? ⟨Q, 7, none⟩ = some (.int .i64 p.total) ∧ W.cell? ⟨Q, 8, none⟩ = some (.int .i64 p.last)) ∧ W.cell? ⟨B, 0, none⟩ = some (.int .i64 v.at_) ∧ W.cell? ⟨B, 1, none⟩ = some (.int .i64 v.end_) ∧ Below B w W) ⟨n5.drew, e5.drew, HG5.out.drew, ⟨n5.drew.cell 0 rfl, n5.drew.cell 1 rfl, n5.drew.cell 2 rfl, n5.drew.cell 3 rfl, n5.drew.cell 4 rfl, n5.drew.cell 5 rfl, n5.drew.cell 6 rfl, n5.drew.cell 7 rfl, n5.drew.cell 8 rfl⟩, e5.drew.cell 0 rfl, e5.drew.cell 1 rfl, b5.drew⟩ (fun HS => ?_)
   refine tU 0 HS ?_
   refine tU 1 HS ?_
   refine tU 2 HS ?_
   refine tF 3 HS ?_
   refine tF 4 HS ?_
   refine tU 5 HS ?_
   refine tU 6 HS ?_
   refine tF 7 HS ?_
   refine tF 8 HS ?_
   refine tF 9 HS ?_
   refine tF 10 HS ?_
   refine tF 11 HS ?_
   refine tF 12 HS ?_
   refine tF 13 HS ?_
   refine tF 14 HS ?_
   refine tF 15 HS ?_
   refine ⟨by kernel_rfl, ?_⟩
   simp only [List.drop_succ_cons, List.drop_zero]
   go_wp2_with fail
   have e5 := HS.2.1; have b5 := HS.2.2.2.2.2.2; have HG5 := Zh HS.2.2.1
   go_roundw
   case rel => exact ⟨k + 1, by omega, by first | rfl | go_num, by rw [HRS.out.2.1], by rw [HRS.out.2.2], Zh (by rw [← HRS.out.1]; exact HG5.out), e5, b5⟩
   case measure => simp [intOf]; omega
  | false =>
  rw [h5] at n5
  have H5 := Zh h5; clear h5
  cases h6 : p.lost with
  | true =>
   rw [h6] at n5
   have H6 := Zh h6; clear h6
   have hrs := round_skip (v := v) (now := now) (slack := slack) HKL.out (late_none (by rw [HP.out]; exact seen_lost H6.out)) (wait_none (by rw [HP.out]; exact seen_lost H6.out))
   rw [HF.out, HNX.out] at hrs
   have HRS := Zh hrs; clear hrs
   refine tB 16 17 (fun (W : World) => Bx W Q 57 [p.seq, p.len, p.dsn, p.at_, p.tries, .bool false, .bool true, p.total, p.last] ∧ Bx W B 34 [v.at_, v.end_, v.took, v.far, v.mixed, v.quarters] ∧ Goe W (B + 1) 57 (.slice (some ⟨g, 0, none⟩) n d) n (lostTo v now slack l k) ∧ (W.cell? ⟨Q, 0, none⟩ = some (.int .i64 p.seq) ∧ W.cell? ⟨Q, 1, none⟩ = some (.int .i64 p.len) ∧ W.cell? ⟨Q, 2, none⟩ = some (.int .i64 p.dsn) ∧ W.cell? ⟨Q, 3, none⟩ = some (.int .i64 p.at_) ∧ W.cell? ⟨Q, 4, none⟩ = some (.int .i64 p.tries) ∧ W.cell? ⟨Q, 5, none⟩ = some (.bool false) ∧ W.cell? ⟨Q, 6, none⟩ = some (.bool true) ∧ W.cell? ⟨Q, 7, none⟩ = some (.int .i64 p.total) ∧ W.cell? ⟨Q, 8, none⟩ = some (.int .i64 p.last)) ∧ W.cell? ⟨B, 0, none⟩ = some (.int .i64 v.at_) ∧ W.cell? ⟨B, 1, none⟩ = some (.int .i64 v.end_) ∧ Below B w W) ⟨n5.drew, e5.drew, HG5.out.drew, ⟨n5.drew.cell 0 rfl, n5.drew.cell 1 rfl, n5.drew.cell 2 rfl, n5.drew.cell 3 rfl, n5.drew.cell 4 rfl, n5.drew.cell 5 rfl, n5.drew.cell 6 rfl, n5.drew.cell 7 rfl, n5.drew.cell 8 rfl⟩, e5.drew.cell 0 rfl, e5.drew.cell 1 rfl, b5.drew⟩ (fun HS => ?_)
   refine tU 0 HS ?_
   refine tU 1 HS ?_
   refine tU 2 HS ?_
   refine tU 3 HS ?_
   refine tU 4 HS ?_
   refine tU 5 HS ?_
   refine tU 6 HS ?_
   refine tF 7 HS ?_
   refine tF 8 HS ?_
   refine tF 9 HS ?_
   refine tF 10 HS ?_
   refine tF 11 HS ?_
   refine tF 12 HS ?_
   refine tF 13 HS ?_
   refine tF 14 HS ?_
   refine tF 15 HS ?_
   refine ⟨by kernel_rfl, ?_⟩
   simp only [List.drop_succ_cons, List.drop_zero]
   go_wp2_with fail
   have e5 := HS.2.1; have b5 := HS.2.2.2.2.2.2; have HG5 := Zh HS.2.2.1
   go_roundw
   case rel => exact ⟨k + 1, by omega, by first | rfl | go_num, by rw [HRS.out.2.1], by rw [HRS.out.2.2], Zh (by rw [← HRS.out.1]; exact HG5.out), e5, b5⟩
   case measure => simp [intOf]; omega
  | false =>
  rw [h6] at n5
  have H6 := Zh h6; clear h6
  cases hah : aheadB p.at_ E v.at_ v.end_ with
  | false =>
   rw [hah] at hbef
   have HAH := Zh hah; clear hah
   have hrs := round_skip (v := v) (now := now) (slack := slack) HKL.out (late_none (by rw [HP.out]; exact ((seen_else H5.out H6.out).trans (by rw [HE.out]; exact HAH.out)))) (wait_none (by rw [HP.out]; exact ((seen_else H5.out H6.out).trans (by rw [HE.out]; exact HAH.out))))
   rw [HF.out, HNX.out] at hrs
   have HRS := Zh hrs; clear hrs
   refine tB 16 17 (fun (W : World) => Bx W Q 57 [p.seq, p.len, p.dsn, p.at_, p.tries, .bool false, .bool false, p.total, p.last] ∧ Bx W B 34 [v.at_, v.end_, v.took, v.far, v.mixed, v.quarters] ∧ Goe W (B + 1) 57 (.slice (some ⟨g, 0, none⟩) n d) n (lostTo v now slack l k) ∧ (W.cell? ⟨Q, 0, none⟩ = some (.int .i64 p.seq) ∧ W.cell? ⟨Q, 1, none⟩ = some (.int .i64 p.len) ∧ W.cell? ⟨Q, 2, none⟩ = some (.int .i64 p.dsn) ∧ W.cell? ⟨Q, 3, none⟩ = some (.int .i64 p.at_) ∧ W.cell? ⟨Q, 4, none⟩ = some (.int .i64 p.tries) ∧ W.cell? ⟨Q, 5, none⟩ = some (.bool false) ∧ W.cell? ⟨Q, 6, none⟩ = some (.bool false) ∧ W.cell? ⟨Q, 7, none⟩ = some (.int .i64 p.total) ∧ W.cell? ⟨Q, 8, none⟩ = some (.int .i64 p.last)) ∧ W.cell? ⟨B, 0, none⟩ = some (.int .i64 v.at_) ∧ W.cell? ⟨B, 1, none⟩ = some (.int .i64 v.end_) ∧ Below B w W) ⟨n5.drew, e5.drew, HG5.out.drew, ⟨n5.drew.cell 0 rfl, n5.drew.cell 1 rfl, n5.drew.cell 2 rfl, n5.drew.cell 3 rfl, n5.drew.cell 4 rfl, n5.drew.cell 5 rfl, n5.drew.cell 6 rfl, n5.drew.cell 7 rfl, n5.drew.cell 8 rfl⟩, e5.drew.cell 0 rfl, e5.drew.cell 1 rfl, b5.drew⟩ (fun HS => ?_)
   refine tU 0 HS ?_
   refine tU 1 HS ?_
   refine tU 2 HS ?_
   refine tU 3 HS ?_
   refine tU 4 HS ?_
   refine tU 5 HS ?_
   refine tU 6 HS ?_
   refine tU 7 HS ?_
   refine tU 9 HS ?_
   refine tU 10 HS ?_
   refine tU 11 HS ?_
   refine tU 12 HS ?_
   refine tU 13 HS ?_
   refine tO 8 (fun K hK => ?_)
   go_simp
   refine (hof _).mono ?_
   rintro e wv ⟨rfl, hb1⟩
   refine kK hK ⟨HS.1.kept hb1, HS.2.1.kept hb1, HS.2.2.1.below hb1, ⟨(HS.1.kept hb1).cell 0 rfl, (HS.1.kept hb1).cell 1 rfl, (HS.1.kept hb1).cell 2 rfl, (HS.1.kept hb1).cell 3 rfl, (HS.1.kept hb1).cell 4 rfl, (HS.1.kept hb1).cell 5 rfl, (HS.1.kept hb1).cell 6 rfl, (HS.1.kept hb1).cell 7 rfl, (HS.1.kept hb1).cell 8 rfl⟩, (HS.2.1.kept hb1).cell 0 rfl, (HS.2.1.kept hb1).cell 1 rfl, HS.2.2.2.2.2.2.trans (hb1.mono (Zl HS.2.1.lt))⟩ (fun HS => ?_)
   clear hK K
   refine tO 14 (fun K hK => ?_)
   go_simp
   refine (hbef _).mono ?_
   rintro e wv2 ⟨rfl, hb1⟩
   refine kK hK ⟨HS.1.kept hb1, HS.2.1.kept hb1, HS.2.2.1.below hb1, ⟨(HS.1.kept hb1).cell 0 rfl, (HS.1.kept hb1).cell 1 rfl, (HS.1.kept hb1).cell 2 rfl, (HS.1.kept hb1).cell 3 rfl, (HS.1.kept hb1).cell 4 rfl, (HS.1.kept hb1).cell 5 rfl, (HS.1.kept hb1).cell 6 rfl, (HS.1.kept hb1).cell 7 rfl, (HS.1.kept hb1).cell 8 rfl⟩, (HS.2.1.kept hb1).cell 0 rfl, (HS.2.1.kept hb1).cell 1 rfl, HS.2.2.2.2.2.2.trans (hb1.mono (Zl HS.2.1.lt))⟩ (fun HS => ?_)
   clear hK K
   refine tU 15 HS ?_
   refine ⟨by kernel_rfl, ?_⟩
   simp only [List.drop_succ_cons, List.drop_zero]
   go_wp2_with fail
   have e5 := HS.2.1; have b5 := HS.2.2.2.2.2.2; have HG5 := Zh HS.2.2.1
   go_roundw
   case rel => exact ⟨k + 1, by omega, by first | rfl | go_num, by rw [HRS.out.2.1], by rw [HRS.out.2.2], Zh (by rw [← HRS.out.1]; exact HG5.out), e5, b5⟩
   case measure => simp [intOf]; omega
  | true =>
  rw [hah] at hbef
  have HAH := Zh hah; clear hah
  have hsn : seenB v p = true := (seen_else H5.out H6.out).trans (by rw [HE.out]; exact HAH.out)
  have HSN := Zh hsn; clear hsn
  refine tB 16 17 (fun (W : World) => Bx W Q 57 [p.seq, p.len, p.dsn, p.at_, p.tries, .bool false, .bool false, p.total, p.last] ∧ Bx W B 34 [v.at_, v.end_, v.took, v.far, v.mixed, v.quarters] ∧ Goe W (B + 1) 57 (.slice (some ⟨g, 0, none⟩) n d) n (lostTo v now slack l k) ∧ (W.cell? ⟨Q, 0, none⟩ = some (.int .i64 p.seq) ∧ W.cell? ⟨Q, 1, none⟩ = some (.int .i64 p.len) ∧ W.cell? ⟨Q, 2, none⟩ = some (.int .i64 p.dsn) ∧ W.cell? ⟨Q, 3, none⟩ = some (.int .i64 p.at_) ∧ W.cell? ⟨Q, 4, none⟩ = some (.int .i64 p.tries) ∧ W.cell? ⟨Q, 5, none⟩ = some (.bool false) ∧ W.cell? ⟨Q, 6, none⟩ = some (.bool false) ∧ W.cell? ⟨Q, 7, none⟩ = some (.int .i64 p.total) ∧ W.cell? ⟨Q, 8, none⟩ = some (.int .i64 p.last)) ∧ W.cell? ⟨B, 0, none⟩ = some (.int .i64 v.at_) ∧ W.cell? ⟨B, 1, none⟩ = some (.int .i64 v.end_) ∧ Below B w W) ⟨n5.drew, e5.drew, HG5.out.drew, ⟨n5.drew.cell 0 rfl, n5.drew.cell 1 rfl, n5.drew.cell 2 rfl, n5.drew.cell 3 rfl, n5.drew.cell 4 rfl, n5.drew.cell 5 rfl, n5.drew.cell 6 rfl, n5.drew.cell 7 rfl, n5.drew.cell 8 rfl⟩, e5.drew.cell 0 rfl, e5.drew.cell 1 rfl, b5.drew⟩ (fun HS => ?_)
  refine tU 0 HS ?_
  refine tU 1 HS ?_
  refine tU 2 HS ?_
  refine tU 3 HS ?_
  refine tU 4 HS ?_
  refine tU 5 HS ?_
  refine tU 6 HS ?_
  refine tU 7 HS ?_
  refine tU 9 HS ?_
  refine tU 10 HS ?_
  refine tU 11 HS ?_
  refine tU 12 HS ?_
  refine tU 13 HS ?_
  refine tO 8 (fun K hK => ?_)
  go_simp
  refine (hof _).mono ?_
  rintro e wv ⟨rfl, hb1⟩
  refine kK hK ⟨HS.1.kept hb1, HS.2.1.kept hb1, HS.2.2.1.below hb1, ⟨(HS.1.kept hb1).cell 0 rfl, (HS.1.kept hb1).cell 1 rfl, (HS.1.kept hb1).cell 2 rfl, (HS.1.kept hb1).cell 3 rfl, (HS.1.kept hb1).cell 4 rfl, (HS.1.kept hb1).cell 5 rfl, (HS.1.kept hb1).cell 6 rfl, (HS.1.kept hb1).cell 7 rfl, (HS.1.kept hb1).cell 8 rfl⟩, (HS.2.1.kept hb1).cell 0 rfl, (HS.2.1.kept hb1).cell 1 rfl, HS.2.2.2.2.2.2.trans (hb1.mono (Zl HS.2.1.lt))⟩ (fun HS => ?_)
  clear hK K
  refine tO 14 (fun K hK => ?_)
  go_simp
  refine (hbef _).mono ?_
  rintro e wv2 ⟨rfl, hb1⟩
  refine kK hK ⟨HS.1.kept hb1, HS.2.1.kept hb1, HS.2.2.1.below hb1, ⟨(HS.1.kept hb1).cell 0 rfl, (HS.1.kept hb1).cell 1 rfl, (HS.1.kept hb1).cell 2 rfl, (HS.1.kept hb1).cell 3 rfl, (HS.1.kept hb1).cell 4 rfl, (HS.1.kept hb1).cell 5 rfl, (HS.1.kept hb1).cell 6 rfl, (HS.1.kept hb1).cell 7 rfl, (HS.1.kept hb1).cell 8 rfl⟩, (HS.2.1.kept hb1).cell 0 rfl, (HS.2.1.kept hb1).cell 1 rfl, HS.2.2.2.2.2.2.trans (hb1.mono (Zl HS.2.1.lt))⟩ (fun HS => ?_)
  clear hK K
  refine tU 15 HS ?_
  refine ⟨by kernel_rfl, ?_⟩
  simp only [List.drop_succ_cons, List.drop_zero]
  go_upto_region 9 with fail
  have n6 := HS.1; have e6 := HS.2.1; have g6 := HS.2.2.1; have b6 := HS.2.2.2.2.2.2
  have HG5 := Zh g6
  clear HS n5 e5 b5 hof hbef g6
  have x3 := n6.cell 3 rfl; have y2 := e6.cell 2 rfl
  by_cases hdn : D ≤ now
  case pos =>
   have dn : decide (D ≤ now) = true := Zt hdn
   have hrs := round_late (v := v) (now := now) (slack := slack) HKL.out (late_yes (by rw [HP.out]; exact HSN.out) (by rw [HP.out, HDUE.out]; exact hdn)) (wait_no (by rw [HP.out]; exact HSN.out) (by rw [HP.out, HDUE.out]; exact hdn))
   rw [HF.out, HNX.out, HP.out] at hrs
   have HRS := Zh hrs; clear hrs hdn
   have hw1 : IntKind.i64.wrap (F + 1) = F + 1 := IntWalk.i64_in _ (by omega)
   go_upto_region 11 with fail
   have htl : (lostTo v now slack l k).length = n := HG5.out.len
   have i9 : k * 9 + 9 ≤ n * 9 := by omega
   have e9 : n * El.k Prt = n * 9 := rfl
   have z6 := (HG5.out.row.cellAt (k * 9 + 6) (by omega)).trans (evals_at _ k 6 (.bool p.lost) (by omega) (by rw [HGE.out]; rfl))
   have f6 := HG5.out.row.frozenAt (k * 9 + 6)
   obtain ⟨q1, _⟩ := HG5.out.set (i := k) (j := 6) (u := .bool true) (y := { p with lost := true }) hlt (by decide) (by rw [HGE.out]; rfl) ⟨HPW.out.seq, HPW.out.len, HPW.out.dsn, HPW.out.at_, HPW.out.tries, HPW.out.total, HPW.out.last⟩
   change Goe (wv2.setCell ⟨g, k * 9 + 6, none⟩ _) _ _ _ _ _ at q1
   rw [HRS.out.1] at q1
   have HQ1 := Zh q1
   clear q1 htl i9 e9 x3 y2
   go_upto_region 12 with fail
   have e7 := e6.far (p := ⟨g, k * 9 + 6, none⟩) (by show B ≠ g; omega) (.bool true)
   have b7 := b6.setCell (p := ⟨g, k * 9 + 6, none⟩) (by show B ≤ g; omega) (.bool true)
   generalize wv2.setCell ⟨g, k * 9 + 6, none⟩ (.bool true) = w7 at HQ1 e7 b7 ⊢
   clear n6 e6 b6 z6 f6
   go_wp2_with fail
   go_roundw
   case rel => exact ⟨k + 1, by omega, by first | rfl | go_num, by rw [HRS.out.2.1], by rw [HRS.out.2.2], Zh (by exact HQ1.out), e7, b7⟩
   case measure => simp [intOf]; omega
  case neg =>
  have dn : decide (D ≤ now) = false := Zf hdn
  have hrs := round_wait (v := v) (now := now) (slack := slack) HKL.out (late_no (by rw [HP.out]; exact HSN.out) (by rw [HP.out, HDUE.out]; exact hdn)) (wait_yes (by rw [HP.out]; exact HSN.out) (by rw [HP.out, HDUE.out]; exact hdn))
  rw [HF.out, HNX.out, HP.out, HDUE.out] at hrs
  have HRS := Zh hrs; clear hrs hdn
  by_cases hn0 : N = 0
  case pos =>
   have dz : (N == 0) = true := by simpa using hn0
   have hst : nextStep N D = D := if_pos (.inl hn0)
   have HST := Zh hst; clear hst hn0
   go_wp2_with fail
   go_roundw
   case rel => exact ⟨k + 1, by omega, by first | rfl | go_num, by rw [HRS.out.2.1], by rw [HRS.out.2.2, HST.out], Zh (by rw [← HRS.out.1]; exact HG5.out), e6, b6⟩
   case measure => simp [intOf]; omega
  case neg =>
  have dz : (N == 0) = false := by simpa using hn0
  by_cases hdN : D < N
  case pos =>
   have d2 : decide (D < N) = true := Zt hdN
   have hst : nextStep N D = D := if_pos (.inr hdN)
   have HST := Zh hst; clear hst hn0 hdN
   go_wp2_with fail
   go_roundw
   case rel => exact ⟨k + 1, by omega, by first | rfl | go_num, by rw [HRS.out.2.1], by rw [HRS.out.2.2, HST.out], Zh (by rw [← HRS.out.1]; exact HG5.out), e6, b6⟩
   case measure => simp [intOf]; omega
  case neg =>
  have d2 : decide (D < N) = false := Zf hdN
  have hst : nextStep N D = N := if_neg (fun h => h.elim hn0 hdN)
  have HST := Zh hst; clear hst hn0 hdN
  go_wp2_with fail
  go_roundw
  case rel => exact ⟨k + 1, by omega, by first | rfl | go_num, by rw [HRS.out.2.1], by rw [HRS.out.2.2, HST.out], Zh (by rw [← HRS.out.1]; exact HG5.out), e6, b6⟩
  case measure => simp [intOf]; omega
structure Sq (w : World) (p : Nat → Prop) (G : Option Addr) (m d : Nat) (l : List Int) : Prop where
 si : Si w G m d l
 at_ : 0 < m → ∀ b o s, G = some ⟨b, o, s⟩ → p b
section
variable {w w' : World} {p q : Nat → Prop} {G : Option Addr} {m d : Nat} {l : List Int}
theorem Sq.none (w : World) (p : Nat → Prop) : Sq w p .none 0 0 [] := ⟨Si.none w, fun h => absurd h (by omega)⟩
theorem Sni.sq {base : Nat} (h : Sni w base G m d l) (hp : ∀ b, base ≤ b → p b) : Sq w p G m d l := ⟨h.si, fun _ b o s e => hp b (h.at_ b o s e)⟩
end
def TellCP (p : Nat → Prop) (w w' : World) (e : Ending) (x : Rv × Int) : Prop := ∃ R m d, e = .returned (.tuple #[.agg #[x.1.total, x.1.last, .slice R m d], x.2]) ∧ Sq w' p R m d x.1.l ∧ Below w.heap.size w w'
def TellSP (p : Nat → Prop) (w w' : World) (e : Ending) (x : Rv × Int × Int) : Prop := ∃ R m d, e = .returned (.tuple #[.agg #[x.1.total, x.1.last, .slice R m d], x.2.1, x.2.2]) ∧ Sq w' p R m d x.1.l ∧ Below w.heap.size w w'
structure Xb (n₀ : Nat) (l : List Nat) (W : World) (X S H : Nat) (s : Fs) (f : Fv) (c : Cf) (e : Int) (A : Option Addr) (n k : Nat) (t : Tv) (G : Option Addr) (m d : Nat) (told : List Prt) (bs mk : Int) : Prop where
 hg : Hg n₀ (X :: l) W S H s f c e A n k t G m d told bs mk
 ne : In1 (fun b => b ≠ X) G m
 x0 : n₀ ≤ X
 xl : X ∉ l
section
variable {n₀ S H X : Nat} {l : List Nat} {W W' : World} {s : Fs} {f : Fv} {c : Cf} {e : Int} {A : Option Addr} {n k : Nat} {t : Tv} {G : Option Addr} {m d : Nat} {told : List Prt} {bs mk : Int}
theorem Xb.call (h : Xb n₀ l W X S H s f c e A n k t G m d told bs mk) (hb : Below W.heap.size W W') : Xb n₀ l W' X S H s f c e A n k t G m d told bs mk := ⟨h.hg.call hb, h.ne, h.x0, h.xl⟩
theorem Xb.new (h : Hg n₀ l W S H s f c e A n k t G m d told bs mk) (o : Obj) : Xb n₀ l (W.alloc o) W.heap.size S H s f c e A n k t G m d told bs mk := by
 refine ⟨h.more Zr ((Zb).alloc Zr _) (by simp), fun h0 b o q e hb => ?_, h.st.size, fun hx => ?_⟩
 ·obtain ⟨b', o', e', hl, _⟩ := h.fr.rd.at_ h0
  rw [e] at e'; cases e'
  omega
 ·have := h.old _ hx; omega
theorem Xb.put (h : Xb n₀ l W X S H s f c e A n k t G m d told bs mk) (vs : List Value) (o : Nat) : Hg n₀ l (W.setCells X o vs) S H s f c e A n k t G m d told bs mk ∧ Fr n₀ l W (W.setCells X o vs) :=
 ⟨(h.hg.other (List.mem_cons_self ..) (grown_cells vs o W) h.ne).less, Fr.grown (grown_cells vs o W) h.hg.st.size h.x0 h.xl (fun b hb => h.hg.old b (List.mem_cons_of_mem _ hb))⟩
end
theorem si_ne {w : World} {A : Option Addr} {n c : Nat} {l : List Int} (h : Si w A n c l) {D : Nat} (hD : w.heap.size ≤ D) : In1 (fun b => b ≠ D) A n := fun h0 b o q e hb => by
 obtain ⟨b', o', e', hl, _⟩ := h.rd.at_ h0
 rw [e] at e'; cases e'
 omega
theorem ss_ne {w : World} {A : Option Addr} {n c : Nat} {l : List Sp} (h : Ss w A n c l) {D : Nat} (hD : w.heap.size ≤ D) : In1 (fun b => b ≠ D) A n := fun h0 b o q e hb => by
 obtain ⟨b', o', e', hl, _⟩ := h.rd.at_ h0
 rw [e] at e'; cases e'
 omega
theorem St.newp {n₀ S : Nat} {l : List Nat} {W : World} {s : Fs} {f : Fv} {c : Cf} {now e : Int} (h : St n₀ l W S s f c now e) : ∀ b, W.heap.size ≤ b → Nw n₀ (S :: l) b := fun b hb => ⟨Zn h.size hb, fun hx => by
 rcases List.mem_cons.1 hx with hx | hx
 ·have := h.bx.lt; omega
 ·have := h.old b hx; omega⟩
theorem nw_x {n₀ X S H : Nat} {l : List Nat} {A : Option Addr} {n : Nat} (h : In1 (Nw n₀ (S :: H :: X :: l)) A n) : In1 (Nw n₀ (S :: H :: l)) A n ∧ In1 (fun b => b ≠ X) A n :=
 ⟨h.imp (fun b hb => ⟨hb.1, fun hx => hb.2 (by simp only [List.mem_cons] at hx ⊢; rcases hx with hx | hx | hx <;> simp [hx])⟩), h.imp (fun b hb e => hb.2 (by simp [e]))⟩
theorem Hg.frange {n₀ S H : Nat} {l : List Nat} {W : World} {s : Fs} {f : Fv} {c : Cf} {e : Int} {A : Option Addr} {n k : Nat} {t : Tv} {m d : Nat} {told : List Prt} {bs mk : Int} {bb oo i : Nat} (h : Hg n₀ l W S H s f c e A n k t (some ⟨bb, oo, none⟩) m d told bs mk) (hi : i < m) : W.rangeAt bb (oo + i * 9) (El.cells (ge told i)) := fun j u hu => by
 obtain ⟨b, o, e', _, hc⟩ := h.fr.rd.at_ (by omega)
 cases e'
 exact hc i hi j u hu
def Bad (n₀ : Nat) (l : List Nat) (w w' : World) (S H : Nat) (z : Int) : Prop := (∃ s f c A n k t G m d told bs mk, Hg n₀ l w' S H s f c z A n k t G m d told bs mk) ∧ Fr n₀ l w w'
theorem Hg.bad {n₀ S H : Nat} {l : List Nat} {w W : World} {s : Fs} {f : Fv} {c : Cf} {e : Int} {A : Option Addr} {n k : Nat} {t : Tv} {G : Option Addr} {m d : Nat} {told : List Prt} {bs mk : Int} (h : Hg n₀ l W S H s f c e A n k t G m d told bs mk) (hf : Fr n₀ l w W) : Bad n₀ l w W S H e := ⟨⟨_, _, _, _, _, _, _, _, _, _, _, _, _, h⟩, hf⟩
theorem Hg.mk0 {n₀ S : Nat} {W : World} {s : Fs} {f : Fv} {c : Cf} {t : Tv} (h : St n₀ [] W S s f c t.now 0) (A : Option Addr) (n k : Nat) : Hg n₀ [] (W.alloc (.cells (hcs S A n k t none 0 0 0 0).toArray 110)) S W.heap.size s f c 0 A n k t none 0 0 [] 0 0 :=
 ⟨h.more Zr ((Zb).alloc Zr _) (by simp), Bx.new W 110 (hcs S A n k t none 0 0 0 0), h.size, by simp, Se.none _, In1.zero _ _⟩
end Go.Proofs.YtbijhkhkigdddaaGreat
namespace Go.Proofs.YtbijhkhkigdddaaGreat
open Go.RowKit Go.Shelf
theorem highs_any (span : Int) (A : Option Addr) (n c : Nat) (high : Int) (l : List Sp) (at_ nn : Int) (w : World) (hs : Ss w A n c l) (hok : Lok ⟨span, l, high⟩) :
  Calls Tryz.prog 204 #[.agg #[span, .slice A n c, high], at_, nn] w fun e w' => e = .returned (.int .i64 (highR ⟨span, l, high⟩ at_ nn)) ∧ Below w.heap.size w w' := by
 obtain ⟨B, hB⟩ : ∃ B, w.heap.size = B := ⟨_, rfl⟩
 rw [hB]
 have e0 := Bx.new w 27 [span, .slice A n c, high]
 rw [hB] at e0
 have b0 : Below B w (w.alloc (.cells #[span, .slice A n c, high] 27)) := by rw [← hB]; exact (Zb).alloc Zr _
 have hs0 := hs.alloc (.cells #[span, .slice A n c, high] 27)
 have hof := leof_any span A n c high l at_ _ hs0
 have hbd := of_bd hok at_
 have h0 := hok.h0; have h7 := hok.h1
 dsimp only at h0 h7
 have hhi : highR ⟨span, l, high⟩ at_ nn = if ((ofR ⟨span, l, high⟩ at_).2 && decide (2 * (ofR ⟨span, l, high⟩ at_).1 < nn)) = true then high + 1 else 0 := rfl
 rw [hhi]
 clear hhi hok
 obtain ⟨x, hx⟩ : ∃ x, ofR ⟨span, l, high⟩ at_ = x := ⟨_, rfl⟩
 rw [hx] at hof hbd ⊢
 clear hx hs hs0
 obtain ⟨om, ob⟩ := x
 dsimp only at hof hbd ⊢
 obtain ⟨om0, om1⟩ := hbd
 obtain ⟨q, hq⟩ : ∃ q, (if (ob && decide (2 * om < nn)) = true then high + 1 else 0) = q := ⟨_, rfl⟩
 rw [hq]
 have HQ := Zh hq
 clear hq
 go_enter Tryz.func204, Tryz.ntmps204
 go_upto_region 1 with fail
 generalize w.alloc (.cells #[span, .slice A n c, high] 27) = w1 at e0 b0 hof ⊢
 go_wp2_with (refine le_load rfl (.tmp 3) rfl rfl e0 rfl ?_)
 refine hof.mono ?_
 rintro e w2 ⟨rfl, hb2⟩
 have e2 := e0.kept hb2
 have b2 := b0.trans (hb2.mono (Zl e0.lt))
 have x2 := e2.cell 2 rfl
 clear e0 b0 hb2 hof
 cases ob with
 | false =>
  have hq := HQ.out
  rw [Bool.false_and, if_neg (by simp)] at hq
  subst hq
  clear HQ
  go_wp2_with fail
  go_ret
  exact ⟨rfl, b2⟩
 | true =>
 by_cases cf : 2 * om < nn
 ·have df : decide (2 * om < nn) = true := Zt cf
  have hq := HQ.out
  rw [df, Bool.and_self, if_pos rfl] at hq
  subst hq
  clear HQ
  go_wp2_with fail
  go_ret
  exact ⟨rfl, b2⟩
 ·have df : decide (2 * om < nn) = false := Zf cf
  have hq := HQ.out
  rw [df, Bool.and_false, if_neg (by simp)] at hq
  subst hq
  clear HQ cf
  go_wp2_with fail
  go_ret
  exact ⟨rfl, b2⟩
end Go.Proofs.YtbijhkhkigdddaaGreat
