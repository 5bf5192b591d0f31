/- Package rack as it landed: Lost as contracts of the calls. -/
import Derived.Test.YtlanplobdgchaaaRkL3
import Derived.Test.YtlanplobdgchaaaRkRef4
import Derived.Test.YtlanplobdgchaaaStL4
namespace Go.Proofs.Ytlanplobdgchaaa
open Go.RowKit
set_option linter.unusedVariables false
set_option linter.unusedSimpArgs false

set_option maxRecDepth 100000 in
set_option maxHeartbeats 32000000 in
theorem raklost_any (v : Rkv) (A : Option Addr) (n c : Nat) (l : List Prt) (now slack : Int) (w : World) (hs : Se w A n c l) (hn : n ≤ 1000) :
    Calls Try.prog 13 #[.agg #[.int .i64 v.at_, .int .i64 v.end_, .int .i64 v.took, .int .i64 v.far, .bool v.mixed, .int .i64 v.quarters], .slice A n c, .int .i64 now, .int .i64 slack] w fun e w' => TellL w w' e (lostR v l now slack) := by
  unfold TellL
  obtain ⟨B, hB⟩ : ∃ B, w.heap.size = B := ⟨_, rfl⟩
  have hl := hs.rd.len
  have m1 := hs.le
  have m2 := hs.max
  have m3 : n ≤ 9223372036854775807 := by unfold maxLen at m2; omega
  clear m1 m2
  have e0 := Bx.new w 23 [.int .i64 v.at_, .int .i64 v.end_, .int .i64 v.took, .int .i64 v.far, .bool v.mixed, .int .i64 v.quarters]
  have b0 : Below w.heap.size w (w.alloc (.cells #[.int .i64 v.at_, .int .i64 v.end_, .int .i64 v.took, .int .i64 v.far, .bool v.mixed, .int .i64 v.quarters] 23)) := (Below.refl _ _).alloc (Nat.le_refl _) _
  rw [hB] at e0 b0
  obtain ⟨z, hz⟩ : ∃ z, lostR v l now slack = z := ⟨_, rfl⟩
  rw [hz]
  have HZ := Lib.hid hz
  have HL := Lib.hid hl; have HA := Lib.hid hs; have HB := Lib.hid hB
  rw [hB]
  clear hz hs hl
  go_enter Try.func13, Try.ntmps13
  go_wp2_with (refine rk_load rfl (.tmp 4) rfl rfl e0 rfl ?_)
  generalize w.alloc (.cells #[.int .i64 v.at_, .int .i64 v.end_, .int .i64 v.took, .int .i64 v.far, .bool v.mixed, .int .i64 v.quarters] 23) = w1 at e0 b0 ⊢
  refine (rakmay_any v _).mono ?_
  rintro e w2 ⟨rfl, hb2⟩
  have e2 := e0.kept hb2; have b2 := b0.trans (hb2.mono (Nat.le_of_lt e0.lt))
  have hBs : B ≤ w2.heap.size := Nat.le_of_lt e2.lt
  clear e0 b0 hb2
  have hm := stmay_any A n c l w2 (HA.out.keep (by rw [HB.out]; exact b2))
  cases hk : rkmay v with
  | false =>
    have hz := HZ.out
    rw [lost_no (fun h => by have := h.1; rw [hk] at this; cases this)] at hz
    subst hz
    clear HZ hk
    go_wp2_with fail
    (try simp only [Exit.inBlock, Exit.then]); refine bodyPost_ret (results_tmp4 rfl _ _ _) rfl ?_
    exact ⟨none, 0, 0, rfl, Sne.none _ _, b2⟩
  | true =>
  cases hf : smayB l with
  | false =>
    rw [hf] at hm
    have hz := HZ.out
    rw [lost_no (fun h => by have := h.2.1; rw [hf] at this; cases this)] at hz
    subst hz
    clear HZ hk
    go_wp2_with (first
      | (go_at_call 20; refine hm.mono ?_; rintro e w3 ⟨rfl, hb3⟩; have e3 := e2.kept hb3; have b3 : Below B w w3 := b2.trans (hb3.mono hBs))
      | (go_at_call 22; refine (rkwin_any _ _ _ _).mono ?_; rintro e wx ⟨rfl, rfl⟩))
    (try simp only [Exit.inBlock, Exit.then]); refine bodyPost_ret (results_tmp4 rfl _ _ _) rfl ?_
    exact ⟨none, 0, 0, rfl, Sne.none _ _, b3⟩
  | true =>
  rw [hf] at hm
  cases ht : winB now 0 1152921504606846976 with
  | false =>
    have hz := HZ.out
    rw [lost_no (fun h => by have := h.2.2.1; rw [← win60, ht] at this; cases this)] at hz
    subst hz
    clear HZ hk
    clear hf
    go_wp2_with (first
      | (go_at_call 20; refine hm.mono ?_; rintro e w3 ⟨rfl, hb3⟩; have e3 := e2.kept hb3; have b3 : Below B w w3 := b2.trans (hb3.mono hBs))
      | (go_at_call 22; refine (rkwin_any _ _ _ _).mono ?_; rintro e wx ⟨rfl, rfl⟩))
    (try simp only [Exit.inBlock, Exit.then]); refine bodyPost_ret (results_tmp4 rfl _ _ _) rfl ?_
    exact ⟨none, 0, 0, rfl, Sne.none _ _, b3⟩
  | true =>
  cases hr : winB slack 0 1099511627776 with
  | false =>
    have hz := HZ.out
    rw [lost_no (fun h => by have := h.2.2.2; rw [← win40, hr] at this; cases this)] at hz
    subst hz
    clear HZ hk
    clear hf
    go_wp2_with (first
      | (go_at_call 20; refine hm.mono ?_; rintro e w3 ⟨rfl, hb3⟩; have e3 := e2.kept hb3; have b3 : Below B w w3 := b2.trans (hb3.mono hBs))
      | (go_at_call 22; refine (rkwin_any _ _ _ _).mono ?_; rintro e wx ⟨rfl, rfl⟩))
    (try simp only [Exit.inBlock, Exit.then]); refine bodyPost_ret (results_tmp4 rfl _ _ _) rfl ?_
    exact ⟨none, 0, 0, rfl, Sne.none _ _, b3⟩
  | true =>
  have hz := HZ.out
  rw [lost_ok ⟨hk, hf, by rw [← win60]; exact ht, by rw [← win40]; exact hr⟩] at hz
  have hv := (rkmay_iff v).1 hk
  have k0 := hv.k0; have k1 := hv.k1
  have hrb := (win_iff slack 0 1099511627776).1 hr
  obtain ⟨hle, hch⟩ := (smay_iff l).1 hf
  have hn5 : n ≤ 500 := by have := HL.out; omega
  have HCH := Lib.hid hch; have HZ2 := Lib.hid hz
  obtain ⟨r0, r1⟩ := hrb
  clear HZ hk hf hz hv hle hch
  go_upto_region 3 with (first
    | (go_at_call 20; refine hm.mono ?_; rintro e w3 ⟨rfl, hb3⟩; have e3 := e2.kept hb3; have b3 : Below B w w3 := b2.trans (hb3.mono hBs))
    | (go_at_call 22; refine (rkwin_any _ _ _ _).mono ?_; rintro e wx ⟨rfl, rfl⟩))
  clear ht hr e2 b2 hb3 hBs
  have hsz3 : B < w3.heap.size := e3.lt
  have hs3 : Se w3 A n c l := HA.out.keep (by rw [HB.out]; exact b3)
  have hcl := stclone_any A n c l w3 hs3 (by omega)
  go_upto_region 4 with (go_at_call 29; refine hcl.mono ?_; rintro e w4 ⟨R, d, rfl, hg4, hb4⟩)
  have b4 : Below B w w4 := b3.trans (hb4.mono (Nat.le_of_lt hsz3))
  have e4 := e3.kept hb4
  have g4 : Goe w4 (B + 1) 26 (.slice R n d) n l := goe_mono hg4 (by omega)
  clear hg4 hb4 hs3 e3 b3 hsz3 hcl hm
  go_wp2_with fail
  go_loopw [12, 13, 39] (fun s12 s13 s39 wr => ∃ k : Nat, k ≤ n ∧ s39 = .int .i64 (k : Int) ∧ s12 = .int .i64 (lostN v now slack (l.take k)) ∧ s13 = .int .i64 (nextN v now slack (l.take k)) ∧ Hid (Goe wr (B + 1) 26 (.slice R n d) n (lostTo v now slack l k)) ∧ Bx wr B 23 [.int .i64 v.at_, .int .i64 v.end_, .int .i64 v.took, .int .i64 v.far, .bool v.mixed, .int .i64 v.quarters] ∧ Below B w wr) (fun _ _ i _ => n - (intOf i).toNat)
  case atStart => exact ⟨0, Nat.zero_le _, rfl, rfl, rfl, Lib.hid (by rw [lostTo_zero]; exact g4), e4, b4⟩
  case round =>
    obtain ⟨k, hkn, rfl, rfl, rfl, HG, er, br⟩ := hrel
    clear e4 b4 g4
    by_cases hlt : k < n
    case neg =>
      obtain rfl : k = n := by omega
      have hd : decide (k < k) = false := decide_eq_false (by omega)
      have hz := HZ2.out
      subst hz
      have hg := HG.out
      rw [show lostTo v now slack l k = lostL v now slack l by rw [← HL.out]; exact lostTo_all _ _ _ _] at hg
      have ht : l.take k = l := by rw [← HL.out]; exact List.take_length
      rw [ht]
      obtain ⟨G, d', hgv, hsn⟩ := hg.sne
      cases hgv
      clear HZ2 hg ht
      go_wp2_with fail
      (try simp only [Exit.inBlock, Exit.then]); refine bodyPost_ret (results_tmp4 rfl _ _ _) rfl ?_
      exact ⟨_, _, _, rfl, hsn.mono (by omega), br⟩
    case pos =>
    have hd : decide (k < n) = true := decide_eq_true hlt
    have hkl : k < l.length := by rw [HL.out]; exact hlt
    have HKL := Lib.hid hkl
    obtain ⟨g, cap, hv3, hgB1, hgB2⟩ := HG.out.row.form (by omega)
    cases hv3
    have hpk := (HCH.out k hkl).1
    have hpw := HA.out.rd.ok.ge (i := k) hkl
    have hlb := lostN_bd (v := v) (now := now) (slack := slack) (l.take k)
    have htk : (l.take k).length = k := by rw [List.length_take]; omega
    rw [htk] at hlb
    obtain ⟨lb0, lb1⟩ := hlb
    obtain ⟨p, hp⟩ : ∃ p, ge l k = p := ⟨_, rfl⟩
    rw [hp] at hpk hpw
    have hge : ge (lostTo v now slack l k) k = p := by rw [lostTo_ge hkl, hp]
    have htl : (lostTo v now slack l k).length = n := HG.out.len
    have i9 : k * 9 + 9 ≤ n * 9 := by omega
    have e9 : n * El.k Prt = n * 9 := rfl
    have c0 := (HG.out.row.cellAt (k * 9 + 0) (by omega)).trans (evals_at _ k 0 (.int .i64 p.seq) (by omega) (by rw [hge]; rfl))
    have c1 := (HG.out.row.cellAt (k * 9 + 1) (by omega)).trans (evals_at _ k 1 (.int .i64 p.len) (by omega) (by rw [hge]; rfl))
    have c2 := (HG.out.row.cellAt (k * 9 + 2) (by omega)).trans (evals_at _ k 2 (.int .i64 p.dsn) (by omega) (by rw [hge]; rfl))
    have c3 := (HG.out.row.cellAt (k * 9 + 3) (by omega)).trans (evals_at _ k 3 (.int .i64 p.at_) (by omega) (by rw [hge]; rfl))
    have c4 := (HG.out.row.cellAt (k * 9 + 4) (by omega)).trans (evals_at _ k 4 (.int .i64 p.tries) (by omega) (by rw [hge]; rfl))
    have c5 := (HG.out.row.cellAt (k * 9 + 5) (by omega)).trans (evals_at _ k 5 (.bool p.came) (by omega) (by rw [hge]; rfl))
    have c6 := (HG.out.row.cellAt (k * 9 + 6) (by omega)).trans (evals_at _ k 6 (.bool p.lost) (by omega) (by rw [hge]; rfl))
    have c7 := (HG.out.row.cellAt (k * 9 + 7) (by omega)).trans (evals_at _ k 7 (.int .i64 p.total) (by omega) (by rw [hge]; rfl))
    have c8 := (HG.out.row.cellAt (k * 9 + 8) (by omega)).trans (evals_at _ k 8 (.int .i64 p.last) (by omega) (by rw [hge]; rfl))
    simp only [Nat.add_zero] at c0
    have hps := (t60_iff p.seq).1 hpk.seq; have hpa := (t60_iff p.at_).1 hpk.at_; have hpl1 := hpk.l1; have hpl2 := hpk.l2
    obtain ⟨hps0, hps1⟩ := hps
    obtain ⟨hpa0, hpa1⟩ := hpa
    have HP := Lib.hid hp; have HPW := Lib.hid hpw
    obtain ⟨F, hF⟩ : ∃ F, lostN v now slack (l.take k) = F := ⟨_, rfl⟩
    obtain ⟨N, hN⟩ : ∃ N, nextN v now slack (l.take k) = N := ⟨_, rfl⟩
    rw [hF] at lb0 lb1 ⊢
    rw [hN]
    have HF := Lib.hid hF; have HNX := Lib.hid hN
    obtain ⟨E, hE⟩ : ∃ E, endP p = E := ⟨_, rfl⟩
    have hee : EndOk ⟨p.seq, p.len, p.dsn, p.at_, p.tries, false, false, p.total, p.last⟩ := endOk (x := p) hpk
    have hof := fun W => rkof_any ⟨p.seq, p.len, p.dsn, p.at_, p.tries, false, false, p.total, p.last⟩ W hee
    rw [show endP ⟨p.seq, p.len, p.dsn, p.at_, p.tries, false, false, p.total, p.last⟩ = E from hE] at hof
    have hbef := fun W => before_any p.at_ E v.at_ v.end_ W
    obtain ⟨S1, hS1⟩ : ∃ S, p.at_ + v.took = S := ⟨_, rfl⟩
    have wS : IntKind.i64.wrap (p.at_ + v.took) = S1 := by rw [← hS1]; exact IntWalk.i64_in _ (by omega)
    obtain ⟨D, hD⟩ : ∃ D, S1 + slack = D := ⟨_, rfl⟩
    have wD : IntKind.i64.wrap (S1 + slack) = D := by rw [← hD]; exact IntWalk.i64_in _ (by omega)
    have hdue : dueR v slack p = D := by unfold dueR; rw [hS1, hD]
    have HE := Lib.hid hE; have HDUE := Lib.hid hdue; have HGE := Lib.hid hge
    clear hpk hpw hp htk hF hN hE hee hS1 hD hdue hge htl hkl i9 e9
    go_upto_region 8 with fail
    have n5 := Bx.new wr 26 [.int .i64 p.seq, .int .i64 p.len, .int .i64 p.dsn, .int .i64 p.at_, .int .i64 p.tries, .bool p.came, .bool p.lost, .int .i64 p.total, .int .i64 p.last]
    have e5 := er.alloc (.cells #[.int .i64 p.seq, .int .i64 p.len, .int .i64 p.dsn, .int .i64 p.at_, .int .i64 p.tries, .bool p.came, .bool p.lost, .int .i64 p.total, .int .i64 p.last] 26); have g5 := HG.out.alloc (.cells #[.int .i64 p.seq, .int .i64 p.len, .int .i64 p.dsn, .int .i64 p.at_, .int .i64 p.tries, .bool p.came, .bool p.lost, .int .i64 p.total, .int .i64 p.last] 26); have b5 := br.alloc (Nat.le_of_lt er.lt) (.cells #[.int .i64 p.seq, .int .i64 p.len, .int .i64 p.dsn, .int .i64 p.at_, .int .i64 p.tries, .bool p.came, .bool p.lost, .int .i64 p.total, .int .i64 p.last] 26)
    obtain ⟨Q, hQ⟩ : ∃ Q, wr.heap.size = Q := ⟨_, rfl⟩
    have hgQ : g < Q := by omega
    rw [hQ] at n5 ⊢
    generalize wr.alloc (.cells #[.int .i64 p.seq, .int .i64 p.len, .int .i64 p.dsn, .int .i64 p.at_, .int .i64 p.tries, .bool p.came, .bool p.lost, .int .i64 p.total, .int .i64 p.last] 26) = w5 at n5 e5 g5 b5 ⊢
    have HG5 := Lib.hid g5
    clear c0 c1 c2 c3 c4 c5 c6 c7 c8 g5 HG er br hQ
    cases h5 : p.came with
    | true =>
      rw [h5] at n5
      have H5 := Lib.hid h5; clear h5
      have hrs := round_skip (v := v) (now := now) (slack := slack) HKL.out (late_none (by rw [HP.out]; exact seen_came H5.out)) (wait_none (by rw [HP.out]; exact seen_came H5.out))
      rw [HF.out, HNX.out] at hrs
      have HRS := Lib.hid hrs; clear hrs
      refine wp_region_tail 16 17 (fun (W : World) => Bx W Q 26 [.int .i64 p.seq, .int .i64 p.len, .int .i64 p.dsn, .int .i64 p.at_, .int .i64 p.tries, .bool true, .bool p.lost, .int .i64 p.total, .int .i64 p.last] ∧ Bx W B 23 [.int .i64 v.at_, .int .i64 v.end_, .int .i64 v.took, .int .i64 v.far, .bool v.mixed, .int .i64 v.quarters] ∧ Goe W (B + 1) 26 (.slice (some ⟨g, 0, none⟩) n d) n (lostTo v now slack l k) ∧ (W.cell? ⟨Q, 0, none⟩ = some (.int .i64 p.seq) ∧ W.cell? ⟨Q, 1, none⟩ = some (.int .i64 p.len) ∧ W.cell? ⟨Q, 2, none⟩ = some (.int .i64 p.dsn) ∧ W.cell? ⟨Q, 3, none⟩ = some (.int .i64 p.at_) ∧ W.cell? ⟨Q, 4, none⟩ = some (.int .i64 p.tries) ∧ W.cell? ⟨Q, 5, none⟩ = some (.bool true) ∧ W.cell? ⟨Q, 6, none⟩ = some (.bool p.lost) ∧ W.cell? ⟨Q, 7, none⟩ = some (.int .i64 p.total) ∧ W.cell? ⟨Q, 8, none⟩ = some (.int .i64 p.last)) ∧ W.cell? ⟨B, 0, none⟩ = some (.int .i64 v.at_) ∧ W.cell? ⟨B, 1, none⟩ = some (.int .i64 v.end_) ∧ Below B w W) (by kernel_rfl) (by rfl) (by decide) ?_
      have HS : ((fun (W : World) => Bx W Q 26 [.int .i64 p.seq, .int .i64 p.len, .int .i64 p.dsn, .int .i64 p.at_, .int .i64 p.tries, .bool true, .bool p.lost, .int .i64 p.total, .int .i64 p.last] ∧ Bx W B 23 [.int .i64 v.at_, .int .i64 v.end_, .int .i64 v.took, .int .i64 v.far, .bool v.mixed, .int .i64 v.quarters] ∧ Goe W (B + 1) 26 (.slice (some ⟨g, 0, none⟩) n d) n (lostTo v now slack l k) ∧ (W.cell? ⟨Q, 0, none⟩ = some (.int .i64 p.seq) ∧ W.cell? ⟨Q, 1, none⟩ = some (.int .i64 p.len) ∧ W.cell? ⟨Q, 2, none⟩ = some (.int .i64 p.dsn) ∧ W.cell? ⟨Q, 3, none⟩ = some (.int .i64 p.at_) ∧ W.cell? ⟨Q, 4, none⟩ = some (.int .i64 p.tries) ∧ W.cell? ⟨Q, 5, none⟩ = some (.bool true) ∧ W.cell? ⟨Q, 6, none⟩ = some (.bool p.lost) ∧ W.cell? ⟨Q, 7, none⟩ = some (.int .i64 p.total) ∧ W.cell? ⟨Q, 8, none⟩ = some (.int .i64 p.last)) ∧ W.cell? ⟨B, 0, none⟩ = some (.int .i64 v.at_) ∧ W.cell? ⟨B, 1, none⟩ = some (.int .i64 v.end_) ∧ Below B w W)) _ := ⟨n5.drew, e5.drew, HG5.out.drew, ⟨n5.drew.cell 0 rfl, n5.drew.cell 1 rfl, n5.drew.cell 2 rfl, n5.drew.cell 3 rfl, n5.drew.cell 4 rfl, n5.drew.cell 5 rfl, n5.drew.cell 6 rfl, n5.drew.cell 7 rfl, n5.drew.cell 8 rfl⟩, e5.drew.cell 0 rfl, e5.drew.cell 1 rfl, b5.drew⟩
      refine wpAnyT_take (i := 0) (v := ?vv1) rfl (by kernel_rfl) (fun _ _ _ h => h) (Or.inl ⟨by rfl, fun w hSw => ?yy1⟩) HS ?rr1
      case yy1 =>
        (try dsimp only at hSw); go_simp
        try with_reducible rfl
      try simp only [Act.put, List.setIfInBounds_toArray, List.set_cons_zero, List.set_cons_succ]
      refine wpAnyT_take (i := 1) (v := ?vv2) rfl (by kernel_rfl) (fun _ _ _ h => h) (Or.inl ⟨by rfl, fun w hSw => ?yy2⟩) HS ?rr2
      case yy2 =>
        (try dsimp only at hSw); go_simp
        try with_reducible rfl
      try simp only [Act.put, List.setIfInBounds_toArray, List.set_cons_zero, List.set_cons_succ]
      refine wpAnyT_take (i := 2) (v := ?vv3) rfl (by kernel_rfl) (fun _ _ _ h => h) (Or.inl ⟨by rfl, fun w hSw => ?yy3⟩) HS ?rr3
      case yy3 =>
        (try dsimp only at hSw); go_simp
        try with_reducible rfl
      try simp only [Act.put, List.setIfInBounds_toArray, List.set_cons_zero, List.set_cons_succ]
      refine wpAnyT_take (i := 3) (v := undef) rfl (by kernel_rfl) (fun _ _ _ h => h) (Or.inr ⟨by kernel_rfl, rfl⟩) HS ?_
      try simp only [Act.put, List.setIfInBounds_toArray, List.set_cons_zero, List.set_cons_succ]
      refine wpAnyT_take (i := 4) (v := undef) rfl (by kernel_rfl) (fun _ _ _ h => h) (Or.inr ⟨by kernel_rfl, rfl⟩) HS ?_
      try simp only [Act.put, List.setIfInBounds_toArray, List.set_cons_zero, List.set_cons_succ]
      refine wpAnyT_take (i := 5) (v := ?vv4) rfl (by kernel_rfl) (fun _ _ _ h => h) (Or.inl ⟨by rfl, fun w hSw => ?yy4⟩) HS ?rr4
      case yy4 =>
        (try dsimp only at hSw); go_simp
        try with_reducible rfl
      try simp only [Act.put, List.setIfInBounds_toArray, List.set_cons_zero, List.set_cons_succ]
      refine wpAnyT_take (i := 6) (v := ?vv5) rfl (by kernel_rfl) (fun _ _ _ h => h) (Or.inl ⟨by rfl, fun w hSw => ?yy5⟩) HS ?rr5
      case yy5 =>
        (try dsimp only at hSw); go_simp
        try with_reducible rfl
      try simp only [Act.put, List.setIfInBounds_toArray, List.set_cons_zero, List.set_cons_succ]
      refine wpAnyT_take (i := 7) (v := undef) rfl (by kernel_rfl) (fun _ _ _ h => h) (Or.inr ⟨by kernel_rfl, rfl⟩) HS ?_
      try simp only [Act.put, List.setIfInBounds_toArray, List.set_cons_zero, List.set_cons_succ]
      refine wpAnyT_take (i := 8) (v := undef) rfl (by kernel_rfl) (fun _ _ _ h => h) (Or.inr ⟨by kernel_rfl, rfl⟩) HS ?_
      try simp only [Act.put, List.setIfInBounds_toArray, List.set_cons_zero, List.set_cons_succ]
      refine wpAnyT_take (i := 9) (v := undef) rfl (by kernel_rfl) (fun _ _ _ h => h) (Or.inr ⟨by kernel_rfl, rfl⟩) HS ?_
      try simp only [Act.put, List.setIfInBounds_toArray, List.set_cons_zero, List.set_cons_succ]
      refine wpAnyT_take (i := 10) (v := undef) rfl (by kernel_rfl) (fun _ _ _ h => h) (Or.inr ⟨by kernel_rfl, rfl⟩) HS ?_
      try simp only [Act.put, List.setIfInBounds_toArray, List.set_cons_zero, List.set_cons_succ]
      refine wpAnyT_take (i := 11) (v := undef) rfl (by kernel_rfl) (fun _ _ _ h => h) (Or.inr ⟨by kernel_rfl, rfl⟩) HS ?_
      try simp only [Act.put, List.setIfInBounds_toArray, List.set_cons_zero, List.set_cons_succ]
      refine wpAnyT_take (i := 12) (v := undef) rfl (by kernel_rfl) (fun _ _ _ h => h) (Or.inr ⟨by kernel_rfl, rfl⟩) HS ?_
      try simp only [Act.put, List.setIfInBounds_toArray, List.set_cons_zero, List.set_cons_succ]
      refine wpAnyT_take (i := 13) (v := undef) rfl (by kernel_rfl) (fun _ _ _ h => h) (Or.inr ⟨by kernel_rfl, rfl⟩) HS ?_
      try simp only [Act.put, List.setIfInBounds_toArray, List.set_cons_zero, List.set_cons_succ]
      refine wpAnyT_take (i := 14) (v := undef) rfl (by kernel_rfl) (fun _ _ _ h => h) (Or.inr ⟨by kernel_rfl, rfl⟩) HS ?_
      try simp only [Act.put, List.setIfInBounds_toArray, List.set_cons_zero, List.set_cons_succ]
      refine wpAnyT_take (i := 15) (v := undef) rfl (by kernel_rfl) (fun _ _ _ h => h) (Or.inr ⟨by kernel_rfl, rfl⟩) HS ?_
      try simp only [Act.put, List.setIfInBounds_toArray, List.set_cons_zero, List.set_cons_succ]
      refine ⟨by kernel_rfl, ?_⟩
      simp only [List.drop_succ_cons, List.drop_zero]
      go_wp2_with fail
      have e5 := HS.2.1; have b5 := HS.2.2.2.2.2.2; have HG5 := Lib.hid HS.2.2.1
      go_roundw
      case rel => exact ⟨k + 1, by omega, by first | rfl | go_num, by rw [HRS.out.2.1], by rw [HRS.out.2.2], Lib.hid (by rw [← HRS.out.1]; exact HG5.out), e5, b5⟩
      case measure => simp [intOf]; omega
    | false =>
    rw [h5] at n5
    have H5 := Lib.hid h5; clear h5
    cases h6 : p.lost with
    | true =>
      rw [h6] at n5
      have H6 := Lib.hid h6; clear h6
      have hrs := round_skip (v := v) (now := now) (slack := slack) HKL.out (late_none (by rw [HP.out]; exact seen_lost H6.out)) (wait_none (by rw [HP.out]; exact seen_lost H6.out))
      rw [HF.out, HNX.out] at hrs
      have HRS := Lib.hid hrs; clear hrs
      refine wp_region_tail 16 17 (fun (W : World) => Bx W Q 26 [.int .i64 p.seq, .int .i64 p.len, .int .i64 p.dsn, .int .i64 p.at_, .int .i64 p.tries, .bool false, .bool true, .int .i64 p.total, .int .i64 p.last] ∧ Bx W B 23 [.int .i64 v.at_, .int .i64 v.end_, .int .i64 v.took, .int .i64 v.far, .bool v.mixed, .int .i64 v.quarters] ∧ Goe W (B + 1) 26 (.slice (some ⟨g, 0, none⟩) n d) n (lostTo v now slack l k) ∧ (W.cell? ⟨Q, 0, none⟩ = some (.int .i64 p.seq) ∧ W.cell? ⟨Q, 1, none⟩ = some (.int .i64 p.len) ∧ W.cell? ⟨Q, 2, none⟩ = some (.int .i64 p.dsn) ∧ W.cell? ⟨Q, 3, none⟩ = some (.int .i64 p.at_) ∧ W.cell? ⟨Q, 4, none⟩ = some (.int .i64 p.tries) ∧ W.cell? ⟨Q, 5, none⟩ = some (.bool false) ∧ W.cell? ⟨Q, 6, none⟩ = some (.bool true) ∧ W.cell? ⟨Q, 7, none⟩ = some (.int .i64 p.total) ∧ W.cell? ⟨Q, 8, none⟩ = some (.int .i64 p.last)) ∧ W.cell? ⟨B, 0, none⟩ = some (.int .i64 v.at_) ∧ W.cell? ⟨B, 1, none⟩ = some (.int .i64 v.end_) ∧ Below B w W) (by kernel_rfl) (by rfl) (by decide) ?_
      have HS : ((fun (W : World) => Bx W Q 26 [.int .i64 p.seq, .int .i64 p.len, .int .i64 p.dsn, .int .i64 p.at_, .int .i64 p.tries, .bool false, .bool true, .int .i64 p.total, .int .i64 p.last] ∧ Bx W B 23 [.int .i64 v.at_, .int .i64 v.end_, .int .i64 v.took, .int .i64 v.far, .bool v.mixed, .int .i64 v.quarters] ∧ Goe W (B + 1) 26 (.slice (some ⟨g, 0, none⟩) n d) n (lostTo v now slack l k) ∧ (W.cell? ⟨Q, 0, none⟩ = some (.int .i64 p.seq) ∧ W.cell? ⟨Q, 1, none⟩ = some (.int .i64 p.len) ∧ W.cell? ⟨Q, 2, none⟩ = some (.int .i64 p.dsn) ∧ W.cell? ⟨Q, 3, none⟩ = some (.int .i64 p.at_) ∧ W.cell? ⟨Q, 4, none⟩ = some (.int .i64 p.tries) ∧ W.cell? ⟨Q, 5, none⟩ = some (.bool false) ∧ W.cell? ⟨Q, 6, none⟩ = some (.bool true) ∧ W.cell? ⟨Q, 7, none⟩ = some (.int .i64 p.total) ∧ W.cell? ⟨Q, 8, none⟩ = some (.int .i64 p.last)) ∧ W.cell? ⟨B, 0, none⟩ = some (.int .i64 v.at_) ∧ W.cell? ⟨B, 1, none⟩ = some (.int .i64 v.end_) ∧ Below B w W)) _ := ⟨n5.drew, e5.drew, HG5.out.drew, ⟨n5.drew.cell 0 rfl, n5.drew.cell 1 rfl, n5.drew.cell 2 rfl, n5.drew.cell 3 rfl, n5.drew.cell 4 rfl, n5.drew.cell 5 rfl, n5.drew.cell 6 rfl, n5.drew.cell 7 rfl, n5.drew.cell 8 rfl⟩, e5.drew.cell 0 rfl, e5.drew.cell 1 rfl, b5.drew⟩
      refine wpAnyT_take (i := 0) (v := ?vv6) rfl (by kernel_rfl) (fun _ _ _ h => h) (Or.inl ⟨by rfl, fun w hSw => ?yy6⟩) HS ?rr6
      case yy6 =>
        (try dsimp only at hSw); go_simp
        try with_reducible rfl
      try simp only [Act.put, List.setIfInBounds_toArray, List.set_cons_zero, List.set_cons_succ]
      refine wpAnyT_take (i := 1) (v := ?vv7) rfl (by kernel_rfl) (fun _ _ _ h => h) (Or.inl ⟨by rfl, fun w hSw => ?yy7⟩) HS ?rr7
      case yy7 =>
        (try dsimp only at hSw); go_simp
        try with_reducible rfl
      try simp only [Act.put, List.setIfInBounds_toArray, List.set_cons_zero, List.set_cons_succ]
      refine wpAnyT_take (i := 2) (v := ?vv8) rfl (by kernel_rfl) (fun _ _ _ h => h) (Or.inl ⟨by rfl, fun w hSw => ?yy8⟩) HS ?rr8
      case yy8 =>
        (try dsimp only at hSw); go_simp
        try with_reducible rfl
      try simp only [Act.put, List.setIfInBounds_toArray, List.set_cons_zero, List.set_cons_succ]
      refine wpAnyT_take (i := 3) (v := ?vv9) rfl (by kernel_rfl) (fun _ _ _ h => h) (Or.inl ⟨by rfl, fun w hSw => ?yy9⟩) HS ?rr9
      case yy9 =>
        (try dsimp only at hSw); go_simp
        try with_reducible rfl
      try simp only [Act.put, List.setIfInBounds_toArray, List.set_cons_zero, List.set_cons_succ]
      refine wpAnyT_take (i := 4) (v := ?vv10) rfl (by kernel_rfl) (fun _ _ _ h => h) (Or.inl ⟨by rfl, fun w hSw => ?yy10⟩) HS ?rr10
      case yy10 =>
        (try dsimp only at hSw); go_simp
        try with_reducible rfl
      try simp only [Act.put, List.setIfInBounds_toArray, List.set_cons_zero, List.set_cons_succ]
      refine wpAnyT_take (i := 5) (v := ?vv11) rfl (by kernel_rfl) (fun _ _ _ h => h) (Or.inl ⟨by rfl, fun w hSw => ?yy11⟩) HS ?rr11
      case yy11 =>
        (try dsimp only at hSw); go_simp
        try with_reducible rfl
      try simp only [Act.put, List.setIfInBounds_toArray, List.set_cons_zero, List.set_cons_succ]
      refine wpAnyT_take (i := 6) (v := ?vv12) rfl (by kernel_rfl) (fun _ _ _ h => h) (Or.inl ⟨by rfl, fun w hSw => ?yy12⟩) HS ?rr12
      case yy12 =>
        (try dsimp only at hSw); go_simp
        try with_reducible rfl
      try simp only [Act.put, List.setIfInBounds_toArray, List.set_cons_zero, List.set_cons_succ]
      refine wpAnyT_take (i := 7) (v := undef) rfl (by kernel_rfl) (fun _ _ _ h => h) (Or.inr ⟨by kernel_rfl, rfl⟩) HS ?_
      try simp only [Act.put, List.setIfInBounds_toArray, List.set_cons_zero, List.set_cons_succ]
      refine wpAnyT_take (i := 8) (v := undef) rfl (by kernel_rfl) (fun _ _ _ h => h) (Or.inr ⟨by kernel_rfl, rfl⟩) HS ?_
      try simp only [Act.put, List.setIfInBounds_toArray, List.set_cons_zero, List.set_cons_succ]
      refine wpAnyT_take (i := 9) (v := undef) rfl (by kernel_rfl) (fun _ _ _ h => h) (Or.inr ⟨by kernel_rfl, rfl⟩) HS ?_
      try simp only [Act.put, List.setIfInBounds_toArray, List.set_cons_zero, List.set_cons_succ]
      refine wpAnyT_take (i := 10) (v := undef) rfl (by kernel_rfl) (fun _ _ _ h => h) (Or.inr ⟨by kernel_rfl, rfl⟩) HS ?_
      try simp only [Act.put, List.setIfInBounds_toArray, List.set_cons_zero, List.set_cons_succ]
      refine wpAnyT_take (i := 11) (v := undef) rfl (by kernel_rfl) (fun _ _ _ h => h) (Or.inr ⟨by kernel_rfl, rfl⟩) HS ?_
      try simp only [Act.put, List.setIfInBounds_toArray, List.set_cons_zero, List.set_cons_succ]
      refine wpAnyT_take (i := 12) (v := undef) rfl (by kernel_rfl) (fun _ _ _ h => h) (Or.inr ⟨by kernel_rfl, rfl⟩) HS ?_
      try simp only [Act.put, List.setIfInBounds_toArray, List.set_cons_zero, List.set_cons_succ]
      refine wpAnyT_take (i := 13) (v := undef) rfl (by kernel_rfl) (fun _ _ _ h => h) (Or.inr ⟨by kernel_rfl, rfl⟩) HS ?_
      try simp only [Act.put, List.setIfInBounds_toArray, List.set_cons_zero, List.set_cons_succ]
      refine wpAnyT_take (i := 14) (v := undef) rfl (by kernel_rfl) (fun _ _ _ h => h) (Or.inr ⟨by kernel_rfl, rfl⟩) HS ?_
      try simp only [Act.put, List.setIfInBounds_toArray, List.set_cons_zero, List.set_cons_succ]
      refine wpAnyT_take (i := 15) (v := undef) rfl (by kernel_rfl) (fun _ _ _ h => h) (Or.inr ⟨by kernel_rfl, rfl⟩) HS ?_
      try simp only [Act.put, List.setIfInBounds_toArray, List.set_cons_zero, List.set_cons_succ]
      refine ⟨by kernel_rfl, ?_⟩
      simp only [List.drop_succ_cons, List.drop_zero]
      go_wp2_with fail
      have e5 := HS.2.1; have b5 := HS.2.2.2.2.2.2; have HG5 := Lib.hid HS.2.2.1
      go_roundw
      case rel => exact ⟨k + 1, by omega, by first | rfl | go_num, by rw [HRS.out.2.1], by rw [HRS.out.2.2], Lib.hid (by rw [← HRS.out.1]; exact HG5.out), e5, b5⟩
      case measure => simp [intOf]; omega
    | false =>
    rw [h6] at n5
    have H6 := Lib.hid h6; clear h6
    cases hah : aheadB p.at_ E v.at_ v.end_ with
    | false =>
      rw [hah] at hbef
      have HAH := Lib.hid hah; clear hah
      have hrs := round_skip (v := v) (now := now) (slack := slack) HKL.out (late_none (by rw [HP.out]; exact ((seen_else H5.out H6.out).trans (by rw [HE.out]; exact HAH.out)))) (wait_none (by rw [HP.out]; exact ((seen_else H5.out H6.out).trans (by rw [HE.out]; exact HAH.out))))
      rw [HF.out, HNX.out] at hrs
      have HRS := Lib.hid hrs; clear hrs
      refine wp_region_tail 16 17 (fun (W : World) => Bx W Q 26 [.int .i64 p.seq, .int .i64 p.len, .int .i64 p.dsn, .int .i64 p.at_, .int .i64 p.tries, .bool false, .bool false, .int .i64 p.total, .int .i64 p.last] ∧ Bx W B 23 [.int .i64 v.at_, .int .i64 v.end_, .int .i64 v.took, .int .i64 v.far, .bool v.mixed, .int .i64 v.quarters] ∧ Goe W (B + 1) 26 (.slice (some ⟨g, 0, none⟩) n d) n (lostTo v now slack l k) ∧ (W.cell? ⟨Q, 0, none⟩ = some (.int .i64 p.seq) ∧ W.cell? ⟨Q, 1, none⟩ = some (.int .i64 p.len) ∧ W.cell? ⟨Q, 2, none⟩ = some (.int .i64 p.dsn) ∧ W.cell? ⟨Q, 3, none⟩ = some (.int .i64 p.at_) ∧ W.cell? ⟨Q, 4, none⟩ = some (.int .i64 p.tries) ∧ W.cell? ⟨Q, 5, none⟩ = some (.bool false) ∧ W.cell? ⟨Q, 6, none⟩ = some (.bool false) ∧ W.cell? ⟨Q, 7, none⟩ = some (.int .i64 p.total) ∧ W.cell? ⟨Q, 8, none⟩ = some (.int .i64 p.last)) ∧ W.cell? ⟨B, 0, none⟩ = some (.int .i64 v.at_) ∧ W.cell? ⟨B, 1, none⟩ = some (.int .i64 v.end_) ∧ Below B w W) (by kernel_rfl) (by rfl) (by decide) ?_
      have HS : ((fun (W : World) => Bx W Q 26 [.int .i64 p.seq, .int .i64 p.len, .int .i64 p.dsn, .int .i64 p.at_, .int .i64 p.tries, .bool false, .bool false, .int .i64 p.total, .int .i64 p.last] ∧ Bx W B 23 [.int .i64 v.at_, .int .i64 v.end_, .int .i64 v.took, .int .i64 v.far, .bool v.mixed, .int .i64 v.quarters] ∧ Goe W (B + 1) 26 (.slice (some ⟨g, 0, none⟩) n d) n (lostTo v now slack l k) ∧ (W.cell? ⟨Q, 0, none⟩ = some (.int .i64 p.seq) ∧ W.cell? ⟨Q, 1, none⟩ = some (.int .i64 p.len) ∧ W.cell? ⟨Q, 2, none⟩ = some (.int .i64 p.dsn) ∧ W.cell? ⟨Q, 3, none⟩ = some (.int .i64 p.at_) ∧ W.cell? ⟨Q, 4, none⟩ = some (.int .i64 p.tries) ∧ W.cell? ⟨Q, 5, none⟩ = some (.bool false) ∧ W.cell? ⟨Q, 6, none⟩ = some (.bool false) ∧ W.cell? ⟨Q, 7, none⟩ = some (.int .i64 p.total) ∧ W.cell? ⟨Q, 8, none⟩ = some (.int .i64 p.last)) ∧ W.cell? ⟨B, 0, none⟩ = some (.int .i64 v.at_) ∧ W.cell? ⟨B, 1, none⟩ = some (.int .i64 v.end_) ∧ Below B w W)) _ := ⟨n5.drew, e5.drew, HG5.out.drew, ⟨n5.drew.cell 0 rfl, n5.drew.cell 1 rfl, n5.drew.cell 2 rfl, n5.drew.cell 3 rfl, n5.drew.cell 4 rfl, n5.drew.cell 5 rfl, n5.drew.cell 6 rfl, n5.drew.cell 7 rfl, n5.drew.cell 8 rfl⟩, e5.drew.cell 0 rfl, e5.drew.cell 1 rfl, b5.drew⟩
      refine wpAnyT_take (i := 0) (v := ?vv13) rfl (by kernel_rfl) (fun _ _ _ h => h) (Or.inl ⟨by rfl, fun w hSw => ?yy13⟩) HS ?rr13
      case yy13 =>
        (try dsimp only at hSw); go_simp
        try with_reducible rfl
      try simp only [Act.put, List.setIfInBounds_toArray, List.set_cons_zero, List.set_cons_succ]
      refine wpAnyT_take (i := 1) (v := ?vv14) rfl (by kernel_rfl) (fun _ _ _ h => h) (Or.inl ⟨by rfl, fun w hSw => ?yy14⟩) HS ?rr14
      case yy14 =>
        (try dsimp only at hSw); go_simp
        try with_reducible rfl
      try simp only [Act.put, List.setIfInBounds_toArray, List.set_cons_zero, List.set_cons_succ]
      refine wpAnyT_take (i := 2) (v := ?vv15) rfl (by kernel_rfl) (fun _ _ _ h => h) (Or.inl ⟨by rfl, fun w hSw => ?yy15⟩) HS ?rr15
      case yy15 =>
        (try dsimp only at hSw); go_simp
        try with_reducible rfl
      try simp only [Act.put, List.setIfInBounds_toArray, List.set_cons_zero, List.set_cons_succ]
      refine wpAnyT_take (i := 3) (v := ?vv16) rfl (by kernel_rfl) (fun _ _ _ h => h) (Or.inl ⟨by rfl, fun w hSw => ?yy16⟩) HS ?rr16
      case yy16 =>
        (try dsimp only at hSw); go_simp
        try with_reducible rfl
      try simp only [Act.put, List.setIfInBounds_toArray, List.set_cons_zero, List.set_cons_succ]
      refine wpAnyT_take (i := 4) (v := ?vv17) rfl (by kernel_rfl) (fun _ _ _ h => h) (Or.inl ⟨by rfl, fun w hSw => ?yy17⟩) HS ?rr17
      case yy17 =>
        (try dsimp only at hSw); go_simp
        try with_reducible rfl
      try simp only [Act.put, List.setIfInBounds_toArray, List.set_cons_zero, List.set_cons_succ]
      refine wpAnyT_take (i := 5) (v := ?vv18) rfl (by kernel_rfl) (fun _ _ _ h => h) (Or.inl ⟨by rfl, fun w hSw => ?yy18⟩) HS ?rr18
      case yy18 =>
        (try dsimp only at hSw); go_simp
        try with_reducible rfl
      try simp only [Act.put, List.setIfInBounds_toArray, List.set_cons_zero, List.set_cons_succ]
      refine wpAnyT_take (i := 6) (v := ?vv19) rfl (by kernel_rfl) (fun _ _ _ h => h) (Or.inl ⟨by rfl, fun w hSw => ?yy19⟩) HS ?rr19
      case yy19 =>
        (try dsimp only at hSw); go_simp
        try with_reducible rfl
      try simp only [Act.put, List.setIfInBounds_toArray, List.set_cons_zero, List.set_cons_succ]
      refine wpAnyT_take (i := 7) (v := ?vv20) rfl (by kernel_rfl) (fun _ _ _ h => h) (Or.inl ⟨by rfl, fun w hSw => ?yy20⟩) HS ?rr20
      case yy20 =>
        (try dsimp only at hSw); go_simp
        try with_reducible rfl
      try simp only [Act.put, List.setIfInBounds_toArray, List.set_cons_zero, List.set_cons_succ]
      refine wpAnyT_take (i := 9) (v := ?vv21) rfl (by kernel_rfl) (fun _ _ _ h => h) (Or.inl ⟨by rfl, fun w hSw => ?yy21⟩) HS ?rr21
      case yy21 =>
        (try dsimp only at hSw); go_simp
        try with_reducible rfl
      try simp only [Act.put, List.setIfInBounds_toArray, List.set_cons_zero, List.set_cons_succ]
      refine wpAnyT_take (i := 10) (v := ?vv22) rfl (by kernel_rfl) (fun _ _ _ h => h) (Or.inl ⟨by rfl, fun w hSw => ?yy22⟩) HS ?rr22
      case yy22 =>
        (try dsimp only at hSw); go_simp
        try with_reducible rfl
      try simp only [Act.put, List.setIfInBounds_toArray, List.set_cons_zero, List.set_cons_succ]
      refine wpAnyT_take (i := 11) (v := ?vv23) rfl (by kernel_rfl) (fun _ _ _ h => h) (Or.inl ⟨by rfl, fun w hSw => ?yy23⟩) HS ?rr23
      case yy23 =>
        (try dsimp only at hSw); go_simp
        try with_reducible rfl
      try simp only [Act.put, List.setIfInBounds_toArray, List.set_cons_zero, List.set_cons_succ]
      refine wpAnyT_take (i := 12) (v := ?vv24) rfl (by kernel_rfl) (fun _ _ _ h => h) (Or.inl ⟨by rfl, fun w hSw => ?yy24⟩) HS ?rr24
      case yy24 =>
        (try dsimp only at hSw); go_simp
        try with_reducible rfl
      try simp only [Act.put, List.setIfInBounds_toArray, List.set_cons_zero, List.set_cons_succ]
      refine wpAnyT_take (i := 13) (v := ?vv25) rfl (by kernel_rfl) (fun _ _ _ h => h) (Or.inl ⟨by rfl, fun w hSw => ?yy25⟩) HS ?rr25
      case yy25 =>
        (try dsimp only at hSw); go_simp
        try with_reducible rfl
      try simp only [Act.put, List.setIfInBounds_toArray, List.set_cons_zero, List.set_cons_succ]
      refine wpAnyT_one (k := 8) rfl (by kernel_rfl) (by decide) (fun K hK => ?_)
      go_simp
      refine (hof _).mono ?_
      rintro e wv ⟨rfl, hb1⟩
      have HS : ((fun (W : World) => Bx W Q 26 [.int .i64 p.seq, .int .i64 p.len, .int .i64 p.dsn, .int .i64 p.at_, .int .i64 p.tries, .bool false, .bool false, .int .i64 p.total, .int .i64 p.last] ∧ Bx W B 23 [.int .i64 v.at_, .int .i64 v.end_, .int .i64 v.took, .int .i64 v.far, .bool v.mixed, .int .i64 v.quarters] ∧ Goe W (B + 1) 26 (.slice (some ⟨g, 0, none⟩) n d) n (lostTo v now slack l k) ∧ (W.cell? ⟨Q, 0, none⟩ = some (.int .i64 p.seq) ∧ W.cell? ⟨Q, 1, none⟩ = some (.int .i64 p.len) ∧ W.cell? ⟨Q, 2, none⟩ = some (.int .i64 p.dsn) ∧ W.cell? ⟨Q, 3, none⟩ = some (.int .i64 p.at_) ∧ W.cell? ⟨Q, 4, none⟩ = some (.int .i64 p.tries) ∧ W.cell? ⟨Q, 5, none⟩ = some (.bool false) ∧ W.cell? ⟨Q, 6, none⟩ = some (.bool false) ∧ W.cell? ⟨Q, 7, none⟩ = some (.int .i64 p.total) ∧ W.cell? ⟨Q, 8, none⟩ = some (.int .i64 p.last)) ∧ W.cell? ⟨B, 0, none⟩ = some (.int .i64 v.at_) ∧ W.cell? ⟨B, 1, none⟩ = some (.int .i64 v.end_) ∧ Below B w W)) _ := ⟨HS.1.kept hb1, HS.2.1.kept hb1, HS.2.2.1.below hb1, ⟨(HS.1.kept hb1).cell 0 rfl, (HS.1.kept hb1).cell 1 rfl, (HS.1.kept hb1).cell 2 rfl, (HS.1.kept hb1).cell 3 rfl, (HS.1.kept hb1).cell 4 rfl, (HS.1.kept hb1).cell 5 rfl, (HS.1.kept hb1).cell 6 rfl, (HS.1.kept hb1).cell 7 rfl, (HS.1.kept hb1).cell 8 rfl⟩, (HS.2.1.kept hb1).cell 0 rfl, (HS.2.1.kept hb1).cell 1 rfl, HS.2.2.2.2.2.2.trans (hb1.mono (Nat.le_of_lt HS.2.1.lt))⟩
      refine hK _ _ HS ?_
      clear hK K
      try simp only [Act.put, List.setIfInBounds_toArray, List.set_cons_zero, List.set_cons_succ]
      refine wpAnyT_one (k := 14) rfl (by kernel_rfl) (by decide) (fun K hK => ?_)
      go_simp
      refine (hbef _).mono ?_
      rintro e wv2 ⟨rfl, hb1⟩
      have HS : ((fun (W : World) => Bx W Q 26 [.int .i64 p.seq, .int .i64 p.len, .int .i64 p.dsn, .int .i64 p.at_, .int .i64 p.tries, .bool false, .bool false, .int .i64 p.total, .int .i64 p.last] ∧ Bx W B 23 [.int .i64 v.at_, .int .i64 v.end_, .int .i64 v.took, .int .i64 v.far, .bool v.mixed, .int .i64 v.quarters] ∧ Goe W (B + 1) 26 (.slice (some ⟨g, 0, none⟩) n d) n (lostTo v now slack l k) ∧ (W.cell? ⟨Q, 0, none⟩ = some (.int .i64 p.seq) ∧ W.cell? ⟨Q, 1, none⟩ = some (.int .i64 p.len) ∧ W.cell? ⟨Q, 2, none⟩ = some (.int .i64 p.dsn) ∧ W.cell? ⟨Q, 3, none⟩ = some (.int .i64 p.at_) ∧ W.cell? ⟨Q, 4, none⟩ = some (.int .i64 p.tries) ∧ W.cell? ⟨Q, 5, none⟩ = some (.bool false) ∧ W.cell? ⟨Q, 6, none⟩ = some (.bool false) ∧ W.cell? ⟨Q, 7, none⟩ = some (.int .i64 p.total) ∧ W.cell? ⟨Q, 8, none⟩ = some (.int .i64 p.last)) ∧ W.cell? ⟨B, 0, none⟩ = some (.int .i64 v.at_) ∧ W.cell? ⟨B, 1, none⟩ = some (.int .i64 v.end_) ∧ Below B w W)) _ := ⟨HS.1.kept hb1, HS.2.1.kept hb1, HS.2.2.1.below hb1, ⟨(HS.1.kept hb1).cell 0 rfl, (HS.1.kept hb1).cell 1 rfl, (HS.1.kept hb1).cell 2 rfl, (HS.1.kept hb1).cell 3 rfl, (HS.1.kept hb1).cell 4 rfl, (HS.1.kept hb1).cell 5 rfl, (HS.1.kept hb1).cell 6 rfl, (HS.1.kept hb1).cell 7 rfl, (HS.1.kept hb1).cell 8 rfl⟩, (HS.2.1.kept hb1).cell 0 rfl, (HS.2.1.kept hb1).cell 1 rfl, HS.2.2.2.2.2.2.trans (hb1.mono (Nat.le_of_lt HS.2.1.lt))⟩
      refine hK _ _ HS ?_
      clear hK K
      try simp only [Act.put, List.setIfInBounds_toArray, List.set_cons_zero, List.set_cons_succ]
      refine wpAnyT_take (i := 15) (v := ?vv26) rfl (by kernel_rfl) (fun _ _ _ h => h) (Or.inl ⟨by rfl, fun w hSw => ?yy26⟩) HS ?rr26
      case yy26 =>
        (try dsimp only at hSw); go_simp
        try with_reducible rfl
      try simp only [Act.put, List.setIfInBounds_toArray, List.set_cons_zero, List.set_cons_succ]
      refine ⟨by kernel_rfl, ?_⟩
      simp only [List.drop_succ_cons, List.drop_zero]
      go_wp2_with fail
      have e5 := HS.2.1; have b5 := HS.2.2.2.2.2.2; have HG5 := Lib.hid HS.2.2.1
      go_roundw
      case rel => exact ⟨k + 1, by omega, by first | rfl | go_num, by rw [HRS.out.2.1], by rw [HRS.out.2.2], Lib.hid (by rw [← HRS.out.1]; exact HG5.out), e5, b5⟩
      case measure => simp [intOf]; omega
    | true =>
    rw [hah] at hbef
    have HAH := Lib.hid hah; clear hah
    have hsn : seenB v p = true := (seen_else H5.out H6.out).trans (by rw [HE.out]; exact HAH.out)
    have HSN := Lib.hid hsn; clear hsn
    refine wp_region_tail 16 17 (fun (W : World) => Bx W Q 26 [.int .i64 p.seq, .int .i64 p.len, .int .i64 p.dsn, .int .i64 p.at_, .int .i64 p.tries, .bool false, .bool false, .int .i64 p.total, .int .i64 p.last] ∧ Bx W B 23 [.int .i64 v.at_, .int .i64 v.end_, .int .i64 v.took, .int .i64 v.far, .bool v.mixed, .int .i64 v.quarters] ∧ Goe W (B + 1) 26 (.slice (some ⟨g, 0, none⟩) n d) n (lostTo v now slack l k) ∧ (W.cell? ⟨Q, 0, none⟩ = some (.int .i64 p.seq) ∧ W.cell? ⟨Q, 1, none⟩ = some (.int .i64 p.len) ∧ W.cell? ⟨Q, 2, none⟩ = some (.int .i64 p.dsn) ∧ W.cell? ⟨Q, 3, none⟩ = some (.int .i64 p.at_) ∧ W.cell? ⟨Q, 4, none⟩ = some (.int .i64 p.tries) ∧ W.cell? ⟨Q, 5, none⟩ = some (.bool false) ∧ W.cell? ⟨Q, 6, none⟩ = some (.bool false) ∧ W.cell? ⟨Q, 7, none⟩ = some (.int .i64 p.total) ∧ W.cell? ⟨Q, 8, none⟩ = some (.int .i64 p.last)) ∧ W.cell? ⟨B, 0, none⟩ = some (.int .i64 v.at_) ∧ W.cell? ⟨B, 1, none⟩ = some (.int .i64 v.end_) ∧ Below B w W) (by kernel_rfl) (by rfl) (by decide) ?_
    have HS : ((fun (W : World) => Bx W Q 26 [.int .i64 p.seq, .int .i64 p.len, .int .i64 p.dsn, .int .i64 p.at_, .int .i64 p.tries, .bool false, .bool false, .int .i64 p.total, .int .i64 p.last] ∧ Bx W B 23 [.int .i64 v.at_, .int .i64 v.end_, .int .i64 v.took, .int .i64 v.far, .bool v.mixed, .int .i64 v.quarters] ∧ Goe W (B + 1) 26 (.slice (some ⟨g, 0, none⟩) n d) n (lostTo v now slack l k) ∧ (W.cell? ⟨Q, 0, none⟩ = some (.int .i64 p.seq) ∧ W.cell? ⟨Q, 1, none⟩ = some (.int .i64 p.len) ∧ W.cell? ⟨Q, 2, none⟩ = some (.int .i64 p.dsn) ∧ W.cell? ⟨Q, 3, none⟩ = some (.int .i64 p.at_) ∧ W.cell? ⟨Q, 4, none⟩ = some (.int .i64 p.tries) ∧ W.cell? ⟨Q, 5, none⟩ = some (.bool false) ∧ W.cell? ⟨Q, 6, none⟩ = some (.bool false) ∧ W.cell? ⟨Q, 7, none⟩ = some (.int .i64 p.total) ∧ W.cell? ⟨Q, 8, none⟩ = some (.int .i64 p.last)) ∧ W.cell? ⟨B, 0, none⟩ = some (.int .i64 v.at_) ∧ W.cell? ⟨B, 1, none⟩ = some (.int .i64 v.end_) ∧ Below B w W)) _ := ⟨n5.drew, e5.drew, HG5.out.drew, ⟨n5.drew.cell 0 rfl, n5.drew.cell 1 rfl, n5.drew.cell 2 rfl, n5.drew.cell 3 rfl, n5.drew.cell 4 rfl, n5.drew.cell 5 rfl, n5.drew.cell 6 rfl, n5.drew.cell 7 rfl, n5.drew.cell 8 rfl⟩, e5.drew.cell 0 rfl, e5.drew.cell 1 rfl, b5.drew⟩
    refine wpAnyT_take (i := 0) (v := ?vv27) rfl (by kernel_rfl) (fun _ _ _ h => h) (Or.inl ⟨by rfl, fun w hSw => ?yy27⟩) HS ?rr27
    case yy27 =>
      (try dsimp only at hSw); go_simp
      try with_reducible rfl
    try simp only [Act.put, List.setIfInBounds_toArray, List.set_cons_zero, List.set_cons_succ]
    refine wpAnyT_take (i := 1) (v := ?vv28) rfl (by kernel_rfl) (fun _ _ _ h => h) (Or.inl ⟨by rfl, fun w hSw => ?yy28⟩) HS ?rr28
    case yy28 =>
      (try dsimp only at hSw); go_simp
      try with_reducible rfl
    try simp only [Act.put, List.setIfInBounds_toArray, List.set_cons_zero, List.set_cons_succ]
    refine wpAnyT_take (i := 2) (v := ?vv29) rfl (by kernel_rfl) (fun _ _ _ h => h) (Or.inl ⟨by rfl, fun w hSw => ?yy29⟩) HS ?rr29
    case yy29 =>
      (try dsimp only at hSw); go_simp
      try with_reducible rfl
    try simp only [Act.put, List.setIfInBounds_toArray, List.set_cons_zero, List.set_cons_succ]
    refine wpAnyT_take (i := 3) (v := ?vv30) rfl (by kernel_rfl) (fun _ _ _ h => h) (Or.inl ⟨by rfl, fun w hSw => ?yy30⟩) HS ?rr30
    case yy30 =>
      (try dsimp only at hSw); go_simp
      try with_reducible rfl
    try simp only [Act.put, List.setIfInBounds_toArray, List.set_cons_zero, List.set_cons_succ]
    refine wpAnyT_take (i := 4) (v := ?vv31) rfl (by kernel_rfl) (fun _ _ _ h => h) (Or.inl ⟨by rfl, fun w hSw => ?yy31⟩) HS ?rr31
    case yy31 =>
      (try dsimp only at hSw); go_simp
      try with_reducible rfl
    try simp only [Act.put, List.setIfInBounds_toArray, List.set_cons_zero, List.set_cons_succ]
    refine wpAnyT_take (i := 5) (v := ?vv32) rfl (by kernel_rfl) (fun _ _ _ h => h) (Or.inl ⟨by rfl, fun w hSw => ?yy32⟩) HS ?rr32
    case yy32 =>
      (try dsimp only at hSw); go_simp
      try with_reducible rfl
    try simp only [Act.put, List.setIfInBounds_toArray, List.set_cons_zero, List.set_cons_succ]
    refine wpAnyT_take (i := 6) (v := ?vv33) rfl (by kernel_rfl) (fun _ _ _ h => h) (Or.inl ⟨by rfl, fun w hSw => ?yy33⟩) HS ?rr33
    case yy33 =>
      (try dsimp only at hSw); go_simp
      try with_reducible rfl
    try simp only [Act.put, List.setIfInBounds_toArray, List.set_cons_zero, List.set_cons_succ]
    refine wpAnyT_take (i := 7) (v := ?vv34) rfl (by kernel_rfl) (fun _ _ _ h => h) (Or.inl ⟨by rfl, fun w hSw => ?yy34⟩) HS ?rr34
    case yy34 =>
      (try dsimp only at hSw); go_simp
      try with_reducible rfl
    try simp only [Act.put, List.setIfInBounds_toArray, List.set_cons_zero, List.set_cons_succ]
    refine wpAnyT_take (i := 9) (v := ?vv35) rfl (by kernel_rfl) (fun _ _ _ h => h) (Or.inl ⟨by rfl, fun w hSw => ?yy35⟩) HS ?rr35
    case yy35 =>
      (try dsimp only at hSw); go_simp
      try with_reducible rfl
    try simp only [Act.put, List.setIfInBounds_toArray, List.set_cons_zero, List.set_cons_succ]
    refine wpAnyT_take (i := 10) (v := ?vv36) rfl (by kernel_rfl) (fun _ _ _ h => h) (Or.inl ⟨by rfl, fun w hSw => ?yy36⟩) HS ?rr36
    case yy36 =>
      (try dsimp only at hSw); go_simp
      try with_reducible rfl
    try simp only [Act.put, List.setIfInBounds_toArray, List.set_cons_zero, List.set_cons_succ]
    refine wpAnyT_take (i := 11) (v := ?vv37) rfl (by kernel_rfl) (fun _ _ _ h => h) (Or.inl ⟨by rfl, fun w hSw => ?yy37⟩) HS ?rr37
    case yy37 =>
      (try dsimp only at hSw); go_simp
      try with_reducible rfl
    try simp only [Act.put, List.setIfInBounds_toArray, List.set_cons_zero, List.set_cons_succ]
    refine wpAnyT_take (i := 12) (v := ?vv38) rfl (by kernel_rfl) (fun _ _ _ h => h) (Or.inl ⟨by rfl, fun w hSw => ?yy38⟩) HS ?rr38
    case yy38 =>
      (try dsimp only at hSw); go_simp
      try with_reducible rfl
    try simp only [Act.put, List.setIfInBounds_toArray, List.set_cons_zero, List.set_cons_succ]
    refine wpAnyT_take (i := 13) (v := ?vv39) rfl (by kernel_rfl) (fun _ _ _ h => h) (Or.inl ⟨by rfl, fun w hSw => ?yy39⟩) HS ?rr39
    case yy39 =>
      (try dsimp only at hSw); go_simp
      try with_reducible rfl
    try simp only [Act.put, List.setIfInBounds_toArray, List.set_cons_zero, List.set_cons_succ]
    refine wpAnyT_one (k := 8) rfl (by kernel_rfl) (by decide) (fun K hK => ?_)
    go_simp
    refine (hof _).mono ?_
    rintro e wv ⟨rfl, hb1⟩
    have HS : ((fun (W : World) => Bx W Q 26 [.int .i64 p.seq, .int .i64 p.len, .int .i64 p.dsn, .int .i64 p.at_, .int .i64 p.tries, .bool false, .bool false, .int .i64 p.total, .int .i64 p.last] ∧ Bx W B 23 [.int .i64 v.at_, .int .i64 v.end_, .int .i64 v.took, .int .i64 v.far, .bool v.mixed, .int .i64 v.quarters] ∧ Goe W (B + 1) 26 (.slice (some ⟨g, 0, none⟩) n d) n (lostTo v now slack l k) ∧ (W.cell? ⟨Q, 0, none⟩ = some (.int .i64 p.seq) ∧ W.cell? ⟨Q, 1, none⟩ = some (.int .i64 p.len) ∧ W.cell? ⟨Q, 2, none⟩ = some (.int .i64 p.dsn) ∧ W.cell? ⟨Q, 3, none⟩ = some (.int .i64 p.at_) ∧ W.cell? ⟨Q, 4, none⟩ = some (.int .i64 p.tries) ∧ W.cell? ⟨Q, 5, none⟩ = some (.bool false) ∧ W.cell? ⟨Q, 6, none⟩ = some (.bool false) ∧ W.cell? ⟨Q, 7, none⟩ = some (.int .i64 p.total) ∧ W.cell? ⟨Q, 8, none⟩ = some (.int .i64 p.last)) ∧ W.cell? ⟨B, 0, none⟩ = some (.int .i64 v.at_) ∧ W.cell? ⟨B, 1, none⟩ = some (.int .i64 v.end_) ∧ Below B w W)) _ := ⟨HS.1.kept hb1, HS.2.1.kept hb1, HS.2.2.1.below hb1, ⟨(HS.1.kept hb1).cell 0 rfl, (HS.1.kept hb1).cell 1 rfl, (HS.1.kept hb1).cell 2 rfl, (HS.1.kept hb1).cell 3 rfl, (HS.1.kept hb1).cell 4 rfl, (HS.1.kept hb1).cell 5 rfl, (HS.1.kept hb1).cell 6 rfl, (HS.1.kept hb1).cell 7 rfl, (HS.1.kept hb1).cell 8 rfl⟩, (HS.2.1.kept hb1).cell 0 rfl, (HS.2.1.kept hb1).cell 1 rfl, HS.2.2.2.2.2.2.trans (hb1.mono (Nat.le_of_lt HS.2.1.lt))⟩
    refine hK _ _ HS ?_
    clear hK K
    try simp only [Act.put, List.setIfInBounds_toArray, List.set_cons_zero, List.set_cons_succ]
    refine wpAnyT_one (k := 14) rfl (by kernel_rfl) (by decide) (fun K hK => ?_)
    go_simp
    refine (hbef _).mono ?_
    rintro e wv2 ⟨rfl, hb1⟩
    have HS : ((fun (W : World) => Bx W Q 26 [.int .i64 p.seq, .int .i64 p.len, .int .i64 p.dsn, .int .i64 p.at_, .int .i64 p.tries, .bool false, .bool false, .int .i64 p.total, .int .i64 p.last] ∧ Bx W B 23 [.int .i64 v.at_, .int .i64 v.end_, .int .i64 v.took, .int .i64 v.far, .bool v.mixed, .int .i64 v.quarters] ∧ Goe W (B + 1) 26 (.slice (some ⟨g, 0, none⟩) n d) n (lostTo v now slack l k) ∧ (W.cell? ⟨Q, 0, none⟩ = some (.int .i64 p.seq) ∧ W.cell? ⟨Q, 1, none⟩ = some (.int .i64 p.len) ∧ W.cell? ⟨Q, 2, none⟩ = some (.int .i64 p.dsn) ∧ W.cell? ⟨Q, 3, none⟩ = some (.int .i64 p.at_) ∧ W.cell? ⟨Q, 4, none⟩ = some (.int .i64 p.tries) ∧ W.cell? ⟨Q, 5, none⟩ = some (.bool false) ∧ W.cell? ⟨Q, 6, none⟩ = some (.bool false) ∧ W.cell? ⟨Q, 7, none⟩ = some (.int .i64 p.total) ∧ W.cell? ⟨Q, 8, none⟩ = some (.int .i64 p.last)) ∧ W.cell? ⟨B, 0, none⟩ = some (.int .i64 v.at_) ∧ W.cell? ⟨B, 1, none⟩ = some (.int .i64 v.end_) ∧ Below B w W)) _ := ⟨HS.1.kept hb1, HS.2.1.kept hb1, HS.2.2.1.below hb1, ⟨(HS.1.kept hb1).cell 0 rfl, (HS.1.kept hb1).cell 1 rfl, (HS.1.kept hb1).cell 2 rfl, (HS.1.kept hb1).cell 3 rfl, (HS.1.kept hb1).cell 4 rfl, (HS.1.kept hb1).cell 5 rfl, (HS.1.kept hb1).cell 6 rfl, (HS.1.kept hb1).cell 7 rfl, (HS.1.kept hb1).cell 8 rfl⟩, (HS.2.1.kept hb1).cell 0 rfl, (HS.2.1.kept hb1).cell 1 rfl, HS.2.2.2.2.2.2.trans (hb1.mono (Nat.le_of_lt HS.2.1.lt))⟩
    refine hK _ _ HS ?_
    clear hK K
    try simp only [Act.put, List.setIfInBounds_toArray, List.set_cons_zero, List.set_cons_succ]
    refine wpAnyT_take (i := 15) (v := ?vv40) rfl (by kernel_rfl) (fun _ _ _ h => h) (Or.inl ⟨by rfl, fun w hSw => ?yy40⟩) HS ?rr40
    case yy40 =>
      (try dsimp only at hSw); go_simp
      try with_reducible rfl
    try simp only [Act.put, List.setIfInBounds_toArray, List.set_cons_zero, List.set_cons_succ]
    refine ⟨by kernel_rfl, ?_⟩
    simp only [List.drop_succ_cons, List.drop_zero]
    go_upto_region 9 with fail
    have n6 := HS.1; have e6 := HS.2.1; have g6 := HS.2.2.1; have b6 := HS.2.2.2.2.2.2
    have HG5 := Lib.hid g6
    clear HS n5 e5 b5 hof hbef g6
    have x3 := n6.cell 3 rfl; have y2 := e6.cell 2 rfl
    by_cases hdn : D ≤ now
    case pos =>
      have dn : decide (D ≤ now) = true := decide_eq_true hdn
      have hrs := round_late (v := v) (now := now) (slack := slack) HKL.out (late_yes (by rw [HP.out]; exact HSN.out) (by rw [HP.out, HDUE.out]; exact hdn)) (wait_no (by rw [HP.out]; exact HSN.out) (by rw [HP.out, HDUE.out]; exact hdn))
      rw [HF.out, HNX.out, HP.out] at hrs
      have HRS := Lib.hid hrs; clear hrs hdn
      have hw1 : IntKind.i64.wrap (F + 1) = F + 1 := IntWalk.i64_in _ (by omega)
      go_upto_region 11 with fail
      have htl : (lostTo v now slack l k).length = n := HG5.out.len
      have i9 : k * 9 + 9 ≤ n * 9 := by omega
      have e9 : n * El.k Prt = n * 9 := rfl
      have z6 := (HG5.out.row.cellAt (k * 9 + 6) (by omega)).trans (evals_at _ k 6 (.bool p.lost) (by omega) (by rw [HGE.out]; rfl))
      have f6 := HG5.out.row.frozenAt (k * 9 + 6)
      obtain ⟨q1, _⟩ := HG5.out.set (i := k) (j := 6) (u := .bool true) (y := { p with lost := true }) hlt (by decide) (by rw [HGE.out]; rfl) ⟨HPW.out.seq, HPW.out.len, HPW.out.dsn, HPW.out.at_, HPW.out.tries, HPW.out.total, HPW.out.last⟩
      change Goe (wv2.setCell ⟨g, k * 9 + 6, none⟩ _) _ _ _ _ _ at q1
      rw [HRS.out.1] at q1
      have HQ1 := Lib.hid q1
      clear q1 htl i9 e9 x3 y2
      go_upto_region 12 with fail
      have e7 := e6.far (p := ⟨g, k * 9 + 6, none⟩) (by show B ≠ g; omega) (.bool true)
      have b7 := b6.setCell (p := ⟨g, k * 9 + 6, none⟩) (by show B ≤ g; omega) (.bool true)
      generalize wv2.setCell ⟨g, k * 9 + 6, none⟩ (.bool true) = w7 at HQ1 e7 b7 ⊢
      clear n6 e6 b6 z6 f6
      go_wp2_with fail
      go_roundw
      case rel => exact ⟨k + 1, by omega, by first | rfl | go_num, by rw [HRS.out.2.1], by rw [HRS.out.2.2], Lib.hid (by exact HQ1.out), e7, b7⟩
      case measure => simp [intOf]; omega
    case neg =>
    have dn : decide (D ≤ now) = false := decide_eq_false hdn
    have hrs := round_wait (v := v) (now := now) (slack := slack) HKL.out (late_no (by rw [HP.out]; exact HSN.out) (by rw [HP.out, HDUE.out]; exact hdn)) (wait_yes (by rw [HP.out]; exact HSN.out) (by rw [HP.out, HDUE.out]; exact hdn))
    rw [HF.out, HNX.out, HP.out, HDUE.out] at hrs
    have HRS := Lib.hid hrs; clear hrs hdn
    by_cases hn0 : N = 0
    case pos =>
      have dz : (N == 0) = true := by simpa using hn0
      have hst : nextStep N D = D := if_pos (.inl hn0)
      have HST := Lib.hid hst; clear hst hn0
      go_wp2_with fail
      go_roundw
      case rel => exact ⟨k + 1, by omega, by first | rfl | go_num, by rw [HRS.out.2.1], by rw [HRS.out.2.2, HST.out], Lib.hid (by rw [← HRS.out.1]; exact HG5.out), e6, b6⟩
      case measure => simp [intOf]; omega
    case neg =>
    have dz : (N == 0) = false := by simpa using hn0
    by_cases hdN : D < N
    case pos =>
      have d2 : decide (D < N) = true := decide_eq_true hdN
      have hst : nextStep N D = D := if_pos (.inr hdN)
      have HST := Lib.hid hst; clear hst hn0 hdN
      go_wp2_with fail
      go_roundw
      case rel => exact ⟨k + 1, by omega, by first | rfl | go_num, by rw [HRS.out.2.1], by rw [HRS.out.2.2, HST.out], Lib.hid (by rw [← HRS.out.1]; exact HG5.out), e6, b6⟩
      case measure => simp [intOf]; omega
    case neg =>
    have d2 : decide (D < N) = false := decide_eq_false hdN
    have hst : nextStep N D = N := if_neg (fun h => h.elim hn0 hdN)
    have HST := Lib.hid hst; clear hst hn0 hdN
    go_wp2_with fail
    go_roundw
    case rel => exact ⟨k + 1, by omega, by first | rfl | go_num, by rw [HRS.out.2.1], by rw [HRS.out.2.2, HST.out], Lib.hid (by rw [← HRS.out.1]; exact HG5.out), e6, b6⟩
    case measure => simp [intOf]; omega
end Go.Proofs.Ytlanplobdgchaaa
