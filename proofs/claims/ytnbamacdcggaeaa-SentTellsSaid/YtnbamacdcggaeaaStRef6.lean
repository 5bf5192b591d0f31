/- The reference of package sent: Again as a contract of the call. -/
import Derived.Test.YtnbamacdcggaeaaStRef5
namespace Go.Proofs.Ytnbamacdcggaeaa
open Go.RowKit
set_option linter.unusedVariables false
set_option linter.unusedSimpArgs false

theorem findSeq_at {l : List Prt} {seq : Int} {k : Nat} (hk : k < l.length) (h : ∀ i, i < k → (ge l i).seq ≠ seq) (he : (ge l k).seq = seq) : findSeq l seq = k := by
  unfold findSeq
  rw [List.findIdx_eq hk]
  refine ⟨by rw [← ge_eq hk]; exact decide_eq_true he, fun j hj => ?_⟩
  rw [← ge_eq (by omega)]
  exact decide_eq_false (h j hj)
theorem findSeq_none {l : List Prt} {seq : Int} (h : ∀ i, i < l.length → (ge l i).seq ≠ seq) : findSeq l seq = l.length := by
  unfold findSeq
  rw [List.findIdx_eq_length]
  intro x hx
  obtain ⟨i, hi, rfl⟩ := List.getElem_of_mem hx
  rw [← ge_eq hi]
  exact decide_eq_false (h i hi)
theorem PrtAt.below {w w' : World} {b o B : Nat} {x : Prt} (h : PrtAt w b o x) (hb : Below B w w') (hlt : b < B) : PrtAt w' b o x :=
  ⟨(hb.cell (p := ⟨b, o, none⟩) hlt).trans h.c0, (hb.cell (p := ⟨b, o + 1, none⟩) hlt).trans h.c1, (hb.cell (p := ⟨b, o + 2, none⟩) hlt).trans h.c2, (hb.cell (p := ⟨b, o + 3, none⟩) hlt).trans h.c3, (hb.cell (p := ⟨b, o + 4, none⟩) hlt).trans h.c4, (hb.cell (p := ⟨b, o + 5, none⟩) hlt).trans h.c5, (hb.cell (p := ⟨b, o + 6, none⟩) hlt).trans h.c6, (hb.cell (p := ⟨b, o + 7, none⟩) hlt).trans h.c7, (hb.cell (p := ⟨b, o + 8, none⟩) hlt).trans h.c8⟩
theorem again_no {l : List Prt} {seq a : Int} (h : ¬ (smayB l = true ∧ t60 a = true)) : againR l seq a = ([], 1) := if_neg h
theorem again_none {l : List Prt} {seq a : Int} (h : smayB l = true ∧ t60 a = true) (k : ¬ findSeq l seq < l.length) : againR l seq a = ([], 3) := by unfold againR; rw [if_pos h, if_neg k]
theorem again_bad {l : List Prt} {seq a : Int} {k : Nat} (h : smayB l = true ∧ t60 a = true) (hf : findSeq l seq = k) (hk : k < l.length) (hb : (ge l k).came = true ∨ 1000 ≤ (ge l k).tries) : againR l seq a = ([], 3) := by unfold againR; rw [if_pos h, hf, if_pos hk, if_pos hb]
theorem again_ok {l : List Prt} {seq a : Int} {k : Nat} (h : smayB l = true ∧ t60 a = true) (hf : findSeq l seq = k) (hk : k < l.length) (hb : ¬ ((ge l k).came = true ∨ 1000 ≤ (ge l k).tries)) : againR l seq a = (l.set k (againP (ge l k) a), 0) := by unfold againR; rw [if_pos h, hf, if_pos hk, if_neg hb]

set_option maxRecDepth 100000 in
set_option maxHeartbeats 8000000 in
theorem rstagain_any (A : Option Addr) (n c : Nat) (l : List Prt) (seq a : Int) (w : World) (hs : Se w A n c l) :
    Calls Try.prog 14 #[.slice A n c, .int .i64 seq, .int .i64 a] w fun e w' => TellS w w' e (againR l seq a) := by
  unfold TellS
  obtain ⟨B, hB⟩ : ∃ B, w.heap.size = B := ⟨_, rfl⟩
  have hl := hs.rd.len
  have m1 := hs.le
  have m2 := hs.max
  have m3 : n ≤ 9223372036854775807 := by unfold maxLen at m2; omega
  clear m1 m2
  have hnil := hs.nil
  have hm := rstmay_any A n c l w hs
  obtain ⟨y, hy⟩ : ∃ y, againR l seq a = y := ⟨_, rfl⟩
  rw [hy]
  have HY := Lib.hid hy
  have HL := Lib.hid hl; have HN := Lib.hid hnil; have HA := Lib.hid hs; have HB := Lib.hid hB
  rw [hB]
  clear hy hs hl hnil
  go_enter Try.func14, Try.ntmps14
  cases hk : smayB l with
  | false =>
    have hy := HY.out
    rw [again_no (fun h => by rw [hk] at h; exact absurd h.1 (by simp))] at hy
    subst hy
    rw [hk] at hm
    clear HY hk
    go_wp2_with (go_at_call 18; refine hm.mono ?_; rintro e w2 ⟨rfl, hb2⟩)
    go_ret2
    exact ⟨none, 0, 0, rfl, Sne.none _ _, hB ▸ hb2⟩
  | true =>
  rw [hk] at hm
  cases ht : t60 a with
  | false =>
    have hy := HY.out
    rw [again_no (fun h => by rw [ht] at h; exact absurd h.2 (by simp))] at hy
    subst hy
    clear HY hk
    go_wp2_with (first | (go_at_call 18; refine hm.mono ?_; rintro e w2 ⟨rfl, hb2⟩) | (go_at_call 29; refine (rsin_any _ _).mono ?_; rintro e wx ⟨rfl, rfl⟩))
    go_ret2
    exact ⟨none, 0, 0, rfl, Sne.none _ _, hB ▸ hb2⟩
  | true =>
  have hok : smayB l = true ∧ t60 a = true := ⟨hk, ht⟩
  have HOK := Lib.hid hok
  obtain ⟨hle, hch⟩ := (smay_iff l).1 hk
  have hn5 : n ≤ 500 := by have := HL.out; omega
  have HCH := Lib.hid hch
  clear hok hk hle hch
  go_wp2_with (first | (go_at_call 18; refine hm.mono ?_; rintro e w2 ⟨rfl, hb2⟩; have b2 : Below B w w2 := hB ▸ hb2) | (go_at_call 29; refine (rsin_any _ _).mono ?_; rintro e wx ⟨rfl, rfl⟩))
  clear ht
  go_loopw [9] (fun i wr => ∃ k : Nat, k ≤ n ∧ i = .int .i64 (k : Int) ∧ (∀ i, i < k → (ge l i).seq ≠ seq) ∧ w2 = wr) (fun i _ => n - (intOf i).toNat)
  case atStart => exact ⟨0, Nat.zero_le _, rfl, fun i hi => absurd hi (by omega), rfl⟩
  case round =>
    obtain ⟨k, hkn, rfl, hno, rfl⟩ := hrel
    have HNO := Lib.hid hno; clear hno
    by_cases hlt : k < n
    · obtain ⟨b, o, rfl, hbl, hc⟩ := HA.out.rd.at_ (by omega)
      have X := (prt_at hc hlt).keep hb2 hbl
      have hpk := (HCH.out k (by rw [HL.out]; omega)).1
      have hpw := HA.out.rd.ok.ge (i := k) (by rw [HL.out]; exact hlt)
      have hkl : k < l.length := by rw [HL.out]; exact hlt
      have hk0 : (k : Int) < (n : Int) := by omega
      obtain ⟨p, hp⟩ : ∃ p, ge l k = p := ⟨_, rfl⟩
      rw [hp] at X hpk hpw
      have c0 := X.c0; have c4 := X.c4; have c5 := X.c5
      have HP := Lib.hid hp; have HPK := Lib.hid hpk; have HPW := Lib.hid hpw; have HKL := Lib.hid hkl
      clear hp hc hpk hpw hkl
      by_cases hq : p.seq = seq
      case neg =>
        have d0 : (p.seq != seq) = true := by simpa using hq
        have HQ := Lib.hid hq; clear hq
        go_wp2_with fail
        go_roundw
        case rel => exact ⟨k + 1, by omega, by go_num, (fun i hi => by
          by_cases e : i = k
          · subst e; rw [HP.out]; exact HQ.out
          · exact HNO.out i (by omega)), trivial⟩
        case measure => simp [intOf]; omega
      case pos =>
      have d0 : (p.seq != seq) = false := by simp [hq]
      have hf := findSeq_at HKL.out HNO.out (by rw [HP.out]; exact hq)
      have HF := Lib.hid hf
      clear hf hq
      cases h5 : p.came with
      | true =>
        rw [h5] at c5
        have hy := HY.out
        rw [again_bad HOK.out HF.out HKL.out (by rw [HP.out]; exact .inl h5)] at hy
        subst hy
        clear HY h5
        go_wp2_with fail
        go_ret2
        exact ⟨none, 0, 0, rfl, Sne.none _ _, b2⟩
      | false =>
      rw [h5] at c5
      by_cases h6 : 1000 ≤ p.tries
      · have d6 : decide (1000 ≤ p.tries) = true := decide_eq_true h6
        have hy := HY.out
        rw [again_bad HOK.out HF.out HKL.out (by rw [HP.out]; exact .inr h6)] at hy
        subst hy
        clear HY h5 h6
        go_wp2_with fail
        go_ret2
        exact ⟨none, 0, 0, rfl, Sne.none _ _, b2⟩
      have d6 : decide (1000 ≤ p.tries) = false := decide_eq_false h6
      have hy := HY.out
      rw [again_ok HOK.out HF.out HKL.out (by rw [HP.out, h5]; simp; omega), HP.out] at hy
      subst hy
      have t1 := HPK.out.t1
      have hs1 : IntKind.i64.wrap (p.tries + 1) = p.tries + 1 := IntWalk.i64_in _ (by omega)
      have hs2 : Se w2 (some ⟨b, o, none⟩) n c l := HA.out.keep hb2
      have hB2 : B ≤ w2.heap.size := by have := hb2.size; have := HB.out; omega
      have hw2s : b < w2.heap.size := Nat.lt_of_lt_of_le hbl hb2.size
      obtain ⟨tr, htr⟩ : ∃ t, p.tries = t := ⟨_, rfl⟩
      have h6' : p.tries ≤ 999 := by omega
      have HT6 := Lib.hid h6'; have HH5 := Lib.hid h5
      rw [htr] at c4 d6 hs1
      have HTR := Lib.hid htr
      clear HY h5 h6 h6' htr
      go_upto_region 11 with (at_builtin; refine wpList_appe w2 rfl (.const (.slice none 0 0)) (.tmp 46) 22 rfl B 24 Try.underlying22 (.agg #[.int .i64 0, .int .i64 0, .int .i64 0, .int .i64 0, .int .i64 0, .bool false, .bool false, .int .i64 0, .int .i64 0]) 64 info_prt (by decide) _ 0 ([] : List Prt) rfl (Goe.none _ _ _) rfl HN.out hs2.rd (by unfold maxLen; omega) (by omega) hB2 ?_; intro v3 w3 hg3 hgr3 _; have hb3 : Below w2.heap.size w2 w3 := (Below.refl _ _).grown hgr3 (Nat.le_refl _) (fun k hk => by cases hk))
      have X3 := X.keep hb3 hw2s
      have b3 : Below B w w3 := b2.trans (hb3.mono hB2)
      have hg3' : Goe w3 B 24 v3 n l := by have := hg3; simpa using this
      obtain ⟨g, cap, rfl, hgB1, hgB2⟩ := hg3'.row.form (by omega)
      have hbg : b < g := by have := HB.out; omega
      clear X c0 c4 c5 hg3
      have i9 : k * 9 + 9 ≤ n * 9 := by omega
      have z3 := hg3'.row.cellAt (k * 9 + 3) (by have e9 : n * El.k Prt = n * 9 := rfl; omega)
      have f3 := hg3'.row.frozenAt (k * 9 + 3)
      have hge : ge l k = p := HP.out
      have ha64 : i64 a := by have := (t60_iff a).1 HOK.out.2; unfold i64; omega
      have ht64 : i64 (p.tries + 1) := by have := HPK.out.t1; have := HT6.out; unfold i64; omega
      have q1 := hg3'.set (i := k) (j := 3) (u := .int .i64 a) (y := { p with at_ := a }) hlt (by decide) (by rw [hge]; rfl) ⟨HPW.out.seq, HPW.out.len, HPW.out.dsn, ha64, HPW.out.tries, HPW.out.total, HPW.out.last⟩
      obtain ⟨q1a, q1b⟩ := q1
      have q2 := q1a.set (i := k) (j := 4) (u := .int .i64 (p.tries + 1)) (y := { p with at_ := a, tries := p.tries + 1 }) hlt (by decide) (by rw [ge_set HKL.out, if_pos rfl]; rfl) ⟨HPW.out.seq, HPW.out.len, HPW.out.dsn, ha64, ht64, HPW.out.total, HPW.out.last⟩
      rw [List.set_set] at q2
      obtain ⟨q2a, q2b⟩ := q2
      have q3 := q2a.set (i := k) (j := 6) (u := .bool false) (y := againP p a) hlt (by decide) (by rw [ge_set HKL.out, if_pos rfl]; rfl) ⟨HPW.out.seq, HPW.out.len, HPW.out.dsn, ha64, ht64, HPW.out.total, HPW.out.last⟩
      rw [List.set_set] at q3
      obtain ⟨q3a, q3b⟩ := q3
      rw [HTR.out] at q2a q2b q3a q3b
      change Goe (w3.setCell ⟨g, k * 9 + 3, none⟩ _) _ _ _ _ _ at q1a
      change World.grownBy w3 (w3.setCell ⟨g, k * 9 + 3, none⟩ _) _ at q1b
      change Goe ((w3.setCell ⟨g, k * 9 + 3, none⟩ _).setCell ⟨g, k * 9 + 4, none⟩ _) _ _ _ _ _ at q2a
      change World.grownBy (w3.setCell ⟨g, k * 9 + 3, none⟩ _) ((w3.setCell ⟨g, k * 9 + 3, none⟩ _).setCell ⟨g, k * 9 + 4, none⟩ _) _ at q2b
      change Goe (((w3.setCell ⟨g, k * 9 + 3, none⟩ _).setCell ⟨g, k * 9 + 4, none⟩ _).setCell ⟨g, k * 9 + 6, none⟩ _) _ _ _ _ _ at q3a
      change World.grownBy ((w3.setCell ⟨g, k * 9 + 3, none⟩ _).setCell ⟨g, k * 9 + 4, none⟩ _) (((w3.setCell ⟨g, k * 9 + 3, none⟩ _).setCell ⟨g, k * 9 + 4, none⟩ _).setCell ⟨g, k * 9 + 6, none⟩ _) _ at q3b
      have X4 : PrtAt (w3.setCell ⟨g, k * 9 + 3, none⟩ (.int .i64 a)) b (o + k * 9) p := X3.below ((Below.refl g w3).setCell (p := ⟨g, k * 9 + 3, none⟩) (Nat.le_refl _) _) hbg
      have z3' := z3.trans (evals_at l k 3 (.int .i64 p.at_) HKL.out (by rw [hge]; rfl))
      have e9 : n * El.k Prt = n * 9 := rfl
      have z4 := (q1a.row.cellAt (k * 9 + 4) (by omega)).trans (evals_at _ k 4 (.int .i64 p.tries) (by rw [List.length_set]; exact HKL.out) (by rw [ge_set HKL.out, if_pos rfl]; rfl))
      have f4 := q1a.row.frozenAt (k * 9 + 4)
      have z6 := (q2a.row.cellAt (k * 9 + 6) (by omega)).trans (evals_at _ k 6 (.bool p.lost) (by rw [List.length_set]; exact HKL.out) (by rw [ge_set HKL.out, if_pos rfl]; rfl))
      have f6 := q2a.row.frozenAt (k * 9 + 6)
      have b4 : Below B w (w3.setCell ⟨g, k * 9 + 3, none⟩ (.int .i64 a)) := b3.setCell (p := ⟨g, k * 9 + 3, none⟩) hgB1 _
      have b5 := b4.setCell (p := ⟨g, k * 9 + 4, none⟩) hgB1 (.int .i64 (tr + 1))
      have b6 := b5.setCell (p := ⟨g, k * 9 + 6, none⟩) hgB1 (.bool false)
      have HQ3 := Lib.hid q3a
      clear q1a q1b q2a q2b q3a q3b z3 e9 hgB1 hgB2 i9
      go_upto_region 12 with fail
      clear z3' f3 X3 hg3'
      generalize w3.setCell ⟨g, k * 9 + 3, none⟩ (.int .i64 a) = w4 at z4 f4 z6 f6 b4 b5 b6 HQ3 X4 ⊢
      have c4 := X4.c4
      rw [HTR.out] at c4
      clear X4
      go_upto_region 13 with fail
      clear z4 f4 c4 b4
      generalize w4.setCell ⟨g, k * 9 + 4, none⟩ (.int .i64 (tr + 1)) = w5 at z6 f6 b5 b6 HQ3 ⊢
      go_wp2_with fail
      go_ret2
      obtain ⟨G', d', e', hsn⟩ := HQ3.out.sne
      cases e'
      exact ⟨_, _, _, rfl, hsn, b6⟩
    · obtain rfl : k = n := by omega
      have hy := HY.out
      rw [again_none HOK.out (by rw [findSeq_none (by rw [HL.out]; exact HNO.out)]; omega)] at hy
      subst hy
      have hd : decide (k < k) = false := decide_eq_false (by omega)
      clear HY
      go_wp2_with fail
      go_ret2
      exact ⟨none, 0, 0, rfl, Sne.none _ _, b2⟩
end Go.Proofs.Ytnbamacdcggaeaa
