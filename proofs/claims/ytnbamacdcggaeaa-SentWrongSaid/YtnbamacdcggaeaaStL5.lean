/- Package sent as it landed: slices.IndexFunc, Again as contracts of the calls. -/
import Derived.Test.YtnbamacdcggaeaaStL4
import Derived.Test.YtnbamacdcggaeaaStRef6
namespace Go.Proofs.Ytnbamacdcggaeaa
open Go.RowKit
set_option linter.unusedVariables false
set_option linter.unusedSimpArgs false

/-- where the first is that p holds for: -1, if there is none -/
def idxR {α : Type} (p : α → Bool) (l : List α) : Int := if l.findIdx p < l.length then (l.findIdx p : Int) else -1
theorem idxR_at {α : Type} [El α] {p : α → Bool} {l : List α} {k : Nat} (hk : k < l.length) (h : ∀ i, i < k → p (ge l i) = false) (hp : p (ge l k) = true) : idxR p l = (k : Int) := by
  have hf : l.findIdx p = k := by
    rw [List.findIdx_eq hk]
    refine ⟨by rw [← ge_eq hk]; exact hp, fun j hj => ?_⟩
    rw [← ge_eq (by omega)]
    exact h j hj
  unfold idxR; rw [hf, if_pos hk]
theorem idxR_none {α : Type} [El α] {p : α → Bool} {l : List α} (h : ∀ i, i < l.length → p (ge l i) = false) : idxR p l = -1 := by
  have hf : l.findIdx p = l.length := by
    rw [List.findIdx_eq_length]
    intro x hx
    obtain ⟨i, hi, rfl⟩ := List.getElem_of_mem hx
    rw [← ge_eq hi]
    exact h i hi
  unfold idxR; rw [hf, if_neg (by omega)]

set_option maxRecDepth 100000 in
set_option maxHeartbeats 8000000 in
theorem idxP_any (f : Nat) (hent : ∀ args w, (callFunc f args).run Try.prog w = .ok (.enter f args) w) (q : Addr) (p : Prt → Bool) (A : Option Addr) (n c : Nat) (l : List Prt) (w : World) (hs : Se w A n c l)
    (hcall : Hid (∀ W, Below w.heap.size w W → ∀ i, i < n → Calls Try.prog f #[.agg #[.int .i64 (ge l i).seq, .int .i64 (ge l i).len, .int .i64 (ge l i).dsn, .int .i64 (ge l i).at_, .int .i64 (ge l i).tries, .bool (ge l i).came, .bool (ge l i).lost, .int .i64 (ge l i).total, .int .i64 (ge l i).last], .pointer (some q)] W fun e W' => e = .returned (.bool (p (ge l i))) ∧ Below W.heap.size W W')) :
    Calls Try.prog 27 #[.slice A n c, .func (.func f) #[] #[.pointer (some q)]] w fun e w' => e = .returned (.int .i64 (idxR p l)) ∧ Below w.heap.size w w' := by
  have hl := hs.rd.len
  have m1 := hs.le
  have m2 := hs.max
  have m3 : n ≤ 9223372036854775807 := by unfold maxLen at m2; omega
  clear m1 m2
  obtain ⟨x, hx⟩ : ∃ x, idxR p l = x := ⟨_, rfl⟩
  rw [hx]
  have HX := Lib.hid hx
  have HA := Lib.hid hs; have HL := Lib.hid hl
  clear hx hs hl
  go_enter Try.func27, Try.ntmps27
  go_wp2_with fail
  go_loopw [8] (fun i wr => ∃ k : Nat, k ≤ n ∧ i = .int .i64 (k : Int) ∧ Hid (∀ i, i < k → p (ge l i) = false) ∧ Below w.heap.size w wr) (fun i _ => n - (intOf i).toNat)
  case atStart => exact ⟨0, Nat.zero_le _, rfl, Lib.hid (fun i hi => absurd hi (by omega)), Below.refl _ _⟩
  case round =>
    obtain ⟨k, hk, rfl, HNO, hb⟩ := hrel
    by_cases hlt : k < n
    · have dlt : decide (k < n) = true := decide_eq_true hlt
      have hsr : Se wr A n c l := HA.out.keep hb
      obtain ⟨b, o, rfl, hbl, hc⟩ := hsr.rd.at_ (by omega)
      have X := prt_at hc hlt
      have hkl : k < l.length := by rw [HL.out]; exact hlt
      have hf := hcall.out wr hb k hlt
      have hgo : p (ge l k) = false → ∀ i, i < k + 1 → p (ge l i) = false := fun h i hi => by
        by_cases e : i = k
        · subst e; exact h
        · exact HNO.out i (by omega)
      have hstop : p (ge l k) = true → x = (k : Int) := fun h => by rw [← HX.out]; exact idxR_at hkl HNO.out h
      obtain ⟨y, hy⟩ : ∃ y, ge l k = y := ⟨_, rfl⟩
      rw [hy] at X hf hgo hstop
      obtain ⟨x0, x1, x2, x3, x4, x5, x6, x7, x8⟩ := X
      have HGO := Lib.hid hgo; have HSTOP := Lib.hid hstop
      clear hc hy hsr hkl hgo hstop
      cases hz : p y with
      | false =>
        rw [hz] at hf
        have HGO2 := Lib.hid (HGO.out hz)
        clear hz
        go_wp2_with (go_at_fn f; refine hf.mono ?_; rintro e wv ⟨rfl, hbv⟩)
        go_roundw
        case rel => exact ⟨k + 1, by omega, by go_num, HGO2, hb.trans (hbv.mono hb.size)⟩
        case measure => simp [intOf]; omega
      | true =>
        rw [hz] at hf
        have hF := HSTOP.out hz
        subst hF
        clear hz
        go_wp2_with (go_at_fn f; refine hf.mono ?_; rintro e wv ⟨rfl, hbv⟩)
        go_ret
        exact ⟨rfl, hb.trans (hbv.mono hb.size)⟩
    · obtain rfl : k = n := by omega
      have hF : x = -1 := by rw [← HX.out]; exact idxR_none (by rw [HL.out]; exact HNO.out)
      subst hF
      have dlt : decide (k < k) = false := decide_eq_false (by omega)
      go_wp2_with fail
      go_ret
      exact ⟨rfl, hb⟩

theorem ent_again1 : ∀ args w, (callFunc 28 args).run Try.prog w = .ok (.enter 28 args) w := enters_of Try.func28 (by kernel_rfl) rfl
theorem again1_any (x : Prt) (seq : Int) (Q : Nat) (w : World) (hq : Bx w Q 3 [.int .i64 seq]) :
    Calls Try.prog 28 #[.agg #[.int .i64 x.seq, .int .i64 x.len, .int .i64 x.dsn, .int .i64 x.at_, .int .i64 x.tries, .bool x.came, .bool x.lost, .int .i64 x.total, .int .i64 x.last], .pointer (some ⟨Q, 0, none⟩)] w fun e w' => e = .returned (.bool (x.seq == seq)) ∧ Below w.heap.size w w' := by
  obtain ⟨B, hB⟩ : ∃ B, w.heap.size = B := ⟨_, rfl⟩
  have e0 := Bx.new w 24 [.int .i64 x.seq, .int .i64 x.len, .int .i64 x.dsn, .int .i64 x.at_, .int .i64 x.tries, .bool x.came, .bool x.lost, .int .i64 x.total, .int .i64 x.last]
  have y0 := hq.alloc (.cells #[.int .i64 x.seq, .int .i64 x.len, .int .i64 x.dsn, .int .i64 x.at_, .int .i64 x.tries, .bool x.came, .bool x.lost, .int .i64 x.total, .int .i64 x.last] 24)
  rw [hB] at e0 ⊢
  have b0 : Below B w (w.alloc (.cells #[.int .i64 x.seq, .int .i64 x.len, .int .i64 x.dsn, .int .i64 x.at_, .int .i64 x.tries, .bool x.came, .bool x.lost, .int .i64 x.total, .int .i64 x.last] 24)) := by rw [← hB]; exact (Below.refl _ _).alloc (Nat.le_refl _) _
  have c0 := e0.cell 0 rfl
  have k0 := y0.cell 0 rfl
  go_enter Try.func28, Try.ntmps28
  go_wp2
  go_ret
  exact ⟨rfl, b0⟩

theorem find_idx (l : List Prt) (seq : Int) : idxR (fun x => x.seq == seq) l = if findSeq l seq < l.length then (findSeq l seq : Int) else -1 := rfl

set_option maxRecDepth 100000 in
set_option maxHeartbeats 8000000 in
theorem stagain_any (A : Option Addr) (n c : Nat) (l : List Prt) (seq a : Int) (w : World) (hs : Se w A n c l) (hn : n ≤ 1000) :
    Calls Try.prog 13 #[.slice A n c, .int .i64 seq, .int .i64 a] w fun e w' => TellS w w' e (againR l seq a) := by
  unfold TellS
  obtain ⟨B, hB⟩ : ∃ B, w.heap.size = B := ⟨_, rfl⟩
  rw [hB]
  have hl := hs.rd.len
  have e0 := Bx.new w 3 [.int .i64 seq]
  rw [hB] at e0
  have b0 : Below B w (w.alloc (.cells #[.int .i64 seq] 3)) := by rw [← hB]; exact (Below.refl _ _).alloc (Nat.le_refl _) _
  have hs0 := hs.alloc (.cells #[.int .i64 seq] 3)
  obtain ⟨y, hy⟩ : ∃ y, againR l seq a = y := ⟨_, rfl⟩
  rw [hy]
  have HY := Lib.hid hy
  have HL := Lib.hid hl
  clear hy hs hl
  go_enter Try.func13, Try.ntmps13
  go_upto_region 1 with fail
  change Code.wp _ _ _ _ (w.alloc (.cells #[.int .i64 seq] 3))
  generalize w.alloc (.cells #[.int .i64 seq] 3) = w1 at e0 b0 hs0 ⊢
  have hm := stmay_any A n c l w1 hs0
  cases hk : smayB l with
  | false =>
    have hy := HY.out
    rw [again_no (fun h => by rw [hk] at h; exact absurd h.1 (by simp))] at hy
    subst hy
    rw [hk] at hm
    clear HY hk
    go_wp2_with (go_at_call 17; refine hm.mono ?_; rintro e w2 ⟨rfl, hb2⟩; have b2 := b0.trans (hb2.mono (Nat.le_of_lt e0.lt)); have e2 := e0.kept hb2; have hs2 := hs0.keep hb2)
    go_ret2
    exact ⟨none, 0, 0, rfl, Sne.none _ _, b2⟩
  | true =>
  rw [hk] at hm
  cases ht : t60 a with
  | false =>
    have hy := HY.out
    rw [again_no (fun h => by rw [ht] at h; exact absurd h.2 (by simp))] at hy
    subst hy
    clear HY hk
    go_wp2_with (first | (go_at_call 17; refine hm.mono ?_; rintro e w2 ⟨rfl, hb2⟩; have b2 := b0.trans (hb2.mono (Nat.le_of_lt e0.lt)); have e2 := e0.kept hb2; have hs2 := hs0.keep hb2) | (go_at_call 26; refine (within60 _ _).mono ?_; rintro e wx ⟨rfl, rfl⟩))
    go_ret2
    exact ⟨none, 0, 0, rfl, Sne.none _ _, b2⟩
  | true =>
  have hok : smayB l = true ∧ t60 a = true := ⟨hk, ht⟩
  have HOK := Lib.hid hok
  obtain ⟨hle, hch⟩ := (smay_iff l).1 hk
  have hn5 : n ≤ 500 := by have := HL.out; omega
  have HCH := Lib.hid hch
  clear hok hk hle hch
  go_upto_region 3 with (first | (go_at_call 17; refine hm.mono ?_; rintro e w2 ⟨rfl, hb2⟩; have b2 := b0.trans (hb2.mono (Nat.le_of_lt e0.lt)); have e2 := e0.kept hb2; have hs2 := hs0.keep hb2) | (go_at_call 26; refine (within60 _ _).mono ?_; rintro e wx ⟨rfl, rfl⟩))
  clear hm ht
  have hfi := find_idx l seq
  obtain ⟨k, hfk⟩ : ∃ k, findSeq l seq = k := ⟨_, rfl⟩
  have HF := Lib.hid hfk
  rw [hfk] at hfi
  clear hfk
  by_cases hkl : k < l.length
  case neg =>
    rw [if_neg hkl] at hfi
    have hy := HY.out
    rw [again_none HOK.out (by rw [HF.out]; exact hkl)] at hy
    subst hy
    have hkn : ¬ k < n := by rw [← HL.out]; exact hkl
    clear HY hkl
    go_wp2_with (go_at_call 27; refine (idxP_any 28 ent_again1 _ (fun x => x.seq == seq) A n c l _ hs2 (Lib.hid (fun W hW i hi => again1_any _ seq _ W (e2.kept hW)))).mono ?_; rintro e w3 ⟨rfl, hb3⟩; have b3 := b2.trans (hb3.mono (Nat.le_of_lt e2.lt)); have hs3 := hs2.keep hb3; have e3 := e2.kept hb3)
    go_ret2
    exact ⟨none, 0, 0, rfl, Sne.none _ _, b3⟩
  rw [if_pos hkl] at hfi
  have HKL := Lib.hid hkl
  have hlt : k < n := by rw [← HL.out]; exact hkl
  have hk0 : (k : Int) < (n : Int) := by omega
  have hk1 : decide ((k : Int) < 0) = false := decide_eq_false (by omega)
  clear hkl
  go_upto_region 4 with (go_at_call 27; refine (idxP_any 28 ent_again1 _ (fun x => x.seq == seq) A n c l _ hs2 (Lib.hid (fun W hW i hi => again1_any _ seq _ W (e2.kept hW)))).mono ?_; rintro e w3 ⟨rfl, hb3⟩; have b3 := b2.trans (hb3.mono (Nat.le_of_lt e2.lt)); have hs3 := hs2.keep hb3; have e3 := e2.kept hb3)
  clear hfi
  have hsx := hs3
  have HS3 := Lib.hid hs3
  obtain ⟨b, o, rfl, hbl, hc⟩ := hsx.rd.at_ (by omega)
  have X := prt_at hc hlt
  have hpk := (HCH.out k HKL.out).1
  have hpw := hs3.rd.ok.ge (i := k) HKL.out
  obtain ⟨p, hp⟩ : ∃ p, ge l k = p := ⟨_, rfl⟩
  rw [hp] at X hpk hpw
  have c4 := X.c4; have c5 := X.c5
  have HP := Lib.hid hp; have HPK := Lib.hid hpk; have HPW := Lib.hid hpw
  have ht2 := hpk.t2
  clear hsx hc hp hpk hpw X hs3 hs2 hs0 e2 e0
  cases h5 : p.came with
  | true =>
    rw [h5] at c5
    have hy := HY.out
    rw [again_bad HOK.out HF.out HKL.out (by rw [HP.out]; exact .inl h5)] at hy
    subst hy
    clear HY h5
    go_wp2_with fail
    go_ret2
    exact ⟨none, 0, 0, rfl, Sne.none _ _, b3⟩
  | false =>
  rw [h5] at c5
  by_cases h6 : p.tries = 1000
  · rw [h6] at c4
    have hy := HY.out
    rw [again_bad HOK.out HF.out HKL.out (by rw [HP.out]; exact .inr (by omega))] at hy
    subst hy
    clear HY h5 h6
    go_wp2_with fail
    go_ret2
    exact ⟨none, 0, 0, rfl, Sne.none _ _, b3⟩
  have d6 : (p.tries == 1000) = false := by simpa using h6
  have hy := HY.out
  rw [again_ok HOK.out HF.out HKL.out (by rw [HP.out, h5]; simp; omega), HP.out] at hy
  subst hy
  have t1 := HPK.out.t1
  have hs1 : IntKind.i64.wrap (p.tries + 1) = p.tries + 1 := IntWalk.i64_in _ (by omega)
  obtain ⟨tr, htr⟩ : ∃ t, p.tries = t := ⟨_, rfl⟩
  have h6' : p.tries ≤ 999 := by omega
  have HT6 := Lib.hid h6'; have HH5 := Lib.hid h5
  rw [htr] at c4 d6 hs1
  have HTR := Lib.hid htr
  have hB3 : B ≤ w3.heap.size := Nat.le_of_lt e3.lt
  clear HY h5 h6 h6' htr t1 ht2
  go_upto_region 7 with (go_at_call 24; refine (stclone_any (some ⟨b, o, none⟩) n c l _ HS3.out (by omega)).mono ?_; rintro e w4 ⟨R, d, rfl, hg4, hb4⟩)
  have b4 : Below B w w4 := b3.trans (hb4.mono hB3)
  have hg4' := goe_mono hg4 hB3
  obtain ⟨g, cap, hgf, hgB1, hgB2⟩ := hg4'.row.form (by omega)
  cases hgf
  clear c4 c5 hg4 hb4 hb3 hbl
  have i9 : k * 9 + 9 ≤ n * 9 := by omega
  have z3 := hg4'.row.cellAt (k * 9 + 3) (by have e9 : n * El.k Prt = n * 9 := rfl; omega)
  have f3 := hg4'.row.frozenAt (k * 9 + 3)
  have hge : ge l k = p := HP.out
  have ha64 : i64 a := by have := (t60_iff a).1 HOK.out.2; unfold i64; omega
  have ht64 : i64 (p.tries + 1) := by have := HPK.out.t1; have := HT6.out; unfold i64; omega
  have q1 := hg4'.set (i := k) (j := 3) (u := .int .i64 a) (y := { p with at_ := a }) hlt (by decide) (by rw [hge]; rfl) ⟨HPW.out.seq, HPW.out.len, HPW.out.dsn, ha64, HPW.out.tries, HPW.out.total, HPW.out.last⟩
  obtain ⟨q1a, q1b⟩ := q1
  have q2 := q1a.set (i := k) (j := 4) (u := .int .i64 (p.tries + 1)) (y := { p with at_ := a, tries := p.tries + 1 }) hlt (by decide) (by rw [ge_set HKL.out, if_pos rfl]; rfl) ⟨HPW.out.seq, HPW.out.len, HPW.out.dsn, ha64, ht64, HPW.out.total, HPW.out.last⟩
  rw [List.set_set] at q2
  obtain ⟨q2a, q2b⟩ := q2
  have q3 := q2a.set (i := k) (j := 6) (u := .bool false) (y := againP p a) hlt (by decide) (by rw [ge_set HKL.out, if_pos rfl]; rfl) ⟨HPW.out.seq, HPW.out.len, HPW.out.dsn, ha64, ht64, HPW.out.total, HPW.out.last⟩
  rw [List.set_set] at q3
  obtain ⟨q3a, q3b⟩ := q3
  rw [HTR.out] at q2a q2b q3a q3b
  change Goe (w4.setCell ⟨g, k * 9 + 3, none⟩ _) _ _ _ _ _ at q1a
  change Goe ((w4.setCell ⟨g, k * 9 + 3, none⟩ _).setCell ⟨g, k * 9 + 4, none⟩ _) _ _ _ _ _ at q2a
  change Goe (((w4.setCell ⟨g, k * 9 + 3, none⟩ _).setCell ⟨g, k * 9 + 4, none⟩ _).setCell ⟨g, k * 9 + 6, none⟩ _) _ _ _ _ _ at q3a
  have z3' := z3.trans (evals_at l k 3 (.int .i64 p.at_) HKL.out (by rw [hge]; rfl))
  have e9 : n * El.k Prt = n * 9 := rfl
  have z4 := (q1a.row.cellAt (k * 9 + 4) (by omega)).trans (evals_at _ k 4 (.int .i64 p.tries) (by rw [List.length_set]; exact HKL.out) (by rw [ge_set HKL.out, if_pos rfl]; rfl))
  rw [HTR.out] at z4
  have f4 := q1a.row.frozenAt (k * 9 + 4)
  have z6 := (q2a.row.cellAt (k * 9 + 6) (by omega)).trans (evals_at _ k 6 (.bool p.lost) (by rw [List.length_set]; exact HKL.out) (by rw [ge_set HKL.out, if_pos rfl]; rfl))
  have f6 := q2a.row.frozenAt (k * 9 + 6)
  have b5 : Below B w (w4.setCell ⟨g, k * 9 + 3, none⟩ (.int .i64 a)) := b4.setCell (p := ⟨g, k * 9 + 3, none⟩) hgB1 _
  have b6 := b5.setCell (p := ⟨g, k * 9 + 4, none⟩) hgB1 (.int .i64 (tr + 1))
  have b7 := b6.setCell (p := ⟨g, k * 9 + 6, none⟩) hgB1 (.bool false)
  have HQ3 := Lib.hid q3a
  clear q1a q1b q2a q2b q3a q3b z3 e9 hgB1 hgB2 i9
  go_upto_region 8 with fail
  clear z3' f3 hg4'
  generalize w4.setCell ⟨g, k * 9 + 3, none⟩ (.int .i64 a) = w5 at z4 f4 z6 f6 b5 b6 b7 HQ3 ⊢
  go_upto_region 9 with fail
  clear z4 f4
  generalize w5.setCell ⟨g, k * 9 + 4, none⟩ (.int .i64 (tr + 1)) = w6 at z6 f6 b6 b7 HQ3 ⊢
  go_wp2_with fail
  obtain ⟨G, d', hG, hsn⟩ := HQ3.out.sne
  cases hG
  go_ret2
  exact ⟨_, _, _, rfl, hsn, b7⟩
end Go.Proofs.Ytnbamacdcggaeaa
