/- FoErr StRef6 StL5 FlO FlH RkRef4. -/
import Derived.Test.YtbijhkhkigdddaaGreatM11
set_option linter.all false
set_option maxRecDepth 100000
set_option maxHeartbeats 32000000
namespace Go.Proofs.YtbijhkhkigdddaaGreat
open Go.RowKit
theorem send_err {f : Fv} {c : Cf} {a b d e : Int} (h : (sendF f c a b d).2.2 = e) (he : e ≠ 0) : sendF f c a b d = (zfv, zprt, e) := by
 subst h
 unfold sendF at he ⊢
 split
 ·split
  ·split
   ·rfl
   ·next h1 h2 h3 => exfalso; apply he; rw [if_pos h1, if_pos h2, if_neg h3]
  ·rfl
 ·rfl
theorem again_err {f : Fv} {c : Cf} {d e : Int} (h : (againF f c d).2.2 = e) (he : e ≠ 0) : againF f c d = (zfv, zprt, e) := by
 subst h
 unfold againF at he ⊢
 split
 ·split
  ·split
   ·rfl
   ·next h1 h2 h3 => exfalso; apply he; rw [if_pos h1, if_pos h2, if_neg h3]
  ·rfl
 ·rfl
theorem heard_err {f : Fv} {c : Cf} {t : Tv} {e : Int} (h : (heardF f c t).2.2 = e) (he : e ≠ 0) : heardF f c t = (zfv, [], e) := by
 subst h
 unfold heardF at he ⊢
 split
 ·split
  ·split
   ·split
    ·split
     ·next h1 h2 h3 h4 h5 => exfalso; apply he; rw [if_pos h1, if_pos h2, if_pos h3, if_pos h4, if_pos h5]
     ·rfl
    ·rfl
   ·rfl
  ·rfl
 ·rfl
theorem tick_err {f : Fv} {c : Cf} {now e : Int} (h : (tickF f c now).2.2 = e) (he : e ≠ 0) : tickF f c now = (zfv, 0, e) := by
 subst h
 unfold tickF at he ⊢
 split
 ·next h1 =>
  exfalso; apply he
  rw [if_pos h1]
  split
  ·rfl
  ·split <;> rfl
 ·rfl
theorem new_err {c : Cf} (h : fineB c = false) : newF c = (zfv, 1) := if_neg (by rw [h]; simp)
theorem new_yes {c : Cf} (h : fineB c = true) : newF c = (newFv c, 0) := if_pos h
theorem send_yes {f : Fv} {c : Cf} {dsn n now : Int} (h : (sendF f c dsn n now).2.2 = 0) : SendOk f c dsn n now ∧ f.up = true ∧ ¬ 500 ≤ f.l.length ∧ flightR f.l + n ≤ f.cw ∧ sendF f c dsn n now = (sentF f c dsn n now, partF f dsn n now, 0) := by
 unfold sendF at h ⊢
 by_cases h1 : SendOk f c dsn n now
 ·rw [if_pos h1] at h ⊢
  by_cases h2 : f.up = true
  ·rw [if_pos h2] at h ⊢
   by_cases h3 : f.cw < flightR f.l + n ∨ 500 ≤ f.l.length
   ·rw [if_pos h3] at h; cases h
   ·rw [if_neg h3]
    exact ⟨h1, h2, fun k => h3 (.inr k), by omega, rfl⟩
  ·rw [if_neg h2] at h; cases h
 ·rw [if_neg h1] at h; cases h
theorem again_yes {f : Fv} {c : Cf} {now : Int} (h : (againF f c now).2.2 = 0) : FvOk f c ∧ t60 now = true ∧ f.up = true ∧ firstLost f.l < f.l.length ∧ flightR f.l + (ge f.l (firstLost f.l)).len ≤ f.cw ∧ againF f c now = (againFv f c now, againP (ge f.l (firstLost f.l)) now, 0) := by
 unfold againF at h ⊢
 by_cases h1 : fmayB f c = true ∧ t60 now = true
 ·rw [if_pos h1] at h ⊢
  by_cases h2 : f.up = true ∧ firstLost f.l < f.l.length
  ·rw [if_pos h2] at h ⊢
   by_cases h3 : f.cw < flightR f.l + (ge f.l (firstLost f.l)).len
   ·rw [if_pos h3] at h; cases h
   ·rw [if_neg h3]
    have hf := (fmay_iff f c).1 h1.1
    have ha := again_ok hf h1.2 h2.2
    refine ⟨hf, h1.2, h2.1, h2.2, by omega, ?_⟩
    rw [ha.l, ge_set h2.2, if_pos rfl]
  ·rw [if_neg h2] at h; cases h
 ·rw [if_neg h1] at h; cases h
theorem heard_yes {f : Fv} {c : Cf} {t : Tv} (h : (heardF f c t).2.2 = 0) : HrOk f c t ∧ (heardR f.l t.got t.sk).2.2 = 0 ∧ HearOk f c t (heardF f c t).1 (heardF f c t).2.1 := by
 unfold heardF at h ⊢
 by_cases h1 : HrOk f c t
 ·rw [if_pos h1] at h ⊢
  by_cases h2 : f.up = true
  ·rw [if_pos h2] at h ⊢
   by_cases h3 : (heardR f.l t.got t.sk).2.2 = 0
   ·rw [if_pos h3] at h ⊢
    by_cases h4 : (markH (step2 f c t) t (toldL t.got t.sk f.l)).2.2 = 0
    ·rw [if_pos h4] at h ⊢
     by_cases h5 : (rateH (step2 f c t) t (toldL t.got t.sk f.l)).2 = 0
     ·rw [if_pos h5]
      exact ⟨h1, h3, heard_valid h1 h2 h3 h4 h5⟩
     ·rw [if_neg h5] at h; exact absurd h h5
    ·rw [if_neg h4] at h; exact absurd h h4
   ·rw [if_neg h3] at h; exact absurd h h3
  ·rw [if_neg h2] at h; cases h
 ·rw [if_neg h1] at h; cases h
theorem tick_yes {f : Fv} {c : Cf} {now : Int} (h : (tickF f c now).2.2 = 0) : FvOk f c ∧ t60 now = true ∧ DueOk f c now (tickF f c now).1 (tickF f c now).2.1 := by
 by_cases h1 : fmayB f c = true ∧ t60 now = true
 ·exact ⟨(fmay_iff f c).1 h1.1, h1.2, (tick_ok ((fmay_iff f c).1 h1.1) h1.2).2⟩
 ·unfold tickF at h; rw [if_neg h1] at h; cases h
theorem new_send {c : Cf} (h : CfOk c) : sendF (newFv c) c 7 c.mss 5 = (sentF (newFv c) c 7 c.mss 5, partF (newFv c) 7 c.mss 5, 0) := by
 have hf := new_ok h
 have := h.m0; have := h.m1; have := h.w0
 have hs : SendOk (newFv c) c 7 c.mss 5 := ⟨(fmay_iff _ _).2 hf, h.m0, Int.le_refl _, by decide, by decide, by show 0 + c.mss ≤ _; omega⟩
 unfold sendF
 rw [if_pos hs, if_pos (show (newFv c).up = true from rfl), if_neg]
 have h0 : flightR (newFv c).l = 0 := rfl
 rw [h0]
 rintro (k | k)
 ·have k2 : min (10 * c.mss) c.most < 0 + c.mss := k
  omega
 ·have k2 : 500 ≤ 0 := k
  omega
theorem new_again {c : Cf} (h : CfOk c) : againF (newFv c) c 5 = (zfv, zprt, 3) := by
 unfold againF
 rw [if_pos ⟨(fmay_iff _ _).2 (new_ok h), by decide⟩, if_neg (fun k => by have := k.2; exact absurd this (Nat.lt_irrefl 0))]
theorem new_tick {c : Cf} (h : CfOk c) : tickF (newFv c) c 1000000000 = (newFv c, 0, 0) := by
 unfold tickF
 rw [if_pos ⟨(fmay_iff _ _).2 (new_ok h), by decide⟩, if_pos]
 show tdueR ztm 1000000000 = 0
 decide
theorem ex_full2 : sendF (exF 10) someC 1000 100 0 = (zfv, zprt, 4) := send_err ex_full (by decide)
def exTold : List Prt := (heardF (exF 10) someC exT).2.1
theorem ex_heard2 : heardF (exF 10) someC exT = (exG, exTold, 0) := Prod.ext rfl (Prod.ext rfl ex_heard.1)
theorem again_no {l : List Prt} {seq a : Int} (h : ¬ (smayB l = true ∧ t60 a = true)) : againR l seq a = ([], 1) := if_neg h
theorem again_none {l : List Prt} {seq a : Int} (h : smayB l = true ∧ t60 a = true) (k : ¬ findSeq l seq < l.length) : againR l seq a = ([], 3) := by unfold againR; rw [if_pos h, if_neg k]
theorem again_bad {l : List Prt} {seq a : Int} {k : Nat} (h : smayB l = true ∧ t60 a = true) (hf : findSeq l seq = k) (hk : k < l.length) (hb : (ge l k).came = true ∨ 1000 ≤ (ge l k).tries) : againR l seq a = ([], 3) := by unfold againR; rw [if_pos h, hf, if_pos hk, if_pos hb]
theorem stagain_ok {l : List Prt} {seq a : Int} {k : Nat} (h : smayB l = true ∧ t60 a = true) (hf : findSeq l seq = k) (hk : k < l.length) (hb : ¬ ((ge l k).came = true ∨ 1000 ≤ (ge l k).tries)) : againR l seq a = (l.set k (againP (ge l k) a), 0) := by unfold againR; rw [if_pos h, hf, if_pos hk, if_neg hb]
def idxR {α : Type} (p : α → Bool) (l : List α) : Int := if l.findIdx p < l.length then (l.findIdx p : Int) else -1
theorem idxR_at {α : Type} [El α] {p : α → Bool} {l : List α} {k : Nat} (hk : k < l.length) (h : ∀ i, i < k → p (ge l i) = false) (hp : p (ge l k) = true) : idxR p l = (k : Int) := by
 have hf : l.findIdx p = k := by
  rw [List.findIdx_eq hk]
  refine ⟨by rw [← ge_eq hk]; exact hp, fun j hj => ?_⟩
  rw [← ge_eq (by omega)]
  exact h j hj
 unfold idxR; rw [hf, if_pos hk]
theorem idxR_none {α : Type} [El α] {p : α → Bool} {l : List α} (h : ∀ i, i < l.length → p (ge l i) = false) : idxR p l = -1 := by
 have hf : l.findIdx p = l.length := by
  rw [List.findIdx_eq_length]
  intro x hx
  obtain ⟨i, hi, rfl⟩ := List.getElem_of_mem hx
  rw [← ge_eq hi]
  exact h i hi
 unfold idxR; rw [hf, if_neg (by omega)]
theorem idxP_any (f : Nat) (hent : ∀ args w, (callFunc f args).run Tryz.prog w = .ok (.enter f args) w) (q : Addr) (p : Prt → Bool) (A : Option Addr) (n c : Nat) (l : List Prt) (w : World) (hs : Se w A n c l)
  (hcall : Hid (∀ W, Below w.heap.size w W → ∀ i, i < n → Calls Tryz.prog f #[.agg #[.int .i64 (ge l i).seq, .int .i64 (ge l i).len, .int .i64 (ge l i).dsn, .int .i64 (ge l i).at_, .int .i64 (ge l i).tries, .bool (ge l i).came, .bool (ge l i).lost, .int .i64 (ge l i).total, .int .i64 (ge l i).last], .pointer (some q)] W fun e W' => e = .returned (.bool (p (ge l i))) ∧ Below W.heap.size W W')) :
  Calls Tryz.prog 68 #[.slice A n c, .func (.func f) #[] #[.pointer (some q)]] w fun e w' => e = .returned (.int .i64 (idxR p l)) ∧ Below w.heap.size w w' := by
 have hl := hs.rd.len
 have m1 := hs.le
 have m2 := hs.max
 have m3 : n ≤ 9223372036854775807 := by unfold maxLen at m2; omega
 clear m1 m2
 obtain ⟨x, hx⟩ : ∃ x, idxR p l = x := ⟨_, rfl⟩
 rw [hx]
 have HX := Zh hx
 have HA := Zh hs; have HL := Zh hl
 clear hx hs hl
 go_enter Tryz.func68, Tryz.ntmps68
 go_wp2_with fail
 go_loopw [8] (fun i wr => ∃ k : Nat, k ≤ n ∧ i = .int .i64 (k : Int) ∧ Hid (∀ i, i < k → p (ge l i) = false) ∧ Below w.heap.size w wr) (fun i _ => n - (intOf i).toNat)
 case atStart => exact ⟨0, Nat.zero_le _, rfl, Zh (fun i hi => absurd hi (by omega)), Below.refl _ _⟩
 case round =>
  obtain ⟨k, hk, rfl, HNO, hb⟩ := hrel
  by_cases hlt : k < n
  ·have dlt : decide (k < n) = true := Zt hlt
   have hsr : Se wr A n c l := HA.out.keep hb
   obtain ⟨b, o, rfl, hbl, hc⟩ := hsr.rd.at_ (by omega)
   have X := prt_at hc hlt
   have hkl : k < l.length := by rw [HL.out]; exact hlt
   have hf := hcall.out wr hb k hlt
   have hgo : p (ge l k) = false → ∀ i, i < k + 1 → p (ge l i) = false := fun h i hi => by
    by_cases e : i = k
    ·subst e; exact h
    ·exact HNO.out i (by omega)
   have hstop : p (ge l k) = true → x = (k : Int) := fun h => by rw [← HX.out]; exact idxR_at hkl HNO.out h
   obtain ⟨y, hy⟩ : ∃ y, ge l k = y := ⟨_, rfl⟩
   rw [hy] at X hf hgo hstop
   obtain ⟨x0, x1, x2, x3, x4, x5, x6, x7, x8⟩ := X
   have HGO := Zh hgo; have HSTOP := Zh hstop
   clear hc hy hsr hkl hgo hstop
   cases hz : p y with
   | false =>
    rw [hz] at hf
    have HGO2 := Zh (HGO.out hz)
    clear hz
    go_wp2_with (go_at_fn f; refine hf.mono ?_; rintro e wv ⟨rfl, hbv⟩)
    go_roundw
    case rel => exact ⟨k + 1, by omega, by go_num, HGO2, hb.trans (hbv.mono hb.size)⟩
    case measure => simp [intOf]; omega
   | true =>
    rw [hz] at hf
    have hF := HSTOP.out hz
    subst hF
    clear hz
    go_wp2_with (go_at_fn f; refine hf.mono ?_; rintro e wv ⟨rfl, hbv⟩)
    go_ret
    exact ⟨rfl, hb.trans (hbv.mono hb.size)⟩
  ·obtain rfl : k = n := by omega
   have hF : x = -1 := by rw [← HX.out]; exact idxR_none (by rw [HL.out]; exact HNO.out)
   subst hF
   have dlt : decide (k < k) = false := Zf (by omega)
   go_wp2_with fail
   go_ret
   exact ⟨rfl, hb⟩
theorem ent_again1 : ∀ args w, (callFunc 119 args).run Tryz.prog w = .ok (.enter 119 args) w := enters_of Tryz.func119 (by kernel_rfl) rfl
theorem again1_any (x : Prt) (seq : Int) (Q : Nat) (w : World) (hq : Bx w Q 3 [seq]) :
  Calls Tryz.prog 119 #[.agg #[x.seq, x.len, x.dsn, x.at_, x.tries, x.came, x.lost, x.total, x.last], .pointer (some ⟨Q, 0, none⟩)] w fun e w' => e = .returned (.bool (x.seq == seq)) ∧ Below w.heap.size w w' := by
 obtain ⟨B, hB⟩ : ∃ B, w.heap.size = B := ⟨_, rfl⟩
 have e0 := Bx.new w 57 [x.seq, x.len, x.dsn, x.at_, x.tries, x.came, x.lost, x.total, x.last]
 have y0 := hq.alloc (.cells #[x.seq, x.len, x.dsn, x.at_, x.tries, x.came, x.lost, x.total, x.last] 57)
 rw [hB] at e0 ⊢
 have b0 : Below B w (w.alloc (.cells #[x.seq, x.len, x.dsn, x.at_, x.tries, x.came, x.lost, x.total, x.last] 57)) := by rw [← hB]; exact (Zb).alloc Zr _
 have c0 := e0.cell 0 rfl
 have k0 := y0.cell 0 rfl
 go_enter Tryz.func119, Tryz.ntmps119
 go_wp2
 go_ret
 exact ⟨rfl, b0⟩
theorem find_idx (l : List Prt) (seq : Int) : idxR (fun x => x.seq == seq) l = if findSeq l seq < l.length then (findSeq l seq : Int) else -1 := rfl
theorem stagain_any (A : Option Addr) (n c : Nat) (l : List Prt) (seq a : Int) (w : World) (hs : Se w A n c l) (hn : n ≤ 1000) :
  Calls Tryz.prog 71 #[.slice A n c, seq, a] w fun e w' => TellS w w' e (againR l seq a) := by
 unfold TellS
 obtain ⟨B, hB⟩ : ∃ B, w.heap.size = B := ⟨_, rfl⟩
 rw [hB]
 have hl := hs.rd.len
 have e0 := Bx.new w 3 [seq]
 rw [hB] at e0
 have b0 : Below B w (w.alloc (.cells #[seq] 3)) := by rw [← hB]; exact (Zb).alloc Zr _
 have hs0 := hs.alloc (.cells #[seq] 3)
 obtain ⟨y, hy⟩ : ∃ y, againR l seq a = y := ⟨_, rfl⟩
 rw [hy]
 have HY := Zh hy
 have HL := Zh hl
 clear hy hs hl
 go_enter Tryz.func71, Tryz.ntmps71
 go_upto_region 1 with fail
 change Code.wp _ _ _ _ (w.alloc (.cells #[seq] 3))
 generalize w.alloc (.cells #[seq] 3) = w1 at e0 b0 hs0 ⊢
 have hm := stmay_any A n c l w1 hs0
 cases hk : smayB l with
 | false =>
  have hy := HY.out
  rw [again_no (fun h => by rw [hk] at h; exact absurd h.1 (by simp))] at hy
  subst hy
  rw [hk] at hm
  clear HY hk
  go_wp2_with (go_at_call 97; refine hm.mono ?_; rintro e w2 ⟨rfl, hb2⟩; have b2 := b0.trans (hb2.mono (Zl e0.lt)); have e2 := e0.kept hb2; have hs2 := hs0.keep hb2)
  go_ret2
  exact ⟨none, 0, 0, rfl, Sne.none _ _, b2⟩
 | true =>
 rw [hk] at hm
 cases ht : t60 a with
 | false =>
  have hy := HY.out
  rw [again_no (fun h => by rw [ht] at h; exact absurd h.2 (by simp))] at hy
  subst hy
  clear HY hk
  go_wp2_with (first | (go_at_call 97; refine hm.mono ?_; rintro e w2 ⟨rfl, hb2⟩; have b2 := b0.trans (hb2.mono (Zl e0.lt)); have e2 := e0.kept hb2; have hs2 := hs0.keep hb2) | (go_at_call 118; refine (within60 _ _).mono ?_; rintro e wx ⟨rfl, rfl⟩))
  go_ret2
  exact ⟨none, 0, 0, rfl, Sne.none _ _, b2⟩
 | true =>
 have hok : smayB l = true ∧ t60 a = true := ⟨hk, ht⟩
 have HOK := Zh hok
 obtain ⟨hle, hch⟩ := (smay_iff l).1 hk
 have hn5 : n ≤ 500 := by have := HL.out; omega
 have HCH := Zh hch
 clear hok hk hle hch
 go_upto_region 3 with (first | (go_at_call 97; refine hm.mono ?_; rintro e w2 ⟨rfl, hb2⟩; have b2 := b0.trans (hb2.mono (Zl e0.lt)); have e2 := e0.kept hb2; have hs2 := hs0.keep hb2) | (go_at_call 118; refine (within60 _ _).mono ?_; rintro e wx ⟨rfl, rfl⟩))
 clear hm ht
 have hfi := find_idx l seq
 obtain ⟨k, hfk⟩ : ∃ k, findSeq l seq = k := ⟨_, rfl⟩
 have HF := Zh hfk
 rw [hfk] at hfi
 clear hfk
 by_cases hkl : k < l.length
 case neg =>
  rw [if_neg hkl] at hfi
  have hy := HY.out
  rw [again_none HOK.out (by rw [HF.out]; exact hkl)] at hy
  subst hy
  have hkn : ¬ k < n := by rw [← HL.out]; exact hkl
  clear HY hkl
  go_wp2_with (go_at_call 68; refine (idxP_any 119 ent_again1 _ (fun x => x.seq == seq) A n c l _ hs2 (Zh (fun W hW i hi => again1_any _ seq _ W (e2.kept hW)))).mono ?_; rintro e w3 ⟨rfl, hb3⟩; have b3 := b2.trans (hb3.mono (Zl e2.lt)); have hs3 := hs2.keep hb3; have e3 := e2.kept hb3)
  go_ret2
  exact ⟨none, 0, 0, rfl, Sne.none _ _, b3⟩
 rw [if_pos hkl] at hfi
 have HKL := Zh hkl
 have hlt : k < n := by rw [← HL.out]; exact hkl
 have hk0 : (k : Int) < (n : Int) := by omega
 have hk1 : decide ((k : Int) < 0) = false := Zf (by omega)
 clear hkl
 go_upto_region 4 with (go_at_call 68; refine (idxP_any 119 ent_again1 _ (fun x => x.seq == seq) A n c l _ hs2 (Zh (fun W hW i hi => again1_any _ seq _ W (e2.kept hW)))).mono ?_; rintro e w3 ⟨rfl, hb3⟩; have b3 := b2.trans (hb3.mono (Zl e2.lt)); have hs3 := hs2.keep hb3; have e3 := e2.kept hb3)
 clear hfi
 have hsx := hs3
 have HS3 := Zh hs3
 obtain ⟨b, o, rfl, hbl, hc⟩ := hsx.rd.at_ (by omega)
 have X := prt_at hc hlt
 have hpk := (HCH.out k HKL.out).1
 have hpw := hs3.rd.ok.ge (i := k) HKL.out
 obtain ⟨p, hp⟩ : ∃ p, ge l k = p := ⟨_, rfl⟩
 rw [hp] at X hpk hpw
 have c4 := X.c4; have c5 := X.c5
 have HP := Zh hp; have HPK := Zh hpk; have HPW := Zh hpw
 have ht2 := hpk.t2
 clear hsx hc hp hpk hpw X hs3 hs2 hs0 e2 e0
 cases h5 : p.came with
 | true =>
  rw [h5] at c5
  have hy := HY.out
  rw [again_bad HOK.out HF.out HKL.out (by rw [HP.out]; exact .inl h5)] at hy
  subst hy
  clear HY h5
  go_wp2_with fail
  go_ret2
  exact ⟨none, 0, 0, rfl, Sne.none _ _, b3⟩
 | false =>
 rw [h5] at c5
 by_cases h6 : p.tries = 1000
 ·rw [h6] at c4
  have hy := HY.out
  rw [again_bad HOK.out HF.out HKL.out (by rw [HP.out]; exact .inr (by omega))] at hy
  subst hy
  clear HY h5 h6
  go_wp2_with fail
  go_ret2
  exact ⟨none, 0, 0, rfl, Sne.none _ _, b3⟩
 have d6 : (p.tries == 1000) = false := by simpa using h6
 have hy := HY.out
 rw [stagain_ok HOK.out HF.out HKL.out (by rw [HP.out, h5]; simp; omega), HP.out] at hy
 subst hy
 have t1 := HPK.out.t1
 have hs1 : IntKind.i64.wrap (p.tries + 1) = p.tries + 1 := IntWalk.i64_in _ (by omega)
 obtain ⟨tr, htr⟩ : ∃ t, p.tries = t := ⟨_, rfl⟩
 have h6' : p.tries ≤ 999 := by omega
 have HT6 := Zh h6'; have HH5 := Zh h5
 rw [htr] at c4 d6 hs1
 have HTR := Zh htr
 have hB3 : B ≤ w3.heap.size := Zl e3.lt
 clear HY h5 h6 h6' htr t1 ht2
 go_upto_region 7 with (go_at_call 112; refine (stclone_any (some ⟨b, o, none⟩) n c l _ HS3.out (by omega)).mono ?_; rintro e w4 ⟨R, d, rfl, hg4, hb4⟩)
 have b4 : Below B w w4 := b3.trans (hb4.mono hB3)
 have hg4' := goe_mono hg4 hB3
 obtain ⟨g, cap, hgf, hgB1, hgB2⟩ := hg4'.row.form (by omega)
 cases hgf
 clear c4 c5 hg4 hb4 hb3 hbl
 have i9 : k * 9 + 9 ≤ n * 9 := by omega
 have z3 := hg4'.row.cellAt (k * 9 + 3) (by have e9 : n * El.k Prt = n * 9 := rfl; omega)
 have f3 := hg4'.row.frozenAt (k * 9 + 3)
 have hge : ge l k = p := HP.out
 have ha64 : i64 a := by have := (t60_iff a).1 HOK.out.2; unfold i64; omega
 have ht64 : i64 (p.tries + 1) := by have := HPK.out.t1; have := HT6.out; unfold i64; omega
 have q1 := hg4'.set (i := k) (j := 3) (u := .int .i64 a) (y := { p with at_ := a }) hlt (by decide) (by rw [hge]; rfl) ⟨HPW.out.seq, HPW.out.len, HPW.out.dsn, ha64, HPW.out.tries, HPW.out.total, HPW.out.last⟩
 obtain ⟨q1a, q1b⟩ := q1
 have q2 := q1a.set (i := k) (j := 4) (u := .int .i64 (p.tries + 1)) (y := { p with at_ := a, tries := p.tries + 1 }) hlt (by decide) (by rw [ge_set HKL.out, if_pos rfl]; rfl) ⟨HPW.out.seq, HPW.out.len, HPW.out.dsn, ha64, ht64, HPW.out.total, HPW.out.last⟩
 rw [List.set_set] at q2
 obtain ⟨q2a, q2b⟩ := q2
 have q3 := q2a.set (i := k) (j := 6) (u := .bool false) (y := againP p a) hlt (by decide) (by rw [ge_set HKL.out, if_pos rfl]; rfl) ⟨HPW.out.seq, HPW.out.len, HPW.out.dsn, ha64, ht64, HPW.out.total, HPW.out.last⟩
 rw [List.set_set] at q3
 obtain ⟨q3a, q3b⟩ := q3
 rw [HTR.out] at q2a q2b q3a q3b
 change Goe (w4.setCell ⟨g, k * 9 + 3, none⟩ _) _ _ _ _ _ at q1a
 change Goe ((w4.setCell ⟨g, k * 9 + 3, none⟩ _).setCell ⟨g, k * 9 + 4, none⟩ _) _ _ _ _ _ at q2a
 change Goe (((w4.setCell ⟨g, k * 9 + 3, none⟩ _).setCell ⟨g, k * 9 + 4, none⟩ _).setCell ⟨g, k * 9 + 6, none⟩ _) _ _ _ _ _ at q3a
 have z3' := z3.trans (evals_at l k 3 (.int .i64 p.at_) HKL.out (by rw [hge]; rfl))
 have e9 : n * El.k Prt = n * 9 := rfl
 have z4 := (q1a.row.cellAt (k * 9 + 4) (by omega)).trans (evals_at _ k 4 (.int .i64 p.tries) (by rw [List.length_set]; exact HKL.out) (by rw [ge_set HKL.out, if_pos rfl]; rfl))
 rw [HTR.out] at z4
 have f4 := q1a.row.frozenAt (k * 9 + 4)
 have z6 := (q2a.row.cellAt (k * 9 + 6) (by omega)).trans (evals_at _ k 6 (.bool p.lost) (by rw [List.length_set]; exact HKL.out) (by rw [ge_set HKL.out, if_pos rfl]; rfl))
 have f6 := q2a.row.frozenAt (k * 9 + 6)
 have b5 : Below B w (w4.setCell ⟨g, k * 9 + 3, none⟩ (.int .i64 a)) := b4.setCell (p := ⟨g, k * 9 + 3, none⟩) hgB1 _
 have b6 := b5.setCell (p := ⟨g, k * 9 + 4, none⟩) hgB1 (.int .i64 (tr + 1))
 have b7 := b6.setCell (p := ⟨g, k * 9 + 6, none⟩) hgB1 (.bool false)
 have HQ3 := Zh q3a
 clear q1a q1b q2a q2b q3a q3b z3 e9 hgB1 hgB2 i9
 go_upto_region 8 with fail
 clear z3' f3 hg4'
 generalize w4.setCell ⟨g, k * 9 + 3, none⟩ (.int .i64 a) = w5 at z4 f4 z6 f6 b5 b6 b7 HQ3 ⊢
 go_upto_region 9 with fail
 clear z4 f4
 generalize w5.setCell ⟨g, k * 9 + 4, none⟩ (.int .i64 (tr + 1)) = w6 at z6 f6 b6 b7 HQ3 ⊢
 go_wp2_with fail
 obtain ⟨G, d', hG, hsn⟩ := HQ3.out.sne
 cases hG
 go_ret2
 exact ⟨_, _, _, rfl, hsn, b7⟩
end Go.Proofs.YtbijhkhkigdddaaGreat
namespace Go.Proofs.YtbijhkhkigdddaaGreat
open Go.RowKit Go.Shelf
theorem cell_isc {W : World} {b i : Nat} {u : Value} (h : W.cell? ⟨b, i, none⟩ = some u) : ∃ o, W.heap[b]? = some o ∧ o.isCells = true := by
 unfold World.cell? at h
 cases hb : W.heap[b]? with
 | none => simp [hb] at h
 | some o =>
  refine ⟨o, rfl, ?_⟩
  cases o <;> simp [hb] at h ⊢ <;> first | rfl | (simp [Obj.isCells])
section
variable {n₀ S : Nat} {l : List Nat} {X Y : World} {p : Nat → Prop} {s : Fs} {f : Fv} {c : Cf} {now e : Int} {row : Option Nat}
theorem FlM.isc (h : FlM X p s f) : FlM X (fun b => p b ∧ ∃ o, X.heap[b]? = some o ∧ o.isCells = true) s f := by
 refine ⟨h.l, h.b, h.d, h.g, h.wide, fun h0 b o q e => ⟨h.p1 h0 b o q e, ?_⟩, fun h0 b o q e => ⟨h.p2 h0 b o q e, ?_⟩, fun h0 b o q e => ⟨h.p3 h0 b o q e, ?_⟩, fun h0 b o q e => ⟨h.p4 h0 b o q e, ?_⟩⟩
 ·obtain ⟨b', o', e', _, hc⟩ := h.l.rd.at_ h0; rw [e] at e'; cases e'; exact cell_isc (hc 0 h0 0 _ rfl)
 ·obtain ⟨b', o', e', _, hc⟩ := h.b.rd.at_ h0; rw [e] at e'; cases e'; exact cell_isc (hc 0 h0).1
 ·obtain ⟨b', o', e', _, hc⟩ := h.d.rd.at_ h0; rw [e] at e'; cases e'; exact cell_isc (hc 0 h0)
 ·obtain ⟨b', o', e', _, hc⟩ := h.g.rd.at_ h0; rw [e] at e'; cases e'; exact cell_isc (hc 0 h0)
theorem St.own (h : St n₀ l X S s f c now e) (hg : X.grownBy Y row) (hr : ∀ r, row = some r → ∃ o, X.heap[r]? = some o ∧ o.isCells = false) : St n₀ l Y S s f c now e := by
 have hf := h.fm.isc
 refine ⟨h.bx.grown hg (fun e => by obtain ⟨o, ho, hc⟩ := hr S e.symm; rw [show X.heap[S]? = _ from h.bx] at ho; cases ho; cases hc), ?_, h.s0, h.off, fun b k => Nat.lt_of_lt_of_le (h.old b k) hg.size⟩
 exact (hf.grown hg (fun b hb e => by obtain ⟨o, ho, hc⟩ := hb.2; obtain ⟨o', ho', hc'⟩ := hr b e; rw [ho] at ho'; cases ho'; rw [hc] at hc'; cases hc')).imp (fun b hb => hb.1)
theorem Thaw.own (h : Thaw X s) (hs : St n₀ l X S s f c now e) (hg : X.grownBy Y row) (hr : ∀ r, row = some r → ∃ o, X.heap[r]? = some o ∧ o.isCells = false) : Thaw Y s := fun h0 b o q e i => by
 have hb := (hs.fm.isc.p1 h0 b o q e).2
 obtain ⟨ob, ho, hc⟩ := hb
 have hlt : b < X.heap.size := (Array.getElem?_eq_some_iff.1 ho).1
 rw [froz_block (hg.block b hlt (fun e => by obtain ⟨o', ho', hc'⟩ := hr b e.symm; rw [ho] at ho'; cases ho'; rw [hc] at hc'; cases hc'))]
 exact h h0 b o q e i
end
end Go.Proofs.YtbijhkhkigdddaaGreat
namespace Go.Proofs.YtbijhkhkigdddaaGreat
open Go.RowKit
def smpD (d : Rv) (told : List Prt) : Rv :=
 if 0 < told.length then (if (sampR d (ge told (told.length - 1)).total (ge told (told.length - 1)).last).2.2 = 0 then (sampR d (ge told (told.length - 1)).total (ge told (told.length - 1)).last).1 else d) else d
def countG (f : Fv) (t : Tv) (told : List Prt) : Fv := { f with m := (markH f t told).1, d := smpD (rateH f t told).1 told }
def loseG (f : Fv) (c : Cf) (told : List Prt) (now : Int) : Fv := if 0 < told.length then lostF f c now else f
def turnG (f : Fv) (c : Cf) (t : Tv) : Fv := if f.rd ≤ t.got then roundF f c t.growth t.now else f
def settleG (f : Fv) (told : List Prt) : Fv := if 0 < told.length then { f with pb := false } else f
theorem markF_pb (f : Fv) (c : Cf) (n bytes : Int) (b : Bool) : markF { f with pb := b } c n bytes = { markF f c n bytes with pb := b } := by
 unfold markF
 by_cases h : 0 < n ∧ f.cut = false
 ·rw [if_pos h, if_pos h]
 ·rw [if_neg h, if_neg h]
  by_cases k : n = 0
  ·rw [if_pos k, if_pos k]
  ·rw [if_neg k, if_neg k]
theorem lostF_pb (f : Fv) (c : Cf) (now : Int) (b : Bool) : lostF { f with pb := b } c now = { lostF f c now with pb := b } := by
 unfold lostF
 show (if 0 < (lostR f.k f.l now (slackF f now)).2.1 ∧ f.cut = false then _ else _) = _
 by_cases h : 0 < (lostR f.k f.l now (slackF f now)).2.1 ∧ f.cut = false
 ·rw [if_pos h, if_pos h]; rfl
 ·rw [if_neg h, if_neg h]; rfl
theorem lose_rd (f : Fv) (c : Cf) (n bytes : Int) (told : List Prt) (now : Int) : (loseG (markF f c n bytes) c told now).rd = f.rd := by
 rw [← (mark_stay f c n bytes).2.2.2]
 unfold loseG
 split
 ·unfold lostF; split <;> rfl
 ·rfl
theorem sampF_eq (f : Fv) (told : List Prt) : sampF f told = settleG { f with d := smpD f.d told } told := by
 unfold sampF settleG smpD
 by_cases h : 0 < told.length
 ·rw [if_pos h, if_pos h, if_pos h]
 ·rw [if_neg h, if_neg h, if_neg h]
theorem step7_eq (f : Fv) (c : Cf) (t : Tv) (told : List Prt) :
  step7 f c t told = setF (settleG (turnG (loseG (markF (countG f t told) c (markH f t told).2.1 (lenSum told)) c told t.now) c t) told) c t.now := by
 have h0 := lose_rd (countG f t told) c (markH f t told).2.1 (lenSum told) told t.now
 have hT : step5 f c t told = settleG (loseG (markF (countG f t told) c (markH f t told).2.1 (lenSum told)) c told t.now) told := by
  unfold step5 turnF
  rw [sampF_eq]
  unfold settleG loseG
  by_cases h : 0 < told.length
  ·simp only [if_pos h]
   have e1 := markF_pb (countG f t told) c (markH f t told).2.1 (lenSum told) false
   have e2 := lostF_pb (markF (countG f t told) c (markH f t told).2.1 (lenSum told)) c t.now false
   show lostF (markF { countG f t told with pb := false } c (markH f t told).2.1 (lenSum told)) c t.now = _
   rw [e1, e2]
  ·simp only [if_neg h]; rfl
 unfold step7
 rw [hT]
 obtain ⟨g, hg⟩ : ∃ g, loseG (markF (countG f t told) c (markH f t told).2.1 (lenSum told)) c told t.now = g := ⟨_, rfl⟩
 rw [hg] at h0 ⊢
 have h1 : g.rd = f.rd := h0
 unfold turnG
 rw [h1]
 by_cases k : f.rd ≤ t.got
 ·rw [if_pos k, if_pos k]
  unfold settleG
  by_cases h : 0 < told.length
  ·rw [if_pos h, if_pos h]; rfl
  ·rw [if_neg h, if_neg h]
 ·rw [if_neg k, if_neg k]
def hcs (S : Nat) (A : Option Addr) (n k : Nat) (t : Tv) (G : Option Addr) (m d : Nat) (bs mk : Int) : List Value :=
 [.pointer (some ⟨S, 0, none⟩), t.got, .slice A n k, t.ace, .int .u32 t.ce, t.now, t.growth, .slice G m d, bs, mk]
structure Hg (n₀ : Nat) (l : List Nat) (W : World) (S H : Nat) (s : Fs) (f : Fv) (c : Cf) (e : Int) (A : Option Addr) (n k : Nat) (t : Tv) (G : Option Addr) (m d : Nat) (told : List Prt) (bs mk : Int) : Prop where
 st : St n₀ (H :: l) W S s f c t.now e
 bx : Bx W H 110 (hcs S A n k t G m d bs mk)
 h0 : n₀ ≤ H
 off : H ∉ l
 fr : Se W G m d told
 fo : In1 (Nw n₀ [S, H]) G m
section
variable {n₀ S H : Nat} {l : List Nat} {W W' : World} {s s' : Fs} {f f' : Fv} {c : Cf} {e e' : Int} {A : Option Addr} {n k : Nat} {t : Tv} {G : Option Addr} {m d : Nat} {told : List Prt} {bs mk : Int}
theorem Hg.old (h : Hg n₀ l W S H s f c e A n k t G m d told bs mk) : ∀ b ∈ l, b < W.heap.size := fun b hb => h.st.old b (List.mem_cons_of_mem _ hb)
theorem Hg.call (h : Hg n₀ l W S H s f c e A n k t G m d told bs mk) (hb : Below W.heap.size W W') : Hg n₀ l W' S H s f c e A n k t G m d told bs mk :=
 ⟨h.st.call hb, h.bx.kept hb, h.h0, h.off, h.fr.keep hb, h.fo⟩
theorem Hg.drew (h : Hg n₀ l W S H s f c e A n k t G m d told bs mk) : Hg n₀ l W.drew S H s f c e A n k t G m d told bs mk := h.call (Zb).drew
theorem Hg.frm (h : Hg n₀ l W S H s f c e A n k t G m d told bs mk) (hb : Below W.heap.size W W') : Fr n₀ l W W' := Fr.call hb h.st.size h.old
theorem Hg.ne (h : Hg n₀ l W S H s f c e A n k t G m d told bs mk) : S ≠ H := fun e => h.st.off (by rw [e]; exact List.mem_cons_self ..)
theorem Hg.cells (h : Hg n₀ l W S H s f c e A n k t G m d told bs mk) (o : Nat) (vs : List Value) (hv : setAll (scs s f c t.now e) o vs = scs s' f' c t.now e') (hfm : FlM W (Nw n₀ (S :: H :: l)) s' f') : Hg n₀ l (W.setCells S o vs) S H s' f' c e' A n k t G m d told bs mk :=
 ⟨h.st.cells o vs hv hfm, h.bx.grown (grown_cells vs o W) (fun e => h.ne (Zo e).symm), h.h0, h.off, se_grown h.fr h.fo (grown_cells vs o W) (fun b hb e => hb.2 (by rw [← Zo e]; exact List.mem_cons_self ..)), h.fo⟩
theorem Hg.set (h : Hg n₀ l W S H s f c e A n k t G m d told bs mk) (o : Nat) (v : Value) (hv : (scs s f c t.now e).set o v = scs s' f' c t.now e') (hfm : FlM W (Nw n₀ (S :: H :: l)) s' f') : Hg n₀ l (W.setCell ⟨S, o, none⟩ v) S H s' f' c e' A n k t G m d told bs mk := h.cells o [v] hv hfm
theorem Hg.frc (h : Hg n₀ l W S H s f c e A n k t G m d told bs mk) (o : Nat) (vs : List Value) : Fr n₀ l W (W.setCells S o vs) := (h.st.frc o vs).tail
theorem Hg.frs (h : Hg n₀ l W S H s f c e A n k t G m d told bs mk) (o : Nat) (v : Value) : Fr n₀ l W (W.setCell ⟨S, o, none⟩ v) := (h.st.frs o v).tail
theorem Hg.put (h : Hg n₀ l W S H s f c e A n k t G m d told bs mk) {A' : Option Addr} {n' k' : Nat} {G' : Option Addr} {m' d' : Nat} {told' : List Prt} {bs' mk' : Int} (o : Nat) (v : Value) (hv : (hcs S A n k t G m d bs mk).set o v = hcs S A' n' k' t G' m' d' bs' mk') (hf : Se W G' m' d' told') (ho : In1 (Nw n₀ [S, H]) G' m') :
  Hg n₀ l (W.setCell ⟨H, o, none⟩ v) S H s f c e A' n' k' t G' m' d' told' bs' mk' := by
 have hg : W.grownBy (W.setCell ⟨H, o, none⟩ v) (some H) := fl_gset W ⟨H, o, none⟩ v
 refine ⟨h.st.other hg (List.mem_cons_self ..), ?_, h.h0, h.off, se_grown hf ho hg (fun b hb e => hb.2 (by rw [← Zo e]; simp)), ho⟩
 have := h.bx.set o v
 rwa [hv] at this
theorem Hg.frp (h : Hg n₀ l W S H s f c e A n k t G m d told bs mk) (o : Nat) (v : Value) : Fr n₀ l W (W.setCell ⟨H, o, none⟩ v) :=
 Fr.grown (fl_gset W ⟨H, o, none⟩ v) h.st.size h.h0 h.off h.old
theorem Hg.fresh (h : Hg n₀ l W S H s f c e A n k t G m d told bs mk) {A' : Option Addr} {n' : Nat} (ha : ∀ b o q, A' = some ⟨b, o, q⟩ → W.heap.size ≤ b) : In1 (Nw n₀ [S, H]) A' n' := fun _ b o q e => by
 have hb := ha b o q e
 have h1 := h.st.bx.lt; have h2 := h.bx.lt
 refine ⟨Zn h.st.size hb, fun hx => ?_⟩
 rcases List.mem_cons.1 hx with hx | hx
 ·omega
 ·have := List.mem_singleton.1 hx; omega
theorem Hg.more (h : Hg n₀ l W S H s f c e A n k t G m d told bs mk) {P : Nat} (hP : W.heap.size ≤ P) (hW : Below W.heap.size W W') (hlt : P < W'.heap.size) : Hg n₀ (P :: l) W' S H s f c e A n k t G m d told bs mk := by
 have h2 := h.bx.lt
 have a := h.st.more hP hW hlt
 have k1 : ∀ b, Nw n₀ (S :: P :: H :: l) b → Nw n₀ (S :: H :: P :: l) b := fun b hb => ⟨hb.1, fun hx => hb.2 (by simp only [List.mem_cons] at hx ⊢; rcases hx with hx | hx | hx | hx <;> simp [hx])⟩
 have a2 : St n₀ (H :: P :: l) W' S s f c t.now e := ⟨a.bx, a.fm.imp k1, a.s0, fun hx => a.off (by simp only [List.mem_cons] at hx ⊢; rcases hx with hx | hx | hx <;> simp [hx]), fun b hb => a.old b (by simp only [List.mem_cons] at hb ⊢; rcases hb with hb | hb | hb <;> simp [hb])⟩
 refine ⟨a2, h.bx.kept hW, h.h0, fun hx => ?_, h.fr.keep hW, h.fo⟩
 rcases List.mem_cons.1 hx with hx | hx
 ·omega
 ·exact h.off hx
theorem Hg.less {P : Nat} (h : Hg n₀ (P :: l) W S H s f c e A n k t G m d told bs mk) : Hg n₀ l W S H s f c e A n k t G m d told bs mk := by
 have k1 : ∀ b, Nw n₀ (S :: H :: P :: l) b → Nw n₀ (S :: H :: l) b := fun b hb => ⟨hb.1, fun hx => hb.2 (by simp only [List.mem_cons] at hx ⊢; rcases hx with hx | hx | hx <;> simp [hx])⟩
 exact ⟨⟨h.st.bx, h.st.fm.imp k1, h.st.s0, fun hx => h.st.off (by simp only [List.mem_cons] at hx ⊢; rcases hx with hx | hx <;> simp [hx]), fun b hb => h.st.old b (by simp only [List.mem_cons] at hb ⊢; rcases hb with hb | hb <;> simp [hb])⟩, h.bx, h.h0, fun hx => h.off (List.mem_cons_of_mem _ hx), h.fr, h.fo⟩
theorem Hg.other (h : Hg n₀ l W S H s f c e A n k t G m d told bs mk) {X : Nat} (hX : X ∈ l) (hg : W.grownBy W' (some X)) (hr : In1 (fun b => b ≠ X) G m) : Hg n₀ l W' S H s f c e A n k t G m d told bs mk :=
 ⟨h.st.other hg (List.mem_cons_of_mem _ hX), h.bx.grown hg (fun e => h.off (by rw [Zo e]; exact hX)), h.h0, h.off, se_grown h.fr hr hg (fun b hb e => hb (Zo e).symm), h.fo⟩
end
theorem results_tmp4 {fn : Func} {t u v x : Tmp} (h : fn.results = #[.tmp t, .tmp u, .tmp v, .tmp x]) (tmps : Array Value) (P : Program) (w : World) :
  (results fn tmps).run P w = .ok (.tuple #[tmps.getD t undef, tmps.getD u undef, tmps.getD v undef, tmps.getD x undef]) w := by
 simp [results, h]
def TellL (w w' : World) (e : Ending) (y : List Prt × Int × Int × Int) : Prop := ∃ G m d, e = .returned (.tuple #[.slice G m d, y.2.1, y.2.2.1, y.2.2.2]) ∧ Sne w' w.heap.size G m d y.1 ∧ Below w.heap.size w w'
theorem lost_no {v : Rkv} {l : List Prt} {a b : Int} (h : ¬ LostOk v l a b) : lostR v l a b = ([], 0, 0, 1) := if_neg h
theorem lost_ok {v : Rkv} {l : List Prt} {a b : Int} (h : LostOk v l a b) : lostR v l a b = (lostL v a b l, lostN v a b l, nextN v a b l, 0) := if_pos h
section
variable {v : Rkv} {x : Prt} {l : List Prt} {now slack : Int} {k : Nat}
theorem seen_came (h : x.came = true) : seenB v x = false := by unfold seenB; rw [h]; rfl
theorem seen_lost (h : x.lost = true) : seenB v x = false := by unfold seenB; rw [h]; simp
theorem seen_else (h : x.came = false) (g : x.lost = false) : seenB v x = aheadB x.at_ (endP x) v.at_ v.end_ := by unfold seenB; rw [h, g]; rfl
theorem late_none (h : seenB v x = false) : lateB v now slack x = false := by unfold lateB; rw [h]; rfl
theorem wait_none (h : seenB v x = false) : waitB v now slack x = false := by unfold waitB; rw [h]; rfl
theorem late_yes (h : seenB v x = true) (g : dueR v slack x ≤ now) : lateB v now slack x = true := by unfold lateB; rw [h, Zt g]; rfl
theorem wait_no (h : seenB v x = true) (g : dueR v slack x ≤ now) : waitB v now slack x = false := by unfold waitB; rw [h, Zt g]; rfl
theorem late_no (h : seenB v x = true) (g : ¬ dueR v slack x ≤ now) : lateB v now slack x = false := by unfold lateB; rw [h, Zf g]; rfl
theorem wait_yes (h : seenB v x = true) (g : ¬ dueR v slack x ≤ now) : waitB v now slack x = true := by unfold waitB; rw [h, Zf g]; rfl
theorem lostTo_ge (h : k < l.length) : ge (lostTo v now slack l k) k = ge l k := by
 have e : (lostL v now slack (l.take k)).length = k := by rw [lostL_len, List.length_take]; omega
 unfold lostTo ge
 rw [List.getD_eq_getElem?_getD, List.getElem?_append_right (by omega), e, Nat.sub_self, drop_ge h]
 simp [ge]
theorem lostN_bd (l : List Prt) : 0 ≤ lostN v now slack l ∧ lostN v now slack l ≤ l.length := by
 suffices hh : ∀ (l : List Prt) (n : Int), n ≤ l.foldl (fun n x => if lateB v now slack x = true then n + 1 else n) n ∧ l.foldl (fun n x => if lateB v now slack x = true then n + 1 else n) n ≤ n + l.length by
  have := hh l 0; unfold lostN; omega
 intro l
 induction l with
 | nil => intro n; simp
 | cons y t ih =>
  intro n
  rw [List.foldl_cons, List.length_cons]
  by_cases hc : lateB v now slack y = true
  ·rw [if_pos hc]; have := ih (n + 1); omega
  ·rw [if_neg hc]; have := ih n; omega
theorem round_skip (h : k < l.length) (hs : lateB v now slack (ge l k) = false) (hw : waitB v now slack (ge l k) = false) : lostTo v now slack l k = lostTo v now slack l (k + 1) ∧ lostN v now slack (l.take k) = lostN v now slack (l.take (k + 1)) ∧ nextN v now slack (l.take k) = nextN v now slack (l.take (k + 1)) := by
 rw [lostN_take _ _ _ h, nextN_take _ _ _ h, hs, hw]
 exact ⟨lostTo_same _ _ _ _ h hs, rfl, rfl⟩
theorem round_wait (h : k < l.length) (hs : lateB v now slack (ge l k) = false) (hw : waitB v now slack (ge l k) = true) : lostTo v now slack l k = lostTo v now slack l (k + 1) ∧ lostN v now slack (l.take k) = lostN v now slack (l.take (k + 1)) ∧ nextN v now slack (l.take (k + 1)) = nextStep (nextN v now slack (l.take k)) (dueR v slack (ge l k)) := by
 rw [lostN_take _ _ _ h, nextN_take _ _ _ h, hs, hw]
 exact ⟨lostTo_same _ _ _ _ h hs, rfl, rfl⟩
theorem round_late (h : k < l.length) (hs : lateB v now slack (ge l k) = true) (hw : waitB v now slack (ge l k) = false) : (lostTo v now slack l k).set k { ge l k with lost := true } = lostTo v now slack l (k + 1) ∧ lostN v now slack (l.take (k + 1)) = lostN v now slack (l.take k) + 1 ∧ nextN v now slack (l.take k) = nextN v now slack (l.take (k + 1)) := by
 have hp : lostP v now slack (ge l k) = { ge l k with lost := true } := by unfold lostP; rw [if_pos hs]
 rw [lostN_take _ _ _ h, nextN_take _ _ _ h, hs, hw, ← lostTo_set _ _ _ _ h, hp]
 exact ⟨rfl, rfl, rfl⟩
end
end Go.Proofs.YtbijhkhkigdddaaGreat
