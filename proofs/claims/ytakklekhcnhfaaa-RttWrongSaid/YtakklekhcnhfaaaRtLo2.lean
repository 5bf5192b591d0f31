/- Package rtt as landed: moved, measured, timeout, Double, Wait, Sample, as contracts of the calls. -/
import Derived.Test.YtakklekhcnhfaaaRtLo1
import Derived.WalkKit
import Derived.WalkSpells
import Derived.WalkSmall
import Derived.Lib.Hide
import Derived.Below
import Derived.Outline
namespace Go.Proofs.Ytakklekhcnhfaaa
open Go.RowKit
set_option linter.unusedVariables false
set_option linter.unusedSimpArgs false

theorem ew_in (old sample : Int) (k : Nat) (hk : k ≤ 30) (h0 : 0 ≤ old) (h1 : old ≤ 1152921504606846976) (h2 : 0 ≤ sample) (h3 : sample ≤ 1152921504606846976) : tell (ewR old sample (k : Int)) (ewOk old sample (k : Int)) = old + (sample - old) / 2 ^ k := by
  have hb := ew_between old sample k
  have hin : inB (old + (sample - old) / 2 ^ k) = true := by
    rw [inB_iff]
    rcases Int.le_total old sample with h | h
    · have := hb.1 h; omega
    · have := hb.2 h; omega
  have hr : ewR old sample (k : Int) = old + (sample - old) / 2 ^ k := by unfold ewR; rw [Int.toNat_natCast]
  have ho : ewOk old sample (k : Int) = true := by
    unfold ewOk
    rw [(inB_iff old).2 (by omega), (inB_iff sample).2 (by omega), (inB_iff (sample - old)).2 (by omega)]
    simp only [Bool.true_and, Bool.and_eq_true, decide_eq_true_eq]
    omega
  rw [ho, hr]; rfl

set_option maxRecDepth 100000 in
theorem moved_any (old sample : Int) (k : Nat) (hk : k ≤ 30) (h0 : 0 ≤ old) (h1 : old ≤ 1152921504606846976) (h2 : 0 ≤ sample) (h3 : sample ≤ 1152921504606846976) (w : World) :
    Calls Try.prog 24 #[.int .i64 old, .int .i64 sample, .int .i64 (k : Int)] w fun e w' => e = .returned (.int .i64 (old + (sample - old) / 2 ^ k)) ∧ Below w.heap.size w w' := by
  have he := ew_in old sample k hk h0 h1 h2 h3
  obtain ⟨r, hr⟩ : ∃ r, old + (sample - old) / 2 ^ k = r := ⟨_, rfl⟩
  rw [hr] at he ⊢
  have HE := Lib.hid he; clear he hr
  go_enter Try.func24, Try.ntmps24
  go_wp2_with (go_at_call 29; refine (ewma_any _ _ _ _).mono ?_; rintro e w1 ⟨rfl, hb⟩; rw [HE.out])
  go_ret
  exact ⟨rfl, hb⟩

theorem rgrown_set (W : World) (p : Addr) (u : Value) : W.grownBy (W.setCell p u) (some p.block) :=
  ⟨rfl, rfl, rfl, by simp, fun i hi hne => Below.heap_setCell W p u i (fun e => hne (by rw [e]))⟩

theorem smS_move (srtt took : Int) : srtt + (took - srtt) / 2 ^ 3 = (7 * srtt + took) / 8 := by
  have : (2 : Int) ^ 3 = 8 := rfl
  rw [this]; omega
theorem smV_move (vr off : Int) : vr + (off - vr) / 2 ^ 2 = (3 * vr + off) / 4 := by
  have : (2 : Int) ^ 2 = 4 := rfl
  rw [this]; omega

set_option maxRecDepth 100000 in
set_option maxHeartbeats 2000000 in
theorem measured_any (has : Bool) (srtt vr rto shift took : Int) (w : World) (hv : RtOk ⟨has, srtt, vr, rto, shift⟩) (t0 : 0 ≤ took) (t1 : took ≤ 1099511627776) :
    Calls Try.prog 18 #[.agg #[.bool has, .int .i64 srtt, .int .i64 vr, .int .i64 rto, .int .i64 shift], .int .i64 took] w fun e w' => e = .returned (.agg #[.bool true, .int .i64 (smS ⟨has, srtt, vr, rto, shift⟩ took), .int .i64 (smV ⟨has, srtt, vr, rto, shift⟩ took), .int .i64 rto, .int .i64 shift]) ∧ Below w.heap.size w w' := by
  have s0 : 0 ≤ srtt := hv.s0; have s1 : srtt ≤ 1152921504606846976 := hv.s1; have v0 : 0 ≤ vr := hv.v0; have v1 : vr ≤ 1152921504606846976 := hv.v1
  clear hv
  cases has with
  | false =>
    have hS : smS ⟨false, srtt, vr, rto, shift⟩ took = took := rfl
    have hV : smV ⟨false, srtt, vr, rto, shift⟩ took = took / 2 := rfl
    rw [hS, hV]
    clear hS hV
    have q2 : took.tdiv 2 = took / 2 := Int.tdiv_eq_ediv_of_nonneg t0
    have q3 : 0 ≤ took / 2 ∧ took / 2 ≤ 1099511627776 := by omega
    obtain ⟨H, hH⟩ : ∃ H, took / 2 = H := ⟨_, rfl⟩
    rw [hH] at q2 q3 ⊢
    clear hH
    obtain ⟨q4, q5⟩ := q3
    go_enter Try.func18, Try.ntmps18
    go_wp2_with fail
    exact rt_end1 (by rfl) (by rfl) (two_new w _ _ [.bool true, .int .i64 took, .int .i64 H, .int .i64 rto, .int .i64 shift]) rfl rfl ⟨rfl, two_below _ _ _⟩
  | true =>
    by_cases c : took - srtt ≤ srtt - took
    · obtain ⟨V, hV⟩ : ∃ V, vr + ((srtt - took) - vr) / 2 ^ 2 = V := ⟨_, rfl⟩
      obtain ⟨S, hS⟩ : ∃ S, srtt + (took - srtt) / 2 ^ 3 = S := ⟨_, rfl⟩
      have eS : smS ⟨true, srtt, vr, rto, shift⟩ took = S := by rw [← hS, smS_move]; rfl
      have eV : smV ⟨true, srtt, vr, rto, shift⟩ took = V := by rw [← hV, smV_move]; unfold smV offI; rw [if_pos rfl]; dsimp only; split <;> omega
      rw [eS, eV]
      clear eS eV
      have HV : ∀ w, Calls Try.prog 24 #[.int .i64 vr, .int .i64 (srtt - took), .int .i64 2] w fun e w' => e = .returned (.int .i64 V) ∧ Below w.heap.size w w' := by rw [← hV]; exact moved_any vr (srtt - took) 2 (by decide) v0 v1 (by omega) (by omega)
      have HS : ∀ w, Calls Try.prog 24 #[.int .i64 srtt, .int .i64 took, .int .i64 3] w fun e w' => e = .returned (.int .i64 S) ∧ Below w.heap.size w w' := by rw [← hS]; exact moved_any srtt took 3 (by decide) s0 s1 t0 (by omega)
      have JV := Lib.hid HV; have JS := Lib.hid HS; clear HV HS hV hS
      obtain ⟨B, hB⟩ : ∃ B, w.heap.size = B := ⟨_, rfl⟩
      rw [hB]
      have e0 := Bx.new w 23 [.bool true, .int .i64 srtt, .int .i64 vr, .int .i64 rto, .int .i64 shift]
      have e1 := e0.alloc (.cells #[.bool false, .int .i64 0, .int .i64 0, .int .i64 0, .int .i64 0] 23)
      have y1 := two_new w (.cells #[.bool true, .int .i64 srtt, .int .i64 vr, .int .i64 rto, .int .i64 shift] 23) 23 [.bool false, .int .i64 0, .int .i64 0, .int .i64 0, .int .i64 0]
      rw [hB] at e1 y1
      have b1 : Below B w ((w.alloc (.cells #[.bool true, .int .i64 srtt, .int .i64 vr, .int .i64 rto, .int .i64 shift] 23)).alloc (.cells #[.bool false, .int .i64 0, .int .i64 0, .int .i64 0, .int .i64 0] 23)) := by rw [← hB]; exact two_below _ _ _
      go_enter Try.func18, Try.ntmps18
      go_wp2_with fail
      obtain ⟨w1, hw1⟩ : ∃ w1, (w.alloc (.cells #[.bool true, .int .i64 srtt, .int .i64 vr, .int .i64 rto, .int .i64 shift] 23)).alloc (.cells #[.bool false, .int .i64 0, .int .i64 0, .int .i64 0, .int .i64 0] 23) = w1 := ⟨_, rfl⟩
      rw [hw1] at e1 y1 b1 ⊢
      clear hw1 e0
      refine (JV.out _).mono ?_
      rintro e w2 ⟨rfl, hb2⟩
      have e2 := e1.kept hb2; have y2 := y1.kept hb2; have b2 := b1.trans (hb2.mono (Nat.le_of_lt e1.lt))
      have p2 := e2.set 2 (.int .i64 V)
      simp only [List.set_cons_zero, List.set_cons_succ] at p2
      have q2 := y2.far (p := ⟨B, 2, none⟩) (by simp) (.int .i64 V)
      have x0 := e2.cell 0 rfl; have x1 := e2.cell 1 rfl; have x2 := e2.cell 2 rfl; have x3 := e2.cell 3 rfl; have x4 := e2.cell 4 rfl
      have f2 := e2.free 2
      go_wp2_with fail
      refine (JS.out _).mono ?_
      rintro e w3 ⟨rfl, hb3⟩
      have c2 : Below B w (w2.setCell ⟨B, 2, none⟩ (.int .i64 V)) := b2.grown (rgrown_set w2 ⟨B, 2, none⟩ (.int .i64 V)) (Nat.le_of_lt e2.lt) (fun k hk => by cases hk; exact Nat.le_refl _)
      clear x0 x1 x2 x3 x4 f2
      have p3 := p2.kept hb3; have q3 := q2.kept hb3; have b3 := c2.trans (hb3.mono (Nat.le_of_lt p2.lt))
      have p4 := p3.set 1 (.int .i64 S)
      simp only [List.set_cons_zero, List.set_cons_succ] at p4
      have q4 := q3.far (p := ⟨B, 1, none⟩) (by simp) (.int .i64 S)
      have x0 := p3.cell 0 rfl; have x1 := p3.cell 1 rfl; have x2 := p3.cell 2 rfl; have x3 := p3.cell 3 rfl; have x4 := p3.cell 4 rfl
      have f1 := p3.free 1
      have c3 : Below B w (w3.setCell ⟨B, 1, none⟩ (.int .i64 S)) := b3.grown (rgrown_set w3 ⟨B, 1, none⟩ (.int .i64 S)) (Nat.le_of_lt p3.lt) (fun k hk => by cases hk; exact Nat.le_refl _)
      go_wp2_with (first | (refine rt_load rfl (.tmp 2) rfl rfl p4 rfl ?_) | (refine rt_store rfl (.tmp 4) (.tmp 35) rfl rfl [.bool true, .int .i64 S, .int .i64 V, .int .i64 rto, .int .i64 shift] rfl q4 rfl rfl rfl ?_))
      refine rt_end1 (by rfl) (by rfl) (rt_put q4 [.bool true, .int .i64 S, .int .i64 V, .int .i64 rto, .int .i64 shift]) rfl rfl ?_
      exact ⟨rfl, c3.grown (rt_grown _ (B + 1) _) (Nat.le_of_lt p4.lt) (fun k hk => by cases hk; omega)⟩
    · obtain ⟨V, hV⟩ : ∃ V, vr + ((took - srtt) - vr) / 2 ^ 2 = V := ⟨_, rfl⟩
      obtain ⟨S, hS⟩ : ∃ S, srtt + (took - srtt) / 2 ^ 3 = S := ⟨_, rfl⟩
      have eS : smS ⟨true, srtt, vr, rto, shift⟩ took = S := by rw [← hS, smS_move]; rfl
      have eV : smV ⟨true, srtt, vr, rto, shift⟩ took = V := by rw [← hV, smV_move]; unfold smV offI; rw [if_pos rfl]; dsimp only; split <;> omega
      rw [eS, eV]
      clear eS eV
      have HV : ∀ w, Calls Try.prog 24 #[.int .i64 vr, .int .i64 (took - srtt), .int .i64 2] w fun e w' => e = .returned (.int .i64 V) ∧ Below w.heap.size w w' := by rw [← hV]; exact moved_any vr (took - srtt) 2 (by decide) v0 v1 (by omega) (by omega)
      have HS : ∀ w, Calls Try.prog 24 #[.int .i64 srtt, .int .i64 took, .int .i64 3] w fun e w' => e = .returned (.int .i64 S) ∧ Below w.heap.size w w' := by rw [← hS]; exact moved_any srtt took 3 (by decide) s0 s1 t0 (by omega)
      have JV := Lib.hid HV; have JS := Lib.hid HS; clear HV HS hV hS
      obtain ⟨B, hB⟩ : ∃ B, w.heap.size = B := ⟨_, rfl⟩
      rw [hB]
      have e0 := Bx.new w 23 [.bool true, .int .i64 srtt, .int .i64 vr, .int .i64 rto, .int .i64 shift]
      have e1 := e0.alloc (.cells #[.bool false, .int .i64 0, .int .i64 0, .int .i64 0, .int .i64 0] 23)
      have y1 := two_new w (.cells #[.bool true, .int .i64 srtt, .int .i64 vr, .int .i64 rto, .int .i64 shift] 23) 23 [.bool false, .int .i64 0, .int .i64 0, .int .i64 0, .int .i64 0]
      rw [hB] at e1 y1
      have b1 : Below B w ((w.alloc (.cells #[.bool true, .int .i64 srtt, .int .i64 vr, .int .i64 rto, .int .i64 shift] 23)).alloc (.cells #[.bool false, .int .i64 0, .int .i64 0, .int .i64 0, .int .i64 0] 23)) := by rw [← hB]; exact two_below _ _ _
      go_enter Try.func18, Try.ntmps18
      go_wp2_with fail
      obtain ⟨w1, hw1⟩ : ∃ w1, (w.alloc (.cells #[.bool true, .int .i64 srtt, .int .i64 vr, .int .i64 rto, .int .i64 shift] 23)).alloc (.cells #[.bool false, .int .i64 0, .int .i64 0, .int .i64 0, .int .i64 0] 23) = w1 := ⟨_, rfl⟩
      rw [hw1] at e1 y1 b1 ⊢
      clear hw1 e0
      refine (JV.out _).mono ?_
      rintro e w2 ⟨rfl, hb2⟩
      have e2 := e1.kept hb2; have y2 := y1.kept hb2; have b2 := b1.trans (hb2.mono (Nat.le_of_lt e1.lt))
      have p2 := e2.set 2 (.int .i64 V)
      simp only [List.set_cons_zero, List.set_cons_succ] at p2
      have q2 := y2.far (p := ⟨B, 2, none⟩) (by simp) (.int .i64 V)
      have x0 := e2.cell 0 rfl; have x1 := e2.cell 1 rfl; have x2 := e2.cell 2 rfl; have x3 := e2.cell 3 rfl; have x4 := e2.cell 4 rfl
      have f2 := e2.free 2
      go_wp2_with fail
      refine (JS.out _).mono ?_
      rintro e w3 ⟨rfl, hb3⟩
      have c2 : Below B w (w2.setCell ⟨B, 2, none⟩ (.int .i64 V)) := b2.grown (rgrown_set w2 ⟨B, 2, none⟩ (.int .i64 V)) (Nat.le_of_lt e2.lt) (fun k hk => by cases hk; exact Nat.le_refl _)
      clear x0 x1 x2 x3 x4 f2
      have p3 := p2.kept hb3; have q3 := q2.kept hb3; have b3 := c2.trans (hb3.mono (Nat.le_of_lt p2.lt))
      have p4 := p3.set 1 (.int .i64 S)
      simp only [List.set_cons_zero, List.set_cons_succ] at p4
      have q4 := q3.far (p := ⟨B, 1, none⟩) (by simp) (.int .i64 S)
      have x0 := p3.cell 0 rfl; have x1 := p3.cell 1 rfl; have x2 := p3.cell 2 rfl; have x3 := p3.cell 3 rfl; have x4 := p3.cell 4 rfl
      have f1 := p3.free 1
      have c3 : Below B w (w3.setCell ⟨B, 1, none⟩ (.int .i64 S)) := b3.grown (rgrown_set w3 ⟨B, 1, none⟩ (.int .i64 S)) (Nat.le_of_lt p3.lt) (fun k hk => by cases hk; exact Nat.le_refl _)
      go_wp2_with (first | (refine rt_load rfl (.tmp 2) rfl rfl p4 rfl ?_) | (refine rt_store rfl (.tmp 4) (.tmp 35) rfl rfl [.bool true, .int .i64 S, .int .i64 V, .int .i64 rto, .int .i64 shift] rfl q4 rfl rfl rfl ?_))
      refine rt_end1 (by rfl) (by rfl) (rt_put q4 [.bool true, .int .i64 S, .int .i64 V, .int .i64 rto, .int .i64 shift]) rfl rfl ?_
      exact ⟨rfl, c3.grown (rt_grown _ (B + 1) _) (Nat.le_of_lt p4.lt) (fun k hk => by cases hk; omega)⟩

set_option maxRecDepth 100000 in
set_option maxHeartbeats 2000000 in
theorem timeout_any (has : Bool) (srtt vr rto shift least most : Int) (w : World) (s0 : 0 ≤ srtt) (s1 : srtt ≤ 1152921504606846976) (v0 : 0 ≤ vr) (v1 : vr ≤ 1152921504606846976) :
    Calls Try.prog 19 #[.agg #[.bool has, .int .i64 srtt, .int .i64 vr, .int .i64 rto, .int .i64 shift], .int .i64 least, .int .i64 most] w fun e w' => e = .returned (.int .i64 (clI (srtt + (if 4 * vr < 1000 then 1000 else 4 * vr)) least most)) ∧ Below w.heap.size w w' := by
  by_cases c : 4 * vr ≤ 1000
  · have e : (if 4 * vr < 1000 then 1000 else 4 * vr) = 1000 := by split <;> omega
    rw [e]
    clear e
    go_enter Try.func19, Try.ntmps19
    go_wp2_with (go_at_call 25; refine (cl_any _ _ _ _).mono ?_; rintro e w1 ⟨rfl, rfl⟩)
    go_ret
    exact ⟨rfl, (Below.refl _ _).alloc (Nat.le_refl _) _⟩
  · have e : (if 4 * vr < 1000 then 1000 else 4 * vr) = 4 * vr := by split <;> omega
    rw [e]
    clear e
    go_enter Try.func19, Try.ntmps19
    go_wp2_with (go_at_call 25; refine (cl_any _ _ _ _).mono ?_; rintro e w1 ⟨rfl, rfl⟩)
    go_ret
    exact ⟨rfl, (Below.refl _ _).alloc (Nat.le_refl _) _⟩
end Go.Proofs.Ytakklekhcnhfaaa
