/- The texts RcL2, Pr, RcTell, RcL3, RcL4, MsL2, Seq. -/
import Derived.Below
import Derived.BigQuiet
import Derived.Deep.AppendLies
import Derived.Deep.DeepCutAuto
import Derived.Deep.QuietTactic
import Derived.IntWalk
import Derived.Laws.AppendOwnNone
import Derived.Laws.Rows
import Derived.Laws.Tables
import Derived.Lib.Hide
import Derived.Maps.AppendAt
import Derived.OrdersHeld
import Derived.Outline
import Derived.OwnWalkIn
import Derived.Test.YtggnhccpncgfiaaProg
import Derived.WalkKit
import Derived.WalkSmall
import Derived.WalkSpells
import Derived.Test.YtggnhccpncgfiaaM02
import Derived.Test.YtggnhccpncgfiaaM03
import Derived.Test.YtggnhccpncgfiaaM07
import Derived.Test.YtggnhccpncgfiaaM11
set_option linter.all false
namespace Go.Proofs.Ytggnhccpncgfiaa
open Go.RowKit
theorem inmay_got' {x : Inl} (h : mayB x.got = false) : inmay x = false := by unfold inmay; rw [h]; rfl
theorem inmay_m' {x : Inl} (h : mmay x.m = false) : inmay x = false := by unfold inmay; rw [h, Bool.and_false]
theorem rcmay_of' {r : Rc} (h : ∀ k, k < 4 → inmay (r.s k) = true) : rcmay r = wmay r.w := by
  have h0 : inmay r.s0 = true := h 0 (by omega); have h1 : inmay r.s1 = true := h 1 (by omega); have h2 : inmay r.s2 = true := h 2 (by omega); have h3 : inmay r.s3 = true := h 3 (by omega)
  unfold rcmay; rw [h0, h1, h2, h3]; rfl
theorem rcmay_not' {r : Rc} {k : Nat} (hk : k < 4) (h : inmay (r.s k) = false) : rcmay r = false := by
  have hc : k = 0 ∨ k = 1 ∨ k = 2 ∨ k = 3 := by omega
  unfold rcmay
  rcases hc with rfl | rfl | rfl | rfl
  · rw [show inmay r.s0 = false from h]; rfl
  · rw [show inmay r.s1 = false from h]; simp
  · rw [show inmay r.s2 = false from h]; simp
  · rw [show inmay r.s3 = false from h]; simp
set_option maxRecDepth 100000 in
set_option maxHeartbeats 32000000 in
theorem rcmay_any (p : Nat → Prop) (s : Rcs) (r : Rc) (w : World) (h : RcM w p s r) (hn : s.wn ≤ 140737488355328) :
    Calls Try.prog 24 #[.agg (rcs s r).toArray] w fun e w' => e = .returned (.bool (rcmay r)) ∧ Below w.heap.size w w' := by
  obtain ⟨B, hB⟩ : ∃ B, w.heap.size = B := ⟨_, rfl⟩
  have e0 := Bx.new w 32 (rcs s r)
  rw [hB] at e0 ⊢
  have b0 : Below B w (w.alloc (.cells (rcs s r).toArray 32)) := by rw [← hB]; exact (Below.refl _ _).alloc (Nat.le_refl _) _
  have f0 := h.alloc (.cells (rcs s r).toArray 32)
  have HN := Lib.hid hn
  clear h hn
  go_enter Try.func24, Try.ntmps24
  go_upto_region 1 with fail
  generalize w.alloc (.cells (rcs s r).toArray 32) = w0 at e0 b0 f0 ⊢
  clear hB
  have z0 : B ≤ w0.heap.size := Nat.le_of_lt e0.lt
  go_wp2_with (refine rsub_load (cs := rcs s r) (vs := [.slice s.a0 s.n0 s.c0, .int .i64 r.s0.m.pk, .int .i64 r.s0.m.bt, .int .i64 r.s0.m.ca, .int .i64 r.s0.m.md, .int .i64 r.s0.m.pt, .slice s.a1 s.n1 s.c1, .int .i64 r.s1.m.pk, .int .i64 r.s1.m.bt, .int .i64 r.s1.m.ca, .int .i64 r.s1.m.md, .int .i64 r.s1.m.pt, .slice s.a2 s.n2 s.c2, .int .i64 r.s2.m.pk, .int .i64 r.s2.m.bt, .int .i64 r.s2.m.ca, .int .i64 r.s2.m.md, .int .i64 r.s2.m.pt, .slice s.a3 s.n3 s.c3, .int .i64 r.s3.m.pk, .int .i64 r.s3.m.bt, .int .i64 r.s3.m.ca, .int .i64 r.s3.m.md, .int .i64 r.s3.m.pt]) ir_inlets rfl (.tmp 5) rfl rfl e0 rfl rfl ?_)
  go_loopw [7] (fun i wr => ∃ k : Nat, k ≤ 4 ∧ i = .int .i64 (k : Int) ∧ (∀ j, j < k → inmay (r.s j) = true) ∧ Bx wr B 32 (rcs s r) ∧ RcM wr p s r ∧ Below B w wr ∧ B ≤ wr.heap.size) (fun i _ => 4 - (intOf i).toNat)
  case atStart => exact ⟨0, Nat.zero_le _, rfl, fun j hj => absurd hj (Nat.not_lt_zero _), e0, f0, b0, z0⟩
  case round =>
    obtain ⟨k, hk, rfl, hal, e1, f1, b1, z1⟩ := hrel
    clear e0 f0 b0 z0
    have HAL := Lib.hid hal
    clear hal
    have hc : k = 0 ∨ k = 1 ∨ k = 2 ∨ k = 3 ∨ k = 4 := by omega
    rcases hc with rfl | rfl | rfl | rfl | rfl
    · have ix : ∀ w, (Instr.index 30 (.agg #[.slice s.a0 s.n0 s.c0, .int .i64 r.s0.m.pk, .int .i64 r.s0.m.bt, .int .i64 r.s0.m.ca, .int .i64 r.s0.m.md, .int .i64 r.s0.m.pt, .slice s.a1 s.n1 s.c1, .int .i64 r.s1.m.pk, .int .i64 r.s1.m.bt, .int .i64 r.s1.m.ca, .int .i64 r.s1.m.md, .int .i64 r.s1.m.pt, .slice s.a2 s.n2 s.c2, .int .i64 r.s2.m.pk, .int .i64 r.s2.m.bt, .int .i64 r.s2.m.ca, .int .i64 r.s2.m.md, .int .i64 r.s2.m.pt, .slice s.a3 s.n3 s.c3, .int .i64 r.s3.m.pk, .int .i64 r.s3.m.bt, .int .i64 r.s3.m.ca, .int .i64 r.s3.m.md, .int .i64 r.s3.m.pt]) (.int .i64 0)).run Try.prog w = .ok (.agg #[.slice s.a0 s.n0 s.c0, .int .i64 r.s0.m.pk, .int .i64 r.s0.m.bt, .int .i64 r.s0.m.ca, .int .i64 r.s0.m.md, .int .i64 r.s0.m.pt]) w := fun _ => by kernel_rfl
      go_upto_region 4 with (refine rin_store rfl (.tmp 4) (.tmp 9) rfl rfl [.slice s.a0 s.n0 s.c0, .int .i64 r.s0.m.pk, .int .i64 r.s0.m.bt, .int .i64 r.s0.m.ca, .int .i64 r.s0.m.md, .int .i64 r.s0.m.pt] rfl (Bx.new wr 29 [.slice none 0 0, .int .i64 0, .int .i64 0, .int .i64 0, .int .i64 0, .int .i64 0]) rfl rfl rfl ?_)
      obtain ⟨q2, hb⟩ := rin_new wr [.slice s.a0 s.n0 s.c0, .int .i64 r.s0.m.pk, .int .i64 r.s0.m.bt, .int .i64 r.s0.m.ca, .int .i64 r.s0.m.md, .int .i64 r.s0.m.pt] rfl
      generalize (wr.alloc (.cells ([.slice none 0 0, .int .i64 0, .int .i64 0, .int .i64 0, .int .i64 0, .int .i64 0] : List Value).toArray 29)).setRow wr.heap.size ([.slice s.a0 s.n0 s.c0, .int .i64 r.s0.m.pk, .int .i64 r.s0.m.bt, .int .i64 r.s0.m.ca, .int .i64 r.s0.m.md, .int .i64 r.s0.m.pt] : List Value).toArray = w2 at q2 hb ⊢
      have e2 := e1.kept hb; have f2 := f1.keep hb; have b2 := b1.trans (hb.mono z1); have z2 := Nat.le_trans z1 hb.size
      clear ix e1 f1 b1 z1 hb
      have x0 := q2.cell 0 rfl
      go_wp2_with fail
      refine (may_any s.a0 s.n0 s.c0 r.s0.got _ f2.g0).mono ?_
      rintro e w3 ⟨rfl, hb⟩
      have q3 := q2.kept hb; have e3 := e2.kept hb; have f3 := f2.keep hb; have b3 := b2.trans (hb.mono z2); have z3 := Nat.le_trans z2 hb.size
      clear x0 q2 e2 f2 b2 z2 hb
      cases hg : mayB r.s0.got with
      | false =>
        have HF := Lib.hid (rcmay_not' (r := r) (k := 0) (by omega) (inmay_got' hg))
        clear hg
        go_wp2_with fail
        go_ret
        exact ⟨by rw [HF.out]; rfl, b3⟩
      | true =>
        go_wp2_with (refine rsub_loadg (cs := [.slice s.a0 s.n0 s.c0, .int .i64 r.s0.m.pk, .int .i64 r.s0.m.bt, .int .i64 r.s0.m.ca, .int .i64 r.s0.m.md, .int .i64 r.s0.m.pt]) (vs := mcs r.s0.m) ir_marks (by kernel_rfl) (.tmp 15) rfl rfl q3 rfl rfl ?_)
        refine (mkmay_any r.s0.m.pk r.s0.m.bt r.s0.m.ca r.s0.m.md r.s0.m.pt _).mono ?_
        rintro e w4 ⟨rfl, hb⟩
        have e4 := e3.kept hb; have f4 := f3.keep hb; have b4 := b3.trans (hb.mono z3); have z4 := Nat.le_trans z3 hb.size
        clear q3 e3 f3 b3 z3 hb
        cases hm : mmay ⟨r.s0.m.pk, r.s0.m.bt, r.s0.m.ca, r.s0.m.md, r.s0.m.pt⟩ with
        | false =>
          have HF := Lib.hid (rcmay_not' (r := r) (k := 0) (by omega) (inmay_m' hm))
          clear hg hm
          go_wp2_with fail
          go_ret
          exact ⟨by rw [HF.out]; rfl, b4⟩
        | true =>
          have hst : ∀ j, j < 1 → inmay (r.s j) = true := fun j hj => by
            by_cases hjk : j = 0
            · rw [hjk]; show (mayB r.s0.got && mmay r.s0.m) = true; rw [hg, Bool.true_and]; exact hm
            · exact HAL.out j (by omega)
          have HST := Lib.hid hst
          clear hst hg hm HAL
          go_wp2_with fail
          go_roundw
          case rel => exact ⟨1, by omega, rfl, HST.out, e4, f4, b4, z4⟩
          case measure => simp [intOf]
    · have ix : ∀ w, (Instr.index 30 (.agg #[.slice s.a0 s.n0 s.c0, .int .i64 r.s0.m.pk, .int .i64 r.s0.m.bt, .int .i64 r.s0.m.ca, .int .i64 r.s0.m.md, .int .i64 r.s0.m.pt, .slice s.a1 s.n1 s.c1, .int .i64 r.s1.m.pk, .int .i64 r.s1.m.bt, .int .i64 r.s1.m.ca, .int .i64 r.s1.m.md, .int .i64 r.s1.m.pt, .slice s.a2 s.n2 s.c2, .int .i64 r.s2.m.pk, .int .i64 r.s2.m.bt, .int .i64 r.s2.m.ca, .int .i64 r.s2.m.md, .int .i64 r.s2.m.pt, .slice s.a3 s.n3 s.c3, .int .i64 r.s3.m.pk, .int .i64 r.s3.m.bt, .int .i64 r.s3.m.ca, .int .i64 r.s3.m.md, .int .i64 r.s3.m.pt]) (.int .i64 1)).run Try.prog w = .ok (.agg #[.slice s.a1 s.n1 s.c1, .int .i64 r.s1.m.pk, .int .i64 r.s1.m.bt, .int .i64 r.s1.m.ca, .int .i64 r.s1.m.md, .int .i64 r.s1.m.pt]) w := fun _ => by kernel_rfl
      go_upto_region 4 with (refine rin_store rfl (.tmp 4) (.tmp 9) rfl rfl [.slice s.a1 s.n1 s.c1, .int .i64 r.s1.m.pk, .int .i64 r.s1.m.bt, .int .i64 r.s1.m.ca, .int .i64 r.s1.m.md, .int .i64 r.s1.m.pt] rfl (Bx.new wr 29 [.slice none 0 0, .int .i64 0, .int .i64 0, .int .i64 0, .int .i64 0, .int .i64 0]) rfl rfl rfl ?_)
      obtain ⟨q2, hb⟩ := rin_new wr [.slice s.a1 s.n1 s.c1, .int .i64 r.s1.m.pk, .int .i64 r.s1.m.bt, .int .i64 r.s1.m.ca, .int .i64 r.s1.m.md, .int .i64 r.s1.m.pt] rfl
      generalize (wr.alloc (.cells ([.slice none 0 0, .int .i64 0, .int .i64 0, .int .i64 0, .int .i64 0, .int .i64 0] : List Value).toArray 29)).setRow wr.heap.size ([.slice s.a1 s.n1 s.c1, .int .i64 r.s1.m.pk, .int .i64 r.s1.m.bt, .int .i64 r.s1.m.ca, .int .i64 r.s1.m.md, .int .i64 r.s1.m.pt] : List Value).toArray = w2 at q2 hb ⊢
      have e2 := e1.kept hb; have f2 := f1.keep hb; have b2 := b1.trans (hb.mono z1); have z2 := Nat.le_trans z1 hb.size
      clear ix e1 f1 b1 z1 hb
      have x0 := q2.cell 0 rfl
      go_wp2_with fail
      refine (may_any s.a1 s.n1 s.c1 r.s1.got _ f2.g1).mono ?_
      rintro e w3 ⟨rfl, hb⟩
      have q3 := q2.kept hb; have e3 := e2.kept hb; have f3 := f2.keep hb; have b3 := b2.trans (hb.mono z2); have z3 := Nat.le_trans z2 hb.size
      clear x0 q2 e2 f2 b2 z2 hb
      cases hg : mayB r.s1.got with
      | false =>
        have HF := Lib.hid (rcmay_not' (r := r) (k := 1) (by omega) (inmay_got' hg))
        clear hg
        go_wp2_with fail
        go_ret
        exact ⟨by rw [HF.out]; rfl, b3⟩
      | true =>
        go_wp2_with (refine rsub_loadg (cs := [.slice s.a1 s.n1 s.c1, .int .i64 r.s1.m.pk, .int .i64 r.s1.m.bt, .int .i64 r.s1.m.ca, .int .i64 r.s1.m.md, .int .i64 r.s1.m.pt]) (vs := mcs r.s1.m) ir_marks (by kernel_rfl) (.tmp 15) rfl rfl q3 rfl rfl ?_)
        refine (mkmay_any r.s1.m.pk r.s1.m.bt r.s1.m.ca r.s1.m.md r.s1.m.pt _).mono ?_
        rintro e w4 ⟨rfl, hb⟩
        have e4 := e3.kept hb; have f4 := f3.keep hb; have b4 := b3.trans (hb.mono z3); have z4 := Nat.le_trans z3 hb.size
        clear q3 e3 f3 b3 z3 hb
        cases hm : mmay ⟨r.s1.m.pk, r.s1.m.bt, r.s1.m.ca, r.s1.m.md, r.s1.m.pt⟩ with
        | false =>
          have HF := Lib.hid (rcmay_not' (r := r) (k := 1) (by omega) (inmay_m' hm))
          clear hg hm
          go_wp2_with fail
          go_ret
          exact ⟨by rw [HF.out]; rfl, b4⟩
        | true =>
          have hst : ∀ j, j < 2 → inmay (r.s j) = true := fun j hj => by
            by_cases hjk : j = 1
            · rw [hjk]; show (mayB r.s1.got && mmay r.s1.m) = true; rw [hg, Bool.true_and]; exact hm
            · exact HAL.out j (by omega)
          have HST := Lib.hid hst
          clear hst hg hm HAL
          go_wp2_with fail
          go_roundw
          case rel => exact ⟨2, by omega, rfl, HST.out, e4, f4, b4, z4⟩
          case measure => simp [intOf]
    · have ix : ∀ w, (Instr.index 30 (.agg #[.slice s.a0 s.n0 s.c0, .int .i64 r.s0.m.pk, .int .i64 r.s0.m.bt, .int .i64 r.s0.m.ca, .int .i64 r.s0.m.md, .int .i64 r.s0.m.pt, .slice s.a1 s.n1 s.c1, .int .i64 r.s1.m.pk, .int .i64 r.s1.m.bt, .int .i64 r.s1.m.ca, .int .i64 r.s1.m.md, .int .i64 r.s1.m.pt, .slice s.a2 s.n2 s.c2, .int .i64 r.s2.m.pk, .int .i64 r.s2.m.bt, .int .i64 r.s2.m.ca, .int .i64 r.s2.m.md, .int .i64 r.s2.m.pt, .slice s.a3 s.n3 s.c3, .int .i64 r.s3.m.pk, .int .i64 r.s3.m.bt, .int .i64 r.s3.m.ca, .int .i64 r.s3.m.md, .int .i64 r.s3.m.pt]) (.int .i64 2)).run Try.prog w = .ok (.agg #[.slice s.a2 s.n2 s.c2, .int .i64 r.s2.m.pk, .int .i64 r.s2.m.bt, .int .i64 r.s2.m.ca, .int .i64 r.s2.m.md, .int .i64 r.s2.m.pt]) w := fun _ => by kernel_rfl
      go_upto_region 4 with (refine rin_store rfl (.tmp 4) (.tmp 9) rfl rfl [.slice s.a2 s.n2 s.c2, .int .i64 r.s2.m.pk, .int .i64 r.s2.m.bt, .int .i64 r.s2.m.ca, .int .i64 r.s2.m.md, .int .i64 r.s2.m.pt] rfl (Bx.new wr 29 [.slice none 0 0, .int .i64 0, .int .i64 0, .int .i64 0, .int .i64 0, .int .i64 0]) rfl rfl rfl ?_)
      obtain ⟨q2, hb⟩ := rin_new wr [.slice s.a2 s.n2 s.c2, .int .i64 r.s2.m.pk, .int .i64 r.s2.m.bt, .int .i64 r.s2.m.ca, .int .i64 r.s2.m.md, .int .i64 r.s2.m.pt] rfl
      generalize (wr.alloc (.cells ([.slice none 0 0, .int .i64 0, .int .i64 0, .int .i64 0, .int .i64 0, .int .i64 0] : List Value).toArray 29)).setRow wr.heap.size ([.slice s.a2 s.n2 s.c2, .int .i64 r.s2.m.pk, .int .i64 r.s2.m.bt, .int .i64 r.s2.m.ca, .int .i64 r.s2.m.md, .int .i64 r.s2.m.pt] : List Value).toArray = w2 at q2 hb ⊢
      have e2 := e1.kept hb; have f2 := f1.keep hb; have b2 := b1.trans (hb.mono z1); have z2 := Nat.le_trans z1 hb.size
      clear ix e1 f1 b1 z1 hb
      have x0 := q2.cell 0 rfl
      go_wp2_with fail
      refine (may_any s.a2 s.n2 s.c2 r.s2.got _ f2.g2).mono ?_
      rintro e w3 ⟨rfl, hb⟩
      have q3 := q2.kept hb; have e3 := e2.kept hb; have f3 := f2.keep hb; have b3 := b2.trans (hb.mono z2); have z3 := Nat.le_trans z2 hb.size
      clear x0 q2 e2 f2 b2 z2 hb
      cases hg : mayB r.s2.got with
      | false =>
        have HF := Lib.hid (rcmay_not' (r := r) (k := 2) (by omega) (inmay_got' hg))
        clear hg
        go_wp2_with fail
        go_ret
        exact ⟨by rw [HF.out]; rfl, b3⟩
      | true =>
        go_wp2_with (refine rsub_loadg (cs := [.slice s.a2 s.n2 s.c2, .int .i64 r.s2.m.pk, .int .i64 r.s2.m.bt, .int .i64 r.s2.m.ca, .int .i64 r.s2.m.md, .int .i64 r.s2.m.pt]) (vs := mcs r.s2.m) ir_marks (by kernel_rfl) (.tmp 15) rfl rfl q3 rfl rfl ?_)
        refine (mkmay_any r.s2.m.pk r.s2.m.bt r.s2.m.ca r.s2.m.md r.s2.m.pt _).mono ?_
        rintro e w4 ⟨rfl, hb⟩
        have e4 := e3.kept hb; have f4 := f3.keep hb; have b4 := b3.trans (hb.mono z3); have z4 := Nat.le_trans z3 hb.size
        clear q3 e3 f3 b3 z3 hb
        cases hm : mmay ⟨r.s2.m.pk, r.s2.m.bt, r.s2.m.ca, r.s2.m.md, r.s2.m.pt⟩ with
        | false =>
          have HF := Lib.hid (rcmay_not' (r := r) (k := 2) (by omega) (inmay_m' hm))
          clear hg hm
          go_wp2_with fail
          go_ret
          exact ⟨by rw [HF.out]; rfl, b4⟩
        | true =>
          have hst : ∀ j, j < 3 → inmay (r.s j) = true := fun j hj => by
            by_cases hjk : j = 2
            · rw [hjk]; show (mayB r.s2.got && mmay r.s2.m) = true; rw [hg, Bool.true_and]; exact hm
            · exact HAL.out j (by omega)
          have HST := Lib.hid hst
          clear hst hg hm HAL
          go_wp2_with fail
          go_roundw
          case rel => exact ⟨3, by omega, rfl, HST.out, e4, f4, b4, z4⟩
          case measure => simp [intOf]
    · have ix : ∀ w, (Instr.index 30 (.agg #[.slice s.a0 s.n0 s.c0, .int .i64 r.s0.m.pk, .int .i64 r.s0.m.bt, .int .i64 r.s0.m.ca, .int .i64 r.s0.m.md, .int .i64 r.s0.m.pt, .slice s.a1 s.n1 s.c1, .int .i64 r.s1.m.pk, .int .i64 r.s1.m.bt, .int .i64 r.s1.m.ca, .int .i64 r.s1.m.md, .int .i64 r.s1.m.pt, .slice s.a2 s.n2 s.c2, .int .i64 r.s2.m.pk, .int .i64 r.s2.m.bt, .int .i64 r.s2.m.ca, .int .i64 r.s2.m.md, .int .i64 r.s2.m.pt, .slice s.a3 s.n3 s.c3, .int .i64 r.s3.m.pk, .int .i64 r.s3.m.bt, .int .i64 r.s3.m.ca, .int .i64 r.s3.m.md, .int .i64 r.s3.m.pt]) (.int .i64 3)).run Try.prog w = .ok (.agg #[.slice s.a3 s.n3 s.c3, .int .i64 r.s3.m.pk, .int .i64 r.s3.m.bt, .int .i64 r.s3.m.ca, .int .i64 r.s3.m.md, .int .i64 r.s3.m.pt]) w := fun _ => by kernel_rfl
      go_upto_region 4 with (refine rin_store rfl (.tmp 4) (.tmp 9) rfl rfl [.slice s.a3 s.n3 s.c3, .int .i64 r.s3.m.pk, .int .i64 r.s3.m.bt, .int .i64 r.s3.m.ca, .int .i64 r.s3.m.md, .int .i64 r.s3.m.pt] rfl (Bx.new wr 29 [.slice none 0 0, .int .i64 0, .int .i64 0, .int .i64 0, .int .i64 0, .int .i64 0]) rfl rfl rfl ?_)
      obtain ⟨q2, hb⟩ := rin_new wr [.slice s.a3 s.n3 s.c3, .int .i64 r.s3.m.pk, .int .i64 r.s3.m.bt, .int .i64 r.s3.m.ca, .int .i64 r.s3.m.md, .int .i64 r.s3.m.pt] rfl
      generalize (wr.alloc (.cells ([.slice none 0 0, .int .i64 0, .int .i64 0, .int .i64 0, .int .i64 0, .int .i64 0] : List Value).toArray 29)).setRow wr.heap.size ([.slice s.a3 s.n3 s.c3, .int .i64 r.s3.m.pk, .int .i64 r.s3.m.bt, .int .i64 r.s3.m.ca, .int .i64 r.s3.m.md, .int .i64 r.s3.m.pt] : List Value).toArray = w2 at q2 hb ⊢
      have e2 := e1.kept hb; have f2 := f1.keep hb; have b2 := b1.trans (hb.mono z1); have z2 := Nat.le_trans z1 hb.size
      clear ix e1 f1 b1 z1 hb
      have x0 := q2.cell 0 rfl
      go_wp2_with fail
      refine (may_any s.a3 s.n3 s.c3 r.s3.got _ f2.g3).mono ?_
      rintro e w3 ⟨rfl, hb⟩
      have q3 := q2.kept hb; have e3 := e2.kept hb; have f3 := f2.keep hb; have b3 := b2.trans (hb.mono z2); have z3 := Nat.le_trans z2 hb.size
      clear x0 q2 e2 f2 b2 z2 hb
      cases hg : mayB r.s3.got with
      | false =>
        have HF := Lib.hid (rcmay_not' (r := r) (k := 3) (by omega) (inmay_got' hg))
        clear hg
        go_wp2_with fail
        go_ret
        exact ⟨by rw [HF.out]; rfl, b3⟩
      | true =>
        go_wp2_with (refine rsub_loadg (cs := [.slice s.a3 s.n3 s.c3, .int .i64 r.s3.m.pk, .int .i64 r.s3.m.bt, .int .i64 r.s3.m.ca, .int .i64 r.s3.m.md, .int .i64 r.s3.m.pt]) (vs := mcs r.s3.m) ir_marks (by kernel_rfl) (.tmp 15) rfl rfl q3 rfl rfl ?_)
        refine (mkmay_any r.s3.m.pk r.s3.m.bt r.s3.m.ca r.s3.m.md r.s3.m.pt _).mono ?_
        rintro e w4 ⟨rfl, hb⟩
        have e4 := e3.kept hb; have f4 := f3.keep hb; have b4 := b3.trans (hb.mono z3); have z4 := Nat.le_trans z3 hb.size
        clear q3 e3 f3 b3 z3 hb
        cases hm : mmay ⟨r.s3.m.pk, r.s3.m.bt, r.s3.m.ca, r.s3.m.md, r.s3.m.pt⟩ with
        | false =>
          have HF := Lib.hid (rcmay_not' (r := r) (k := 3) (by omega) (inmay_m' hm))
          clear hg hm
          go_wp2_with fail
          go_ret
          exact ⟨by rw [HF.out]; rfl, b4⟩
        | true =>
          have hst : ∀ j, j < 4 → inmay (r.s j) = true := fun j hj => by
            by_cases hjk : j = 3
            · rw [hjk]; show (mayB r.s3.got && mmay r.s3.m) = true; rw [hg, Bool.true_and]; exact hm
            · exact HAL.out j (by omega)
          have HST := Lib.hid hst
          clear hst hg hm HAL
          go_wp2_with fail
          go_roundw
          case rel => exact ⟨4, by omega, rfl, HST.out, e4, f4, b4, z4⟩
          case measure => simp [intOf]
    · have HF := Lib.hid (rcmay_of' HAL.out)
      go_wp2_with (refine rsub_load (cs := rcs s r) (vs := [.int .i64 r.w.base, .slice s.wa s.wn s.wc, .slice s.ga s.gn s.gc, .int .i64 r.w.cap, .int .i64 r.w.en]) ir_weave rfl (.tmp 21) rfl rfl e1 rfl rfl ?_)
      refine (wvmay_any r.w.base s.wa s.wn s.wc s.ga s.gn s.gc r.w.cap r.w.en r.w.b r.w.got _ f1.b f1.g HN.out).mono ?_
      rintro e w2 ⟨rfl, hb⟩
      have b2 := b1.trans (hb.mono z1)
      clear HAL e1 f1 b1 z1 hb
      go_wp2_with fail
      go_ret
      exact ⟨by rw [HF.out]; rfl, b2⟩
end Go.Proofs.Ytggnhccpncgfiaa
namespace Go.Proofs.Ytggnhccpncgfiaa
open Go.RowKit
abbrev Pr := Int × Int
def pr (l : List Pr) (i : Nat) : Pr := l.getD i (0, 0)
def WideP (l : List Pr) : Prop := ∀ p ∈ l, U32 p.1 ∧ U32 p.2
/-- the cells of a list -/
def valsP (l : List Pr) : List Value := l.flatMap fun p => [.int .u32 p.1, .int .u32 p.2]
theorem pr_eq {l : List Pr} {i : Nat} (h : i < l.length) : pr l i = l[i] := by unfold pr; rw [List.getD_eq_getElem?_getD, List.getElem?_eq_getElem h]; rfl
theorem wideP_app {a b : List Pr} (h : WideP a) (k : WideP b) : WideP (a ++ b) := fun x hx => (List.mem_append.1 hx).elim (h x) (k x)
theorem wideP_one {x y : Int} (h : U32 x) (k : U32 y) : WideP [(x, y)] := fun p hp => by simp at hp; subst hp; exact ⟨h, k⟩
theorem valsP_length (l : List Pr) : (valsP l).length = l.length * 2 := by
  unfold valsP; induction l with
  | nil => rfl
  | cons p t ih => simp only [List.flatMap_cons, List.length_append, List.length_cons, List.length_nil] at *; omega
theorem valsP_app (a b : List Pr) : valsP (a ++ b) = valsP a ++ valsP b := by unfold valsP; rw [List.flatMap_append]
theorem valsP_at (l : List Pr) : ∀ i, i < l.length → (valsP l)[i * 2]? = some (.int .u32 (pr l i).1) ∧ (valsP l)[i * 2 + 1]? = some (.int .u32 (pr l i).2) := by
  induction l with
  | nil => intro i hi; simp at hi
  | cons p t ih =>
    intro i hi
    have e : valsP (p :: t) = .int .u32 p.1 :: .int .u32 p.2 :: valsP t := rfl
    cases i with
    | zero => rw [e]; exact ⟨rfl, rfl⟩
    | succ i =>
      have := ih i (by simpa using hi)
      rw [e, show (i + 1) * 2 = i * 2 + 1 + 1 by omega]
      have hs : pr (p :: t) (i + 1) = pr t i := rfl
      rw [hs]
      simpa using this
theorem valsP_cell (l : List Pr) : ∀ u ∈ valsP l, u.oneCell' = true := by
  intro u hu
  unfold valsP at hu
  obtain ⟨p, _, hp⟩ := List.mem_flatMap.1 hu
  simp at hp
  rcases hp with rfl | rfl <;> rfl
/-- The first n elements from A read as the list l in the world w. -/
structure Rp (w : World) (A : Option Addr) (n : Nat) (l : List Pr) : Prop where
  len : l.length = n
  wide : WideP l
  at_ : 0 < n → ∃ b o, A = some ⟨b, o, none⟩ ∧ b < w.heap.size ∧ ∀ i, i < n → w.cell? ⟨b, o + i * 2, none⟩ = some (.int .u32 (pr l i).1) ∧ w.cell? ⟨b, o + i * 2 + 1, none⟩ = some (.int .u32 (pr l i).2)
/-- A slice of spans that reads as l. -/
structure Sr (w : World) (A : Option Addr) (n c : Nat) (l : List Pr) : Prop where
  le : n ≤ c
  max : c ≤ maxLen
  nil : A = none → c = 0
  rd : Rp w A n l
section
variable {w w' : World} {A : Option Addr} {n : Nat} {l : List Pr}
theorem Rp.keep_of {B : Nat} (h : Rp w A n l) (hb : Below B w w') (hlt : ∀ b o, A = some ⟨b, o, none⟩ → 0 < n → b < B) : Rp w' A n l :=
  ⟨h.len, h.wide, fun hn => by
    obtain ⟨b, o, e, hl, hc⟩ := h.at_ hn
    exact ⟨b, o, e, Nat.lt_of_lt_of_le hl hb.size, fun i hi => ⟨(hb.cell (p := ⟨b, o + i * 2, none⟩) (hlt b o e hn)).trans (hc i hi).1, (hb.cell (p := ⟨b, o + i * 2 + 1, none⟩) (hlt b o e hn)).trans (hc i hi).2⟩⟩⟩
theorem Rp.keep (h : Rp w A n l) (hb : Below w.heap.size w w') : Rp w' A n l :=
  h.keep_of hb (fun b o e hn => by obtain ⟨b', o', e', hl, _⟩ := h.at_ hn; rw [e] at e'; cases e'; exact hl)
theorem Rp.alloc (h : Rp w A n l) (o : Obj) : Rp (w.alloc o) A n l := h.keep ((Below.refl _ _).alloc (Nat.le_refl _) o)
theorem Rp.empty (w : World) (A : Option Addr) : Rp w A 0 [] := ⟨rfl, fun _ hx => by simp at hx, fun hn => absurd hn (by omega)⟩
theorem Sr.keep {c : Nat} (h : Sr w A n c l) (hb : Below w.heap.size w w') : Sr w' A n c l := ⟨h.le, h.max, h.nil, h.rd.keep hb⟩
theorem Sr.alloc {c : Nat} (h : Sr w A n c l) (o : Obj) : Sr (w.alloc o) A n c l := ⟨h.le, h.max, h.nil, h.rd.alloc o⟩
theorem Sr.none (w : World) : Sr w none 0 0 [] := ⟨Nat.le_refl _, Nat.zero_le _, fun _ => rfl, Rp.empty _ _⟩
/-- A row of the call's own whose elements are l. -/
structure Gotp (w : World) (base e : Nat) (v : Value) (n : Nat) (l : List Pr) : Prop where
  row : w.ownsRow base e 2 v n (valsP l)
  wide : WideP l
theorem Gotp.len {base e : Nat} {v : Value} (h : Gotp w base e v n l) : l.length = n := by
  have := h.row.1; rw [valsP_length] at this; omega
theorem Gotp.ss {base e : Nat} {v : Value} (h : Gotp w base e v n l) : ∃ A c, v = .slice A n c ∧ Sr w A n c l := by
  have hlen := h.len
  rcases h.row.2 with ⟨rfl, rfl⟩ | ⟨g, cap, cur, rfl, hg, hh, hnc, hcm, hcs, htake⟩
  · exact ⟨_, 0, rfl, Nat.le_refl _, Nat.zero_le _, fun _ => rfl, hlen, h.wide, fun h0 => by omega⟩
  · refine ⟨some ⟨g, 0, .none⟩, cap, rfl, hnc, hcm, (fun e => by cases e), hlen, h.wide, fun h0 => ⟨g, 0, rfl, ?_, fun i hi => ?_⟩⟩
    · rcases Nat.lt_or_ge g w.heap.size with hlt | hge
      · exact hlt
      · rw [Array.getElem?_eq_none hge] at hh; cases hh
    · have hv := valsP_at l i (by omega)
      have h1 := h.row.cellAt (i * 2) (by omega)
      have h2 := h.row.cellAt (i * 2 + 1) (by omega)
      rw [Nat.zero_add]
      exact ⟨h1.trans hv.1, h2.trans hv.2⟩
theorem Gotp.keep {base e : Nat} {v : Value} (h : Gotp w base e v n l) (hf : w.grownBy w' .none) : Gotp w' base e v n l :=
  ⟨h.row.kept hf (by rcases hv : v.ownBlock with _ | k <;> simp), h.wide⟩
/-- the cells of a row that a list literal lays -/
theorem news_of_rp {b o : Nat} (hlen : l.length = n) (hc : ∀ i, i < n → w.cell? ⟨b, o + i * 2, none⟩ = some (.int .u32 (pr l i).1) ∧ w.cell? ⟨b, o + i * 2 + 1, none⟩ = some (.int .u32 (pr l i).2)) :
    ∀ j u, (valsP l)[j]? = some u → w.cell? ((⟨b, o, none⟩ : Addr).add j) = some u := by
  intro j u hj
  have hlt : j < l.length * 2 := by rw [← valsP_length]; exact (List.getElem?_eq_some_iff.1 hj).1
  have hadd : (⟨b, o, none⟩ : Addr).add j = ⟨b, o + j, none⟩ := by
    unfold Addr.add
    split
    · next h => subst h; rfl
    · rfl
  rw [hadd]
  have hv := valsP_at l (j / 2) (by omega)
  have hcc := hc (j / 2) (by omega)
  rcases Nat.mod_two_eq_zero_or_one j with h0 | h1
  · rw [show j = j / 2 * 2 by omega] at hj ⊢
    rw [hv.1] at hj; cases hj; exact hcc.1
  · rw [show j = j / 2 * 2 + 1 by omega] at hj ⊢
    rw [hv.2] at hj; cases hj; rw [← Nat.add_assoc]; exact hcc.2
end
end Go.Proofs.Ytggnhccpncgfiaa
namespace Go.Proofs.Ytggnhccpncgfiaa
open Go.RowKit
/-- new blocks -/
def NewB (w : World) : Nat → Prop := fun b => w.heap.size ≤ b
/-- a segment in new memory -/
structure SgM (w w' : World) (G : Option Addr) (m d : Nat) (A : Option Addr) (n c : Nat) (x : Sg) : Prop where
  sr : Sr w' G m d x.sacks
  sl : Sl w' A n c x.b
  pg : InP (NewB w) G m
  pa : InP (NewB w) A n
  wide : SgW x
def TellRN (w w' : World) (p : Nat → Prop) (e : Ending) (x : Rc × Int) : Prop := ∃ s, e = .returned (.tuple #[.agg (rcs s x.1).toArray, .int .i64 x.2]) ∧ RcM w' p s x.1 ∧ Below w.heap.size w w'
def TellRA (w w' : World) (e : Ending) (x : Sg × Int) : Prop := ∃ G m d A n c, e = .returned (.tuple #[.agg (sgs G m d A n c x.1).toArray, .int .i64 x.2]) ∧ SgM w w' G m d A n c x.1 ∧ Below w.heap.size w w'
def TellRT (w w' : World) (p : Nat → Prop) (e : Ending) (x : Rc × Sg × Int) : Prop := ∃ s G m d A n c, e = .returned (.tuple #[.agg (rcs s x.1).toArray, .agg (sgs G m d A n c x.2.1).toArray, .int .i64 x.2.2]) ∧ RcM w' p s x.1 ∧ SgM w w' G m d A n c x.2.1 ∧ Below w.heap.size w w'
def TellRR (w w' : World) (p : Nat → Prop) (e : Ending) (x : Rc × List Int × Int) : Prop := ∃ s A n c, e = .returned (.tuple #[.agg (rcs s x.1).toArray, .slice A n c, .int .i64 x.2.2]) ∧ RcM w' p s x.1 ∧ Sl w' A n c x.2.1 ∧ InP p A n ∧ Below w.heap.size w w'
/-- the blocks of a receiver are there -/
theorem RcM.lt {w : World} {p : Nat → Prop} {s : Rcs} {r : Rc} (h : RcM w p s r) : RcM w (fun b => b < w.heap.size) s r := by
  have hs : ∀ {A : Option Addr} {n c : Nat} {l : List Sp}, Ss w A n c l → InP (fun b => b < w.heap.size) A n := fun {A n c l} hh h0 b o s e => by
    obtain ⟨b', o', e', hlt, _⟩ := hh.rd.at_ h0
    rw [e] at e'; cases e'; exact hlt
  have hb : InP (fun b => b < w.heap.size) s.wa s.wn := fun h0 b o s e => by
    obtain ⟨b', o', e', hlt, _⟩ := h.b.rd.at_ h0
    rw [e] at e'; cases e'; exact hlt
  exact ⟨h.b, h.g, h.g0, h.g1, h.g2, h.g3, h.wide, hb, hs h.g, hs h.g0, hs h.g1, hs h.g2, hs h.g3⟩
end Go.Proofs.Ytggnhccpncgfiaa
namespace Go.Proofs.Ytggnhccpncgfiaa
open Go.RowKit
/-- how far the copying has come -/
def OwQ (s : Rcs) (r : Rc) (B : Nat) (W : World) : Nat → Prop
  | 0 => Bx W B 32 (rcs s r)
  | 1 => ∃ x0 c0, Bx W B 32 (rcs ⟨s.wa, s.wn, s.wc, s.ga, s.gn, s.gc, x0, s.n0, c0, s.a1, s.n1, s.c1, s.a2, s.n2, s.c2, s.a3, s.n3, s.c3⟩ r) ∧ Sq W (B + 2) x0 s.n0 c0 r.s0.got
  | 2 => ∃ x0 c0 x1 c1, Bx W B 32 (rcs ⟨s.wa, s.wn, s.wc, s.ga, s.gn, s.gc, x0, s.n0, c0, x1, s.n1, c1, s.a2, s.n2, s.c2, s.a3, s.n3, s.c3⟩ r) ∧ Sq W (B + 2) x0 s.n0 c0 r.s0.got ∧ Sq W (B + 2) x1 s.n1 c1 r.s1.got
  | 3 => ∃ x0 c0 x1 c1 x2 c2, Bx W B 32 (rcs ⟨s.wa, s.wn, s.wc, s.ga, s.gn, s.gc, x0, s.n0, c0, x1, s.n1, c1, x2, s.n2, c2, s.a3, s.n3, s.c3⟩ r) ∧ Sq W (B + 2) x0 s.n0 c0 r.s0.got ∧ Sq W (B + 2) x1 s.n1 c1 r.s1.got ∧ Sq W (B + 2) x2 s.n2 c2 r.s2.got
  | _ => ∃ x0 c0 x1 c1 x2 c2 x3 c3, Bx W B 32 (rcs ⟨s.wa, s.wn, s.wc, s.ga, s.gn, s.gc, x0, s.n0, c0, x1, s.n1, c1, x2, s.n2, c2, x3, s.n3, c3⟩ r) ∧ Sq W (B + 2) x0 s.n0 c0 r.s0.got ∧ Sq W (B + 2) x1 s.n1 c1 r.s1.got ∧ Sq W (B + 2) x2 s.n2 c2 r.s2.got ∧ Sq W (B + 2) x3 s.n3 c3 r.s3.got
theorem own_n {l : List Sp} {n : Nat} {w : World} {A : Option Addr} {c : Nat} (h : Ss w A n c l) (hm : mayB l = true) : n ≤ 1000000 := by
  have h1 := (mayB_parts hm).1; have h2 := h.rd.len; omega
theorem Sq.inp {w : World} {b0 : Nat} {A : Option Addr} {n c : Nat} {l : List Sp} {p : Nat → Prop} (h : Sq w b0 A n c l) (hp : ∀ b, b0 ≤ b → p b) : InP p A n := fun _ b o s e => hp b (h.at_ b o s e)
set_option maxRecDepth 100000 in
set_option maxHeartbeats 32000000 in
theorem rlown_any (p : Nat → Prop) (s : Rcs) (r : Rc) (w : World) (hp : ∀ b, w.heap.size ≤ b → p b) (h : RcM w p s r) (hr : RcOk r) :
    Calls Try.prog 30 #[.agg (rcs s r).toArray] w fun e w' => ∃ s' : Rcs, e = .returned (.agg (rcs s' r).toArray) ∧ RcM w' p s' r ∧ s'.wn = s.wn ∧ Below w.heap.size w w' := by
  obtain ⟨B, hB⟩ : ∃ B, w.heap.size = B := ⟨_, rfl⟩
  have e0 := (Bx.new w 32 (rcs s r)).alloc (.cells (rcs zrcs zrc).toArray 32)
  have y0 := Bx.new (w.alloc (.cells (rcs s r).toArray 32)) 32 (rcs zrcs zrc)
  rw [World.size_alloc] at y0
  rw [hB] at e0 y0 ⊢
  have b0 : Below B w ((w.alloc (.cells (rcs s r).toArray 32)).alloc (.cells (rcs zrcs zrc).toArray 32)) := by rw [← hB]; exact ((Below.refl _ _).alloc (Nat.le_refl _) _).alloc (by simp) _
  have HH := Lib.hid h; have HP := Lib.hid hp; have HR := Lib.hid hr; have HB := Lib.hid hB
  have N0 := own_n h.g0 (hr.g 0); have N1 := own_n h.g1 (hr.g 1); have N2 := own_n h.g2 (hr.g 2); have N3 := own_n h.g3 (hr.g 3)
  have HN := Lib.hid (And.intro N0 (And.intro N1 (And.intro N2 N3)))
  clear h hp hr N0 N1 N2 N3
  go_enter Try.func30, Try.ntmps30
  go_upto_region 1 with fail
  change Code.wp _ _ _ _ ((w.alloc (.cells (rcs s r).toArray 32)).alloc (.cells (rcs zrcs zrc).toArray 32))
  generalize (w.alloc (.cells (rcs s r).toArray 32)).alloc (.cells (rcs zrcs zrc).toArray 32) = w0 at e0 y0 b0 ⊢
  clear hB
  have z0 : B + 2 ≤ w0.heap.size := y0.lt
  go_wp2_with fail
  go_loopw [3, 4] (fun v i wr => ∃ k : Nat, k ≤ 4 ∧ i = .int .i64 (k : Int) ∧ OwQ s r B wr k ∧ Bx wr (B + 1) 32 (rcs zrcs zrc) ∧ Below B w wr ∧ B + 2 ≤ wr.heap.size) (fun _ i _ => 4 - (intOf i).toNat)
  case atStart => exact ⟨0, Nat.zero_le _, rfl, e0, y0, b0, z0⟩
  case round =>
    obtain ⟨k, hk, rfl, hq, y1, b1, z1⟩ := hrel
    clear e0 y0 b0 z0
    have hc : k = 0 ∨ k = 1 ∨ k = 2 ∨ k = 3 ∨ k = 4 := by omega
    rcases hc with rfl | rfl | rfl | rfl | rfl
    · have e1 : Bx wr B 32 (rcs s r) := hq
      clear hq
      have cc := e1.cell 5 rfl
      have HS := Lib.hid (HH.out.g0.keep (by rw [HB.out]; exact b1))
      go_wp2_with fail
      refine (sclone_any s.a0 s.n0 s.c0 r.s0.got _ HS.out HN.out.1).mono ?_
      rintro e w2 ⟨x0, c0, rfl, qn, hb⟩
      have e2 := e1.kept hb; have y2 := y1.kept hb; have b2 := b1.trans (hb.mono (Nat.le_trans (by omega) z1)); have z2 := Nat.le_trans z1 hb.size
      have q0 := qn.mono z1
      clear e1 y1 b1 z1 hb cc HS qn
      have cc := e2.cell 5 rfl
      have fz := e2.free 5
      go_wp2_with fail
      have e3 : Bx (w2.setCell ⟨B, 5, none⟩ (.slice x0 s.n0 c0)) B 32 (rcs ⟨s.wa, s.wn, s.wc, s.ga, s.gn, s.gc, x0, s.n0, c0, s.a1, s.n1, s.c1, s.a2, s.n2, s.c2, s.a3, s.n3, s.c3⟩ r) := e2.set 5 (.slice x0 s.n0 c0)
      have y3 := y2.far (p := ⟨B, 5, none⟩) (by show B + 1 ≠ B; omega) (.slice x0 s.n0 c0)
      have b3 := b2.setCell (p := ⟨B, 5, none⟩) (Nat.le_refl _) (.slice x0 s.n0 c0)
      have z3 : B + 2 ≤ (w2.setCell ⟨B, 5, none⟩ (.slice x0 s.n0 c0)).heap.size := by simpa using z2
      have t0 := q0.set (p := ⟨B, 5, none⟩) (by show B < B + 2; omega) (.slice x0 s.n0 c0)
      go_roundw
      case rel => exact ⟨1, by omega, rfl, ⟨x0, c0, e3, t0⟩, y3, b3, z3⟩
      case measure => simp [intOf]
    · obtain ⟨x0, c0, e1, q0⟩ := hq
      have cc := e1.cell 11 rfl
      have HS := Lib.hid (HH.out.g1.keep (by rw [HB.out]; exact b1))
      go_wp2_with fail
      refine (sclone_any s.a1 s.n1 s.c1 r.s1.got _ HS.out HN.out.2.1).mono ?_
      rintro e w2 ⟨x1, c1, rfl, qn, hb⟩
      have e2 := e1.kept hb; have y2 := y1.kept hb; have b2 := b1.trans (hb.mono (Nat.le_trans (by omega) z1)); have z2 := Nat.le_trans z1 hb.size
      have q1 := qn.mono z1
      have q0' := q0.keep hb
      clear e1 y1 b1 z1 hb cc HS qn q0
      have cc := e2.cell 11 rfl
      have fz := e2.free 11
      go_wp2_with fail
      have e3 : Bx (w2.setCell ⟨B, 11, none⟩ (.slice x1 s.n1 c1)) B 32 (rcs ⟨s.wa, s.wn, s.wc, s.ga, s.gn, s.gc, x0, s.n0, c0, x1, s.n1, c1, s.a2, s.n2, s.c2, s.a3, s.n3, s.c3⟩ r) := e2.set 11 (.slice x1 s.n1 c1)
      have y3 := y2.far (p := ⟨B, 11, none⟩) (by show B + 1 ≠ B; omega) (.slice x1 s.n1 c1)
      have b3 := b2.setCell (p := ⟨B, 11, none⟩) (Nat.le_refl _) (.slice x1 s.n1 c1)
      have z3 : B + 2 ≤ (w2.setCell ⟨B, 11, none⟩ (.slice x1 s.n1 c1)).heap.size := by simpa using z2
      have t0 := q0'.set (p := ⟨B, 11, none⟩) (by show B < B + 2; omega) (.slice x1 s.n1 c1)
      have t1 := q1.set (p := ⟨B, 11, none⟩) (by show B < B + 2; omega) (.slice x1 s.n1 c1)
      go_roundw
      case rel => exact ⟨2, by omega, rfl, ⟨x0, c0, x1, c1, e3, t0, t1⟩, y3, b3, z3⟩
      case measure => simp [intOf]
    · obtain ⟨x0, c0, x1, c1, e1, q0, q1⟩ := hq
      have cc := e1.cell 17 rfl
      have HS := Lib.hid (HH.out.g2.keep (by rw [HB.out]; exact b1))
      go_wp2_with fail
      refine (sclone_any s.a2 s.n2 s.c2 r.s2.got _ HS.out HN.out.2.2.1).mono ?_
      rintro e w2 ⟨x2, c2, rfl, qn, hb⟩
      have e2 := e1.kept hb; have y2 := y1.kept hb; have b2 := b1.trans (hb.mono (Nat.le_trans (by omega) z1)); have z2 := Nat.le_trans z1 hb.size
      have q2 := qn.mono z1
      have q0' := q0.keep hb
      have q1' := q1.keep hb
      clear e1 y1 b1 z1 hb cc HS qn q0 q1
      have cc := e2.cell 17 rfl
      have fz := e2.free 17
      go_wp2_with fail
      have e3 : Bx (w2.setCell ⟨B, 17, none⟩ (.slice x2 s.n2 c2)) B 32 (rcs ⟨s.wa, s.wn, s.wc, s.ga, s.gn, s.gc, x0, s.n0, c0, x1, s.n1, c1, x2, s.n2, c2, s.a3, s.n3, s.c3⟩ r) := e2.set 17 (.slice x2 s.n2 c2)
      have y3 := y2.far (p := ⟨B, 17, none⟩) (by show B + 1 ≠ B; omega) (.slice x2 s.n2 c2)
      have b3 := b2.setCell (p := ⟨B, 17, none⟩) (Nat.le_refl _) (.slice x2 s.n2 c2)
      have z3 : B + 2 ≤ (w2.setCell ⟨B, 17, none⟩ (.slice x2 s.n2 c2)).heap.size := by simpa using z2
      have t0 := q0'.set (p := ⟨B, 17, none⟩) (by show B < B + 2; omega) (.slice x2 s.n2 c2)
      have t1 := q1'.set (p := ⟨B, 17, none⟩) (by show B < B + 2; omega) (.slice x2 s.n2 c2)
      have t2 := q2.set (p := ⟨B, 17, none⟩) (by show B < B + 2; omega) (.slice x2 s.n2 c2)
      go_roundw
      case rel => exact ⟨3, by omega, rfl, ⟨x0, c0, x1, c1, x2, c2, e3, t0, t1, t2⟩, y3, b3, z3⟩
      case measure => simp [intOf]
    · obtain ⟨x0, c0, x1, c1, x2, c2, e1, q0, q1, q2⟩ := hq
      have cc := e1.cell 23 rfl
      have HS := Lib.hid (HH.out.g3.keep (by rw [HB.out]; exact b1))
      go_wp2_with fail
      refine (sclone_any s.a3 s.n3 s.c3 r.s3.got _ HS.out HN.out.2.2.2).mono ?_
      rintro e w2 ⟨x3, c3, rfl, qn, hb⟩
      have e2 := e1.kept hb; have y2 := y1.kept hb; have b2 := b1.trans (hb.mono (Nat.le_trans (by omega) z1)); have z2 := Nat.le_trans z1 hb.size
      have q3 := qn.mono z1
      have q0' := q0.keep hb
      have q1' := q1.keep hb
      have q2' := q2.keep hb
      clear e1 y1 b1 z1 hb cc HS qn q0 q1 q2
      have cc := e2.cell 23 rfl
      have fz := e2.free 23
      go_wp2_with fail
      have e3 : Bx (w2.setCell ⟨B, 23, none⟩ (.slice x3 s.n3 c3)) B 32 (rcs ⟨s.wa, s.wn, s.wc, s.ga, s.gn, s.gc, x0, s.n0, c0, x1, s.n1, c1, x2, s.n2, c2, x3, s.n3, c3⟩ r) := e2.set 23 (.slice x3 s.n3 c3)
      have y3 := y2.far (p := ⟨B, 23, none⟩) (by show B + 1 ≠ B; omega) (.slice x3 s.n3 c3)
      have b3 := b2.setCell (p := ⟨B, 23, none⟩) (Nat.le_refl _) (.slice x3 s.n3 c3)
      have z3 : B + 2 ≤ (w2.setCell ⟨B, 23, none⟩ (.slice x3 s.n3 c3)).heap.size := by simpa using z2
      have t0 := q0'.set (p := ⟨B, 23, none⟩) (by show B < B + 2; omega) (.slice x3 s.n3 c3)
      have t1 := q1'.set (p := ⟨B, 23, none⟩) (by show B < B + 2; omega) (.slice x3 s.n3 c3)
      have t2 := q2'.set (p := ⟨B, 23, none⟩) (by show B < B + 2; omega) (.slice x3 s.n3 c3)
      have t3 := q3.set (p := ⟨B, 23, none⟩) (by show B < B + 2; omega) (.slice x3 s.n3 c3)
      go_roundw
      case rel => exact ⟨4, by omega, rfl, ⟨x0, c0, x1, c1, x2, c2, x3, c3, e3, t0, t1, t2, t3⟩, y3, b3, z3⟩
      case measure => simp [intOf]
    · obtain ⟨x0, c0, x1, c1, x2, c2, x3, c3, e1, q0, q1, q2, q3⟩ := hq
      go_wp2_with (first | (refine rv_load rfl (.tmp 1) rfl rfl e1 rfl ?_) | (refine rv_store rfl (.tmp 2) (.tmp 18) rfl rfl (rcs ⟨s.wa, s.wn, s.wc, s.ga, s.gn, s.gc, x0, s.n0, c0, x1, s.n1, c1, x2, s.n2, c2, x3, s.n3, c3⟩ r) rfl y1 rfl rfl rfl ?_))
      have e2 := rv_put y1 (rcs ⟨s.wa, s.wn, s.wc, s.ga, s.gn, s.gc, x0, s.n0, c0, x1, s.n1, c1, x2, s.n2, c2, x3, s.n3, c3⟩ r)
      have b2 := b1.grown (rv_grown wr (B + 1) (rcs ⟨s.wa, s.wn, s.wc, s.ga, s.gn, s.gc, x0, s.n0, c0, x1, s.n1, c1, x2, s.n2, c2, x3, s.n3, c3⟩ r).toArray) (by omega) (fun k hk => by cases hk; omega)
      have hg := rv_grown wr (B + 1) (rcs ⟨s.wa, s.wn, s.wc, s.ga, s.gn, s.gc, x0, s.n0, c0, x1, s.n1, c1, x2, s.n2, c2, x3, s.n3, c3⟩ r).toArray
      have hne : ∀ {A : Option Addr} {n c : Nat} {l : List Sp}, Sq wr (B + 2) A n c l → Sq (wr.setRow (B + 1) (rcs ⟨s.wa, s.wn, s.wc, s.ga, s.gn, s.gc, x0, s.n0, c0, x1, s.n1, c1, x2, s.n2, c2, x3, s.n3, c3⟩ r).toArray) (B + 2) A n c l := fun h => h.grown hg (fun _ b o e hh => by have := h.at_ b o _ e; cases hh; omega)
      have t0 := hne q0; have t1 := hne q1; have t2 := hne q2; have t3 := hne q3
      have hb' : Below w.heap.size w (wr.setRow (B + 1) (rcs ⟨s.wa, s.wn, s.wc, s.ga, s.gn, s.gc, x0, s.n0, c0, x1, s.n1, c1, x2, s.n2, c2, x3, s.n3, c3⟩ r).toArray) := by rw [HB.out]; exact b2
      have hpp : ∀ b, B + 2 ≤ b → p b := fun b hb => HP.out b (by rw [HB.out]; omega)
      refine rv_end1 (by rfl) (by rfl) e2 rfl rfl ?_
      have H := HH.out
      exact ⟨⟨s.wa, s.wn, s.wc, s.ga, s.gn, s.gc, x0, s.n0, c0, x1, s.n1, c1, x2, s.n2, c2, x3, s.n3, c3⟩, rfl, ⟨H.b.keep hb', H.g.keep hb', t0.ss, t1.ss, t2.ss, t3.ss, H.wide, H.pb, H.pg, t0.inp hpp, t1.inp hpp, t2.inp hpp, t3.inp hpp⟩, rfl, b2⟩
end Go.Proofs.Ytggnhccpncgfiaa
namespace Go.Proofs.Ytggnhccpncgfiaa
open Go.RowKit
/-- a new box of a weave, stored whole -/
theorem rwv_new (w : World) (vs : List Value) (hv : vs.length = 5) : Bx ((w.alloc (.cells ([.int .i64 0, .slice none 0 0, .slice none 0 0, .int .i64 0, .int .i64 0] : List Value).toArray 25)).setRow w.heap.size vs.toArray) w.heap.size 25 vs ∧ Below w.heap.size w ((w.alloc (.cells ([.int .i64 0, .slice none 0 0, .slice none 0 0, .int .i64 0, .int .i64 0] : List Value).toArray 25)).setRow w.heap.size vs.toArray) :=
  ⟨rwv_put (Bx.new w 25 [.int .i64 0, .slice none 0 0, .slice none 0 0, .int .i64 0, .int .i64 0]) vs, ((Below.refl _ _).alloc (Nat.le_refl _) _).grown (rwv_grown _ w.heap.size _) (by simp) (fun k hk => by cases hk; exact Nat.le_refl _)⟩
theorem new_wide (room : Int) (hr : n64 room) : n64 (newR room).1.base ∧ n64 (newR room).1.cap ∧ n64 (newR room).1.en := by
  unfold newR
  split
  · exact ⟨n64_0, hr, by show n64 (-1); unfold n64; omega⟩
  · exact ⟨n64_0, n64_0, n64_0⟩
set_option maxRecDepth 100000 in
set_option maxHeartbeats 16000000 in
theorem rcnew_any (p : Nat → Prop) (room : Int) (w : World) (hr : n64 room) (hp : ∀ b, w.heap.size ≤ b → p b) :
    Calls Try.prog 20 #[.int .i64 room] w fun e w' => TellRN w w' p e (rnewR room) := by
  obtain ⟨B, hB⟩ : ∃ B, w.heap.size = B := ⟨_, rfl⟩
  have e0 := Bx.new w 32 (rcs zrcs zrc)
  have b0 : Below w.heap.size w (w.alloc (.cells (rcs zrcs zrc).toArray 32)) := (Below.refl _ _).alloc (Nat.le_refl _) _
  rw [hB] at e0 b0
  have HW := Lib.hid (new_wide room hr); have HP := Lib.hid hp; have HB := Lib.hid hB
  obtain ⟨⟨x, y⟩, hx⟩ : ∃ x, newR room = x := ⟨_, rfl⟩
  have HX := Lib.hid hx
  clear hr hp hx
  go_enter Try.func20, Try.ntmps20
  go_upto_region 1 with fail
  change Code.wp _ _ _ _ (w.alloc (.cells (rcs zrcs zrc).toArray 32))
  generalize w.alloc (.cells (rcs zrcs zrc).toArray 32) = w1 at e0 b0 ⊢
  clear hB
  have z0 : B + 1 ≤ w1.heap.size := e0.lt
  go_wp2_with fail
  refine (wnew_any room w1).mono ?_
  rintro e w2 ⟨R, m, d, G, k, q, rfl, hsb, hsq, hb⟩
  rw [HX.out]
  rw [HX.out] at hsb hsq
  dsimp only at hsb hsq
  have e2 := e0.kept hb; have b2 := b0.trans (hb.mono (by omega)); have z2 := Nat.le_trans z0 hb.size
  have hsb2 : Sb w2 (B + 1) R m d x.b := ⟨hsb.sl, fun b o s e => Nat.le_trans z0 (hsb.at_ b o s e)⟩
  have hsq2 := hsq.mono z0
  clear e0 b0 hb z0 hsb hsq
  go_upto_region 2 with (refine rwv_store rfl (.tmp 4) (.tmp 9) rfl rfl [.int .i64 x.base, .slice R m d, .slice G k q, .int .i64 x.cap, .int .i64 x.en] rfl (Bx.new w2 25 [.int .i64 0, .slice none 0 0, .slice none 0 0, .int .i64 0, .int .i64 0]) rfl rfl rfl ?_)
  obtain ⟨y3, hb⟩ := rwv_new w2 [.int .i64 x.base, .slice R m d, .slice G k q, .int .i64 x.cap, .int .i64 x.en] rfl
  obtain ⟨P, hP⟩ : ∃ P, w2.heap.size = P := ⟨_, rfl⟩
  rw [hP]
  rw [hP] at y3 hb
  generalize (w2.alloc (.cells ([.int .i64 0, .slice none 0 0, .slice none 0 0, .int .i64 0, .int .i64 0] : List Value).toArray 25)).setRow P ([.int .i64 x.base, .slice R m d, .slice G k q, .int .i64 x.cap, .int .i64 x.en] : List Value).toArray = w3 at y3 hb ⊢
  have hb : Below w2.heap.size w2 w3 := by rw [hP]; exact hb
  have hbw : Below w.heap.size w w3 := (by rw [HB.out]; exact b2.trans (hb.mono (by omega)))
  have e3 := e2.kept hb
  have hsb3 := hsb2.sl.keep hb; have hsq3 := hsq2.keep hb
  have hat := hsb2.at_
  have z3 := Nat.le_trans z2 hb.size
  clear e2 b2 hb z2 hsb2 hsq2
  have bld : ∀ w, (Instr.build 32 #[(0, .agg #[.int .i64 x.base, .slice R m d, .slice G k q, .int .i64 x.cap, .int .i64 x.en])]).run Try.prog w = .ok (.agg (rcs ⟨R, m, d, G, k, q, none, 0, 0, none, 0, 0, none, 0, 0, none, 0, 0⟩ (zrc.weave x)).toArray) w := fun _ => by kernel_rfl
  go_wp2_with (first | (refine rwv_load rfl (.tmp 4) rfl rfl y3 rfl ?_) | (refine rv_store rfl (.tmp 2) (.tmp 12) rfl rfl (rcs ⟨R, m, d, G, k, q, none, 0, 0, none, 0, 0, none, 0, 0, none, 0, 0⟩ (zrc.weave x)) rfl e3 rfl rfl rfl ?_))
  have hg := rv_grown w3 B (rcs ⟨R, m, d, G, k, q, none, 0, 0, none, 0, 0, none, 0, 0, none, 0, 0⟩ (zrc.weave x)).toArray
  have b4 : Below w.heap.size w (w3.setRow B (rcs ⟨R, m, d, G, k, q, none, 0, 0, none, 0, 0, none, 0, 0, none, 0, 0⟩ (zrc.weave x)).toArray) := hbw.grown hg (by rw [HB.out]; omega) (fun k hk => by cases hk; rw [HB.out]; exact Nat.le_refl _)
  have t1 := hsq3.ss.grown hg (fun _ b o e hh => by have := hsq3.at_ b o _ e; cases hh; omega)
  have t0 := slp_grown (p := fun b => B + 1 ≤ b) hsb3 (fun _ b o s e => hat b o s e) hg (fun b hb e => by cases e; omega)
  refine rv_end2 (by rfl) (by rfl) rfl (rv_put e3 _) rfl rfl ?_
  refine ⟨⟨R, m, d, G, k, q, none, 0, 0, none, 0, 0, none, 0, 0, none, 0, 0⟩, ?_, ?_, b4⟩
  · unfold rnewR; rw [HX.out]; rfl
  · have hw := HW.out
    rw [HX.out] at hw
    unfold rnewR
    rw [HX.out]
    have hpp : ∀ b, B + 1 ≤ b → p b := fun b hb => HP.out b (by rw [HB.out]; omega)
    exact ⟨t0, t1, Ss.none _, Ss.none _, Ss.none _, Ss.none _, ⟨hw.1, hw.2.1, hw.2.2, w_zrc.m0, w_zrc.m1, w_zrc.m2, w_zrc.m3⟩, fun _ b o s e => hpp b (hat b o s e), hsq3.inp hpp, InP.zero _ _, InP.zero _ _, InP.zero _ _, InP.zero _ _⟩
end Go.Proofs.Ytggnhccpncgfiaa
namespace Go.Proofs.Ytggnhccpncgfiaa
open Go.RowKit
theorem modulo_ex (m : Int) (w : World) :
    Calls Try.prog 103 #[.int .i64 m] w fun e w' => ∃ V, e = .returned (.func (.func 105) #[] #[.pointer (some ⟨V, 0, none⟩)]) ∧ Bx w' V 3 [.int .i64 m] ∧ Below w.heap.size w w' :=
  (modulo_any m w).mono (fun _ _ h => ⟨_, h⟩)
set_option maxRecDepth 100000 in
set_option maxHeartbeats 8000000 in
theorem mktold_any (pk bt ca md pt : Int) (w : World) :
    Calls Try.prog 98 #[.agg #[.int .i64 pk, .int .i64 bt, .int .i64 ca, .int .i64 md, .int .i64 pt]] w fun e w' => e = .returned (.tuple #[.int .i64 (toldR ⟨pk, bt, ca, md, pt⟩).1, .int .u32 (toldR ⟨pk, bt, ca, md, pt⟩).2]) ∧ Below w.heap.size w w' := by
  obtain ⟨B, hB⟩ : ∃ B, w.heap.size = B := ⟨_, rfl⟩
  rw [hB]
  have e0 := Bx.new w 27 [.int .i64 pk, .int .i64 bt, .int .i64 ca, .int .i64 md, .int .i64 pt]
  rw [hB] at e0
  have b0 : Below B w (w.alloc (.cells #[.int .i64 pk, .int .i64 bt, .int .i64 ca, .int .i64 md, .int .i64 pt] 27)) := by rw [← hB]; exact (Below.refl _ _).alloc (Nat.le_refl _) _
  obtain ⟨x, hx⟩ : ∃ x, toldR ⟨pk, bt, ca, md, pt⟩ = x := ⟨_, rfl⟩
  rw [hx]
  have HX := Lib.hid hx; clear hx
  go_enter Try.func98, Try.ntmps98
  go_wp2_with (refine ms_load rfl (.tmp 1) rfl rfl e0 rfl ?_)
  generalize w.alloc (.cells #[.int .i64 pk, .int .i64 bt, .int .i64 ca, .int .i64 md, .int .i64 pt] 27) = w1 at e0 b0 ⊢
  refine (mkmay_any pk bt ca md pt _).mono ?_
  rintro e w2 ⟨rfl, hb2⟩
  have e2 := e0.kept hb2; have b2 := b0.trans (hb2.mono (Nat.le_of_lt e0.lt))
  cases hk : mmay ⟨pk, bt, ca, md, pt⟩ with
  | false =>
    have hx : x = (0, 0) := by rw [← HX.out]; unfold toldR; rw [if_neg (by rw [hk]; simp)]
    subst hx
    clear HX hk
    go_wp2_with fail
    go_ret2
    exact ⟨rfl, b2⟩
  | true =>
    have hv := (mmay_iff _).1 hk
    have hx : x = (pk % 8, bt % 16777216) := by rw [← HX.out]; unfold toldR; rw [if_pos hk]
    have p0 : 0 ≤ pk := hv.p0; have p1 : pk ≤ 1152921504606846976 := hv.p1; have q0 : 0 ≤ bt := hv.b0; have q1 : bt ≤ 1152921504606846976 := hv.b1
    obtain ⟨p2, hp2⟩ : ∃ y, pk % 8 = y := ⟨_, rfl⟩
    obtain ⟨q2, hq2⟩ : ∃ y, bt % 16777216 = y := ⟨_, rfl⟩
    rw [hp2, hq2] at hx
    subst hx
    have q3 : 0 ≤ q2 := by omega
    have q4 : q2 < 16777216 := by omega
    have hw32 : IntKind.u32.wrap q2 = q2 := by rw [IntKind.wrap_u32']; omega
    have HP := Lib.hid hp2; have HQ := Lib.hid hq2
    clear HX hk hv e0 b0 hb2 hp2 hq2
    go_upto_region 3 with fail
    refine wp_region_tail 10 11 (fun (W : World) => Bx W B 27 [.int .i64 pk, .int .i64 bt, .int .i64 ca, .int .i64 md, .int .i64 pt] ∧ Below B w W) (by kernel_rfl) (by rfl) (by decide) ?_
    have HS : (fun (W : World) => Bx W B 27 [.int .i64 pk, .int .i64 bt, .int .i64 ca, .int .i64 md, .int .i64 pt] ∧ Below B w W) _ := ⟨e2.drew, b2.drew⟩
    refine wpAnyT_take (i := 1) (v := .pointer (some ⟨B, 0, none⟩)) rfl (by kernel_rfl) (fun _ _ _ h => h) (Or.inl ⟨by rfl, fun w hSw => ?_⟩) HS ?_
    · (try dsimp only at hSw); go_simp
    try simp only [Act.put, List.setIfInBounds_toArray, List.set_cons_zero, List.set_cons_succ]
    refine wpAnyT_take (i := 2) (v := .int .i64 pk) rfl (by kernel_rfl) (fun _ _ _ h => h) (Or.inl ⟨by rfl, fun w hSw => ?_⟩) HS ?_
    · have hc := hSw.1.cell 0 rfl; go_simp
    try simp only [Act.put, List.setIfInBounds_toArray, List.set_cons_zero, List.set_cons_succ]
    refine wpAnyT_take (i := 5) (v := .pointer (some ⟨B, 1, none⟩)) rfl (by kernel_rfl) (fun _ _ _ h => h) (Or.inl ⟨by rfl, fun w hSw => ?_⟩) HS ?_
    · (try dsimp only at hSw); go_simp
    try simp only [Act.put, List.setIfInBounds_toArray, List.set_cons_zero, List.set_cons_succ]
    refine wpAnyT_take (i := 6) (v := .int .i64 bt) rfl (by kernel_rfl) (fun _ _ _ h => h) (Or.inl ⟨by rfl, fun w hSw => ?_⟩) HS ?_
    · have hc := hSw.1.cell 1 rfl; go_simp
    try simp only [Act.put, List.setIfInBounds_toArray, List.set_cons_zero, List.set_cons_succ]
    refine wpAnyT_one (k := 0) rfl (by kernel_rfl) (by decide) (fun K hK => ?_)
    go_simp
    refine (modulo_ex 8 _).mono ?_
    rintro e w3 ⟨V3, rfl, hx3, hb3⟩
    have e3 := e2.drew.kept hb3; have b3 := b2.drew.trans (hb3.mono (Nat.le_of_lt e2.drew.lt))
    have HS3 : (fun (W : World) => Bx W B 27 [.int .i64 pk, .int .i64 bt, .int .i64 ca, .int .i64 md, .int .i64 pt] ∧ Below B w W) _ := ⟨e3, b3⟩
    refine hK _ _ HS3 ?_
    clear hK K
    try simp only [Act.put, List.setIfInBounds_toArray, List.set_cons_zero, List.set_cons_succ]
    refine wpAnyT_one (k := 3) rfl (by kernel_rfl) (by decide) (fun K hK => ?_)
    go_simp
    refine (res8_any pk _ _ (hx3.cell 0 rfl) (by omega) (by omega)).mono ?_
    rintro e w4 ⟨rfl, hb4⟩
    rw [HP.out]
    have e4 := e3.kept hb4; have b4 := b3.trans (hb4.mono (Nat.le_of_lt e3.lt))
    have x4_0 := hx3.kept hb4
    have HS4 : (fun (W : World) => Bx W B 27 [.int .i64 pk, .int .i64 bt, .int .i64 ca, .int .i64 md, .int .i64 pt] ∧ Below B w W) _ := ⟨e4, b4⟩
    refine hK _ _ HS4 ?_
    clear hK K
    try simp only [Act.put, List.setIfInBounds_toArray, List.set_cons_zero, List.set_cons_succ]
    refine wpAnyT_one (k := 4) rfl (by kernel_rfl) (by decide) (fun K hK => ?_)
    go_simp
    refine (modulo_ex 16777216 _).mono ?_
    rintro e w5 ⟨V5, rfl, hx5, hb5⟩
    have e5 := e4.kept hb5; have b5 := b4.trans (hb5.mono (Nat.le_of_lt e4.lt))
    have x5_0 := x4_0.kept hb5
    have HS5 : (fun (W : World) => Bx W B 27 [.int .i64 pk, .int .i64 bt, .int .i64 ca, .int .i64 md, .int .i64 pt] ∧ Below B w W) _ := ⟨e5, b5⟩
    refine hK _ _ HS5 ?_
    clear hK K
    try simp only [Act.put, List.setIfInBounds_toArray, List.set_cons_zero, List.set_cons_succ]
    refine wpAnyT_one (k := 7) rfl (by kernel_rfl) (by decide) (fun K hK => ?_)
    go_simp
    refine (res24_any bt _ _ (hx5.cell 0 rfl) (by omega) (by omega)).mono ?_
    rintro e w6 ⟨rfl, hb6⟩
    rw [HQ.out]
    have e6 := e5.kept hb6; have b6 := b5.trans (hb6.mono (Nat.le_of_lt e5.lt))
    have x6_0 := x5_0.kept hb6
    have x6_4 := hx5.kept hb6
    have HS6 : (fun (W : World) => Bx W B 27 [.int .i64 pk, .int .i64 bt, .int .i64 ca, .int .i64 md, .int .i64 pt] ∧ Below B w W) _ := ⟨e6, b6⟩
    refine hK _ _ HS6 ?_
    clear hK K
    try simp only [Act.put, List.setIfInBounds_toArray, List.set_cons_zero, List.set_cons_succ]
    refine wpAnyT_take (i := 8) (v := .int .u32 q2) rfl (by kernel_rfl) (fun _ _ _ h => h) (Or.inl ⟨by rfl, fun w hSw => ?_⟩) HS6 ?_
    · (try dsimp only at hSw); go_simp
    try simp only [Act.put, List.setIfInBounds_toArray, List.set_cons_zero, List.set_cons_succ]
    refine wpAnyT_one (k := 9) rfl (by kernel_rfl) (by decide) (fun K hK => ?_)
    go_simp
    refine hK _ _ HS6 ?_
    clear hK K
    try simp only [Act.put, List.setIfInBounds_toArray, List.set_cons_zero, List.set_cons_succ]
    refine ⟨by kernel_rfl, ?_⟩
    simp only [List.drop_succ_cons, List.drop_zero]
    go_wp2_with fail
    go_ret2
    exact ⟨rfl, b6⟩
end Go.Proofs.Ytggnhccpncgfiaa
namespace Go.Proofs.Ytggnhccpncgfiaa
open Go.RowKit
set_option maxHeartbeats 400000 in
theorem low_any (n : Int) (w : World) :
    Calls Try.prog 95 #[.int .i64 n] w fun e w' => e = .returned (.int .u32 (n % 4294967296)) ∧ w = w' := by
  go_enter Try.func95, Try.ntmps95
  go_wp2
  go_ret
  exact ⟨rfl, rfl⟩
end Go.Proofs.Ytggnhccpncgfiaa
