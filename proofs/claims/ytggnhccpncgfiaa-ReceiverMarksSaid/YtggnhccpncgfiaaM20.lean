/- The texts RcL14. -/
import Derived.Below
import Derived.BigQuiet
import Derived.Deep.AppendLies
import Derived.Deep.CutBlock
import Derived.Deep.DeepCutAuto
import Derived.Deep.QuietTactic
import Derived.IntWalk
import Derived.Laws.Rows
import Derived.Laws.Tables
import Derived.Lib.Hide
import Derived.OrdersHeld
import Derived.Outline
import Derived.Test.YtggnhccpncgfiaaProg
import Derived.WalkKit
import Derived.WalkSmall
import Derived.WalkSpells
import Derived.Test.YtggnhccpncgfiaaM13
import Derived.Test.YtggnhccpncgfiaaM15
import Derived.Test.YtggnhccpncgfiaaM18
import Derived.Test.YtggnhccpncgfiaaM19
set_option linter.all false
namespace Go.Proofs.Ytggnhccpncgfiaa
open Go.RowKit
theorem setAll_pre : ∀ (vs pre cs : List Value), cs.length = vs.length → setAllR (pre ++ cs) pre.length vs = pre ++ vs
  | [], pre, cs, h => by
    have : cs = [] := List.eq_nil_of_length_eq_zero h
    rw [this]; rfl
  | v :: r, pre, cs, h => by
    cases cs with
    | nil => cases h
    | cons c t =>
      have e : (pre ++ c :: t).set pre.length v = (pre ++ [v]) ++ t := by rw [List.set_append_right _ _ (Nat.le_refl _), Nat.sub_self, List.append_assoc]; rfl
      show setAllR ((pre ++ c :: t).set pre.length v) (pre.length + 1) r = _
      rw [e, show pre.length + 1 = (pre ++ [v]).length by simp, setAll_pre r (pre ++ [v]) t (by simpa using h), List.append_assoc]
      rfl
theorem setAll_all (vs cs : List Value) (h : cs.length = vs.length) : setAllR cs 0 vs = vs := setAll_pre vs [] cs h
theorem Bx.allR {W : World} {B : Nat} {t : TypeId} {cs : List Value} (h : Bx W B t cs) (vs : List Value) (hl : cs.length = vs.length) : Bx (W.setCells B 0 vs) B t vs := by
  have := h.cellsR (o := 0) vs
  rwa [setAll_all vs cs hl] at this
theorem rcsg_end {W : World} {B X : Nat} {t t2 : TypeId} {cs xs : List Value} {fn : Func} {tmps : Array Value} {R : Ending → World → Prop} {v : Value} {ds : List Deferred} {p q r : Tmp} (hr : fn.results = #[.cell p 32, .cell q 36, .tmp r]) (h2 : tmps.getD p undef = .pointer (some ⟨B, 0, none⟩)) (h3 : tmps.getD q undef = .pointer (some ⟨X, 0, none⟩)) (h4 : tmps.getD r undef = v)
    (e : Bx W B t cs) (hl : cs.length = 29) (e2 : Bx W X t2 xs) (hl2 : xs.length = 15) (hd : ds = []) (h : R (.returned (.tuple #[.agg cs.toArray, .agg xs.toArray, v])) W) : bodyPost Try.prog fn R .ret { tmps := tmps, defers := ds } W := by
  have l2 := rv_var e hl
  have l3 := sg_var e2 hl2
  have h2a : tmps[p]?.getD undef = .pointer (some ⟨B, 0, none⟩) := by simpa using h2
  have h2b : tmps[q]?.getD undef = .pointer (some ⟨X, 0, none⟩) := by simpa using h3
  have h2c : tmps[r]?.getD undef = v := by simpa using h4
  refine bodyPost_ret (v := .tuple #[.agg cs.toArray, .agg xs.toArray, v]) ?_ hd h
  simp [results, hr, h2a, h2b, h2c, asAddr, l2, l3]
theorem sto_wide {v : Wv} (hv : Va v) (h : n64 v.base ∧ n64 v.cap ∧ n64 v.en) {x : Sg} (hx : U32 x.dsn) : n64 (stoR v x).1.base ∧ n64 (stoR v x).1.cap ∧ n64 (stoR v x).1.en := by
  have hz : n64 zw.base ∧ n64 zw.cap ∧ n64 zw.en := ⟨n64_0, n64_0, n64_0⟩
  have h1 := far_top hv
  have h2 := unwr_bd (c := farR v) (low := x.dsn) h1.1
  unfold stoR
  split
  · unfold wshutR
    split
    · split
      · exact hz
      · exact ⟨h.1, h.2.1, show n64 (unwr (farR v) x.dsn) from n64_in (by omega) (by omega)⟩
    · exact hz
  · split
    · exact hz
    · unfold putR
      split
      · split
        · exact hz
        · split
          · exact h
          · split
            · exact h
            · exact hz
      · exact hz
theorem rec_w {l : List Sp} {mk : Ms} {x : Sg} {marked : Bool} (h : (recR l mk x marked).2 = 0) : MsW (recR l mk x marked).1.m := by
  unfold recR at h ⊢
  split at h
  · next h1 => exact absurd h h1
  · next h1 =>
    rw [if_neg h1]
    split at h
    · cases h
    · next h2 =>
      rw [if_neg h2]
      have hk := (mmay_iff _).1 (by simpa using h2)
      have q1 := hk.p0; have q2 := hk.p1; have q3 := hk.b0; have q4 := hk.b1; have q5 := hk.c0; have q6 := hk.c1; have q7 := hk.m0; have q8 := hk.m1; have q9 := hk.t0; have q10 := hk.t1
      show MsW (mkR' mk x marked)
      exact ⟨n64_in (by omega) (by omega), n64_in (by omega) (by omega), n64_in (by omega) (by omega), n64_in (by omega) (by omega), n64_in (by omega) (by omega)⟩
set_option maxRecDepth 100000 in
set_option maxHeartbeats 32000000 in
theorem rctake_any (p : Nat → Prop) (s : Rcs) (r : Rc) (G' : Option Addr) (m' d' : Nat) (A' : Option Addr) (n' c' : Nat) (x : Sg) (marked : Bool) (w : World) (hp : ∀ b, w.heap.size ≤ b → p b) (h : RcM w p s r) (hn : s.wn ≤ 140737488355328) (hx : SgW x) (hsr : Sr w G' m' d' x.sacks) (hsl : Sl w A' n' c' x.b) :
    Calls Try.prog 11 #[.agg (rcs s r).toArray, .agg (sgs G' m' d' A' n' c' x).toArray, .bool marked] w fun e w' => TellRT w w' p e (takeR r x marked) := by
  unfold TellRT
  obtain ⟨B, hB⟩ : ∃ B, w.heap.size = B := ⟨_, rfl⟩
  have e0 := (((Bx.new w 32 (rcs s r)).alloc (.cells (sgs G' m' d' A' n' c' x).toArray 36)).alloc (.cells (rcs zrcs zrc).toArray 32)).alloc (.cells (sgs none 0 0 none 0 0 zs).toArray 36)
  have x0 := ((Bx.new (w.alloc (.cells (rcs s r).toArray 32)) 36 (sgs G' m' d' A' n' c' x)).alloc (.cells (rcs zrcs zrc).toArray 32)).alloc (.cells (sgs none 0 0 none 0 0 zs).toArray 36)
  have y0 := (Bx.new ((w.alloc (.cells (rcs s r).toArray 32)).alloc (.cells (sgs G' m' d' A' n' c' x).toArray 36)) 32 (rcs zrcs zrc)).alloc (.cells (sgs none 0 0 none 0 0 zs).toArray 36)
  have g0 := Bx.new (((w.alloc (.cells (rcs s r).toArray 32)).alloc (.cells (sgs G' m' d' A' n' c' x).toArray 36)).alloc (.cells (rcs zrcs zrc).toArray 32)) 36 (sgs none 0 0 none 0 0 zs)
  rw [World.size_alloc] at x0
  rw [World.size_alloc, World.size_alloc] at y0
  rw [World.size_alloc, World.size_alloc, World.size_alloc] at g0
  rw [hB] at e0 x0 y0 g0
  have bw : Below w.heap.size w ((((w.alloc (.cells (rcs s r).toArray 32)).alloc (.cells (sgs G' m' d' A' n' c' x).toArray 36)).alloc (.cells (rcs zrcs zrc).toArray 32)).alloc (.cells (sgs none 0 0 none 0 0 zs).toArray 36)) := ((((Below.refl _ _).alloc (Nat.le_refl _) _).alloc (by simp) _).alloc (by simp; omega) _).alloc (by simp; omega) _
  have b0 : Below B w ((((w.alloc (.cells (rcs s r).toArray 32)).alloc (.cells (sgs G' m' d' A' n' c' x).toArray 36)).alloc (.cells (rcs zrcs zrc).toArray 32)).alloc (.cells (sgs none 0 0 none 0 0 zs).toArray 36)) := by rw [← hB]; exact bw
  have f0 := (h.and h.lt).keep bw
  rw [hB] at f0
  have l0 := hsl.keep bw; have r0 := hsr.keep bw
  have z0 : B ≤ ((((w.alloc (.cells (rcs s r).toArray 32)).alloc (.cells (sgs G' m' d' A' n' c' x).toArray 36)).alloc (.cells (rcs zrcs zrc).toArray 32)).alloc (.cells (sgs none 0 0 none 0 0 zs).toArray 36)).heap.size := by have := e0.lt; omega
  have HBW := Lib.hid hB; have HN := Lib.hid hn; have HX := Lib.hid hx; have HP := Lib.hid hp; have HWD := Lib.hid h.wide; have HLB := Lib.hid hsl.rd.len
  have HXL := Lib.hid (show InP (fun b => b < B) A' n' from fun h0 b o z e => by
    obtain ⟨b', o', e', hlt, _⟩ := hsl.rd.at_ h0
    rw [e] at e'; cases e'; omega)
  clear h hn hx hp hsl hsr bw
  go_enter Try.func11, Try.ntmps11
  go_upto_block 0 with fail
  change Code.wp _ _ _ _ ((((w.alloc (.cells (rcs s r).toArray 32)).alloc (.cells (sgs G' m' d' A' n' c' x).toArray 36)).alloc (.cells (rcs zrcs zrc).toArray 32)).alloc (.cells (sgs none 0 0 none 0 0 zs).toArray 36))
  generalize ((((w.alloc (.cells (rcs s r).toArray 32)).alloc (.cells (sgs G' m' d' A' n' c' x).toArray 36)).alloc (.cells (rcs zrcs zrc).toArray 32)).alloc (.cells (sgs none 0 0 none 0 0 zs).toArray 36)) = w1 at e0 x0 y0 g0 b0 f0 l0 r0 z0 ⊢
  clear hB
  have bldr : ∀ w, (Instr.build 32 #[]).run Try.prog w = .ok (.agg (rcs zrcs zrc).toArray) w := fun _ => by kernel_rfl
  have bldg : ∀ w, (Instr.build 36 #[]).run Try.prog w = .ok (.agg (sgs none 0 0 none 0 0 zs).toArray) w := fun _ => by kernel_rfl
  go_wp2_with (refine rv_load rfl (.tmp 3) rfl rfl e0 rfl ?_)
  refine (rcmay_any _ s r _ f0 HN.out).mono ?_
  rintro e w2 ⟨rfl, hb⟩
  have e2 := e0.kept hb; have x2 := x0.kept hb; have y2 := y0.kept hb; have g2 := g0.kept hb; have f2 := f0.keep hb; have l2 := l0.keep hb; have r2 := r0.keep hb; have b2 := b0.trans (hb.mono z0); have z2 := Nat.le_trans z0 hb.size
  clear e0 x0 y0 g0 f0 l0 r0 b0 z0 hb
  cases hm : rcmay r with
  | false =>
    have HA := Lib.hid (show takeR r x marked = (zrc, zs, 1) from by
      have he : takeE r x marked = 1 := by unfold takeE; rw [if_pos hm]
      rw [take_err (by rw [he]; decide), he])
    clear hm
    have hy3 := y2.lt
    have hg3 := g2.lt
    go_wp2_with (first | (refine rv_store rfl (.tmp 6) (.tmp 16) rfl rfl (rcs zrcs zrc) rfl y2 rfl rfl rfl ?_) | (refine sg_store rfl (.tmp 7) (.tmp 17) rfl rfl (sgs none 0 0 none 0 0 zs) rfl (g2.grown (rv_grown _ (B + 2) _) (fun e => by have := Option.some.inj e; omega)) rfl rfl rfl ?_))
    refine rcsg_end (by rfl) (by rfl) (by rfl) (by rfl) ((rv_put y2 (rcs zrcs zrc)).grown (sg_grown _ (B + 3) _) (fun e => by have := Option.some.inj e; omega)) rfl (sg_put (g2.grown (rv_grown _ (B + 2) _) (fun e => by have := Option.some.inj e; omega)) (sgs none 0 0 none 0 0 zs)) rfl rfl ?_
    rw [HBW.out, HA.out]
    have bb := b2.grown (rv_grown _ (B + 2) (rcs zrcs zrc).toArray) z2 (fun k hk => by cases hk; omega)
    exact ⟨zrcs, none, 0, 0, none, 0, 0, rfl, RcM.zero _ _, ⟨Sr.none _, Sl.none _, InP.zero _ _, InP.zero _ _, zs_w⟩, bb.grown (sg_grown _ (B + 3) _) (Nat.le_trans z2 (by simp [World.setRow])) (fun k hk => by cases hk; omega)⟩
  | true =>
  have HOK := Lib.hid ((rcmay_iff r).1 hm); have HM := Lib.hid hm
  clear hm
  go_wp2_with (refine sg_load rfl (.tmp 4) rfl rfl x2 rfl ?_)
  refine (rlisd_any G' m' d' A' n' c' x _ r2 l2).mono ?_
  rintro e w3 ⟨rfl, hb⟩
  have e3 := e2.kept hb; have x3 := x2.kept hb; have y3 := y2.kept hb; have g3 := g2.kept hb; have f3 := f2.keep hb; have l3 := l2.keep hb; have b3 := b2.trans (hb.mono z2); have z3 := Nat.le_trans z2 hb.size
  clear e2 x2 y2 g2 f2 l2 r2 b2 z2 hb
  cases hf : formB x with
  | false =>
    have HA := Lib.hid (show takeR r x marked = (zrc, zs, 7) from by
      have he : takeE r x marked = 7 := by unfold takeE; rw [if_neg (by rw [HM.out]; simp), if_pos hf]
      rw [take_err (by rw [he]; decide), he])
    clear hf
    have hy3 := y3.lt
    have hg3 := g3.lt
    go_wp2_with (first | (refine rv_store rfl (.tmp 6) (.tmp 22) rfl rfl (rcs zrcs zrc) rfl y3 rfl rfl rfl ?_) | (refine sg_store rfl (.tmp 7) (.tmp 23) rfl rfl (sgs none 0 0 none 0 0 zs) rfl (g3.grown (rv_grown _ (B + 2) _) (fun e => by have := Option.some.inj e; omega)) rfl rfl rfl ?_))
    refine rcsg_end (by rfl) (by rfl) (by rfl) (by rfl) ((rv_put y3 (rcs zrcs zrc)).grown (sg_grown _ (B + 3) _) (fun e => by have := Option.some.inj e; omega)) rfl (sg_put (g3.grown (rv_grown _ (B + 2) _) (fun e => by have := Option.some.inj e; omega)) (sgs none 0 0 none 0 0 zs)) rfl rfl ?_
    rw [HBW.out, HA.out]
    have bb := b3.grown (rv_grown _ (B + 2) (rcs zrcs zrc).toArray) z3 (fun k hk => by cases hk; omega)
    exact ⟨zrcs, none, 0, 0, none, 0, 0, rfl, RcM.zero _ _, ⟨Sr.none _, Sl.none _, InP.zero _ _, InP.zero _ _, zs_w⟩, bb.grown (sg_grown _ (B + 3) _) (Nat.le_trans z3 (by simp [World.setRow])) (fun k hk => by cases hk; omega)⟩
  | true =>
  have HF := Lib.hid ((formB_iff x).1 hf); have HFB := Lib.hid hf
  clear hf
  obtain ⟨i, hi⟩ : ∃ i : Nat, x.sub = (i : Int) := ⟨x.sub.toNat, by have := HF.out.1.sub0; omega⟩
  have hi3 : i ≤ 3 := by have := HF.out.1.sub1; omega
  have HI := Lib.hid hi3
  have HTN := Lib.hid (show x.sub.toNat = i by omega)
  have HXI := Lib.hid (show some (Value.int .i64 x.sub) = some (Value.int .i64 (i : Int)) by rw [hi])
  have HI4 := Lib.hid (And.intro (show (i : Int) < 4 by omega) (show i < 4 by omega))
  obtain ⟨SA, sn, sc, hin, hss⟩ := inlet_at s r hi3
  obtain ⟨l, hl⟩ : ∃ l, (r.s i).got = l := ⟨_, rfl⟩
  obtain ⟨mk, hmk⟩ : ∃ k, (r.s i).m = k := ⟨_, rfl⟩
  have HSS := Lib.hid (show ∀ (w : World) (p : Nat → Prop), RcM w p s r → Ss w SA sn sc l from fun w p h => by rw [← hl]; exact (hss h).1)
  have HMB := Lib.hid (show mayB l = true from by rw [← hl]; exact HOK.out.g i)
  have HMO := Lib.hid (show MsOk mk from by rw [← hmk]; exact HOK.out.m i)
  rw [hmk] at hin
  have HIN := Lib.hid hin
  have HLM := Lib.hid (And.intro hl hmk)
  have HSQ := Lib.hid HX.out.seq
  have HN' := Lib.hid (show n' ≤ 65536 by have h1 := HF.out.1.bl; have h2 := HLB.out; omega)
  clear hin hss hl hmk hi hi3
  go_upto_region 5 with fail
  go_wp2_with (first | (refine rsub_load (cs := rcs s r) (vs := [.int .i64 r.w.base, .slice s.wa s.wn s.wc, .slice s.ga s.gn s.gc, .int .i64 r.w.cap, .int .i64 r.w.en]) ir_weave rfl (.tmp 25) rfl rfl e3 rfl rfl ?_) | (refine sg_load rfl (.tmp 4) rfl rfl x3 rfl ?_))
  refine (rlsto_any r.w.base s.wa s.wn s.wc s.ga s.gn s.gc r.w.cap r.w.en r.w.b r.w.got G' m' d' A' n' c' x _ f3.b f3.g l3 HOK.out.w HX.out.dsn HN'.out).mono ?_
  rintro e w4 ⟨R, k, q, H, u, v, rfl, hsb, hsq, hb⟩
  obtain ⟨⟨X, ee⟩, hX⟩ : ∃ z, stoR ⟨r.w.base, r.w.b, r.w.got, r.w.cap, r.w.en⟩ x = z := ⟨_, rfl⟩
  have HXX := Lib.hid (show stoR r.w x = (X, ee) from hX)
  have hxw := sto_wide HOK.out.w ⟨HWD.out.base, HWD.out.cap, HWD.out.en⟩ HX.out.dsn
  rw [HXX.out] at hxw
  have HXW := Lib.hid hxw
  rw [hX] at hsb hsq ⊢
  dsimp only at hsb hsq ⊢
  have e4 := e3.kept hb; have x4 := x3.kept hb; have y4 := y3.kept hb; have g4 := g3.kept hb; have f4 := f3.keep hb; have l4 := l3.keep hb; have b4 := b3.trans (hb.mono z3); have z4 := Nat.le_trans z3 hb.size
  have hz3 : B + 4 ≤ w3.heap.size := g3.lt
  have hsb := sb_low hsb hz3; have hsq := hsq.mono hz3
  have hrd : InP (fun b => b < w4.heap.size) R k ∧ InP (fun b => b < w4.heap.size) H u := ⟨fun h0 b o z e => by
    obtain ⟨b', o', e', hlt, _⟩ := hsb.sl.rd.at_ h0
    rw [e] at e'; cases e'; exact hlt, fun h0 b o z e => by
    obtain ⟨b', o', e', hlt, _⟩ := hsq.ss.rd.at_ h0
    rw [e] at e'; cases e'; exact hlt⟩
  clear e3 x3 y3 g3 f3 l3 b3 z3 hb hX hxw hz3
  go_upto_region 6 with (refine rwv_store rfl (.tmp 9) (.tmp 29) rfl rfl [.int .i64 X.base, .slice R k q, .slice H u v, .int .i64 X.cap, .int .i64 X.en] rfl (Bx.new w4 25 [.int .i64 0, .slice none 0 0, .slice none 0 0, .int .i64 0, .int .i64 0]) rfl rfl rfl ?_)
  obtain ⟨d5, hb⟩ := rwv_new w4 [.int .i64 X.base, .slice R k q, .slice H u v, .int .i64 X.cap, .int .i64 X.en] rfl
  obtain ⟨D, hD⟩ : ∃ D, w4.heap.size = D := ⟨_, rfl⟩
  have hDB : B + 4 ≤ D := by rw [← hD]; exact g4.lt
  rw [hD] at d5 hb hrd
  try rw [hD]
  generalize (w4.alloc (.cells ([.int .i64 0, .slice none 0 0, .slice none 0 0, .int .i64 0, .int .i64 0] : List Value).toArray 25)).setRow D ([.int .i64 X.base, .slice R k q, .slice H u v, .int .i64 X.cap, .int .i64 X.en] : List Value).toArray = w5 at d5 hb ⊢
  have hb : Below w4.heap.size w4 w5 := by rw [hD]; exact hb
  have HRD := Lib.hid hrd
  have e5 := e4.kept hb; have x5 := x4.kept hb; have y5 := y4.kept hb; have g5 := g4.kept hb; have f5 := f4.keep hb; have l5 := l4.keep hb; have b5 := b4.trans (hb.mono z4); have z5 := Nat.le_trans z4 hb.size
  have sb5 := hsb.keepB hb; have sq5 := hsq.keep hb
  clear e4 x4 y4 g4 f4 l4 b4 z4 hb hsb hsq hD hrd
  by_cases hee : ee = 0
  case neg =>
    have da : (ee != 0) = true := by simpa using hee
    have HA := Lib.hid (show takeR r x marked = (zrc, zs, ee) from by
      have he : takeE r x marked = ee := by rw [sto_err HM.out HFB.out (by rw [HXX.out]; exact hee), HXX.out]
      rw [take_err (by rw [he]; exact hee), he])
    clear hee
    have hy3 := y5.lt
    have hg3 := g5.lt
    go_wp2_with (first | (refine rv_store rfl (.tmp 6) (.tmp 33) rfl rfl (rcs zrcs zrc) rfl y5 rfl rfl rfl ?_) | (refine sg_store rfl (.tmp 7) (.tmp 34) rfl rfl (sgs none 0 0 none 0 0 zs) rfl (g5.grown (rv_grown _ (B + 2) _) (fun e => by have := Option.some.inj e; omega)) rfl rfl rfl ?_))
    refine rcsg_end (by rfl) (by rfl) (by rfl) (by rfl) ((rv_put y5 (rcs zrcs zrc)).grown (sg_grown _ (B + 3) _) (fun e => by have := Option.some.inj e; omega)) rfl (sg_put (g5.grown (rv_grown _ (B + 2) _) (fun e => by have := Option.some.inj e; omega)) (sgs none 0 0 none 0 0 zs)) rfl rfl ?_
    rw [HBW.out, HA.out]
    have bb := b5.grown (rv_grown _ (B + 2) (rcs zrcs zrc).toArray) z5 (fun k hk => by cases hk; omega)
    exact ⟨zrcs, none, 0, 0, none, 0, 0, rfl, RcM.zero _ _, ⟨Sr.none _, Sl.none _, InP.zero _ _, InP.zero _ _, zs_w⟩, bb.grown (sg_grown _ (B + 3) _) (Nat.le_trans z5 (by simp [World.setRow])) (fun k hk => by cases hk; omega)⟩
  subst hee
  obtain ⟨hw, hte, htk⟩ := sto_ok (marked := marked) HM.out HFB.out (show (stoR r.w x).2 = 0 by rw [HXX.out])
  rw [HTN.out, HLM.out.1, HLM.out.2] at hte htk
  rw [HXX.out] at htk
  obtain ⟨⟨Y, ey⟩, hy⟩ : ∃ z, recR l mk x marked = z := ⟨_, rfl⟩
  have HYW := Lib.hid (show ey = 0 → MsW Y.m from fun h => by have := rec_w (l := l) (mk := mk) (x := x) (marked := marked) (by rw [hy]; exact h); rw [hy] at this; exact this)
  rw [hy] at hte htk
  dsimp only at hte htk
  have HY := Lib.hid hy; have HTE := Lib.hid hte; have HTK := Lib.hid htk
  clear hw hte htk hy
  have z5' : B + 4 ≤ w5.heap.size := g5.lt
  go_upto_region 8 with fail
  have HP8 := Lib.hid (show ((fun (W : World) => Bx W B 32 (rcs s r) ∧ Bx W (B + 1) 36 (sgs G' m' d' A' n' c' x) ∧ Bx W (B + 2) 32 (rcs zrcs zrc) ∧ Bx W (B + 3) 36 (sgs none 0 0 none 0 0 zs) ∧ Bx W D 25 [.int .i64 X.base, .slice R k q, .slice H u v, .int .i64 X.cap, .int .i64 X.en] ∧ RcM W (fun b => p b ∧ b < B) s r ∧ Sl W A' n' c' x.b ∧ Sb W (B + 4) R k q X.b ∧ Sq W (B + 4) H u v X.got ∧ Below B w W ∧ B + 4 ≤ W.heap.size)) w5 from ⟨e5, x5, y5, g5, d5, f5, l5, sb5, sq5, b5, z5'⟩)
  clear e5 x5 y5 g5 d5 f5 l5 sb5 sq5 b5 z5 z5'
  apply cutQ
  · intro hP
    refine wp_region_V [12] 14 (fun (W : World) => Bx W B 32 (rcs s r) ∧ Bx W (B + 1) 36 (sgs G' m' d' A' n' c' x) ∧ Bx W (B + 2) 32 (rcs zrcs zrc) ∧ Bx W (B + 3) 36 (sgs none 0 0 none 0 0 zs) ∧ Bx W D 25 [.int .i64 X.base, .slice R k q, .slice H u v, .int .i64 X.cap, .int .i64 X.en] ∧ RcM W (fun b => p b ∧ b < B) s r ∧ Sl W A' n' c' x.b ∧ Sb W (B + 4) R k q X.b ∧ Sq W (B + 4) H u v X.got ∧ Below B w W ∧ B + 4 ≤ W.heap.size) (by kernel_rfl) (by rfl) ?_
    have HS : ((fun (W : World) => Bx W B 32 (rcs s r) ∧ Bx W (B + 1) 36 (sgs G' m' d' A' n' c' x) ∧ Bx W (B + 2) 32 (rcs zrcs zrc) ∧ Bx W (B + 3) 36 (sgs none 0 0 none 0 0 zs) ∧ Bx W D 25 [.int .i64 X.base, .slice R k q, .slice H u v, .int .i64 X.cap, .int .i64 X.en] ∧ RcM W (fun b => p b ∧ b < B) s r ∧ Sl W A' n' c' x.b ∧ Sb W (B + 4) R k q X.b ∧ Sq W (B + 4) H u v X.got ∧ Below B w W ∧ B + 4 ≤ W.heap.size)) _ := ⟨HP8.out.1.drew, HP8.out.2.1.drew, HP8.out.2.2.1.drew, HP8.out.2.2.2.1.drew, HP8.out.2.2.2.2.1.drew, HP8.out.2.2.2.2.2.1.drew, HP8.out.2.2.2.2.2.2.1.keep (Below.refl _ _).drew, HP8.out.2.2.2.2.2.2.2.1.keepB (Below.refl _ _).drew, HP8.out.2.2.2.2.2.2.2.2.1.keep (Below.refl _ _).drew, HP8.out.2.2.2.2.2.2.2.2.2.1.drew, HP8.out.2.2.2.2.2.2.2.2.2.2⟩
    generalize w5.drew = wd8 at HS  ⊢
    refine wpAnyV_takeU (i := 0) (v := .pointer (some ⟨B + 1, 1, none⟩)) rfl (by kernel_rfl) (fun _ _ _ h => h) (Or.inl ⟨by rfl, fun w _ => ?_⟩) HS ?_
    · clear HS; go_simp
    try simp only [Act.put, List.setIfInBounds_toArray, List.set_cons_zero, List.set_cons_succ]
    refine wpAnyV_take (i := 1) (v := .int .i64 (i : Int)) rfl (by kernel_rfl) (fun _ _ _ h => h) (Or.inl ⟨by rfl, fun w hSw => by
      have cc := (Bx.cell hSw.2.1 1 rfl).trans HXI.out
      clear hSw
      go_simp⟩) HS ?_
    try simp only [Act.put, List.setIfInBounds_toArray, List.set_cons_zero, List.set_cons_succ]
    refine wpAnyV_takeU (i := 2) (v := .pointer (some ⟨B, 5, none⟩)) rfl (by kernel_rfl) (fun _ _ _ h => h) (Or.inl ⟨by rfl, fun w _ => ?_⟩) HS ?_
    · clear HS; go_simp
    try simp only [Act.put, List.setIfInBounds_toArray, List.set_cons_zero, List.set_cons_succ]
    refine wpAnyV_take (i := 3) (v := .pointer (some ⟨B, 5 + i * 6, none⟩)) rfl (by kernel_rfl) (fun _ _ _ h => h) (Or.inl ⟨by rfl, fun w hSw => by
      have hi4 := HI4.out.1
      have hi4' := HI4.out.2
      clear hSw
      go_simp⟩) HS ?_
    try simp only [Act.put, List.setIfInBounds_toArray, List.set_cons_zero, List.set_cons_succ]
    refine wpAnyV_take (i := 4) (v := .agg (([.slice SA sn sc, .int .i64 mk.pk, .int .i64 mk.bt, .int .i64 mk.ca, .int .i64 mk.md, .int .i64 mk.pt] : List Value)).toArray) rfl (by kernel_rfl) (fun _ _ _ h => h) (rsub_y (cs := rcs s r) (vs := [.slice SA sn sc, .int .i64 mk.pk, .int .i64 mk.bt, .int .i64 mk.ca, .int .i64 mk.md, .int .i64 mk.pt]) ir_inlet (by rfl) (.tmp 40) rfl rfl (fun w hSw => hSw.1) HIN.out rfl) HS ?_
    try simp only [Act.put, List.setIfInBounds_toArray, List.set_cons_zero, List.set_cons_succ]
    refine wpAnyV_take (i := 5) (v := .agg (sgs G' m' d' A' n' c' x).toArray) rfl (by kernel_rfl) (fun _ _ _ h => h) (rsub_y (cs := sgs G' m' d' A' n' c' x) (vs := sgs G' m' d' A' n' c' x) ir_seg (by rfl) (.tmp 4) rfl rfl (fun w hSw => hSw.2.1) rfl rfl) HS ?_
    try simp only [Act.put, List.setIfInBounds_toArray, List.set_cons_zero, List.set_cons_succ]
    refine wpAnyV_takeU (i := 6) (v := .bool marked) rfl (by kernel_rfl) (fun _ _ _ h => h) (Or.inl ⟨by rfl, fun w _ => ?_⟩) HS ?_
    · clear HS; go_simp
    try simp only [Act.put, List.setIfInBounds_toArray, List.set_cons_zero, List.set_cons_succ]
    refine wpAnyV_two (k1 := 7) (k2 := 11) rfl rfl (by kernel_rfl) (fun K hK => ?_) (fun K hK => ?_)
    · go_simp
      refine (rlrec_any SA sn sc l mk G' m' d' A' n' c' x marked _ (HSS.out _ _ HS.2.2.2.2.2.1) HS.2.2.2.2.2.2.1 HMB.out HMO.out HSQ.out HN'.out).mono ?_
      rintro e w9 ⟨R2, k2, q2, rfl, hsq, hb⟩
      rw [HY.out] at hsq ⊢
      dsimp only at hsq ⊢
      replace hsq := hsq.mono HS.2.2.2.2.2.2.2.2.2.2
      have HS : ((fun (W : World) => Bx W B 32 (rcs s r) ∧ Bx W (B + 1) 36 (sgs G' m' d' A' n' c' x) ∧ Bx W (B + 2) 32 (rcs zrcs zrc) ∧ Bx W (B + 3) 36 (sgs none 0 0 none 0 0 zs) ∧ Bx W D 25 [.int .i64 X.base, .slice R k q, .slice H u v, .int .i64 X.cap, .int .i64 X.en] ∧ RcM W (fun b => p b ∧ b < B) s r ∧ Sl W A' n' c' x.b ∧ Sb W (B + 4) R k q X.b ∧ Sq W (B + 4) H u v X.got ∧ Below B w W ∧ B + 4 ≤ W.heap.size)) _ := ⟨HS.1.kept hb, HS.2.1.kept hb, HS.2.2.1.kept hb, HS.2.2.2.1.kept hb, HS.2.2.2.2.1.kept hb, HS.2.2.2.2.2.1.keep hb, HS.2.2.2.2.2.2.1.keep hb, HS.2.2.2.2.2.2.2.1.keepB hb, HS.2.2.2.2.2.2.2.2.1.keep hb, HS.2.2.2.2.2.2.2.2.2.1.trans (hb.mono (Nat.le_trans (by omega) HS.2.2.2.2.2.2.2.2.2.2)), Nat.le_trans HS.2.2.2.2.2.2.2.2.2.2 hb.size⟩
      refine hK _ _ HS ?_
      clear hK K
      try simp only [Act.put, List.setIfInBounds_toArray, List.set_cons_zero, List.set_cons_succ]
      refine wpAnyV_takeU (i := 8) (v := .tuple #[.agg #[.slice R2 k2 q2, .int .i64 Y.m.pk, .int .i64 Y.m.bt, .int .i64 Y.m.ca, .int .i64 Y.m.md, .int .i64 Y.m.pt], .int .i64 ey]) rfl (by kernel_rfl) (fun _ _ _ h => h) (Or.inl ⟨by rfl, fun w _ => ?_⟩) HS ?_
      · clear HS; go_simp
      try simp only [Act.put, List.setIfInBounds_toArray, List.set_cons_zero, List.set_cons_succ]
      refine wpAnyV_takeU (i := 9) (v := .agg #[.slice R2 k2 q2, .int .i64 Y.m.pk, .int .i64 Y.m.bt, .int .i64 Y.m.ca, .int .i64 Y.m.md, .int .i64 Y.m.pt]) rfl (by kernel_rfl) (fun _ _ _ h => h) (Or.inl ⟨by rfl, fun w _ => ?_⟩) HS ?_
      · clear HS; go_simp
      try simp only [Act.put, List.setIfInBounds_toArray, List.set_cons_zero, List.set_cons_succ]
      refine wpAnyV_takeU (i := 10) (v := .int .i64 ey) rfl (by kernel_rfl) (fun _ _ _ h => h) (Or.inl ⟨by rfl, fun w _ => ?_⟩) HS ?_
      · clear HS; go_simp
      try simp only [Act.put, List.setIfInBounds_toArray, List.set_cons_zero, List.set_cons_succ]
      refine wpAnyV_one (k := 11) rfl (by kernel_rfl) (fun K hK => ?_)
      go_simp
      obtain ⟨N, hN⟩ : ∃ N, w9.heap.size = N := ⟨_, rfl⟩
      have bN := Bx.new w9 29 [.slice none 0 0, .int .i64 0, .int .i64 0, .int .i64 0, .int .i64 0, .int .i64 0]
      have hb : Below w9.heap.size w9 (w9.alloc (.cells ([.slice none 0 0, .int .i64 0, .int .i64 0, .int .i64 0, .int .i64 0, .int .i64 0] : List Value).toArray 29)) := (Below.refl _ _).alloc (Nat.le_refl _) _
      have hNB : B + 4 ≤ N := by rw [← hN]; exact HS.2.2.2.2.2.2.2.2.2.2
      have hDN : D < N := by rw [← hN]; exact (HS.2.2.2.2.1).lt
      have hneN := Lib.hid (show InP (fun b => b ≠ N) R2 k2 from fun h0 b o z e => by
        obtain ⟨b', o', e', hlt, _⟩ := hsq.ss.rd.at_ h0
        rw [e] at e'; cases e'; omega)
      replace hsq := hsq.keep hb
      have HSn : ((fun (W : World) => Bx W B 32 (rcs s r) ∧ Bx W (B + 1) 36 (sgs G' m' d' A' n' c' x) ∧ Bx W (B + 2) 32 (rcs zrcs zrc) ∧ Bx W (B + 3) 36 (sgs none 0 0 none 0 0 zs) ∧ Bx W D 25 [.int .i64 X.base, .slice R k q, .slice H u v, .int .i64 X.cap, .int .i64 X.en] ∧ RcM W (fun b => p b ∧ b < B) s r ∧ Sl W A' n' c' x.b ∧ Sb W (B + 4) R k q X.b ∧ Sq W (B + 4) H u v X.got ∧ Below B w W ∧ B + 4 ≤ W.heap.size)) (w9.alloc (.cells ([.slice none 0 0, .int .i64 0, .int .i64 0, .int .i64 0, .int .i64 0, .int .i64 0] : List Value).toArray 29)) := ⟨HS.1.kept hb, HS.2.1.kept hb, HS.2.2.1.kept hb, HS.2.2.2.1.kept hb, HS.2.2.2.2.1.kept hb, HS.2.2.2.2.2.1.keep hb, HS.2.2.2.2.2.2.1.keep hb, HS.2.2.2.2.2.2.2.1.keepB hb, HS.2.2.2.2.2.2.2.2.1.keep hb, HS.2.2.2.2.2.2.2.2.2.1.trans (hb.mono (Nat.le_trans (by omega) HS.2.2.2.2.2.2.2.2.2.2)), Nat.le_trans HS.2.2.2.2.2.2.2.2.2.2 hb.size⟩
      rw [hN] at bN
      try rw [hN]
      clear HS hb
      generalize w9.alloc (.cells ([.slice none 0 0, .int .i64 0, .int .i64 0, .int .i64 0, .int .i64 0, .int .i64 0] : List Value).toArray 29) = wz at HSn bN hsq ⊢
      clear hN
      have HS : ((fun (W : World) => Bx W B 32 (rcs s r) ∧ Bx W (B + 1) 36 (sgs G' m' d' A' n' c' x) ∧ Bx W (B + 2) 32 (rcs zrcs zrc) ∧ Bx W (B + 3) 36 (sgs none 0 0 none 0 0 zs) ∧ Bx W D 25 [.int .i64 X.base, .slice R k q, .slice H u v, .int .i64 X.cap, .int .i64 X.en] ∧ RcM W (fun b => p b ∧ b < B) s r ∧ Sl W A' n' c' x.b ∧ Sb W (B + 4) R k q X.b ∧ Sq W (B + 4) H u v X.got ∧ Below B w W ∧ B + 4 ≤ W.heap.size)) _ := HSn
      refine hK _ _ HS ?_
      clear hK K
      try simp only [Act.put, List.setIfInBounds_toArray, List.set_cons_zero, List.set_cons_succ]
      refine wpAnyV_end (k := 12) rfl (by kernel_rfl) (fun K hK => ?_)
      refine rsub_end ir_inlet (by rfl) (.tmp 11) (.tmp 45) rfl rfl [.slice R2 k2 q2, .int .i64 Y.m.pk, .int .i64 Y.m.bt, .int .i64 Y.m.ca, .int .i64 Y.m.md, .int .i64 Y.m.pt] rfl bN (by decide) rfl rfl ?_
      have hg := grown_cellsR (B := N) [.slice R2 k2 q2, .int .i64 Y.m.pk, .int .i64 Y.m.bt, .int .i64 Y.m.ca, .int .i64 Y.m.md, .int .i64 Y.m.pt] 0 wz
      have bN2 : Bx (wz.setCells N 0 [.slice R2 k2 q2, .int .i64 Y.m.pk, .int .i64 Y.m.bt, .int .i64 Y.m.ca, .int .i64 Y.m.md, .int .i64 Y.m.pt]) N 29 [.slice R2 k2 q2, .int .i64 Y.m.pk, .int .i64 Y.m.bt, .int .i64 Y.m.ca, .int .i64 Y.m.md, .int .i64 Y.m.pt] := Bx.cellsR [.slice R2 k2 q2, .int .i64 Y.m.pk, .int .i64 Y.m.bt, .int .i64 Y.m.ca, .int .i64 Y.m.md, .int .i64 Y.m.pt] (o := 0) bN
      have HSn : ((fun (W : World) => Bx W B 32 (rcs s r) ∧ Bx W (B + 1) 36 (sgs G' m' d' A' n' c' x) ∧ Bx W (B + 2) 32 (rcs zrcs zrc) ∧ Bx W (B + 3) 36 (sgs none 0 0 none 0 0 zs) ∧ Bx W D 25 [.int .i64 X.base, .slice R k q, .slice H u v, .int .i64 X.cap, .int .i64 X.en] ∧ RcM W (fun b => p b ∧ b < B) s r ∧ Sl W A' n' c' x.b ∧ Sb W (B + 4) R k q X.b ∧ Sq W (B + 4) H u v X.got ∧ Below B w W ∧ B + 4 ≤ W.heap.size)) (wz.setCells N 0 [.slice R2 k2 q2, .int .i64 Y.m.pk, .int .i64 Y.m.bt, .int .i64 Y.m.ca, .int .i64 Y.m.md, .int .i64 Y.m.pt]) := ⟨HS.1.grown hg (fun e => by have := Option.some.inj e; omega), HS.2.1.grown hg (fun e => by have := Option.some.inj e; omega), HS.2.2.1.grown hg (fun e => by have := Option.some.inj e; omega), HS.2.2.2.1.grown hg (fun e => by have := Option.some.inj e; omega), HS.2.2.2.2.1.grown hg (fun e => by have := Option.some.inj e; omega), HS.2.2.2.2.2.1.grown hg (fun b hb e => by have := Option.some.inj e; omega), slp_grown HS.2.2.2.2.2.2.1 HXL.out hg (fun b hb e => by have := Option.some.inj e; omega), ⟨slp_grown HS.2.2.2.2.2.2.2.1.sl HRD.out.1 hg (fun b hb e => by have := Option.some.inj e; omega), HS.2.2.2.2.2.2.2.1.at_⟩, ⟨ssp_grown HS.2.2.2.2.2.2.2.2.1.ss HRD.out.2 hg (fun b hb e => by have := Option.some.inj e; omega), HS.2.2.2.2.2.2.2.2.1.at_⟩, HS.2.2.2.2.2.2.2.2.2.1.grown hg (Nat.le_trans (by omega) HS.2.2.2.2.2.2.2.2.2.2) (fun k hk => by cases hk; omega), Nat.le_trans HS.2.2.2.2.2.2.2.2.2.2 hg.size⟩
      have HN9 := Lib.hid (And.intro HSn (And.intro bN2 (And.intro (show Sq (wz.setCells N 0 [.slice R2 k2 q2, .int .i64 Y.m.pk, .int .i64 Y.m.bt, .int .i64 Y.m.ca, .int .i64 Y.m.md, .int .i64 Y.m.pt]) (B + 4) R2 k2 q2 Y.got from ⟨ssp_grown hsq.ss hneN.out hg (fun b hb e => hb (Option.some.inj e).symm), hsq.at_⟩) hNB)))
      clear HS bN hg bN2 hsq HSn hneN hNB hDN
      refine hK _ _ ?_
      clear hK K
      generalize (wz.setCells N 0 [.slice R2 k2 q2, .int .i64 Y.m.pk, .int .i64 Y.m.bt, .int .i64 Y.m.ca, .int .i64 Y.m.md, .int .i64 Y.m.pt]) = w10 at HN9 ⊢
      try simp only [Act.put, List.setIfInBounds_toArray, List.set_cons_zero, List.set_cons_succ]
      refine wpAnyV_takeN (i := 13) (v := .int .i64 ey) rfl (by kernel_rfl) (fun _ _ _ h => h) (Or.inl ⟨by rfl, fun w _ => ?_⟩) ?_
      · go_simp
      try simp only [Act.put, List.setIfInBounds_toArray, List.set_cons_zero, List.set_cons_succ]
      refine ⟨by kernel_rfl, ?_⟩
      revert HN9
      revert w10
      revert q2
      revert k2
      revert R2
      revert N
      exact hP.out
    · go_simp
      obtain ⟨N, hN⟩ : ∃ N, wd8.heap.size = N := ⟨_, rfl⟩
      have bN := Bx.new wd8 29 [.slice none 0 0, .int .i64 0, .int .i64 0, .int .i64 0, .int .i64 0, .int .i64 0]
      have hb : Below wd8.heap.size wd8 (wd8.alloc (.cells ([.slice none 0 0, .int .i64 0, .int .i64 0, .int .i64 0, .int .i64 0, .int .i64 0] : List Value).toArray 29)) := (Below.refl _ _).alloc (Nat.le_refl _) _
      have hNB : B + 4 ≤ N := by rw [← hN]; exact HS.2.2.2.2.2.2.2.2.2.2
      have hDN : D < N := by rw [← hN]; exact (HS.2.2.2.2.1).lt
      have HSn : ((fun (W : World) => Bx W B 32 (rcs s r) ∧ Bx W (B + 1) 36 (sgs G' m' d' A' n' c' x) ∧ Bx W (B + 2) 32 (rcs zrcs zrc) ∧ Bx W (B + 3) 36 (sgs none 0 0 none 0 0 zs) ∧ Bx W D 25 [.int .i64 X.base, .slice R k q, .slice H u v, .int .i64 X.cap, .int .i64 X.en] ∧ RcM W (fun b => p b ∧ b < B) s r ∧ Sl W A' n' c' x.b ∧ Sb W (B + 4) R k q X.b ∧ Sq W (B + 4) H u v X.got ∧ Below B w W ∧ B + 4 ≤ W.heap.size)) (wd8.alloc (.cells ([.slice none 0 0, .int .i64 0, .int .i64 0, .int .i64 0, .int .i64 0, .int .i64 0] : List Value).toArray 29)) := ⟨HS.1.kept hb, HS.2.1.kept hb, HS.2.2.1.kept hb, HS.2.2.2.1.kept hb, HS.2.2.2.2.1.kept hb, HS.2.2.2.2.2.1.keep hb, HS.2.2.2.2.2.2.1.keep hb, HS.2.2.2.2.2.2.2.1.keepB hb, HS.2.2.2.2.2.2.2.2.1.keep hb, HS.2.2.2.2.2.2.2.2.2.1.trans (hb.mono (Nat.le_trans (by omega) HS.2.2.2.2.2.2.2.2.2.2)), Nat.le_trans HS.2.2.2.2.2.2.2.2.2.2 hb.size⟩
      rw [hN] at bN
      try rw [hN]
      clear HS hb
      generalize wd8.alloc (.cells ([.slice none 0 0, .int .i64 0, .int .i64 0, .int .i64 0, .int .i64 0, .int .i64 0] : List Value).toArray 29) = wz at HSn bN ⊢
      clear hN
      have HS : ((fun (W : World) => Bx W B 32 (rcs s r) ∧ Bx W (B + 1) 36 (sgs G' m' d' A' n' c' x) ∧ Bx W (B + 2) 32 (rcs zrcs zrc) ∧ Bx W (B + 3) 36 (sgs none 0 0 none 0 0 zs) ∧ Bx W D 25 [.int .i64 X.base, .slice R k q, .slice H u v, .int .i64 X.cap, .int .i64 X.en] ∧ RcM W (fun b => p b ∧ b < B) s r ∧ Sl W A' n' c' x.b ∧ Sb W (B + 4) R k q X.b ∧ Sq W (B + 4) H u v X.got ∧ Below B w W ∧ B + 4 ≤ W.heap.size)) _ := HSn
      refine hK _ _ HS ?_
      clear hK K
      try simp only [Act.put, List.setIfInBounds_toArray, List.set_cons_zero, List.set_cons_succ]
      refine wpAnyV_one (k := 7) rfl (by kernel_rfl) (fun K hK => ?_)
      go_simp
      refine (rlrec_any SA sn sc l mk G' m' d' A' n' c' x marked _ (HSS.out _ _ HS.2.2.2.2.2.1) HS.2.2.2.2.2.2.1 HMB.out HMO.out HSQ.out HN'.out).mono ?_
      rintro e w9 ⟨R2, k2, q2, rfl, hsq, hb⟩
      rw [HY.out] at hsq ⊢
      dsimp only at hsq ⊢
      have hneN := Lib.hid (show InP (fun b => b ≠ N) R2 k2 from fun _ b o z e => by have h1 := hsq.at_ b o z e; have h2 := bN.lt; omega)
      replace hsq := hsq.mono HS.2.2.2.2.2.2.2.2.2.2
      replace bN := bN.kept hb
      have HS : ((fun (W : World) => Bx W B 32 (rcs s r) ∧ Bx W (B + 1) 36 (sgs G' m' d' A' n' c' x) ∧ Bx W (B + 2) 32 (rcs zrcs zrc) ∧ Bx W (B + 3) 36 (sgs none 0 0 none 0 0 zs) ∧ Bx W D 25 [.int .i64 X.base, .slice R k q, .slice H u v, .int .i64 X.cap, .int .i64 X.en] ∧ RcM W (fun b => p b ∧ b < B) s r ∧ Sl W A' n' c' x.b ∧ Sb W (B + 4) R k q X.b ∧ Sq W (B + 4) H u v X.got ∧ Below B w W ∧ B + 4 ≤ W.heap.size)) _ := ⟨HS.1.kept hb, HS.2.1.kept hb, HS.2.2.1.kept hb, HS.2.2.2.1.kept hb, HS.2.2.2.2.1.kept hb, HS.2.2.2.2.2.1.keep hb, HS.2.2.2.2.2.2.1.keep hb, HS.2.2.2.2.2.2.2.1.keepB hb, HS.2.2.2.2.2.2.2.2.1.keep hb, HS.2.2.2.2.2.2.2.2.2.1.trans (hb.mono (Nat.le_trans (by omega) HS.2.2.2.2.2.2.2.2.2.2)), Nat.le_trans HS.2.2.2.2.2.2.2.2.2.2 hb.size⟩
      refine hK _ _ HS ?_
      clear hK K
      try simp only [Act.put, List.setIfInBounds_toArray, List.set_cons_zero, List.set_cons_succ]
      refine wpAnyV_takeU (i := 8) (v := .tuple #[.agg #[.slice R2 k2 q2, .int .i64 Y.m.pk, .int .i64 Y.m.bt, .int .i64 Y.m.ca, .int .i64 Y.m.md, .int .i64 Y.m.pt], .int .i64 ey]) rfl (by kernel_rfl) (fun _ _ _ h => h) (Or.inl ⟨by rfl, fun w _ => ?_⟩) HS ?_
      · clear HS; go_simp
      try simp only [Act.put, List.setIfInBounds_toArray, List.set_cons_zero, List.set_cons_succ]
      refine wpAnyV_takeU (i := 9) (v := .agg #[.slice R2 k2 q2, .int .i64 Y.m.pk, .int .i64 Y.m.bt, .int .i64 Y.m.ca, .int .i64 Y.m.md, .int .i64 Y.m.pt]) rfl (by kernel_rfl) (fun _ _ _ h => h) (Or.inl ⟨by rfl, fun w _ => ?_⟩) HS ?_
      · clear HS; go_simp
      try simp only [Act.put, List.setIfInBounds_toArray, List.set_cons_zero, List.set_cons_succ]
      refine wpAnyV_takeU (i := 10) (v := .int .i64 ey) rfl (by kernel_rfl) (fun _ _ _ h => h) (Or.inl ⟨by rfl, fun w _ => ?_⟩) HS ?_
      · clear HS; go_simp
      try simp only [Act.put, List.setIfInBounds_toArray, List.set_cons_zero, List.set_cons_succ]
      refine wpAnyV_end (k := 12) rfl (by kernel_rfl) (fun K hK => ?_)
      refine rsub_end ir_inlet (by rfl) (.tmp 11) (.tmp 45) rfl rfl [.slice R2 k2 q2, .int .i64 Y.m.pk, .int .i64 Y.m.bt, .int .i64 Y.m.ca, .int .i64 Y.m.md, .int .i64 Y.m.pt] rfl bN (by decide) rfl rfl ?_
      have hg := grown_cellsR (B := N) [.slice R2 k2 q2, .int .i64 Y.m.pk, .int .i64 Y.m.bt, .int .i64 Y.m.ca, .int .i64 Y.m.md, .int .i64 Y.m.pt] 0 w9
      have bN2 : Bx (w9.setCells N 0 [.slice R2 k2 q2, .int .i64 Y.m.pk, .int .i64 Y.m.bt, .int .i64 Y.m.ca, .int .i64 Y.m.md, .int .i64 Y.m.pt]) N 29 [.slice R2 k2 q2, .int .i64 Y.m.pk, .int .i64 Y.m.bt, .int .i64 Y.m.ca, .int .i64 Y.m.md, .int .i64 Y.m.pt] := Bx.cellsR [.slice R2 k2 q2, .int .i64 Y.m.pk, .int .i64 Y.m.bt, .int .i64 Y.m.ca, .int .i64 Y.m.md, .int .i64 Y.m.pt] (o := 0) bN
      have HSn : ((fun (W : World) => Bx W B 32 (rcs s r) ∧ Bx W (B + 1) 36 (sgs G' m' d' A' n' c' x) ∧ Bx W (B + 2) 32 (rcs zrcs zrc) ∧ Bx W (B + 3) 36 (sgs none 0 0 none 0 0 zs) ∧ Bx W D 25 [.int .i64 X.base, .slice R k q, .slice H u v, .int .i64 X.cap, .int .i64 X.en] ∧ RcM W (fun b => p b ∧ b < B) s r ∧ Sl W A' n' c' x.b ∧ Sb W (B + 4) R k q X.b ∧ Sq W (B + 4) H u v X.got ∧ Below B w W ∧ B + 4 ≤ W.heap.size)) (w9.setCells N 0 [.slice R2 k2 q2, .int .i64 Y.m.pk, .int .i64 Y.m.bt, .int .i64 Y.m.ca, .int .i64 Y.m.md, .int .i64 Y.m.pt]) := ⟨HS.1.grown hg (fun e => by have := Option.some.inj e; omega), HS.2.1.grown hg (fun e => by have := Option.some.inj e; omega), HS.2.2.1.grown hg (fun e => by have := Option.some.inj e; omega), HS.2.2.2.1.grown hg (fun e => by have := Option.some.inj e; omega), HS.2.2.2.2.1.grown hg (fun e => by have := Option.some.inj e; omega), HS.2.2.2.2.2.1.grown hg (fun b hb e => by have := Option.some.inj e; omega), slp_grown HS.2.2.2.2.2.2.1 HXL.out hg (fun b hb e => by have := Option.some.inj e; omega), ⟨slp_grown HS.2.2.2.2.2.2.2.1.sl HRD.out.1 hg (fun b hb e => by have := Option.some.inj e; omega), HS.2.2.2.2.2.2.2.1.at_⟩, ⟨ssp_grown HS.2.2.2.2.2.2.2.2.1.ss HRD.out.2 hg (fun b hb e => by have := Option.some.inj e; omega), HS.2.2.2.2.2.2.2.2.1.at_⟩, HS.2.2.2.2.2.2.2.2.2.1.grown hg (Nat.le_trans (by omega) HS.2.2.2.2.2.2.2.2.2.2) (fun k hk => by cases hk; omega), Nat.le_trans HS.2.2.2.2.2.2.2.2.2.2 hg.size⟩
      have HN9 := Lib.hid (And.intro HSn (And.intro bN2 (And.intro (show Sq (w9.setCells N 0 [.slice R2 k2 q2, .int .i64 Y.m.pk, .int .i64 Y.m.bt, .int .i64 Y.m.ca, .int .i64 Y.m.md, .int .i64 Y.m.pt]) (B + 4) R2 k2 q2 Y.got from ⟨ssp_grown hsq.ss hneN.out hg (fun b hb e => hb (Option.some.inj e).symm), hsq.at_⟩) hNB)))
      clear HS bN hg bN2 hsq HSn hneN hNB hDN
      refine hK _ _ ?_
      clear hK K
      generalize (w9.setCells N 0 [.slice R2 k2 q2, .int .i64 Y.m.pk, .int .i64 Y.m.bt, .int .i64 Y.m.ca, .int .i64 Y.m.md, .int .i64 Y.m.pt]) = w10 at HN9 ⊢
      try simp only [Act.put, List.setIfInBounds_toArray, List.set_cons_zero, List.set_cons_succ]
      refine wpAnyV_takeN (i := 13) (v := .int .i64 ey) rfl (by kernel_rfl) (fun _ _ _ h => h) (Or.inl ⟨by rfl, fun w _ => ?_⟩) ?_
      · go_simp
      try simp only [Act.put, List.setIfInBounds_toArray, List.set_cons_zero, List.set_cons_succ]
      refine ⟨by kernel_rfl, ?_⟩
      revert HN9
      revert w10
      revert q2
      revert k2
      revert R2
      revert N
      exact hP.out
  intro N R2 k2 q2 w10 HN9
  clear HP8
  obtain ⟨⟨e10, x10, y10, g10, d10, f10, l10, sb10, sq10, b10, z10'⟩, n10, sqn10, hNB⟩ := HN9.out
  have z10 : B ≤ w10.heap.size := by omega
  clear HN9
  by_cases hey : ey = 0
  case neg =>
    have da : (ey != 0) = true := by simpa using hey
    have HA := Lib.hid (show takeR r x marked = (zrc, zs, ey) from by
      rw [take_err (by rw [HTE.out]; exact hey), HTE.out])
    clear hey
    have hy3 := y10.lt
    have hg3 := g10.lt
    go_wp2_with (first | (refine rv_store rfl (.tmp 6) (.tmp 49) rfl rfl (rcs zrcs zrc) rfl y10 rfl rfl rfl ?_) | (refine sg_store rfl (.tmp 7) (.tmp 50) rfl rfl (sgs none 0 0 none 0 0 zs) rfl (g10.grown (rv_grown _ (B + 2) _) (fun e => by have := Option.some.inj e; omega)) rfl rfl rfl ?_))
    refine rcsg_end (by rfl) (by rfl) (by rfl) (by rfl) ((rv_put y10 (rcs zrcs zrc)).grown (sg_grown _ (B + 3) _) (fun e => by have := Option.some.inj e; omega)) rfl (sg_put (g10.grown (rv_grown _ (B + 2) _) (fun e => by have := Option.some.inj e; omega)) (sgs none 0 0 none 0 0 zs)) rfl rfl ?_
    rw [HBW.out, HA.out]
    have bb := b10.grown (rv_grown _ (B + 2) (rcs zrcs zrc).toArray) z10 (fun k hk => by cases hk; omega)
    exact ⟨zrcs, none, 0, 0, none, 0, 0, rfl, RcM.zero _ _, ⟨Sr.none _, Sl.none _, InP.zero _ _, InP.zero _ _, zs_w⟩, bb.grown (sg_grown _ (B + 3) _) (Nat.le_trans z10 (by simp [World.setRow])) (fun k hk => by cases hk; omega)⟩
  subst hey
  have HWP := Lib.hid (show (r.put Y i).weave X = ((r.weave X).put Y i) from (Rc.weave_put r X Y i).symm)
  have HOKF := Lib.hid (show RcOk ((r.weave X).put Y i) by rw [← HWP.out, ← HTK.out rfl]; exact taken_ok ((take_iff r x marked).1 HTE.out))
  have HA := Lib.hid (show takeR r x marked = (((r.weave X).put Y i), ackS ((r.weave X).put Y i) i x.sent, 0) by rw [take_zero HTE.out, HTK.out rfl, HTN.out, HWP.out])
  have pp : ∀ b, B + 4 ≤ b → (fun b => p b ∧ b ≠ B ∧ b ≠ B + 2 ∧ b ≠ B + 3) b := fun b hb => ⟨HP.out b (by have := HBW.out; omega), by omega, by omega, by omega⟩
  have PP := Lib.hid pp
  have f10 := f10.imp (q := fun b => p b ∧ b ≠ B ∧ b ≠ B + 2 ∧ b ≠ B + 3) (fun b hb => ⟨hb.1, by omega, by omega, by omega⟩)
  clear pp l10
  go_upto_region 11 with fail
  go_wp2_with (refine rv_load rfl (.tmp 3) rfl rfl e10 rfl ?_)
  refine (rlown_any _ s r _ (fun b hb => PP.out b (by omega)) f10 HOK.out).mono ?_
  rintro e w11 ⟨s', rfl, f11, hsn, hb⟩
  have e11 := e10.kept hb; have x11 := x10.kept hb; have y11 := y10.kept hb; have g11 := g10.kept hb; have d11 := d10.kept hb; have n11 := n10.kept hb
  have sb11 := sb10.keepB hb; have sq11 := sq10.keep hb; have sqn11 := sqn10.keep hb; have b11 := b10.trans (hb.mono z10); have z11 := Nat.le_trans z10' hb.size
  clear e10 x10 y10 g10 d10 n10 f10 sb10 sq10 sqn10 b10 z10 z10' hb hsn bldr bldg
  go_upto_region 12 with (refine rv_store rfl (.tmp 3) (.tmp 53) rfl rfl (rcs s' r) rfl e11 rfl rfl rfl ?_)
  have hg := rv_grown w11 B (rcs s' r).toArray
  have e12 := rv_put e11 (rcs s' r)
  have x12 := x11.grown hg (fun e => by have := Option.some.inj e; omega)
  have y12 := y11.grown hg (fun e => by have := Option.some.inj e; omega)
  have g12 := g11.grown hg (fun e => by have := Option.some.inj e; omega)
  have d12 := d11.grown hg (fun e => by have := Option.some.inj e; omega)
  have n12 := n11.grown hg (fun e => by have := Option.some.inj e; omega)
  have f12 := f11.grown hg (fun b hb e => hb.2.1 (Option.some.inj e).symm)
  have sb12 := sb_gr sb11 hg (by omega); have sq12 := sq_gr sq11 hg (by omega); have sqn12 := sq_gr sqn11 hg (by omega)
  have b12 := b11.grown hg (by omega) (fun k hk => by cases hk; exact Nat.le_refl _); have z12 := Nat.le_trans z11 hg.size
  generalize w11.setRow B (rcs s' r).toArray = w12 at e12 x12 y12 g12 d12 n12 f12 sb12 sq12 sqn12 b12 z12 ⊢
  clear e11 x11 y11 g11 d11 n11 f11 sb11 sq11 sqn11 b11 z11 hg
  have HR := Lib.hid (show Bx (w12.drew) B 32 (rcs s' r) ∧ Bx (w12.drew) (B + 2) 32 (rcs zrcs zrc) ∧ Bx (w12.drew) (B + 3) 36 (sgs none 0 0 none 0 0 zs) ∧ RcM (w12.drew) (fun b => p b ∧ b ≠ B ∧ b ≠ B + 2 ∧ b ≠ B + 3) s' r ∧ Sb (w12.drew) (B + 4) R k q X.b ∧ Sq (w12.drew) (B + 4) H u v X.got ∧ Sq (w12.drew) (B + 4) R2 k2 q2 Y.got ∧ Below B w (w12.drew) ∧ B + 4 ≤ (w12.drew).heap.size from ⟨e12.drew, y12.drew, g12.drew, f12.drew, sb12.keepB (Below.refl _ _).drew, sq12.keep (Below.refl _ _).drew, sqn12.keep (Below.refl _ _).drew, b12.drew, z12⟩)
  have HNE := Lib.hid (And.intro hDB hNB)
  refine wp_region_V [8] 9 (fun (W : World) => Bx W (B + 1) 36 (sgs G' m' d' A' n' c' x) ∧ Bx W D 25 [.int .i64 X.base, .slice R k q, .slice H u v, .int .i64 X.cap, .int .i64 X.en] ∧ Bx W N 29 [.slice R2 k2 q2, .int .i64 Y.m.pk, .int .i64 Y.m.bt, .int .i64 Y.m.ca, .int .i64 Y.m.md, .int .i64 Y.m.pt]) (by kernel_rfl) (by rfl) ?_
  have HS : ((fun (W : World) => Bx W (B + 1) 36 (sgs G' m' d' A' n' c' x) ∧ Bx W D 25 [.int .i64 X.base, .slice R k q, .slice H u v, .int .i64 X.cap, .int .i64 X.en] ∧ Bx W N 29 [.slice R2 k2 q2, .int .i64 Y.m.pk, .int .i64 Y.m.bt, .int .i64 Y.m.ca, .int .i64 Y.m.md, .int .i64 Y.m.pt])) _ := ⟨x12.drew, d12.drew, n12.drew⟩
  generalize w12.drew = wd12 at HS HR ⊢
  refine wpAnyV_takeU (i := 0) (v := .pointer (some ⟨B + 1, 1, none⟩)) rfl (by kernel_rfl) (fun _ _ _ h => h) (Or.inl ⟨by rfl, fun w _ => ?_⟩) HS ?_
  · clear HS; go_simp
  try simp only [Act.put, List.setIfInBounds_toArray, List.set_cons_zero, List.set_cons_succ]
  refine wpAnyV_take (i := 1) (v := .int .i64 (i : Int)) rfl (by kernel_rfl) (fun _ _ _ h => h) (Or.inl ⟨by rfl, fun w hSw => by
    have cc := (Bx.cell hSw.1 1 rfl).trans HXI.out
    clear hSw
    go_simp⟩) HS ?_
  try simp only [Act.put, List.setIfInBounds_toArray, List.set_cons_zero, List.set_cons_succ]
  refine wpAnyV_take (i := 2) (v := .agg #[.int .i64 X.base, .slice R k q, .slice H u v, .int .i64 X.cap, .int .i64 X.en]) rfl (by kernel_rfl) (fun _ _ _ h => h) (rsub_y (cs := [.int .i64 X.base, .slice R k q, .slice H u v, .int .i64 X.cap, .int .i64 X.en]) (vs := [.int .i64 X.base, .slice R k q, .slice H u v, .int .i64 X.cap, .int .i64 X.en]) ir_weave (by rfl) (.tmp 9) rfl rfl (fun w hSw => hSw.2.1) rfl rfl) HS ?_
  try simp only [Act.put, List.setIfInBounds_toArray, List.set_cons_zero, List.set_cons_succ]
  refine wpAnyV_take (i := 3) (v := .agg #[.slice R2 k2 q2, .int .i64 Y.m.pk, .int .i64 Y.m.bt, .int .i64 Y.m.ca, .int .i64 Y.m.md, .int .i64 Y.m.pt]) rfl (by kernel_rfl) (fun _ _ _ h => h) (rsub_y (cs := [.slice R2 k2 q2, .int .i64 Y.m.pk, .int .i64 Y.m.bt, .int .i64 Y.m.ca, .int .i64 Y.m.md, .int .i64 Y.m.pt]) (vs := [.slice R2 k2 q2, .int .i64 Y.m.pk, .int .i64 Y.m.bt, .int .i64 Y.m.ca, .int .i64 Y.m.md, .int .i64 Y.m.pt]) ir_inlet (by rfl) (.tmp 11) rfl rfl (fun w hSw => hSw.2.2) rfl rfl) HS ?_
  try simp only [Act.put, List.setIfInBounds_toArray, List.set_cons_zero, List.set_cons_succ]
  refine wpAnyV_takeU (i := 4) (v := .pointer (some ⟨B, 0, none⟩)) rfl (by kernel_rfl) (fun _ _ _ h => h) (Or.inl ⟨by rfl, fun w _ => ?_⟩) HS ?_
  · clear HS; go_simp
  try simp only [Act.put, List.setIfInBounds_toArray, List.set_cons_zero, List.set_cons_succ]
  refine wpAnyV_takeU (i := 6) (v := .pointer (some ⟨B, 5, none⟩)) rfl (by kernel_rfl) (fun _ _ _ h => h) (Or.inl ⟨by rfl, fun w _ => ?_⟩) HS ?_
  · clear HS; go_simp
  try simp only [Act.put, List.setIfInBounds_toArray, List.set_cons_zero, List.set_cons_succ]
  refine wpAnyV_one (k := 5) rfl (by kernel_rfl) (fun K hK => ?_)
  have HSX := Lib.hid HS.1
  refine rsub_end ir_weave (by rfl) (.tmp 58) (.tmp 56) rfl rfl [.int .i64 X.base, .slice R k q, .slice H u v, .int .i64 X.cap, .int .i64 X.en] rfl HR.out.1 (by show 0 + 5 ≤ 29; omega) rfl rfl ?_
  have HB1 : Bx (wd12.setCells B 0 [.int .i64 X.base, .slice R k q, .slice H u v, .int .i64 X.cap, .int .i64 X.en]) B 32 (rcs ⟨R, k, q, H, u, v, s'.a0, s'.n0, s'.c0, s'.a1, s'.n1, s'.c1, s'.a2, s'.n2, s'.c2, s'.a3, s'.n3, s'.c3⟩ (r.weave X)) := HR.out.1.cellsR [.int .i64 X.base, .slice R k q, .slice H u v, .int .i64 X.cap, .int .i64 X.en]
  have HS : ((fun (W : World) => Bx W (B + 1) 36 (sgs G' m' d' A' n' c' x) ∧ Bx W D 25 [.int .i64 X.base, .slice R k q, .slice H u v, .int .i64 X.cap, .int .i64 X.en] ∧ Bx W N 29 [.slice R2 k2 q2, .int .i64 Y.m.pk, .int .i64 Y.m.bt, .int .i64 Y.m.ca, .int .i64 Y.m.md, .int .i64 Y.m.pt])) _ := ⟨HS.1.grown (grown_cellsR (B := B) [.int .i64 X.base, .slice R k q, .slice H u v, .int .i64 X.cap, .int .i64 X.en] 0 wd12) (fun e => by have := Option.some.inj e; omega), HS.2.1.grown (grown_cellsR (B := B) [.int .i64 X.base, .slice R k q, .slice H u v, .int .i64 X.cap, .int .i64 X.en] 0 wd12) (fun e => by have := Option.some.inj e; have := HNE.out; omega), HS.2.2.grown (grown_cellsR (B := B) [.int .i64 X.base, .slice R k q, .slice H u v, .int .i64 X.cap, .int .i64 X.en] 0 wd12) (fun e => by have := Option.some.inj e; have := HNE.out; omega)⟩
  refine hK _ _ HS ?_
  clear hK K
  try simp only [Act.put, List.setIfInBounds_toArray, List.set_cons_zero, List.set_cons_succ]
  refine wpAnyV_take (i := 7) (v := .pointer (some ⟨B, 5 + i * 6, none⟩)) rfl (by kernel_rfl) (fun _ _ _ h => h) (Or.inl ⟨by rfl, fun w hSw => by
    have hi4 := HI4.out.1
    have hi4' := HI4.out.2
    clear hSw
    go_simp⟩) HS ?_
  try simp only [Act.put, List.setIfInBounds_toArray, List.set_cons_zero, List.set_cons_succ]
  refine wpAnyV_end (k := 8) rfl (by kernel_rfl) (fun K hK => ?_)
  refine rsub_end ir_inlet (by rfl) (.tmp 60) (.tmp 57) rfl rfl [.slice R2 k2 q2, .int .i64 Y.m.pk, .int .i64 Y.m.bt, .int .i64 Y.m.ca, .int .i64 Y.m.md, .int .i64 Y.m.pt] rfl HB1 (by show 5 + i * 6 + 6 ≤ 29; have := HI.out; omega) rfl rfl ?_
  refine hK _ _ ?_
  clear hK K
  clear HS
  try simp only [Act.put, List.setIfInBounds_toArray, List.set_cons_zero, List.set_cons_succ]
  refine ⟨by kernel_rfl, ?_⟩
  obtain ⟨_, y, g, f, sb, sq, sqn, b, z⟩ := HR.out
  clear HR
  have hgt := gb_trans (grown_cellsR (B := B) [.int .i64 X.base, .slice R k q, .slice H u v, .int .i64 X.cap, .int .i64 X.en] 0 wd12) (grown_cellsR (B := B) [.slice R2 k2 q2, .int .i64 Y.m.pk, .int .i64 Y.m.bt, .int .i64 Y.m.ca, .int .i64 Y.m.md, .int .i64 Y.m.pt] (5 + i * 6) (wd12.setCells B 0 [.int .i64 X.base, .slice R k q, .slice H u v, .int .i64 X.cap, .int .i64 X.en]))
  have e13 : Bx ((wd12.setCells B 0 [.int .i64 X.base, .slice R k q, .slice H u v, .int .i64 X.cap, .int .i64 X.en]).setCells B (5 + i * 6) [.slice R2 k2 q2, .int .i64 Y.m.pk, .int .i64 Y.m.bt, .int .i64 Y.m.ca, .int .i64 Y.m.md, .int .i64 Y.m.pt]) B 32 (rcs (Rcs.at_ ⟨R, k, q, H, u, v, s'.a0, s'.n0, s'.c0, s'.a1, s'.n1, s'.c1, s'.a2, s'.n2, s'.c2, s'.a3, s'.n3, s'.c3⟩ R2 k2 q2 i) ((r.weave X).put Y i)) := by rw [← rcs_put ⟨R, k, q, H, u, v, s'.a0, s'.n0, s'.c0, s'.a1, s'.n1, s'.c1, s'.a2, s'.n2, s'.c2, s'.a3, s'.n3, s'.c3⟩ (r.weave X) Y R2 k2 q2 HI.out]; exact HB1.cellsR [.slice R2 k2 q2, .int .i64 Y.m.pk, .int .i64 Y.m.bt, .int .i64 Y.m.ca, .int .i64 Y.m.md, .int .i64 Y.m.pt]
  have x13 := HSX.out.grown hgt (fun e => by have := Option.some.inj e; omega)
  have y13 := y.grown hgt (fun e => by have := Option.some.inj e; omega)
  have g13 := g.grown hgt (fun e => by have := Option.some.inj e; omega)
  have sb13 := sb_gr sb hgt (by omega); have sq13 := sq_gr sq hgt (by omega); have sqn13 := sq_gr sqn hgt (by omega)
  have f13 := ((f.grown hgt (fun b hb e => hb.2.1 (Option.some.inj e).symm)).wv sb13.sl sq13.ss (sb13.inp PP.out) (sq13.inp PP.out) HXW.out).put (y := Y) sqn13.ss (sqn13.inp PP.out) (HYW.out (by first | rfl | trivial)) HI.out
  have b13 := b.grown hgt (by omega) (fun k hk => by cases hk; exact Nat.le_refl _); have z13 := Nat.le_trans z hgt.size
  generalize ((wd12.setCells B 0 [.int .i64 X.base, .slice R k q, .slice H u v, .int .i64 X.cap, .int .i64 X.en]).setCells B (5 + i * 6) [.slice R2 k2 q2, .int .i64 Y.m.pk, .int .i64 Y.m.bt, .int .i64 Y.m.ca, .int .i64 Y.m.md, .int .i64 Y.m.pt]) = w13 at e13 x13 y13 g13 f13 b13 z13 ⊢
  clear y g f sb sq sqn b z hgt sb13 sq13 sqn13 HB1 HSX
  obtain ⟨sF, hsF⟩ : ∃ z, (Rcs.at_ ⟨R, k, q, H, u, v, s'.a0, s'.n0, s'.c0, s'.a1, s'.n1, s'.c1, s'.a2, s'.n2, s'.c2, s'.a3, s'.n3, s'.c3⟩ R2 k2 q2 i) = z := ⟨_, rfl⟩
  obtain ⟨rF, hrF⟩ : ∃ z, ((r.weave X).put Y i) = z := ⟨_, rfl⟩
  rw [hsF, hrF] at e13 f13
  have HA2 := Lib.hid (show takeR r x marked = (rF, ackS rF i x.sent, 0) by rw [← hrF]; exact HA.out)
  have HOK2 := Lib.hid (show RcOk rF by rw [← hrF]; exact HOKF.out)
  clear hsF hrF
  go_upto_region 13 with fail
  have HT := Lib.hid (show Bx (w13.drew) (B + 2) 32 (rcs zrcs zrc) ∧ Bx (w13.drew) (B + 3) 36 (sgs none 0 0 none 0 0 zs) ∧ Below B w (w13.drew) ∧ B + 4 ≤ (w13.drew).heap.size from ⟨y13.drew, g13.drew, b13.drew, z13⟩)
  refine wp_region_V [] 10 (fun (W : World) => Bx W B 32 (rcs sF rF) ∧ Bx W (B + 1) 36 (sgs G' m' d' A' n' c' x) ∧ RcM W (fun b => p b ∧ b ≠ B ∧ b ≠ B + 2 ∧ b ≠ B + 3) sF rF) (by kernel_rfl) (by rfl) ?_
  have HS : ((fun (W : World) => Bx W B 32 (rcs sF rF) ∧ Bx W (B + 1) 36 (sgs G' m' d' A' n' c' x) ∧ RcM W (fun b => p b ∧ b ≠ B ∧ b ≠ B + 2 ∧ b ≠ B + 3) sF rF)) _ := ⟨e13.drew, x13.drew, f13.drew⟩
  generalize w13.drew = wd13 at HS HT ⊢
  refine wpAnyV_take (i := 0) (v := .agg (rcs sF rF).toArray) rfl (by kernel_rfl) (fun _ _ _ h => h) (rsub_y (cs := rcs sF rF) (vs := rcs sF rF) ir_receiver (by rfl) (.tmp 3) rfl rfl (fun w hSw => hSw.1) rfl rfl) HS ?_
  try simp only [Act.put, List.setIfInBounds_toArray, List.set_cons_zero, List.set_cons_succ]
  refine wpAnyV_take (i := 1) (v := .agg (rcs sF rF).toArray) rfl (by kernel_rfl) (fun _ _ _ h => h) (rsub_y (cs := rcs sF rF) (vs := rcs sF rF) ir_receiver (by rfl) (.tmp 3) rfl rfl (fun w hSw => hSw.1) rfl rfl) HS ?_
  try simp only [Act.put, List.setIfInBounds_toArray, List.set_cons_zero, List.set_cons_succ]
  refine wpAnyV_takeU (i := 2) (v := .pointer (some ⟨B + 1, 1, none⟩)) rfl (by kernel_rfl) (fun _ _ _ h => h) (Or.inl ⟨by rfl, fun w _ => ?_⟩) HS ?_
  · clear HS; go_simp
  try simp only [Act.put, List.setIfInBounds_toArray, List.set_cons_zero, List.set_cons_succ]
  refine wpAnyV_take (i := 3) (v := .int .i64 (i : Int)) rfl (by kernel_rfl) (fun _ _ _ h => h) (Or.inl ⟨by rfl, fun w hSw => by
    have cc := (Bx.cell hSw.2.1 1 rfl).trans HXI.out
    clear hSw
    go_simp⟩) HS ?_
  try simp only [Act.put, List.setIfInBounds_toArray, List.set_cons_zero, List.set_cons_succ]
  refine wpAnyV_takeU (i := 4) (v := .pointer (some ⟨B + 1, 11, none⟩)) rfl (by kernel_rfl) (fun _ _ _ h => h) (Or.inl ⟨by rfl, fun w _ => ?_⟩) HS ?_
  · clear HS; go_simp
  try simp only [Act.put, List.setIfInBounds_toArray, List.set_cons_zero, List.set_cons_succ]
  refine wpAnyV_take (i := 5) (v := .int .u32 x.sent) rfl (by kernel_rfl) (fun _ _ _ h => h) (Or.inl ⟨by rfl, fun w hSw => ?_⟩) HS ?_
  · have cc := Bx.cell (hSw.2.1) 11 (v := .int .u32 x.sent) rfl
    clear hSw HS
    go_simp
  try simp only [Act.put, List.setIfInBounds_toArray, List.set_cons_zero, List.set_cons_succ]
  refine wpAnyV_one (k := 6) rfl (by kernel_rfl) (fun K hK => ?_)
  go_simp
  refine (rltold_any _ sF rF i x.sent _ HS.2.2 HOK2.out HI.out HX.out.sent).mono ?_
  rintro e w14 ⟨G, m, d, rfl, hsg, hb⟩
  have hz14 := HT.out.2.2.2
  have HU := Lib.hid (And.intro (HT.out.1.kept hb) (And.intro (HT.out.2.1.kept hb) (And.intro (HT.out.2.2.1.trans (hb.mono (by omega))) (Nat.le_trans HT.out.2.2.2 hb.size))))
  have HS : ((fun (W : World) => Bx W B 32 (rcs sF rF) ∧ Bx W (B + 1) 36 (sgs G' m' d' A' n' c' x) ∧ RcM W (fun b => p b ∧ b ≠ B ∧ b ≠ B + 2 ∧ b ≠ B + 3) sF rF)) _ := ⟨HS.1.kept hb, HS.2.1.kept hb, HS.2.2.keep hb⟩
  refine hK _ _ HS ?_
  clear hK K
  try simp only [Act.put, List.setIfInBounds_toArray, List.set_cons_zero, List.set_cons_succ]
  refine wpAnyV_one (k := 7) rfl (by kernel_rfl) (fun K hK => ?_)
  have hlow : ∀ b, NewB wd13 b → B + 4 ≤ b := fun b hb2 => Nat.le_trans hz14 hb2
  refine rsub_end ir_receiver (by rfl) (.tmp 6) (.tmp 61) rfl rfl (rcs sF rF) rfl HU.out.1 (by show 0 + 29 ≤ 29; omega) rfl rfl ?_
  have hg1 := grown_cellsR (B := B + 2) (rcs sF rF) 0 w14
  have HS1 : ((fun (W : World) => Bx W B 32 (rcs sF rF) ∧ Bx W (B + 1) 36 (sgs G' m' d' A' n' c' x) ∧ RcM W (fun b => p b ∧ b ≠ B ∧ b ≠ B + 2 ∧ b ≠ B + 3) sF rF)) (w14.setCells (B + 2) 0 (rcs sF rF)) := ⟨HS.1.grown hg1 (fun e => by have := Option.some.inj e; omega), HS.2.1.grown hg1 (fun e => by have := Option.some.inj e; omega), HS.2.2.grown hg1 (fun b hb e => hb.2.2.1 (Option.some.inj e).symm)⟩
  have HV5 := Lib.hid (And.intro (show Bx (w14.setCells (B + 2) 0 (rcs sF rF)) (B + 2) 32 (rcs sF rF) from HU.out.1.allR (rcs sF rF) rfl) (And.intro (HU.out.2.1.grown hg1 (fun e => by have := Option.some.inj e; omega)) (And.intro (HU.out.2.2.1.grown hg1 (by have := HU.out.2.2.2; omega) (fun k hk => by cases hk; omega)) (And.intro (Nat.le_trans HU.out.2.2.2 hg1.size) (srp_grown hsg.sr hsg.pg hg1 (fun b hb2 e => by have := hlow b hb2; have := Option.some.inj e; omega))))))
  generalize w14.setCells (B + 2) 0 (rcs sF rF) = w15 at HS1 HV5 ⊢
  clear HS HU hg1
  have HS : ((fun (W : World) => Bx W B 32 (rcs sF rF) ∧ Bx W (B + 1) 36 (sgs G' m' d' A' n' c' x) ∧ RcM W (fun b => p b ∧ b ≠ B ∧ b ≠ B + 2 ∧ b ≠ B + 3) sF rF)) _ := HS1
  refine hK _ _ HS ?_
  clear hK K
  try simp only [Act.put, List.setIfInBounds_toArray, List.set_cons_zero, List.set_cons_succ]
  refine wpAnyV_one (k := 8) rfl (by kernel_rfl) (fun K hK => ?_)
  refine rsub_end ir_seg (by rfl) (.tmp 7) (.tmp 67) rfl rfl (sgs G m d none 0 0 (ackS rF i x.sent)) rfl HV5.out.2.1 (by show 0 + 15 ≤ 15; omega) rfl rfl ?_
  have hg2 := grown_cellsR (B := B + 3) (sgs G m d none 0 0 (ackS rF i x.sent)) 0 w15
  have HS2 : ((fun (W : World) => Bx W B 32 (rcs sF rF) ∧ Bx W (B + 1) 36 (sgs G' m' d' A' n' c' x) ∧ RcM W (fun b => p b ∧ b ≠ B ∧ b ≠ B + 2 ∧ b ≠ B + 3) sF rF)) (w15.setCells (B + 3) 0 (sgs G m d none 0 0 (ackS rF i x.sent))) := ⟨HS.1.grown hg2 (fun e => by have := Option.some.inj e; omega), HS.2.1.grown hg2 (fun e => by have := Option.some.inj e; omega), HS.2.2.grown hg2 (fun b hb e => hb.2.2.2 (Option.some.inj e).symm)⟩
  have HV6 := Lib.hid (And.intro (HV5.out.1.grown hg2 (fun e => by have := Option.some.inj e; omega)) (And.intro (show Bx (w15.setCells (B + 3) 0 (sgs G m d none 0 0 (ackS rF i x.sent))) (B + 3) 36 (sgs G m d none 0 0 (ackS rF i x.sent)) from HV5.out.2.1.allR (sgs G m d none 0 0 (ackS rF i x.sent)) rfl) (And.intro (HV5.out.2.2.1.grown hg2 (by have := HV5.out.2.2.2.1; omega) (fun k hk => by cases hk; omega)) (srp_grown HV5.out.2.2.2.2 hsg.pg hg2 (fun b hb2 e => by have := hlow b hb2; have := Option.some.inj e; omega)))))
  generalize w15.setCells (B + 3) 0 (sgs G m d none 0 0 (ackS rF i x.sent)) = w16 at HS2 HV6 ⊢
  clear HS HV5 hg2
  have HS : ((fun (W : World) => Bx W B 32 (rcs sF rF) ∧ Bx W (B + 1) 36 (sgs G' m' d' A' n' c' x) ∧ RcM W (fun b => p b ∧ b ≠ B ∧ b ≠ B + 2 ∧ b ≠ B + 3) sF rF)) _ := HS2
  refine hK _ _ HS ?_
  clear hK K
  try simp only [Act.put, List.setIfInBounds_toArray, List.set_cons_zero, List.set_cons_succ]
  refine wpAnyV_takeU (i := 9) (v := .int .i64 0) rfl (by kernel_rfl) (fun _ _ _ h => h) (Or.inl ⟨by rfl, fun w _ => ?_⟩) HS ?_
  · clear HS; go_simp
  try simp only [Act.put, List.setIfInBounds_toArray, List.set_cons_zero, List.set_cons_succ]
  refine ⟨by kernel_rfl, ?_⟩
  go_wp2_with fail
  refine rcsg_end (by rfl) (by rfl) (by rfl) (by rfl) HV6.out.1 rfl HV6.out.2.1 rfl rfl ?_
  rw [HBW.out, HA2.out]
  exact ⟨sF, G, m, d, none, 0, 0, rfl, HS.2.2.imp (fun b hb => hb.1), ⟨HV6.out.2.2.2, Sl.none _, hsg.pg.imp (fun b hb => by show w.heap.size ≤ b; have := hlow b hb; have := HBW.out; omega), InP.zero _ _, hsg.wide⟩, HV6.out.2.2.1⟩
end Go.Proofs.Ytggnhccpncgfiaa
