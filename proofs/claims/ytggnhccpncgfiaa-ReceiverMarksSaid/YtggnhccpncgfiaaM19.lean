/- The texts RcL13, TailW. -/
import Derived.Below
import Derived.BigQuiet
import Derived.Deep.AppendLies
import Derived.Deep.DeepCutAuto
import Derived.Deep.QuietTactic
import Derived.IntWalk
import Derived.Laws.Rows
import Derived.Laws.Tables
import Derived.Lib.Hide
import Derived.OrdersHeld
import Derived.Outline
import Derived.Test.YtggnhccpncgfiaaProg
import Derived.WalkKit
import Derived.WalkSmall
import Derived.WalkSpells
import Derived.Test.YtggnhccpncgfiaaM12
import Derived.Test.YtggnhccpncgfiaaM13
import Derived.Test.YtggnhccpncgfiaaM16
import Derived.Test.YtggnhccpncgfiaaM18
set_option linter.all false
namespace Go.Proofs.Ytggnhccpncgfiaa
open Go.RowKit
theorem read_wide {w : Wv} (hv : Va w) (h : n64 w.base ∧ n64 w.cap ∧ n64 w.en) (n : Int) : n64 (readR w n).1.base ∧ n64 (readR w n).1.cap ∧ n64 (readR w n).1.en := by
  have h1 := hv.base0; have h2 := hv.base1; have h3 := rdy_le w; have h4 := hv.blen; have h5 := up_top hv; have h6 := hv.up
  unfold readR
  split
  · refine ⟨?_, h.2.1, h.2.2⟩
    show n64 (w.base + ((min (rdyW w) n.toNat : Nat) : Int))
    unfold n64
    have : min (rdyW w) n.toNat ≤ rdyW w := Nat.min_le_left _ _
    have hn := va_n (base := w.base) (cap := w.cap) (en := w.en) (gl := w.got) (bl := w.b) hv rfl
    omega
  · exact ⟨n64_0, n64_0, n64_0⟩
set_option maxRecDepth 100000 in
set_option maxHeartbeats 32000000 in
theorem rcread_any (p : Nat → Prop) (s : Rcs) (r : Rc) (n : Int) (w : World) (hp : ∀ b, w.heap.size ≤ b → p b) (h : RcM w p s r) (hn : s.wn ≤ 140737488355328) (hz : n64 n) :
    Calls Try.prog 17 #[.agg (rcs s r).toArray, .int .i64 n] w fun e w' => TellRR w w' p e (rreadR r n) := by
  unfold TellRR
  obtain ⟨B, hB⟩ : ∃ B, w.heap.size = B := ⟨_, rfl⟩
  have e0 := (Bx.new w 32 (rcs s r)).alloc (.cells (rcs zrcs zrc).toArray 32)
  have y0 := Bx.new (w.alloc (.cells (rcs s r).toArray 32)) 32 (rcs zrcs zrc)
  rw [World.size_alloc] at y0
  rw [hB] at e0 y0
  have b0 : Below B w ((w.alloc (.cells (rcs s r).toArray 32)).alloc (.cells (rcs zrcs zrc).toArray 32)) := by rw [← hB]; exact ((Below.refl _ _).alloc (Nat.le_refl _) _).alloc (by simp) _
  have f0 := ((h.and h.lt).alloc (.cells (rcs s r).toArray 32)).alloc (.cells (rcs zrcs zrc).toArray 32)
  rw [hB] at f0
  have f0 := f0.imp (q := fun b => p b ∧ b ≠ B ∧ b ≠ B + 1) (fun b hb => ⟨hb.1, by omega, by omega⟩)
  have HBW := Lib.hid hB; have HN := Lib.hid hn; have HZ := Lib.hid hz; have HP := Lib.hid hp; have HWD := Lib.hid h.wide
  clear h hn hz hp
  go_enter Try.func17, Try.ntmps17
  go_upto_region 1 with fail
  change Code.wp _ _ _ _ ((w.alloc (.cells (rcs s r).toArray 32)).alloc (.cells (rcs zrcs zrc).toArray 32))
  generalize (w.alloc (.cells (rcs s r).toArray 32)).alloc (.cells (rcs zrcs zrc).toArray 32) = w1 at e0 y0 b0 f0 ⊢
  clear hB
  have z0 : B ≤ w1.heap.size := Nat.le_of_lt e0.lt
  have bldz : ∀ w, (Instr.build 32 #[]).run Try.prog w = .ok (.agg (rcs zrcs zrc).toArray) w := fun _ => by kernel_rfl
  go_wp2_with (refine rv_load rfl (.tmp 2) rfl rfl e0 rfl ?_)
  refine (rcmay_any _ s r _ f0 HN.out).mono ?_
  rintro e w2 ⟨rfl, hb⟩
  have e2 := e0.kept hb; have y2 := y0.kept hb; have f2 := f0.keep hb; have b2 := b0.trans (hb.mono z0); have z2 := Nat.le_trans z0 hb.size
  clear e0 y0 f0 b0 z0 hb
  cases hm : rcmay r with
  | false =>
    have HA := Lib.hid (show rreadR r n = (zrc, [], 1) by unfold rreadR; rw [if_neg (by rw [hm]; simp)])
    clear hm
    go_wp2_with (refine rv_store rfl (.tmp 4) (.tmp 13) rfl rfl (rcs zrcs zrc) rfl y2 rfl rfl rfl ?_)
    refine rv_end3 (by rfl) (by rfl) (by rfl) (by rfl) (rv_put y2 (rcs zrcs zrc)) rfl rfl ?_
    rw [HBW.out, HA.out]
    have hlt := y2.lt
    exact ⟨zrcs, none, 0, 0, rfl, RcM.zero _ _, Sl.none _, InP.zero _ _, b2.grown (rv_grown _ (B + 1) _) z2 (fun k hk => by cases hk; omega)⟩
  | true =>
  have HOK := Lib.hid ((rcmay_iff r).1 hm); have HM := Lib.hid hm
  clear hm
  go_upto_region 3 with fail
  go_wp2_with (refine rsub_load (cs := rcs s r) (vs := [.int .i64 r.w.base, .slice s.wa s.wn s.wc, .slice s.ga s.gn s.gc, .int .i64 r.w.cap, .int .i64 r.w.en]) ir_weave rfl (.tmp 15) rfl rfl e2 rfl rfl ?_)
  refine (wread_any r.w.base s.wa s.wn s.wc s.ga s.gn s.gc r.w.cap r.w.en r.w.b r.w.got _ f2.b f2.g HN.out n HZ.out).mono ?_
  rintro e w3 ⟨R, k, q, H, u, v, S0, t0, u0, rfl, hsb, hsq, hs0, hb⟩
  obtain ⟨⟨X, bs, ee⟩, hX⟩ : ∃ z, readR ⟨r.w.base, r.w.b, r.w.got, r.w.cap, r.w.en⟩ n = z := ⟨_, rfl⟩
  have HX := Lib.hid (show readR r.w n = (X, bs, ee) from hX)
  have hxw := read_wide HOK.out.w ⟨HWD.out.base, HWD.out.cap, HWD.out.en⟩ n
  rw [HX.out] at hxw
  have HXW := Lib.hid hxw
  rw [hX] at hsb hsq hs0 ⊢
  dsimp only at hsb hsq hs0 ⊢
  have e3 := e2.kept hb; have y3 := y2.kept hb; have f3 := f2.keep hb; have b3 := b2.trans (hb.mono z2); have z3 := Nat.le_trans z2 hb.size
  have hy := y2.lt
  have hz2 : B + 2 ≤ w2.heap.size := hy
  have hsb := sb_low hsb hz2; have hsq := hsq.mono hz2; have hs0 := sb_low hs0 hz2
  clear e2 y2 f2 b2 hb hX hxw hy z2 hz2
  go_upto_region 4 with (refine rwv_store rfl (.tmp 7) (.tmp 19) rfl rfl [.int .i64 X.base, .slice R k q, .slice H u v, .int .i64 X.cap, .int .i64 X.en] rfl (Bx.new w3 25 [.int .i64 0, .slice none 0 0, .slice none 0 0, .int .i64 0, .int .i64 0]) rfl rfl rfl ?_)
  obtain ⟨d4, hb⟩ := rwv_new w3 [.int .i64 X.base, .slice R k q, .slice H u v, .int .i64 X.cap, .int .i64 X.en] rfl
  obtain ⟨D, hD⟩ : ∃ D, w3.heap.size = D := ⟨_, rfl⟩
  have hDB : B + 2 ≤ D := by rw [← hD]; exact y3.lt
  rw [hD] at d4 hb
  try rw [hD]
  generalize (w3.alloc (.cells ([.int .i64 0, .slice none 0 0, .slice none 0 0, .int .i64 0, .int .i64 0] : List Value).toArray 25)).setRow D ([.int .i64 X.base, .slice R k q, .slice H u v, .int .i64 X.cap, .int .i64 X.en] : List Value).toArray = w4 at d4 hb ⊢
  have hb : Below w3.heap.size w3 w4 := by rw [hD]; exact hb
  have e4 := e3.kept hb; have y4 := y3.kept hb; have f4 := f3.keep hb; have b4 := b3.trans (hb.mono z3); have z4 := Nat.le_trans z3 hb.size
  have sb4 := hsb.keepB hb; have sq4 := hsq.keep hb; have s04 := hs0.keepB hb
  clear e3 y3 f3 b3 z3 hsb hsq hs0 hb hD
  have zz4 : B + 2 ≤ w4.heap.size := y4.lt
  by_cases hee : ee = 0
  case neg =>
    have da : (ee != 0) = true := by simpa using hee
    have HA := Lib.hid (show rreadR r n = (zrc, [], ee) by unfold rreadR; rw [if_pos HM.out, HX.out, if_neg hee])
    clear hee
    go_wp2_with (refine rv_store rfl (.tmp 4) (.tmp 24) rfl rfl (rcs zrcs zrc) rfl y4 rfl rfl rfl ?_)
    refine rv_end3 (by rfl) (by rfl) (by rfl) (by rfl) (rv_put y4 (rcs zrcs zrc)) rfl rfl ?_
    rw [HBW.out, HA.out]
    have hlt := y4.lt
    exact ⟨zrcs, none, 0, 0, rfl, RcM.zero _ _, Sl.none _, InP.zero _ _, b4.grown (rv_grown _ (B + 1) _) z4 (fun k hk => by cases hk; omega)⟩
  subst hee
  have HA := Lib.hid (show rreadR r n = (r.weave X, bs, 0) by unfold rreadR; rw [if_pos HM.out, HX.out, if_pos rfl])
  go_upto_region 6 with fail
  go_wp2_with (refine rv_load rfl (.tmp 2) rfl rfl e4 rfl ?_)
  refine (rlown_any _ s r _ (fun b hb => ⟨HP.out b (by have := HBW.out; omega), by omega, by omega⟩) f4 HOK.out).mono ?_
  rintro e w5 ⟨s', rfl, f5, hsn, hb⟩
  have e5 := e4.kept hb; have y5 := y4.kept hb; have d5 := d4.kept hb; have b5 := b4.trans (hb.mono z4); have z5 := Nat.le_trans z4 hb.size
  have sb5 := sb4.keepB hb; have sq5 := sq4.keep hb; have s05 := s04.keepB hb
  clear e4 y4 f4 d4 b4 z4 sb4 sq4 s04 hb zz4 bldz
  go_upto_region 7 with (refine rv_store rfl (.tmp 2) (.tmp 27) rfl rfl (rcs s' r) rfl e5 rfl rfl rfl ?_)
  have e6 := rv_put e5 (rcs s' r)
  have hg := rv_grown w5 B (rcs s' r).toArray
  have y6 := y5.grown hg (fun e => by have := Option.some.inj e; omega)
  have d6 := d5.grown hg (fun e => by have := Option.some.inj e; omega)
  have f6 := f5.grown hg (fun b hb e => hb.2.1 (Option.some.inj e).symm)
  have sb6 := sb_gr sb5 hg (by omega); have sq6 := sq_gr sq5 hg (by omega); have s06 := sb_gr s05 hg (by omega)
  have b6 := b5.grown hg z5 (fun k hk => by cases hk; exact Nat.le_refl _); have z6 := Nat.le_trans z5 hg.size
  generalize w5.setRow B (rcs s' r).toArray = w6 at e6 y6 d6 f6 sb6 sq6 s06 b6 z6 ⊢
  clear e5 y5 d5 f5 sb5 sq5 s05 b5 z5 hg
  go_upto_region 8 with (first | (refine rwv_load rfl (.tmp 7) rfl rfl d6 rfl ?_) | (refine rsub_store ir_weave rfl (.tmp 29) (.tmp 28) rfl rfl [.int .i64 X.base, .slice R k q, .slice H u v, .int .i64 X.cap, .int .i64 X.en] rfl e6 (by show 0 + 5 ≤ 29; omega) rfl rfl ?_))
  have e7 : Bx (w6.setCells B 0 [.int .i64 X.base, .slice R k q, .slice H u v, .int .i64 X.cap, .int .i64 X.en]) B 32 (rcs ⟨R, k, q, H, u, v, s'.a0, s'.n0, s'.c0, s'.a1, s'.n1, s'.c1, s'.a2, s'.n2, s'.c2, s'.a3, s'.n3, s'.c3⟩ (r.weave X)) := e6.cellsR [.int .i64 X.base, .slice R k q, .slice H u v, .int .i64 X.cap, .int .i64 X.en]
  have hg := grown_cellsR (B := B) [.int .i64 X.base, .slice R k q, .slice H u v, .int .i64 X.cap, .int .i64 X.en] 0 w6
  have y7 := y6.grown hg (fun e => by have := Option.some.inj e; omega)
  have f7 := f6.grown hg (fun b hb e => hb.2.1 (Option.some.inj e).symm)
  have sb7 := sb_gr sb6 hg (by omega); have sq7 := sq_gr sq6 hg (by omega); have s07 := sb_gr s06 hg (by omega)
  have b7 := b6.grown hg z6 (fun k hk => by cases hk; exact Nat.le_refl _); have z7 := Nat.le_trans z6 hg.size
  generalize w6.setCells B 0 [.int .i64 X.base, .slice R k q, .slice H u v, .int .i64 X.cap, .int .i64 X.en] = w7 at e7 y7 f7 sb7 sq7 s07 b7 z7 ⊢
  clear e6 y6 d6 f6 sb6 sq6 s06 b6 z6 hg
  have pp : ∀ b, B + 2 ≤ b → p b ∧ b ≠ B ∧ b ≠ B + 1 := fun b hb => ⟨HP.out b (by have := HBW.out; omega), by omega, by omega⟩
  have g7 := f7.wv sb7.sl sq7.ss (sb7.inp pp) (sq7.inp pp) HXW.out
  have PP := Lib.hid pp
  clear pp f7 sb7 sq7
  go_wp2_with (first | (refine rv_load rfl (.tmp 2) rfl rfl e7 rfl ?_) | (refine rv_store rfl (.tmp 4) (.tmp 30) rfl rfl (rcs ⟨R, k, q, H, u, v, s'.a0, s'.n0, s'.c0, s'.a1, s'.n1, s'.c1, s'.a2, s'.n2, s'.c2, s'.a3, s'.n3, s'.c3⟩ (r.weave X)) rfl y7 rfl rfl rfl ?_))
  have hg := rv_grown w7 (B + 1) (rcs ⟨R, k, q, H, u, v, s'.a0, s'.n0, s'.c0, s'.a1, s'.n1, s'.c1, s'.a2, s'.n2, s'.c2, s'.a3, s'.n3, s'.c3⟩ (r.weave X)).toArray
  refine rv_end3 (by rfl) (by rfl) (by rfl) (by rfl) (rv_put y7 (rcs ⟨R, k, q, H, u, v, s'.a0, s'.n0, s'.c0, s'.a1, s'.n1, s'.c1, s'.a2, s'.n2, s'.c2, s'.a3, s'.n3, s'.c3⟩ (r.weave X))) rfl rfl ?_
  rw [HBW.out, HA.out]
  have s08 := sb_gr s07 hg (by omega)
  exact ⟨⟨R, k, q, H, u, v, s'.a0, s'.n0, s'.c0, s'.a1, s'.n1, s'.c1, s'.a2, s'.n2, s'.c2, s'.a3, s'.n3, s'.c3⟩, S0, t0, u0, rfl, (g7.grown hg (fun b hb e => hb.2.2 (Option.some.inj e).symm)).imp (fun b hb => hb.1), s08.sl, s08.inp (fun b hb => (PP.out b hb).1), b7.grown hg z7 (fun k hk => by cases hk; omega)⟩
end Go.Proofs.Ytggnhccpncgfiaa
namespace Go.Proofs.Ytggnhccpncgfiaa
open Go
section
variable {P : Program} {md : Region.Mode} {Q : Exit → Act → World → Prop} {S : World → Prop} {l : List Oper} {bk : List Nat} {k k1 k2 : Nat} {o o1 o2 : Oper} {f : Nat} {listed : Array Bool} {a : Act} {w : World}
theorem wpOp_pick (hk' : l[k]? = some o)
    (h : ∀ K : Act → World → Prop, (∀ a' w', S w' → wpAnyV P md l.toArray Q S bk f (listed.setIfInBounds k true) a' w' → K a' w') → if Region.wanted o (yielded l.toArray a.tmps) = true then Oper.wp P o a w K Q else K (a.put o.dst undef) w) :
    wpOp P l.toArray Q k (fun a' w' => (cleanB bk (listed.setIfInBounds k true) = true → S w') ∧ wpAnyV P md l.toArray Q S bk f (listed.setIfInBounds k true) a' w') a w := by
  have hk : l.toArray[k]? = some o := by simpa using hk'
  have := h (fun a' w' => (cleanB bk (listed.setIfInBounds k true) = true → S w') ∧ wpAnyV P md l.toArray Q S bk f (listed.setIfInBounds k true) a' w') (fun a' w' h1 h2 => ⟨fun _ => h1, h2⟩)
  unfold wpOp
  simp only [hk]
  split
  · next hw => rw [if_pos hw] at this; exact .inl this
  · next hw => rw [if_neg hw] at this; exact this
/-- two may come up -/
theorem wpAnyV_two (hk1 : l[k1]? = some o1) (hk2 : l[k2]? = some o2) (hr : Region.ready md l.toArray listed = [k1, k2])
    (h1 : ∀ K : Act → World → Prop, (∀ a' w', S w' → wpAnyV P md l.toArray Q S bk f (listed.setIfInBounds k1 true) a' w' → K a' w') → if Region.wanted o1 (yielded l.toArray a.tmps) = true then Oper.wp P o1 a w K Q else K (a.put o1.dst undef) w)
    (h2 : ∀ K : Act → World → Prop, (∀ a' w', S w' → wpAnyV P md l.toArray Q S bk f (listed.setIfInBounds k2 true) a' w' → K a' w') → if Region.wanted o2 (yielded l.toArray a.tmps) = true then Oper.wp P o2 a w K Q else K (a.put o2.dst undef) w) :
    wpAnyV P md l.toArray Q S bk (f + 1) listed a w := by
  refine ⟨fun h0 => (by rw [hr] at h0; cases h0), fun i hi => ?_⟩
  rw [hr] at hi
  rcases List.mem_cons.1 hi with rfl | hi
  · exact wpOp_pick hk1 h1
  · obtain rfl := List.mem_singleton.1 hi
    exact wpOp_pick hk2 h2
end
/-- a rest that several ways come to: it is stated by the first that comes there -/
theorem cutQ {P Q : Prop} (h : RowKit.Hid P → Q) (hP : P) : Q := h (Lib.hid hP)
end Go.Proofs.Ytggnhccpncgfiaa
