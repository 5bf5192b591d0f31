/- The texts RcL8, RcL9, Unwrap, UnwrapEnds, WeCut. -/
import Derived.Below
import Derived.BigQuiet
import Derived.Deep.AppendLies
import Derived.Deep.DeepCutAuto
import Derived.Deep.QuietTactic
import Derived.IntWalk
import Derived.Laws.Rows
import Derived.Laws.Tables
import Derived.Lib.Hide
import Derived.OrdersHeld
import Derived.Outline
import Derived.ScopeJumps
import Derived.Test.YtggnhccpncgfiaaProg
import Derived.WalkKit
import Derived.WalkMore
import Derived.WalkSmall
import Derived.WalkSpells
import Derived.Test.YtggnhccpncgfiaaM02
import Derived.Test.YtggnhccpncgfiaaM03
import Derived.Test.YtggnhccpncgfiaaM11
import Derived.Test.YtggnhccpncgfiaaM12
import Derived.Test.YtggnhccpncgfiaaM14
set_option linter.all false
namespace Go.Proofs.Ytggnhccpncgfiaa
open Go.RowKit
theorem srp_grown {w w' : World} {p : Nat → Prop} {A : Option Addr} {n c : Nat} {l : List (Int × Int)} {row : Option Nat} (h : Sr w A n c l) (hi : InP p A n) (hg : w.grownBy w' row) (hne : ∀ b, p b → row ≠ some b) : Sr w' A n c l := by
  refine ⟨h.le, h.max, h.nil, h.rd.len, h.rd.wide, fun h0 => ?_⟩
  obtain ⟨b, o, e, hlt, hc⟩ := h.rd.at_ h0
  have hh := hg.block b hlt (fun e2 => hne b (hi h0 b o _ e) e2.symm)
  refine ⟨b, o, e, Nat.lt_of_lt_of_le hlt hg.size, fun i hi => ?_⟩
  rw [← (hc i hi).1, ← (hc i hi).2]
  exact ⟨World.cell?_of_block (w := w) hh, World.cell?_of_block (w := w) hh⟩
theorem ent_arr : ∀ args w, (callFunc 94 args).run Try.prog w = .ok (.enter 94 args) w := enters_of Try.func94 (by kernel_rfl) rfl
theorem ent_spc : ∀ args w, (callFunc 96 args).run Try.prog w = .ok (.enter 96 args) w := enters_of Try.func96 (by kernel_rfl) rfl
theorem ent_cnt : ∀ args w, (callFunc 97 args).run Try.prog w = .ok (.enter 97 args) w := enters_of Try.func97 (by kernel_rfl) rfl
/-- the segment while it is filled in -/
def ToldQ (i : Nat) (echo fs fr wn : Int) (mk : Ms) (l : List Sp) (X : Nat) (W : World) : Nat → Prop
  | 0 => Bx W X 36 (sgs none 0 0 none 0 0 (⟨3, (i : Int), false, true, 0, 0, 0, 0, 0, 0, 0, 0, echo, [], []⟩ : Sg))
  | 1 => ∃ G m d, Bx W X 36 (sgs G m d none 0 0 (⟨3, (i : Int), false, true, 0, 0, l32 fs, 0, 0, 0, 0, 0, echo, [], []⟩ : Sg)) ∧ Sr W G m d (sacksR l fs) ∧ InP (fun b => X < b) G m
  | 2 => ∃ G m d, Bx W X 36 (sgs G m d none 0 0 (⟨3, (i : Int), false, true, 0, 0, l32 fs, l32 fr, wn, 0, 0, 0, echo, [], []⟩ : Sg)) ∧ Sr W G m d (sacksR l fs) ∧ InP (fun b => X < b) G m
  | _ => ∃ G m d, Bx W X 36 (sgs G m d none 0 0 (⟨3, (i : Int), false, true, 0, 0, l32 fs, l32 fr, wn, mk.pk % 8, mk.bt % 16777216, 0, echo, [], []⟩ : Sg)) ∧ Sr W G m d (sacksR l fs) ∧ InP (fun b => X < b) G m
theorem inlet_at (s : Rcs) (r : Rc) {i : Nat} (hi : i ≤ 3) : ∃ SA sn sc, (((rcs s r).drop (5 + i * 6)).take 6 = [.slice SA sn sc, .int .i64 (r.s i).m.pk, .int .i64 (r.s i).m.bt, .int .i64 (r.s i).m.ca, .int .i64 (r.s i).m.md, .int .i64 (r.s i).m.pt]) ∧ ∀ {w : World} {p : Nat → Prop}, RcM w p s r → Ss w SA sn sc (r.s i).got ∧ InP p SA sn := by
  have hc : i = 0 ∨ i = 1 ∨ i = 2 ∨ i = 3 := by omega
  rcases hc with rfl | rfl | rfl | rfl
  · exact ⟨s.a0, s.n0, s.c0, rfl, fun h => ⟨h.g0, h.p0⟩⟩
  · exact ⟨s.a1, s.n1, s.c1, rfl, fun h => ⟨h.g1, h.p1⟩⟩
  · exact ⟨s.a2, s.n2, s.c2, rfl, fun h => ⟨h.g2, h.p2⟩⟩
  · exact ⟨s.a3, s.n3, s.c3, rfl, fun h => ⟨h.g3, h.p3⟩⟩
set_option maxRecDepth 100000 in
set_option maxHeartbeats 32000000 in
theorem rltold_any (p : Nat → Prop) (s : Rcs) (r : Rc) (i : Nat) (echo : Int) (w : World) (h : RcM w p s r) (hr : RcOk r) (hi : i ≤ 3) (he : U32 echo) :
    Calls Try.prog 31 #[.agg (rcs s r).toArray, .int .i64 (i : Int), .int .u32 echo] w fun e w' => ∃ G m d, e = .returned (.agg (sgs G m d none 0 0 (ackS r i echo)).toArray) ∧ SgM w w' G m d none 0 0 (ackS r i echo) ∧ Below w.heap.size w w' := by
  obtain ⟨B, hB⟩ : ∃ B, w.heap.size = B := ⟨_, rfl⟩
  have e0 := (Bx.new w 32 (rcs s r)).alloc (.cells (sgs none 0 0 none 0 0 zs).toArray 36)
  have y0 := Bx.new (w.alloc (.cells (rcs s r).toArray 32)) 36 (sgs none 0 0 none 0 0 zs)
  rw [World.size_alloc] at y0
  rw [hB] at e0 y0
  have b0 : Below B w ((w.alloc (.cells (rcs s r).toArray 32)).alloc (.cells (sgs none 0 0 none 0 0 zs).toArray 36)) := by rw [← hB]; exact ((Below.refl _ _).alloc (Nat.le_refl _) _).alloc (by simp) _
  have HH := Lib.hid h; have HV := Lib.hid hr.w; have HBW := Lib.hid hB; have HE := Lib.hid he
  obtain ⟨SA, sn, sc, hin, hss⟩ := inlet_at s r hi
  obtain ⟨l, hl⟩ : ∃ l, (r.s i).got = l := ⟨_, rfl⟩
  obtain ⟨mk, hmk⟩ : ∃ k, (r.s i).m = k := ⟨_, rfl⟩
  have HSL := Lib.hid (show Ss w SA sn sc l from by rw [← hl]; exact (hss h).1)
  have HMB := Lib.hid (show mayB l = true from by rw [← hl]; exact hr.g i)
  have HMK := Lib.hid (show mmay mk = true from by rw [← hmk]; exact (mmay_iff _).2 (hr.m i))
  rw [hmk] at hin
  have HA := Lib.hid (show ackS r i echo = ⟨3, (i : Int), false, true, 0, 0, l32 (gapIn l 0), l32 (farR r.w), winR r.w, mk.pk % 8, mk.bt % 16777216, 0, echo, sacksR l (gapIn l 0), []⟩ from by unfold ackS; rw [hl, hmk])
  have HAW := Lib.hid (ack_w r i he)
  have HI := Lib.hid hi
  clear h hr he hl hmk hss
  go_enter Try.func31, Try.ntmps31
  go_upto_region 1 with fail
  change Code.wp _ _ _ _ ((w.alloc (.cells (rcs s r).toArray 32)).alloc (.cells (sgs none 0 0 none 0 0 zs).toArray 36))
  have hz : ((w.alloc (.cells (rcs s r).toArray 32)).alloc (.cells (sgs none 0 0 none 0 0 zs).toArray 36)).heap.size = B + 2 := by simp [hB]
  generalize (w.alloc (.cells (rcs s r).toArray 32)).alloc (.cells (sgs none 0 0 none 0 0 zs).toArray 36) = w0 at e0 y0 b0 hz ⊢
  clear hB
  have bld : ∀ w, (Instr.build 36 #[(0, .int .i64 3), (1, .int .i64 (i : Int)), (3, .bool true), (12, .int .u32 echo)]).run Try.prog w = .ok (.agg (sgs none 0 0 none 0 0 (⟨3, (i : Int), false, true, 0, 0, 0, 0, 0, 0, 0, 0, echo, [], []⟩ : Sg)).toArray) w := fun _ => by kernel_rfl
  go_upto_region 2 with fail
  change Code.wp _ _ _ _ (w0.alloc (.cells (sgs none 0 0 none 0 0 (⟨3, (i : Int), false, true, 0, 0, 0, 0, 0, 0, 0, 0, echo, [], []⟩ : Sg)).toArray 36))
  have x1 := Bx.new w0 36 (sgs none 0 0 none 0 0 (⟨3, (i : Int), false, true, 0, 0, 0, 0, 0, 0, 0, 0, echo, [], []⟩ : Sg))
  have e1 := e0.alloc (.cells (sgs none 0 0 none 0 0 (⟨3, (i : Int), false, true, 0, 0, 0, 0, 0, 0, 0, 0, echo, [], []⟩ : Sg)).toArray 36)
  have y1 := y0.alloc (.cells (sgs none 0 0 none 0 0 (⟨3, (i : Int), false, true, 0, 0, 0, 0, 0, 0, 0, 0, echo, [], []⟩ : Sg)).toArray 36)
  have b1 := b0.alloc (by omega) (.cells (sgs none 0 0 none 0 0 (⟨3, (i : Int), false, true, 0, 0, 0, 0, 0, 0, 0, 0, echo, [], []⟩ : Sg)).toArray 36)
  have hz1 : (w0.alloc (.cells (sgs none 0 0 none 0 0 (⟨3, (i : Int), false, true, 0, 0, 0, 0, 0, 0, 0, 0, echo, [], []⟩ : Sg)).toArray 36)).heap.size = B + 3 := by simp [hz]
  rw [hz] at x1
  generalize w0.alloc (.cells (sgs none 0 0 none 0 0 (⟨3, (i : Int), false, true, 0, 0, 0, 0, 0, 0, 0, 0, echo, [], []⟩ : Sg)).toArray 36) = w1 at x1 e1 y1 b1 hz1 ⊢
  clear e0 y0 b0 hz bld
  have hi4 : (i : Int) < 4 := by omega
  have hi4' : i < 4 := by omega
  go_upto_region 3 with (refine rsub_load (cs := rcs s r) (vs := [.slice SA sn sc, .int .i64 mk.pk, .int .i64 mk.bt, .int .i64 mk.ca, .int .i64 mk.md, .int .i64 mk.pt]) ir_inlet rfl (.tmp 16) rfl rfl e1 hin rfl ?_)
  change Code.wp _ _ _ _ (w1.alloc (.cells ([.slice SA sn sc, .int .i64 mk.pk, .int .i64 mk.bt, .int .i64 mk.ca, .int .i64 mk.md, .int .i64 mk.pt] : List Value).toArray 29))
  have i2 := Bx.new w1 29 [.slice SA sn sc, .int .i64 mk.pk, .int .i64 mk.bt, .int .i64 mk.ca, .int .i64 mk.md, .int .i64 mk.pt]
  have e2 := e1.alloc (.cells ([.slice SA sn sc, .int .i64 mk.pk, .int .i64 mk.bt, .int .i64 mk.ca, .int .i64 mk.md, .int .i64 mk.pt] : List Value).toArray 29)
  have y2 := y1.alloc (.cells ([.slice SA sn sc, .int .i64 mk.pk, .int .i64 mk.bt, .int .i64 mk.ca, .int .i64 mk.md, .int .i64 mk.pt] : List Value).toArray 29)
  have x2 := x1.alloc (.cells ([.slice SA sn sc, .int .i64 mk.pk, .int .i64 mk.bt, .int .i64 mk.ca, .int .i64 mk.md, .int .i64 mk.pt] : List Value).toArray 29)
  have b2 := b1.alloc (by omega) (.cells ([.slice SA sn sc, .int .i64 mk.pk, .int .i64 mk.bt, .int .i64 mk.ca, .int .i64 mk.md, .int .i64 mk.pt] : List Value).toArray 29)
  have z2 : B + 4 ≤ (w1.alloc (.cells ([.slice SA sn sc, .int .i64 mk.pk, .int .i64 mk.bt, .int .i64 mk.ca, .int .i64 mk.md, .int .i64 mk.pt] : List Value).toArray 29)).heap.size := by simp [hz1]
  rw [hz1] at i2
  generalize w1.alloc (.cells ([.slice SA sn sc, .int .i64 mk.pk, .int .i64 mk.bt, .int .i64 mk.ca, .int .i64 mk.md, .int .i64 mk.pt] : List Value).toArray 29) = wa at x2 e2 y2 b2 i2 z2 ⊢
  clear e1 y1 x1 b1 hz1 hi4 hi4' hin
  refine wp_region_V [] 12 (fun (W : World) => Bx W B 32 (rcs s r) ∧ Bx W (B + 1) 36 (sgs none 0 0 none 0 0 zs) ∧ Bx W (B + 2) 36 (sgs none 0 0 none 0 0 (⟨3, (i : Int), false, true, 0, 0, 0, 0, 0, 0, 0, 0, echo, [], []⟩ : Sg)) ∧ Bx W (B + 3) 29 [.slice SA sn sc, .int .i64 mk.pk, .int .i64 mk.bt, .int .i64 mk.ca, .int .i64 mk.md, .int .i64 mk.pt] ∧ Below B w W ∧ B + 4 ≤ W.heap.size) (by kernel_rfl) (by rfl) ?_
  have HS : ((fun (W : World) => Bx W B 32 (rcs s r) ∧ Bx W (B + 1) 36 (sgs none 0 0 none 0 0 zs) ∧ Bx W (B + 2) 36 (sgs none 0 0 none 0 0 (⟨3, (i : Int), false, true, 0, 0, 0, 0, 0, 0, 0, 0, echo, [], []⟩ : Sg)) ∧ Bx W (B + 3) 29 [.slice SA sn sc, .int .i64 mk.pk, .int .i64 mk.bt, .int .i64 mk.ca, .int .i64 mk.md, .int .i64 mk.pt] ∧ Below B w W ∧ B + 4 ≤ W.heap.size)) _ := ⟨e2.drew, y2.drew, x2.drew, i2.drew, b2.drew, z2⟩
  generalize wa.drew = wb at HS  ⊢
  refine wpAnyV_takeU (i := 0) (v := .pointer (some ⟨B + 3, 0, none⟩)) rfl (by kernel_rfl) (fun _ _ _ h => h) (Or.inl ⟨by rfl, fun w _ => ?_⟩) HS ?_
  · clear HS; go_simp
  try simp only [Act.put, List.setIfInBounds_toArray, List.set_cons_zero, List.set_cons_succ]
  refine wpAnyV_take (i := 1) (v := .slice SA sn sc) rfl (by kernel_rfl) (fun _ _ _ h => h) (Or.inl ⟨by rfl, fun w hSw => ?_⟩) HS ?_
  · have cc := Bx.cell (hSw.2.2.2.1) 0 (v := .slice SA sn sc) rfl
    clear hSw HS
    go_simp
  try simp only [Act.put, List.setIfInBounds_toArray, List.set_cons_zero, List.set_cons_succ]
  refine wpAnyV_takeU (i := 3) (v := .pointer (some ⟨B, 0, none⟩)) rfl (by kernel_rfl) (fun _ _ _ h => h) (Or.inl ⟨by rfl, fun w _ => ?_⟩) HS ?_
  · clear HS; go_simp
  try simp only [Act.put, List.setIfInBounds_toArray, List.set_cons_zero, List.set_cons_succ]
  refine wpAnyV_take (i := 4) (v := .agg #[.int .i64 r.w.base, .slice s.wa s.wn s.wc, .slice s.ga s.gn s.gc, .int .i64 r.w.cap, .int .i64 r.w.en]) rfl (by kernel_rfl) (fun _ _ _ h => h) (rsub_y (cs := rcs s r) (vs := [.int .i64 r.w.base, .slice s.wa s.wn s.wc, .slice s.ga s.gn s.gc, .int .i64 r.w.cap, .int .i64 r.w.en]) ir_weave (by rfl) (.tmp 21) rfl rfl (fun w hSw => hSw.1) rfl rfl) HS ?_
  try simp only [Act.put, List.setIfInBounds_toArray, List.set_cons_zero, List.set_cons_succ]
  refine wpAnyV_takeU (i := 6) (v := .pointer (some ⟨B + 3, 1, none⟩)) rfl (by kernel_rfl) (fun _ _ _ h => h) (Or.inl ⟨by rfl, fun w _ => ?_⟩) HS ?_
  · clear HS; go_simp
  try simp only [Act.put, List.setIfInBounds_toArray, List.set_cons_zero, List.set_cons_succ]
  refine wpAnyV_take (i := 7) (v := .agg (mcs mk).toArray) rfl (by kernel_rfl) (fun _ _ _ h => h) (rsub_y (cs := [.slice SA sn sc, .int .i64 mk.pk, .int .i64 mk.bt, .int .i64 mk.ca, .int .i64 mk.md, .int .i64 mk.pt]) (vs := mcs mk) ir_marks (by rfl) (.tmp 24) rfl rfl (fun w hSw => hSw.2.2.2.1) rfl rfl) HS ?_
  try simp only [Act.put, List.setIfInBounds_toArray, List.set_cons_zero, List.set_cons_succ]
  refine wpAnyV_takeU (i := 11) (v := .int .i64 0) rfl (by kernel_rfl) (fun _ _ _ h => h) (Or.inl ⟨by rfl, fun w _ => ?_⟩) HS ?_
  · clear HS; go_simp
  try simp only [Act.put, List.setIfInBounds_toArray, List.set_cons_zero, List.set_cons_succ]
  refine wpAnyV_one (k := 2) rfl (by kernel_rfl) (fun K hK => ?_)
  go_simp
  refine (rlmka_any SA sn sc l _ (HSL.out.keep (by rw [HBW.out]; exact HS.2.2.2.2.1))).mono ?_
  rintro e v1 ⟨P1, Q1, rfl, bp1, bq1, hp1, hq1, hb⟩
  have lp1 := Nat.le_trans HS.2.2.2.2.2 hp1; have lq1 := Nat.le_trans HS.2.2.2.2.2 hq1
  clear hp1 hq1
  have HS : ((fun (W : World) => Bx W B 32 (rcs s r) ∧ Bx W (B + 1) 36 (sgs none 0 0 none 0 0 zs) ∧ Bx W (B + 2) 36 (sgs none 0 0 none 0 0 (⟨3, (i : Int), false, true, 0, 0, 0, 0, 0, 0, 0, 0, echo, [], []⟩ : Sg)) ∧ Bx W (B + 3) 29 [.slice SA sn sc, .int .i64 mk.pk, .int .i64 mk.bt, .int .i64 mk.ca, .int .i64 mk.md, .int .i64 mk.pt] ∧ Below B w W ∧ B + 4 ≤ W.heap.size)) _ := ⟨HS.1.kept hb, HS.2.1.kept hb, HS.2.2.1.kept hb, HS.2.2.2.1.kept hb, HS.2.2.2.2.1.trans (hb.mono (by have := HS.2.2.2.2.2; omega)), Nat.le_trans HS.2.2.2.2.2 hb.size⟩
  refine hK _ _ HS ?_
  clear hK K
  try simp only [Act.put, List.setIfInBounds_toArray, List.set_cons_zero, List.set_cons_succ]
  refine wpAnyV_one (k := 5) rfl (by kernel_rfl) (fun K hK => ?_)
  go_simp
  refine (rlmks_any r.w.base s.wa s.wn s.wc s.ga s.gn s.gc r.w.cap r.w.en r.w.b r.w.got _ (HH.out.b.keep (by rw [HBW.out]; exact HS.2.2.2.2.1)) (HH.out.g.keep (by rw [HBW.out]; exact HS.2.2.2.2.1)) HV.out).mono ?_
  rintro e v2 ⟨P2, Q2, rfl, bp2, bq2, hp2, hq2, hb⟩
  have lp2 := Nat.le_trans HS.2.2.2.2.2 hp2; have lq2 := Nat.le_trans HS.2.2.2.2.2 hq2
  have cp1 := bp1.kept hb; have cq1 := bq1.kept hb
  clear hp2 hq2 bp1 bq1
  have HS : ((fun (W : World) => Bx W B 32 (rcs s r) ∧ Bx W (B + 1) 36 (sgs none 0 0 none 0 0 zs) ∧ Bx W (B + 2) 36 (sgs none 0 0 none 0 0 (⟨3, (i : Int), false, true, 0, 0, 0, 0, 0, 0, 0, 0, echo, [], []⟩ : Sg)) ∧ Bx W (B + 3) 29 [.slice SA sn sc, .int .i64 mk.pk, .int .i64 mk.bt, .int .i64 mk.ca, .int .i64 mk.md, .int .i64 mk.pt] ∧ Below B w W ∧ B + 4 ≤ W.heap.size)) _ := ⟨HS.1.kept hb, HS.2.1.kept hb, HS.2.2.1.kept hb, HS.2.2.2.1.kept hb, HS.2.2.2.2.1.trans (hb.mono (by have := HS.2.2.2.2.2; omega)), Nat.le_trans HS.2.2.2.2.2 hb.size⟩
  refine hK _ _ HS ?_
  clear hK K
  try simp only [Act.put, List.setIfInBounds_toArray, List.set_cons_zero, List.set_cons_succ]
  refine wpAnyV_one (k := 8) rfl (by kernel_rfl) (fun K hK => ?_)
  go_simp
  refine (rlmkc_any mk _).mono ?_
  rintro e v3 ⟨Q3, rfl, bq3, hq3, hb⟩
  have lq3 := Nat.le_trans HS.2.2.2.2.2 hq3
  have lv3 := Nat.le_trans HS.2.2.2.2.2 hb.size
  have dp1 := cp1.kept hb; have dq1 := cq1.kept hb; have dp2 := bp2.kept hb; have dq2 := bq2.kept hb
  clear hq3 cp1 cq1 bp2 bq2
  have HS : ((fun (W : World) => Bx W B 32 (rcs s r) ∧ Bx W (B + 1) 36 (sgs none 0 0 none 0 0 zs) ∧ Bx W (B + 2) 36 (sgs none 0 0 none 0 0 (⟨3, (i : Int), false, true, 0, 0, 0, 0, 0, 0, 0, 0, echo, [], []⟩ : Sg)) ∧ Bx W (B + 3) 29 [.slice SA sn sc, .int .i64 mk.pk, .int .i64 mk.bt, .int .i64 mk.ca, .int .i64 mk.md, .int .i64 mk.pt] ∧ Below B w W ∧ B + 4 ≤ W.heap.size)) _ := ⟨HS.1.kept hb, HS.2.1.kept hb, HS.2.2.1.kept hb, HS.2.2.2.1.kept hb, HS.2.2.2.2.1.trans (hb.mono (by have := HS.2.2.2.2.2; omega)), Nat.le_trans HS.2.2.2.2.2 hb.size⟩
  refine hK _ _ HS ?_
  clear hK K
  try simp only [Act.put, List.setIfInBounds_toArray, List.set_cons_zero, List.set_cons_succ]
  refine wpAnyV_one (k := 9) rfl (by kernel_rfl) (fun K hK => ?_)
  go_simp
  have HS : ((fun (W : World) => Bx W B 32 (rcs s r) ∧ Bx W (B + 1) 36 (sgs none 0 0 none 0 0 zs) ∧ Bx W (B + 2) 36 (sgs none 0 0 none 0 0 (⟨3, (i : Int), false, true, 0, 0, 0, 0, 0, 0, 0, 0, echo, [], []⟩ : Sg)) ∧ Bx W (B + 3) 29 [.slice SA sn sc, .int .i64 mk.pk, .int .i64 mk.bt, .int .i64 mk.ca, .int .i64 mk.md, .int .i64 mk.pt] ∧ Below B w W ∧ B + 4 ≤ W.heap.size)) _ := ⟨HS.1.alloc (.cells #[.func (.func 94) #[] #[.pointer (some ⟨P1, 0, none⟩), .pointer (some ⟨Q1, 0, none⟩)], .func (.func 96) #[] #[.pointer (some ⟨P2, 0, none⟩), .pointer (some ⟨Q2, 0, none⟩)], .func (.func 97) #[] #[.pointer (some ⟨Q3, 0, none⟩)]] 94), HS.2.1.alloc (.cells #[.func (.func 94) #[] #[.pointer (some ⟨P1, 0, none⟩), .pointer (some ⟨Q1, 0, none⟩)], .func (.func 96) #[] #[.pointer (some ⟨P2, 0, none⟩), .pointer (some ⟨Q2, 0, none⟩)], .func (.func 97) #[] #[.pointer (some ⟨Q3, 0, none⟩)]] 94), HS.2.2.1.alloc (.cells #[.func (.func 94) #[] #[.pointer (some ⟨P1, 0, none⟩), .pointer (some ⟨Q1, 0, none⟩)], .func (.func 96) #[] #[.pointer (some ⟨P2, 0, none⟩), .pointer (some ⟨Q2, 0, none⟩)], .func (.func 97) #[] #[.pointer (some ⟨Q3, 0, none⟩)]] 94), HS.2.2.2.1.alloc (.cells #[.func (.func 94) #[] #[.pointer (some ⟨P1, 0, none⟩), .pointer (some ⟨Q1, 0, none⟩)], .func (.func 96) #[] #[.pointer (some ⟨P2, 0, none⟩), .pointer (some ⟨Q2, 0, none⟩)], .func (.func 97) #[] #[.pointer (some ⟨Q3, 0, none⟩)]] 94), HS.2.2.2.2.1.alloc (by have := HS.2.2.2.2.2; omega) (.cells #[.func (.func 94) #[] #[.pointer (some ⟨P1, 0, none⟩), .pointer (some ⟨Q1, 0, none⟩)], .func (.func 96) #[] #[.pointer (some ⟨P2, 0, none⟩), .pointer (some ⟨Q2, 0, none⟩)], .func (.func 97) #[] #[.pointer (some ⟨Q3, 0, none⟩)]] 94), by have := HS.2.2.2.2.2; simp; omega⟩
  refine hK _ _ HS ?_
  clear hK K
  try simp only [Act.put, List.setIfInBounds_toArray, List.set_cons_zero, List.set_cons_succ]
  refine wpAnyV_takeU (i := 10) (v := .int .i64 3) rfl (by kernel_rfl) (fun _ _ _ h => h) (Or.inl ⟨by rfl, fun w _ => ?_⟩) HS ?_
  · clear HS; go_simp
  try simp only [Act.put, List.setIfInBounds_toArray, List.set_cons_zero, List.set_cons_succ]
  refine ⟨by kernel_rfl, ?_⟩
  obtain ⟨_, y3, x3, _, b3, z3⟩ := HS
  have rr := Bx.new v3 94 [.func (.func 94) #[] #[.pointer (some ⟨P1, 0, none⟩), .pointer (some ⟨Q1, 0, none⟩)], .func (.func 96) #[] #[.pointer (some ⟨P2, 0, none⟩), .pointer (some ⟨Q2, 0, none⟩)], .func (.func 97) #[] #[.pointer (some ⟨Q3, 0, none⟩)]]
  have ep1 := dp1.alloc (.cells #[.func (.func 94) #[] #[.pointer (some ⟨P1, 0, none⟩), .pointer (some ⟨Q1, 0, none⟩)], .func (.func 96) #[] #[.pointer (some ⟨P2, 0, none⟩), .pointer (some ⟨Q2, 0, none⟩)], .func (.func 97) #[] #[.pointer (some ⟨Q3, 0, none⟩)]] 94); have eq1 := dq1.alloc (.cells #[.func (.func 94) #[] #[.pointer (some ⟨P1, 0, none⟩), .pointer (some ⟨Q1, 0, none⟩)], .func (.func 96) #[] #[.pointer (some ⟨P2, 0, none⟩), .pointer (some ⟨Q2, 0, none⟩)], .func (.func 97) #[] #[.pointer (some ⟨Q3, 0, none⟩)]] 94); have ep2 := dp2.alloc (.cells #[.func (.func 94) #[] #[.pointer (some ⟨P1, 0, none⟩), .pointer (some ⟨Q1, 0, none⟩)], .func (.func 96) #[] #[.pointer (some ⟨P2, 0, none⟩), .pointer (some ⟨Q2, 0, none⟩)], .func (.func 97) #[] #[.pointer (some ⟨Q3, 0, none⟩)]] 94); have eq2 := dq2.alloc (.cells #[.func (.func 94) #[] #[.pointer (some ⟨P1, 0, none⟩), .pointer (some ⟨Q1, 0, none⟩)], .func (.func 96) #[] #[.pointer (some ⟨P2, 0, none⟩), .pointer (some ⟨Q2, 0, none⟩)], .func (.func 97) #[] #[.pointer (some ⟨Q3, 0, none⟩)]] 94); have eq3 := bq3.alloc (.cells #[.func (.func 94) #[] #[.pointer (some ⟨P1, 0, none⟩), .pointer (some ⟨Q1, 0, none⟩)], .func (.func 96) #[] #[.pointer (some ⟨P2, 0, none⟩), .pointer (some ⟨Q2, 0, none⟩)], .func (.func 97) #[] #[.pointer (some ⟨Q3, 0, none⟩)]] 94)
  obtain ⟨R, hR⟩ : ∃ R, v3.heap.size = R := ⟨_, rfl⟩
  have lr : B + 4 ≤ R := by rw [← hR]; exact lv3
  obtain ⟨fs, hfs⟩ : ∃ z, gapF l 0 = z := ⟨_, rfl⟩
  obtain ⟨fr, hfr⟩ : ∃ z, farR ⟨r.w.base, r.w.b, r.w.got, r.w.cap, r.w.en⟩ = z := ⟨_, rfl⟩
  obtain ⟨wn, hwn⟩ : ∃ z, winR ⟨r.w.base, r.w.b, r.w.got, r.w.cap, r.w.en⟩ = z := ⟨_, rfl⟩
  have HFS := Lib.hid (show gapIn l 0 = fs by rw [← gap_zero HMB.out]; exact hfs)
  have HFR := Lib.hid (show farR ⟨r.w.base, r.w.b, r.w.got, r.w.cap, r.w.en⟩ = fr from hfr); have HWN := Lib.hid (show winR ⟨r.w.base, r.w.b, r.w.got, r.w.cap, r.w.en⟩ = wn from hwn)
  have HLT := Lib.hid (And.intro (show InP (fun b => b < B) SA sn from fun h0 b o z e => by
    obtain ⟨b', o', e', hlt, _⟩ := HSL.out.rd.at_ h0
    rw [e] at e'; cases e'; have := HBW.out; omega) (And.intro (HH.out.lt.pb.imp (q := fun b => b < B) (fun b hb => by have := HBW.out; omega)) (HH.out.lt.pg.imp (q := fun b => b < B) (fun b hb => by have := HBW.out; omega))))
  rw [hfs] at ep1
  rw [hfr] at ep2
  clear hfs hfr hwn dp1 dq1 dp2 dq2 bq3
  rw [hR] at rr
  try rw [hR]
  generalize v3.alloc (.cells #[.func (.func 94) #[] #[.pointer (some ⟨P1, 0, none⟩), .pointer (some ⟨Q1, 0, none⟩)], .func (.func 96) #[] #[.pointer (some ⟨P2, 0, none⟩), .pointer (some ⟨Q2, 0, none⟩)], .func (.func 97) #[] #[.pointer (some ⟨Q3, 0, none⟩)]] 94) = wc at y3 x3 b3 z3 rr ep1 eq1 ep2 eq2 eq3 ⊢
  clear hR lv3
  have HLS := Lib.hid (And.intro lp1 (And.intro lq1 (And.intro lp2 (And.intro lq2 (And.intro lq3 lr)))))
  clear lp1 lq1 lp2 lq2 lq3 lr
  go_wp2_with fail
  go_loopw [10, 29] (fun v j wr => ∃ k : Nat, k ≤ 3 ∧ j = .int .i64 (k : Int) ∧ ToldQ i echo fs fr wn mk l (B + 2) wr k ∧ Bx wr P1 3 [.int .i64 fs] ∧ Bx wr Q1 23 [.slice SA sn sc] ∧ Bx wr P2 3 [.int .i64 fr] ∧ Bx wr Q2 25 [.int .i64 r.w.base, .slice s.wa s.wn s.wc, .slice s.ga s.gn s.gc, .int .i64 r.w.cap, .int .i64 r.w.en] ∧ Bx wr Q3 27 (mcs mk) ∧ Bx wr R 94 [.func (.func 94) #[] #[.pointer (some ⟨P1, 0, none⟩), .pointer (some ⟨Q1, 0, none⟩)], .func (.func 96) #[] #[.pointer (some ⟨P2, 0, none⟩), .pointer (some ⟨Q2, 0, none⟩)], .func (.func 97) #[] #[.pointer (some ⟨Q3, 0, none⟩)]] ∧ Bx wr (B + 1) 36 (sgs none 0 0 none 0 0 zs) ∧ Below B w wr ∧ B + 4 ≤ wr.heap.size) (fun _ j _ => 3 - (intOf j).toNat)
  case atStart => exact ⟨0, Nat.zero_le _, rfl, x3, ep1, eq1, ep2, eq2, eq3, rr, y3, b3, z3⟩
  case round =>
    obtain ⟨k, hk, rfl, hq, ep1', eq1', ep2', eq2', eq3', rr', y4, b4, z4⟩ := hrel
    clear ep1 eq1 ep2 eq2 eq3 rr y3 x3 b3 z3
    obtain ⟨lp1, lq1, lp2, lq2, lq3, lr⟩ := HLS.out
    have hc : k = 0 ∨ k = 1 ∨ k = 2 ∨ k = 3 := by omega
    rcases hc with rfl | rfl | rfl | rfl
    · have hx : Bx wr (B + 2) 36 (sgs none 0 0 none 0 0 (⟨3, (i : Int), false, true, 0, 0, 0, 0, 0, 0, 0, 0, echo, [], []⟩ : Sg)) := hq
      clear hq
      have cc := rr'.cell 0 rfl
      have he := ent_arr
      have HKB := Lib.hid (show Below w.heap.size w wr by rw [HBW.out]; exact b4)
      go_upto_region 6 with fail
      go_wp2_with fail
      refine (rlarr_any (B + 2) P1 Q1 none 0 0 (⟨3, (i : Int), false, true, 0, 0, 0, 0, 0, 0, 0, 0, echo, [], []⟩ : Sg) fs SA sn sc l _ hx ep1' eq1' (by omega) (by omega) (HSL.out.keep HKB.out) (HLT.out.1.imp (fun b hb => by omega))).mono ?_
      rintro e w2 ⟨rfl, G, m, d, hx2, hsr, hin, hg⟩
      have hin' : InP (fun b => B + 2 < b) G m := hin.imp (fun b hb => by have : wr.heap.size ≤ b := hb; omega)
      have fp1 := ep1'.grown hg (fun e => by have := Option.some.inj e; omega)
      have fq1 := eq1'.grown hg (fun e => by have := Option.some.inj e; omega)
      have fp2 := ep2'.grown hg (fun e => by have := Option.some.inj e; omega)
      have fq2 := eq2'.grown hg (fun e => by have := Option.some.inj e; omega)
      have fq3 := eq3'.grown hg (fun e => by have := Option.some.inj e; omega)
      have frr := rr'.grown hg (fun e => by have := Option.some.inj e; omega)
      have fy := y4.grown hg (fun e => by have := Option.some.inj e; omega)
      have fb := b4.grown hg (by omega) (fun k hk => by cases hk; omega); have fz := Nat.le_trans z4 hg.size
      clear ep1' eq1' ep2' eq2' eq3' rr' y4 b4 z4 hg
      clear cc he hx hin HKB
      go_wp2_with fail
      go_roundw
      case rel => exact ⟨1, by omega, rfl, ⟨G, m, d, hx2, hsr, hin'⟩, fp1, fq1, fp2, fq2, fq3, frr, fy, fb, fz⟩
      case measure => simp [intOf]
    · obtain ⟨G, m, d, hx, hsr, hin⟩ := hq
      have cc := rr'.cell 1 rfl
      have he := ent_spc
      have HKB := Lib.hid (show Below w.heap.size w wr by rw [HBW.out]; exact b4)
      go_upto_region 6 with fail
      go_wp2_with fail
      refine (rlspc_any (B + 2) P2 Q2 G m d none 0 0 (⟨3, (i : Int), false, true, 0, 0, l32 fs, 0, 0, 0, 0, 0, echo, [], []⟩ : Sg) fr r.w.base s.wa s.wn s.wc s.ga s.gn s.gc r.w.cap r.w.en r.w.b r.w.got _ hx ep2' eq2' (by omega) (by omega) (HH.out.b.keep HKB.out) (HH.out.g.keep HKB.out) (HLT.out.2.1.imp (fun b hb => by omega)) (HLT.out.2.2.imp (fun b hb => by omega)) HV.out HFR.out.symm).mono ?_
      rintro e w2 ⟨rfl, hx2, hg⟩
      rw [HWN.out] at hx2
      have hsr' := srp_grown hsr hin hg (fun b hb e => by have := Option.some.inj e; omega)
      have fp1 := ep1'.grown hg (fun e => by have := Option.some.inj e; omega)
      have fq1 := eq1'.grown hg (fun e => by have := Option.some.inj e; omega)
      have fp2 := ep2'.grown hg (fun e => by have := Option.some.inj e; omega)
      have fq2 := eq2'.grown hg (fun e => by have := Option.some.inj e; omega)
      have fq3 := eq3'.grown hg (fun e => by have := Option.some.inj e; omega)
      have frr := rr'.grown hg (fun e => by have := Option.some.inj e; omega)
      have fy := y4.grown hg (fun e => by have := Option.some.inj e; omega)
      have fb := b4.grown hg (by omega) (fun k hk => by cases hk; omega); have fz := Nat.le_trans z4 hg.size
      clear ep1' eq1' ep2' eq2' eq3' rr' y4 b4 z4 hg
      clear cc he hx hsr HKB
      go_wp2_with fail
      go_roundw
      case rel => exact ⟨2, by omega, rfl, ⟨G, m, d, hx2, hsr', hin⟩, fp1, fq1, fp2, fq2, fq3, frr, fy, fb, fz⟩
      case measure => simp [intOf]
    · obtain ⟨G, m, d, hx, hsr, hin⟩ := hq
      have cc := rr'.cell 2 rfl
      have he := ent_cnt
      go_upto_region 6 with fail
      go_wp2_with fail
      refine (rlcnt_any (B + 2) Q3 G m d none 0 0 (⟨3, (i : Int), false, true, 0, 0, l32 fs, l32 fr, wn, 0, 0, 0, echo, [], []⟩ : Sg) mk _ hx eq3' HMK.out).mono ?_
      rintro e w2 ⟨rfl, hx2, hg⟩
      have hsr' := srp_grown hsr hin hg (fun b hb e => by have := Option.some.inj e; omega)
      have fp1 := ep1'.grown hg (fun e => by have := Option.some.inj e; omega)
      have fq1 := eq1'.grown hg (fun e => by have := Option.some.inj e; omega)
      have fp2 := ep2'.grown hg (fun e => by have := Option.some.inj e; omega)
      have fq2 := eq2'.grown hg (fun e => by have := Option.some.inj e; omega)
      have fq3 := eq3'.grown hg (fun e => by have := Option.some.inj e; omega)
      have frr := rr'.grown hg (fun e => by have := Option.some.inj e; omega)
      have fy := y4.grown hg (fun e => by have := Option.some.inj e; omega)
      have fb := b4.grown hg (by omega) (fun k hk => by cases hk; omega); have fz := Nat.le_trans z4 hg.size
      clear ep1' eq1' ep2' eq2' eq3' rr' y4 b4 z4 hg
      clear cc he hx hsr
      go_wp2_with fail
      go_roundw
      case rel => exact ⟨3, by omega, rfl, ⟨G, m, d, hx2, hsr', hin⟩, fp1, fq1, fp2, fq2, fq3, frr, fy, fb, fz⟩
      case measure => simp [intOf]
    · obtain ⟨G, m, d, hx, hsr, hin⟩ := hq
      have hx : Bx wr (B + 2) 36 (sgs G m d none 0 0 (⟨3, (i : Int), false, true, 0, 0, l32 fs, l32 fr, wn, mk.pk % 8, mk.bt % 16777216, 0, echo, [], []⟩ : Sg)) := hx
      clear ep1' eq1' ep2' eq2' eq3' rr' lp1 lq1 lp2 lq2 lq3 lr
      go_wp2_with (first | (refine sg_load rfl (.tmp 7) rfl rfl hx rfl ?_) | (refine sg_store rfl (.tmp 6) (.tmp 36) rfl rfl (sgs G m d none 0 0 (⟨3, (i : Int), false, true, 0, 0, l32 fs, l32 fr, wn, mk.pk % 8, mk.bt % 16777216, 0, echo, [], []⟩ : Sg)) rfl y4 rfl rfl rfl ?_))
      have hg := sg_grown wr (B + 1) (sgs G m d none 0 0 (⟨3, (i : Int), false, true, 0, 0, l32 fs, l32 fr, wn, mk.pk % 8, mk.bt % 16777216, 0, echo, [], []⟩ : Sg)).toArray
      have b5 := b4.grown hg (by omega) (fun k hk => by cases hk; omega)
      have hsr' := srp_grown hsr hin hg (fun b hb e => by have := Option.some.inj e; omega)
      refine sg_end1 (by rfl) (by rfl) (sg_put y4 (sgs G m d none 0 0 (⟨3, (i : Int), false, true, 0, 0, l32 fs, l32 fr, wn, mk.pk % 8, mk.bt % 16777216, 0, echo, [], []⟩ : Sg))) rfl rfl ?_
      rw [HA.out, HFS.out, show farR r.w = fr from HFR.out, show winR r.w = wn from HWN.out]
      refine ⟨G, m, d, rfl, ⟨hsr', Sl.none _, hin.imp (fun b hb => by show w.heap.size ≤ b; have := HBW.out; omega), InP.zero _ _, ?_⟩, by rw [HBW.out]; exact b5⟩
      have haw := HAW.out
      rw [HA.out, HFS.out, show farR r.w = fr from HFR.out, show winR r.w = wn from HWN.out] at haw
      exact haw
end Go.Proofs.Ytggnhccpncgfiaa
namespace Go.Proofs.Ytggnhccpncgfiaa
open Go.RowKit
set_option maxRecDepth 100000 in
set_option maxHeartbeats 16000000 in
theorem rctold_any (p : Nat → Prop) (s : Rcs) (r : Rc) (sub echo : Int) (w : World) (h : RcM w p s r) (hn : s.wn ≤ 140737488355328) (hs : n64 sub) (he : U32 echo) :
    Calls Try.prog 15 #[.agg (rcs s r).toArray, .int .i64 sub, .int .u32 echo] w fun e w' => TellRA w w' e (ackR r sub echo) := by
  unfold TellRA
  obtain ⟨B, hB⟩ : ∃ B, w.heap.size = B := ⟨_, rfl⟩
  have e0 := (Bx.new w 32 (rcs s r)).alloc (.cells (sgs none 0 0 none 0 0 zs).toArray 36)
  have y0 := Bx.new (w.alloc (.cells (rcs s r).toArray 32)) 36 (sgs none 0 0 none 0 0 zs)
  rw [World.size_alloc] at y0
  rw [hB] at e0 y0
  have b0 : Below B w ((w.alloc (.cells (rcs s r).toArray 32)).alloc (.cells (sgs none 0 0 none 0 0 zs).toArray 36)) := by rw [← hB]; exact ((Below.refl _ _).alloc (Nat.le_refl _) _).alloc (by simp) _
  have f0 := (h.alloc (.cells (rcs s r).toArray 32)).alloc (.cells (sgs none 0 0 none 0 0 zs).toArray 36)
  have HBW := Lib.hid hB; have HE := Lib.hid he; have HN := Lib.hid hn
  clear h he hn
  go_enter Try.func15, Try.ntmps15
  go_upto_region 1 with fail
  change Code.wp _ _ _ _ ((w.alloc (.cells (rcs s r).toArray 32)).alloc (.cells (sgs none 0 0 none 0 0 zs).toArray 36))
  generalize (w.alloc (.cells (rcs s r).toArray 32)).alloc (.cells (sgs none 0 0 none 0 0 zs).toArray 36) = w1 at e0 y0 b0 f0 ⊢
  clear hB
  have z0 : B ≤ w1.heap.size := Nat.le_of_lt e0.lt
  have bldz : ∀ w, (Instr.build 36 #[]).run Try.prog w = .ok (.agg (sgs none 0 0 none 0 0 zs).toArray) w := fun _ => by kernel_rfl
  go_wp2_with (refine rv_load rfl (.tmp 3) rfl rfl e0 rfl ?_)
  refine (rcmay_any p s r _ f0 HN.out).mono ?_
  rintro e w2 ⟨rfl, hb⟩
  have e2 := e0.kept hb; have y2 := y0.kept hb; have f2 := f0.keep hb; have b2 := b0.trans (hb.mono z0); have z2 := Nat.le_trans z0 hb.size
  clear e0 y0 f0 b0 z0 hb
  cases hm : rcmay r with
  | false =>
    have HA := Lib.hid (show ackR r sub echo = (zs, 1) from if_neg (fun h => by rw [hm] at h; cases h.1))
    clear hm
    go_wp2_with (refine sg_store rfl (.tmp 6) (.tmp 19) rfl rfl (sgs none 0 0 none 0 0 zs) rfl y2 rfl rfl rfl ?_)
    refine sg_end2 (by rfl) (by rfl) (by rfl) (sg_put y2 (sgs none 0 0 none 0 0 zs)) rfl rfl ?_
    rw [HA.out]
    exact ⟨none, 0, 0, none, 0, 0, rfl, ⟨Sr.none _, Sl.none _, InP.zero _ _, InP.zero _ _, zs_w⟩, by rw [HBW.out]; exact b2.grown (sg_grown _ (B + 1) _) z2 (fun k hk => by cases hk; omega)⟩
  | true =>
  have HM := Lib.hid hm
  clear hm
  by_cases h0 : sub < 0
  · have d0 : decide (sub < 0) = true := decide_eq_true h0
    have HA := Lib.hid (show ackR r sub echo = (zs, 1) from if_neg (fun h => by omega))
    clear h0
    go_wp2_with (refine sg_store rfl (.tmp 6) (.tmp 19) rfl rfl (sgs none 0 0 none 0 0 zs) rfl y2 rfl rfl rfl ?_)
    refine sg_end2 (by rfl) (by rfl) (by rfl) (sg_put y2 (sgs none 0 0 none 0 0 zs)) rfl rfl ?_
    rw [HA.out]
    exact ⟨none, 0, 0, none, 0, 0, rfl, ⟨Sr.none _, Sl.none _, InP.zero _ _, InP.zero _ _, zs_w⟩, by rw [HBW.out]; exact b2.grown (sg_grown _ (B + 1) _) z2 (fun k hk => by cases hk; omega)⟩
  have d0 : decide (sub < 0) = false := decide_eq_false h0
  by_cases h3 : 4 ≤ sub
  · have d3 : decide (4 ≤ sub) = true := decide_eq_true h3
    have HA := Lib.hid (show ackR r sub echo = (zs, 1) from if_neg (fun h => by omega))
    clear h0 h3
    go_wp2_with (refine sg_store rfl (.tmp 6) (.tmp 19) rfl rfl (sgs none 0 0 none 0 0 zs) rfl y2 rfl rfl rfl ?_)
    refine sg_end2 (by rfl) (by rfl) (by rfl) (sg_put y2 (sgs none 0 0 none 0 0 zs)) rfl rfl ?_
    rw [HA.out]
    exact ⟨none, 0, 0, none, 0, 0, rfl, ⟨Sr.none _, Sl.none _, InP.zero _ _, InP.zero _ _, zs_w⟩, by rw [HBW.out]; exact b2.grown (sg_grown _ (B + 1) _) z2 (fun k hk => by cases hk; omega)⟩
  have d3 : decide (4 ≤ sub) = false := decide_eq_false h3
  obtain ⟨i, rfl⟩ : ∃ i : Nat, sub = i := ⟨sub.toNat, by omega⟩
  have HA := Lib.hid (show ackR r i echo = (ackS r i echo, 0) from if_pos ⟨HM.out, by omega, by omega⟩)
  have HI := Lib.hid (show i ≤ 3 by omega)
  clear h0 h3
  go_upto_region 3 with fail
  clear d0 d3
  go_wp2_with (refine rv_load rfl (.tmp 3) rfl rfl e2 rfl ?_)
  refine (rltold_any p s r i echo _ f2 ((rcmay_iff r).1 HM.out) HI.out HE.out).mono ?_
  rintro e w3 ⟨G, m, d, rfl, hg, hb⟩
  have y3 := y2.kept hb; have b3 := b2.trans (hb.mono z2); have z3 := Nat.le_trans z2 hb.size
  have hy := y2.lt
  clear e2 y2 f2 b2 hb bldz
  go_wp2_with (refine sg_store rfl (.tmp 6) (.tmp 23) rfl rfl (sgs G m d none 0 0 (ackS r i echo)) rfl y3 rfl rfl rfl ?_)
  refine sg_end2 (by rfl) (by rfl) (by rfl) (sg_put y3 (sgs G m d none 0 0 (ackS r i echo))) rfl rfl ?_
  rw [HA.out]
  have hgr := sg_grown w3 (B + 1) (sgs G m d none 0 0 (ackS r i echo)).toArray
  have hlow : ∀ b, NewB w2 b → w.heap.size ≤ b := fun b hb => by have h1 : w2.heap.size ≤ b := hb; have := HBW.out; omega
  exact ⟨G, m, d, none, 0, 0, rfl, ⟨srp_grown hg.sr hg.pg hgr (fun b hb e => by have h1 : w2.heap.size ≤ b := hb; cases e; omega), Sl.none _, hg.pg.imp hlow, InP.zero _ _, hg.wide⟩, by rw [HBW.out]; exact b3.grown hgr z3 (fun k hk => by cases hk; omega)⟩
end Go.Proofs.Ytggnhccpncgfiaa
namespace Go.Proofs.Ytggnhccpncgfiaa
open Go.RowKit
/-- near, counted as the document says -/
def near0 (near : Int) : Int := if near < 0 then 0 else if 4611686018427387904 < near then 4611686018427387904 else near
/-- the first number that may be told: not below 0, not 2^31 and more below near -/
def firstN (c : Int) : Int := if c < 2147483648 then 0 else c - 2147483648
/-- the first number from firstN on of these low bits -/
def unw (c low : Int) : Int := firstN c + (low - firstN c) % 4294967296
theorem unw_facts (c low : Int) (hc0 : 0 ≤ c) (hc1 : c ≤ 4611686018427387904) (h0 : 0 ≤ low) (h1 : low < 4294967296) :
    0 ≤ unw c low ∧ c - unw c low ≤ 2147483648 ∧ unw c low ≤ 4611686020574871551 ∧ (unw c low < 4294967296 ∨ unw c low - c < 2147483648) ∧ unw c low % 4294967296 = low ∧
    (∀ n : Int, n % 4294967296 = low → n < unw c low → n < 0 ∨ 2147483648 < c - n) := by
  unfold unw firstN
  split
  · refine ⟨by omega, by omega, by omega, by omega, by omega, fun n h1 h2 => by omega⟩
  · refine ⟨by omega, by omega, by omega, by omega, by omega, fun n h1 h2 => by omega⟩
theorem start_facts (c low : Int) (hc0 : 0 ≤ c) (hc1 : c ≤ 4611686018427387904) (h0 : 0 ≤ low) (h1 : low < 4294967296) :
    ∃ k : Nat, k ≤ 3 ∧ c - c % 4294967296 - 4294967296 + low = unw c low - 4294967296 * (k : Int) := by
  refine ⟨((unw c low - (c - c % 4294967296 - 4294967296 + low)) / 4294967296).toNat, ?_, ?_⟩
  · unfold unw firstN
    split <;> omega
  · unfold unw firstN
    split <;> omega
/-- where the search stands: k turns below the number that is told -/
def At (c low n : Int) : Prop := ∃ k : Nat, k ≤ 3 ∧ n = unw c low - 4294967296 * (k : Int)
theorem at_cases {c low n : Int} (hc0 : 0 ≤ c) (hc1 : c ≤ 4611686018427387904) (h0 : 0 ≤ low) (h1 : low < 4294967296) (h : At c low n) :
    (n < 0 ∧ -17179869184 ≤ n ∧ At c low (n + 4294967296) ∧ n + 4294967296 ≤ unw c low) ∨ (0 ≤ n ∧ n ≤ c ∧ 2147483648 < c - n ∧ At c low (n + 4294967296) ∧ n + 4294967296 ≤ unw c low) ∨
    (0 ≤ n ∧ c - n ≤ 2147483648 ∧ n = unw c low ∧ n ≤ 4611686020574871551) := by
  obtain ⟨k, hk, rfl⟩ := h
  obtain ⟨f1, f2, f3, f4, f5, f6⟩ := unw_facts c low hc0 hc1 h0 h1
  rcases Nat.eq_zero_or_pos k with hz | hp
  · subst hz
    exact .inr (.inr ⟨by omega, by omega, by omega, by omega⟩)
  · have hs := f6 (unw c low - 4294967296 * (k : Int)) (by omega) (by omega)
    have ha : At c low (unw c low - 4294967296 * (k : Int) + 4294967296) := ⟨k - 1, by omega, by omega⟩
    by_cases hn : unw c low - 4294967296 * (k : Int) < 0
    · exact .inl ⟨hn, by omega, ha, by omega⟩
    · exact .inr (.inl ⟨by omega, by omega, by omega, ha, by omega⟩)
set_option maxHeartbeats 1000000 in
theorem unwrap_mid (near low : Int) (h0 : 0 ≤ near) (h1 : near ≤ 4611686018427387904) (h2 : 0 ≤ low) (h3 : low < 4294967296) (w : World) :
    Calls Try.prog 56 #[.int .i64 near, .int .u32 low] w fun e w' => e = .returned (.int .i64 (unw near low)) ∧ w = w' := by
  have hs : At near low (near - near % 4294967296 - 4294967296 + low) := start_facts near low h0 h1 h2 h3
  obtain ⟨n0, hn0⟩ : ∃ n0, near - near % 4294967296 - 4294967296 + low = n0 := ⟨_, rfl⟩
  rw [hn0] at hs
  obtain ⟨U, hU⟩ : ∃ U, unw near low = U := ⟨_, rfl⟩
  have hcs := at_cases h0 h1 h2 h3 hs
  clear hs
  have Hh : Hid (0 ≤ near ∧ near ≤ 4611686018427387904 ∧ 0 ≤ low ∧ low < 4294967296) := ⟨h0, h1, h2, h3⟩
  rw [hU] at hcs ⊢
  go_enter Try.func56, Try.ntmps56
  go_wp2
  refine wp_scope_jumps 0 (fun a' w' => w' = w ∧ ∃ (n : Int) (u2 u3 u4 u6 u7 u8 u9 u10 u11 u12 u13 u14 u15 u16 u17 u18 u19 u20 u21 u22 u23 u24 u25 u26 u27 : Value), a' = { tmps := #[.int .i64 near, .int .u32 low, u2, u3, u4, .int .i64 n, u6, u7, u8, u9, u10, u11, u12, u13, u14, u15, u16, u17, u18, u19, u20, u21, u22, u23, u24, u25, u26, u27], defers := [] } ∧ At near low n) (fun a' _ => (U - intOf (a'.tmps.getD 5 undef)).toNat) rfl ?_ ?_
  · rcases hcs with ⟨hn, hl, ha, hm⟩ | ⟨hn, hl, hd, ha, hm⟩ | ⟨hn, hd, he, hl⟩
    · have Ha := Lib.hid ha; clear ha
      go_wp2
      go_step3
      go_wp2
      go_step3
      refine ⟨rfl, rfl, n0 + 4294967296, _, _, _, _, _, _, _, _, _, _, _, _, _, _, _, _, _, _, _, _, _, _, _, _, _, rfl, Ha.out⟩
    · have Ha := Lib.hid ha; clear ha
      go_wp2
      go_step3
      go_wp2
      go_step3
      refine ⟨rfl, rfl, n0 + 4294967296, _, _, _, _, _, _, _, _, _, _, _, _, _, _, _, _, _, _, _, _, _, _, _, _, _, rfl, Ha.out⟩
    · subst he
      go_wp2
      go_step3
      go_wp2
      simp only [Exit.jump]
      go_ret
      exact ⟨rfl, rfl⟩
  · rintro a' w' ⟨rfl, n, u2, u3, u4, u6, u7, u8, u9, u10, u11, u12, u13, u14, u15, u16, u17, u18, u19, u20, u21, u22, u23, u24, u25, u26, u27, rfl, hs⟩
    clear hcs
    have hcs := at_cases Hh.out.1 Hh.out.2.1 Hh.out.2.2.1 Hh.out.2.2.2 hs
    clear hs
    rw [hU] at hcs
    rcases hcs with ⟨hn, hl, ha, hm⟩ | ⟨hn, hl, hd, ha, hm⟩ | ⟨hn, hd, he, hl⟩
    · have Ha := Lib.hid ha; clear ha
      go_wp2
      go_step3
      refine ⟨rfl, ⟨rfl, n + 4294967296, _, _, _, _, _, _, _, _, _, _, _, _, _, _, _, _, _, _, _, _, _, _, _, _, _, rfl, Ha.out⟩, ?_⟩
      simp [intOf]
      omega
    · have Ha := Lib.hid ha; clear ha
      go_wp2
      go_step3
      refine ⟨rfl, ⟨rfl, n + 4294967296, _, _, _, _, _, _, _, _, _, _, _, _, _, _, _, _, _, _, _, _, _, _, _, _, _, rfl, Ha.out⟩, ?_⟩
      simp [intOf]
      omega
    · subst he
      go_wp2
      simp only [Exit.jump]
      go_ret
      exact ⟨rfl, rfl⟩
end Go.Proofs.Ytggnhccpncgfiaa
namespace Go.Proofs.Ytggnhccpncgfiaa
open Go.RowKit
set_option maxHeartbeats 1000000 in
theorem unwrap_neg (near low : Int) (hneg : near < 0) (h2 : 0 ≤ low) (h3 : low < 4294967296) (w : World) :
    Calls Try.prog 56 #[.int .i64 near, .int .u32 low] w fun e w' => e = .returned (.int .i64 (unw 0 low)) ∧ w = w' := by
  have hs : At 0 low (-4294967296 + low) := start_facts 0 low (by omega) (by omega) h2 h3
  obtain ⟨n0, hn0⟩ : ∃ n0, -4294967296 + low = n0 := ⟨_, rfl⟩
  rw [hn0] at hs
  obtain ⟨U, hU⟩ : ∃ U, unw 0 low = U := ⟨_, rfl⟩
  have hcs := at_cases (by omega) (by omega) h2 h3 hs
  clear hs
  have Hh : Hid ((0 : Int) ≤ 0 ∧ (0 : Int) ≤ 4611686018427387904 ∧ 0 ≤ low ∧ low < 4294967296) := ⟨by omega, by omega, h2, h3⟩
  rw [hU] at hcs ⊢
  go_enter Try.func56, Try.ntmps56
  go_wp2
  refine wp_scope_jumps 0 (fun a' w' => w' = w ∧ ∃ (n : Int) (u2 u3 u4 u6 u7 u8 u9 u10 u11 u12 u13 u14 u15 u16 u17 u18 u19 u20 u21 u22 u23 u24 u25 u26 u27 : Value), a' = { tmps := #[.int .i64 0, .int .u32 low, u2, u3, u4, .int .i64 n, u6, u7, u8, u9, u10, u11, u12, u13, u14, u15, u16, u17, u18, u19, u20, u21, u22, u23, u24, u25, u26, u27], defers := [] } ∧ At 0 low n) (fun a' _ => (U - intOf (a'.tmps.getD 5 undef)).toNat) rfl ?_ ?_
  · rcases hcs with ⟨hn, hl, ha, hm⟩ | ⟨hn, hl, hd, ha, hm⟩ | ⟨hn, hd, he, hl⟩
    · have Ha := Lib.hid ha; clear ha
      go_wp2
      go_step3
      go_wp2
      go_step3
      refine ⟨rfl, rfl, n0 + 4294967296, _, _, _, _, _, _, _, _, _, _, _, _, _, _, _, _, _, _, _, _, _, _, _, _, _, rfl, Ha.out⟩
    · omega
    · omega
  · rintro a' w' ⟨rfl, n, u2, u3, u4, u6, u7, u8, u9, u10, u11, u12, u13, u14, u15, u16, u17, u18, u19, u20, u21, u22, u23, u24, u25, u26, u27, rfl, hs⟩
    clear hcs
    have hcs := at_cases Hh.out.1 Hh.out.2.1 Hh.out.2.2.1 Hh.out.2.2.2 hs
    clear hs
    rw [hU] at hcs
    rcases hcs with ⟨hn, hl, ha, hm⟩ | ⟨hn, hl, hd, ha, hm⟩ | ⟨hn, hd, he, hl⟩
    · have Ha := Lib.hid ha; clear ha
      go_wp2
      go_step3
      refine ⟨rfl, ⟨rfl, n + 4294967296, _, _, _, _, _, _, _, _, _, _, _, _, _, _, _, _, _, _, _, _, _, _, _, _, _, rfl, Ha.out⟩, ?_⟩
      simp [intOf]
      omega
    · omega
    · subst he
      go_wp2
      simp only [Exit.jump]
      go_ret
      exact ⟨rfl, rfl⟩
set_option maxHeartbeats 1000000 in
theorem unwrap_big (near low : Int) (hbig : 4611686018427387904 < near) (hwf : near ≤ 9223372036854775807) (h2 : 0 ≤ low) (h3 : low < 4294967296) (w : World) :
    Calls Try.prog 56 #[.int .i64 near, .int .u32 low] w fun e w' => e = .returned (.int .i64 (unw 4611686018427387904 low)) ∧ w = w' := by
  have hs : At 4611686018427387904 low (4611686014132420608 + low) := start_facts 4611686018427387904 low (by omega) (by omega) h2 h3
  obtain ⟨n0, hn0⟩ : ∃ n0, 4611686014132420608 + low = n0 := ⟨_, rfl⟩
  rw [hn0] at hs
  obtain ⟨U, hU⟩ : ∃ U, unw 4611686018427387904 low = U := ⟨_, rfl⟩
  have hcs := at_cases (by omega) (by omega) h2 h3 hs
  clear hs
  have Hh : Hid ((0 : Int) ≤ 4611686018427387904 ∧ (4611686018427387904 : Int) ≤ 4611686018427387904 ∧ 0 ≤ low ∧ low < 4294967296) := ⟨by omega, by omega, h2, h3⟩
  rw [hU] at hcs ⊢
  go_enter Try.func56, Try.ntmps56
  go_wp2
  refine wp_scope_jumps 0 (fun a' w' => w' = w ∧ ∃ (n : Int) (u2 u3 u4 u6 u7 u8 u9 u10 u11 u12 u13 u14 u15 u16 u17 u18 u19 u20 u21 u22 u23 u24 u25 u26 u27 : Value), a' = { tmps := #[.int .i64 4611686018427387904, .int .u32 low, u2, u3, u4, .int .i64 n, u6, u7, u8, u9, u10, u11, u12, u13, u14, u15, u16, u17, u18, u19, u20, u21, u22, u23, u24, u25, u26, u27], defers := [] } ∧ At 4611686018427387904 low n) (fun a' _ => (U - intOf (a'.tmps.getD 5 undef)).toNat) rfl ?_ ?_
  · rcases hcs with ⟨hn, hl, ha, hm⟩ | ⟨hn, hl, hd, ha, hm⟩ | ⟨hn, hd, he, hl⟩
    · omega
    · have Ha := Lib.hid ha; clear ha
      go_wp2
      go_step3
      go_wp2
      go_step3
      refine ⟨rfl, rfl, n0 + 4294967296, _, _, _, _, _, _, _, _, _, _, _, _, _, _, _, _, _, _, _, _, _, _, _, _, _, rfl, Ha.out⟩
    · subst he
      go_wp2
      go_step3
      go_wp2
      simp only [Exit.jump]
      go_ret
      exact ⟨rfl, rfl⟩
  · rintro a' w' ⟨rfl, n, u2, u3, u4, u6, u7, u8, u9, u10, u11, u12, u13, u14, u15, u16, u17, u18, u19, u20, u21, u22, u23, u24, u25, u26, u27, rfl, hs⟩
    clear hcs
    have hcs := at_cases Hh.out.1 Hh.out.2.1 Hh.out.2.2.1 Hh.out.2.2.2 hs
    clear hs
    rw [hU] at hcs
    rcases hcs with ⟨hn, hl, ha, hm⟩ | ⟨hn, hl, hd, ha, hm⟩ | ⟨hn, hd, he, hl⟩
    · have Ha := Lib.hid ha; clear ha
      go_wp2
      go_step3
      refine ⟨rfl, ⟨rfl, n + 4294967296, _, _, _, _, _, _, _, _, _, _, _, _, _, _, _, _, _, _, _, _, _, _, _, _, _, rfl, Ha.out⟩, ?_⟩
      simp [intOf]
      omega
    · have Ha := Lib.hid ha; clear ha
      go_wp2
      go_step3
      refine ⟨rfl, ⟨rfl, n + 4294967296, _, _, _, _, _, _, _, _, _, _, _, _, _, _, _, _, _, _, _, _, _, _, _, _, _, rfl, Ha.out⟩, ?_⟩
      simp [intOf]
      omega
    · subst he
      go_wp2
      simp only [Exit.jump]
      go_ret
      exact ⟨rfl, rfl⟩
theorem unwrap_any (near low : Int) (h1 : near ≤ 9223372036854775807) (h2 : 0 ≤ low) (h3 : low < 4294967296) (w : World) :
    Calls Try.prog 56 #[.int .i64 near, .int .u32 low] w fun e w' => e = .returned (.int .i64 (unw (near0 near) low)) ∧ w = w' := by
  unfold near0
  split
  · exact unwrap_neg near low (by omega) h2 h3 w
  · split
    · exact unwrap_big near low (by omega) h1 h2 h3 w
    · exact unwrap_mid near low (by omega) (by omega) h2 h3 w
end Go.Proofs.Ytggnhccpncgfiaa
namespace Go.Proofs.Ytggnhccpncgfiaa
open Go.RowKit
/-- b[k:j] -/
theorem Sl.cut2 {w : World} {A : Option Addr} {n c k j m : Nat} {l : List Int} (h : Sl w A n c l) (hj : j ≤ n) (hm : j = m + k) : Sl w (cutA A k c) m (c - k) ((l.take j).drop k) :=
  ⟨by have := h.le; omega, by have := h.big; omega, (fun e => by
    unfold cutA at e
    split at e
    · omega
    · cases hA : A with
      | none => have := h.nil hA; omega
      | some a => rw [hA] at e; cases e), (h.rd.take hj).cut hm (by have := h.le; omega)⟩
theorem run_cut2 (P : Program) (t e : TypeId) (ht : P.underlying t = some (.slice e)) (hinfo : (P.info? e).map (fun i => (i.zero, i.size, i.bytes)) = some (some (.int .u8 0), 1, 1)) (A : Option Addr) (n c k j m : Nat) (w : World) (hj : j ≤ c) (hm : j = m + k) :
    (Instr.slice t (.slice A n c) (some (.int .i64 (k : Int))) (some (.int .i64 (j : Int))) none).run P w = .ok (.slice (cutA A k c) m (c - k)) w := by
  obtain ⟨i0, hi, hz0, hz1, hz2⟩ := info_parts hinfo
  have ht' : P.underlying t = some (.slice (P.elem t)) := by simp [Program.elem, ht]
  have he : P.elem t = e := by simp [Program.elem, ht]
  have hz : ∀ w, (Go.sizeOf e).run P w = .ok 1 w := fun w => by simp [Go.sizeOf, typeInfo, hi, hz1]
  rw [run_slice_lh w t _ _ _ ht' .i64 .i64 _ _ (by omega) (by omega) (by omega), he, hz]
  simp [Result.andThen, sliced, cutA]
  omega
/-- b[:j] -/
theorem Sl.head2 {w : World} {A : Option Addr} {n c j : Nat} {l : List Int} (h : Sl w A n c l) (hj : j ≤ n) : Sl w A j c (l.take j) := ⟨by have := h.le; omega, h.big, h.nil, h.rd.take hj⟩
theorem run_head2 (P : Program) (t e : TypeId) (ht : P.underlying t = some (.slice e)) (hinfo : (P.info? e).map (fun i => (i.zero, i.size, i.bytes)) = some (some (.int .u8 0), 1, 1)) (A : Option Addr) (n c j : Nat) (w : World) (hj : j ≤ c) :
    (Instr.slice t (.slice A n c) none (some (.int .i64 (j : Int))) none).run P w = .ok (.slice A j c) w := by
  obtain ⟨i0, hi, hz0, hz1, hz2⟩ := info_parts hinfo
  have ht' : P.underlying t = some (.slice (P.elem t)) := by simp [Program.elem, ht]
  have he : P.elem t = e := by simp [Program.elem, ht]
  have hz : ∀ w, (Go.sizeOf e).run P w = .ok 1 w := fun w => by simp [Go.sizeOf, typeInfo, hi, hz1]
  rw [run_slice_h w t _ _ _ ht' .i64 _ (by omega) (by omega), he, hz]
  have h0 : ∀ a : Addr, a.add 0 = a := fun a => by simp [Addr.add]
  simp [Result.andThen, sliced, h0]
end Go.Proofs.Ytggnhccpncgfiaa
