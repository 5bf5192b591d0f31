/- The texts RcL10, RcL11, RcL12. -/
import Derived.Below
import Derived.BigQuiet
import Derived.Deep.AppendLies
import Derived.Deep.DeepCutAuto
import Derived.Deep.QuietTactic
import Derived.IntWalk
import Derived.Laws.Rows
import Derived.Laws.Tables
import Derived.Lib.Hide
import Derived.OrdersHeld
import Derived.Outline
import Derived.Test.YtggnhccpncgfiaaProg
import Derived.WalkKit
import Derived.WalkSmall
import Derived.WalkSpells
import Derived.Test.YtggnhccpncgfiaaM01
import Derived.Test.YtggnhccpncgfiaaM02
import Derived.Test.YtggnhccpncgfiaaM05
import Derived.Test.YtggnhccpncgfiaaM11
import Derived.Test.YtggnhccpncgfiaaM12
import Derived.Test.YtggnhccpncgfiaaM13
import Derived.Test.YtggnhccpncgfiaaM14
import Derived.Test.YtggnhccpncgfiaaM15
import Derived.Test.YtggnhccpncgfiaaM17
set_option linter.all false
namespace Go.Proofs.Ytggnhccpncgfiaa
open Go.RowKit
theorem unw_r {c low : Int} (h0 : 0 ≤ c) (h1 : c ≤ 4611686018427387904) : unw (near0 c) low = unwr c low := by
  have e : near0 c = c := by unfold near0; rw [if_neg (by omega), if_neg (by omega)]
  rw [e]; rfl
theorem form_no {x : Sg} (h : smay x = false) : formB x = false := by unfold formB; rw [h]; rfl
theorem form_yes {x : Sg} (h : smay x = true) : formB x = (decide (x.kind = 2) && (if x.fin = true then decide (x.b.length = 0) else decide (0 < x.b.length))) := by unfold formB; rw [h, Bool.true_and]
set_option maxRecDepth 100000 in
set_option maxHeartbeats 16000000 in
theorem rlisd_any (G' : Option Addr) (m' d' : Nat) (A' : Option Addr) (n' c' : Nat) (x : Sg) (w : World) (hsr : Sr w G' m' d' x.sacks) (hsl : Sl w A' n' c' x.b) :
    Calls Try.prog 27 #[.agg (sgs G' m' d' A' n' c' x).toArray] w fun e w' => e = .returned (.bool (formB x)) ∧ Below w.heap.size w w' := by
  obtain ⟨B, hB⟩ : ∃ B, w.heap.size = B := ⟨_, rfl⟩
  have e0 := Bx.new w 36 (sgs G' m' d' A' n' c' x)
  have b0 : Below B w (w.alloc (.cells (sgs G' m' d' A' n' c' x).toArray 36)) := by rw [← hB]; exact (Below.refl _ _).alloc (Nat.le_refl _) _
  have s0 := hsr.alloc (.cells (sgs G' m' d' A' n' c' x).toArray 36); have l0 := hsl.alloc (.cells (sgs G' m' d' A' n' c' x).toArray 36)
  have hlen := hsl.rd.len
  have HL := Lib.hid hlen
  rw [hB] at e0
  have HB := Lib.hid hB
  clear hsr hsl hlen
  go_enter Try.func27, Try.ntmps27
  go_upto_region 1 with fail
  change Code.wp _ _ _ _ (w.alloc (.cells (sgs G' m' d' A' n' c' x).toArray 36))
  generalize w.alloc (.cells (sgs G' m' d' A' n' c' x).toArray 36) = w1 at e0 b0 s0 l0 ⊢
  clear hB
  have z0 : B ≤ w1.heap.size := Nat.le_of_lt e0.lt
  go_wp2_with (refine sg_load rfl (.tmp 1) rfl rfl e0 rfl ?_)
  refine (wrmay_any G' m' d' A' n' c' x _ s0 l0).mono ?_
  rintro e w2 ⟨rfl, hb⟩
  have e2 := e0.kept hb; have b2 : Below w.heap.size w w2 := by rw [HB.out]; exact b0.trans (hb.mono z0)
  clear e0 b0 s0 l0 z0 hb
  have c0 := e2.cell 0 rfl; have c2 := e2.cell 2 rfl; have c14 := e2.cell 14 rfl
  cases hm : smay x with
  | false =>
    have HF := Lib.hid (form_no hm)
    clear hm
    go_wp2_with fail
    go_ret
    exact ⟨by rw [HF.out]; rfl, b2⟩
  | true =>
    have HF := Lib.hid (form_yes hm)
    clear hm
    by_cases hk : x.kind = 2
    · have dk : (x.kind == 2) = true := by simpa using hk
      have HK := Lib.hid hk
      clear hk
      by_cases hn : n' = 0
      · have dn : ((n' : Int) == 0) = true := by simp [hn]
        have HNN := Lib.hid hn
        clear hn
        cases hf : x.fin with
        | true =>
          have HFF := Lib.hid hf
          rw [hf] at c2
          clear hf
          go_wp2_with fail
          go_ret
          exact ⟨by rw [HF.out, HFF.out, HK.out, HL.out, HNN.out]; rfl, b2⟩
        | false =>
          have HFF := Lib.hid hf
          rw [hf] at c2
          clear hf
          go_wp2_with fail
          go_ret
          exact ⟨by rw [HF.out, HFF.out, HK.out, HL.out, HNN.out]; rfl, b2⟩
      · have dn : ((n' : Int) == 0) = false := by simpa using hn
        have HNN := Lib.hid hn
        clear hn
        cases hf : x.fin with
        | true =>
          have HFF := Lib.hid hf
          rw [hf] at c2
          clear hf
          go_wp2_with fail
          go_ret
          exact ⟨by rw [HF.out, HFF.out, HK.out, HL.out, decide_eq_false HNN.out]; rfl, b2⟩
        | false =>
          have HFF := Lib.hid hf
          rw [hf] at c2
          clear hf
          go_wp2_with fail
          go_ret
          exact ⟨by rw [HF.out, HFF.out, HK.out, HL.out]; simp [Nat.pos_of_ne_zero HNN.out], b2⟩
    · have dk : (x.kind == 2) = false := by simpa using hk
      have HK := Lib.hid hk
      clear hk
      go_wp2_with fail
      go_ret
      exact ⟨by rw [HF.out, decide_eq_false HK.out]; rfl, b2⟩
theorem sb_row {ww : World} {base0 K : Nat} {R : Option Addr} {k q : Nat} {l : List Int} (h : Sb ww base0 R k q l) (hb : K < base0) (vs : List Value) : Sb (ww.setRow K vs.toArray) base0 R k q l :=
  ⟨slp_grown (p := fun b => base0 ≤ b) h.sl (fun _ b o z e => h.at_ b o z e) (rwv_grown ww K vs.toArray) (fun b hb2 e => by have := Option.some.inj e; omega), h.at_⟩
theorem sq_row {ww : World} {base0 K : Nat} {R : Option Addr} {k q : Nat} {l : List Sp} (h : Sq ww base0 R k q l) (hb : K < base0) (vs : List Value) : Sq (ww.setRow K vs.toArray) base0 R k q l :=
  ⟨ssp_grown (p := fun b => base0 ≤ b) h.ss (fun _ b o z e => h.at_ b o z e) (rwv_grown ww K vs.toArray) (fun b hb2 e => by have := Option.some.inj e; omega), h.at_⟩
theorem sb_low {ww : World} {base0 K : Nat} {R : Option Addr} {k q : Nat} {l : List Int} (h : Sb ww base0 R k q l) (hb : K ≤ base0) : Sb ww K R k q l := ⟨h.sl, fun b o z e => Nat.le_trans hb (h.at_ b o z e)⟩
/-- what stored does -/
def stoR (v : Wv) (x : Sg) : Wv × Int :=
  if x.fin = true then wshutR v (unwr (farR v) x.dsn)
  else if edW v < unwr (farR v) x.dsn + x.b.length then (zw, 4)
  else ((putR v (unwr (farR v) x.dsn) x.b).1, (putR v (unwr (farR v) x.dsn) x.b).2.2)
set_option maxRecDepth 100000 in
set_option maxHeartbeats 32000000 in
theorem rlsto_any (base : Int) (A : Option Addr) (n c : Nat) (G : Option Addr) (m d : Nat) (cap en : Int) (bl : List Int) (gl : List Sp) (G' : Option Addr) (m' d' : Nat) (A' : Option Addr) (n' c' : Nat) (x : Sg) (w : World) (hb : Sl w A n c bl) (hg : Ss w G m d gl) (hsl : Sl w A' n' c' x.b) (hv : Va ⟨base, bl, gl, cap, en⟩) (hds : U32 x.dsn) (hn' : n' ≤ 65536) :
    Calls Try.prog 28 #[.agg #[.int .i64 base, .slice A n c, .slice G m d, .int .i64 cap, .int .i64 en], .agg (sgs G' m' d' A' n' c' x).toArray] w fun e w' => TellW w w' e (stoR ⟨base, bl, gl, cap, en⟩ x) := by
  unfold TellW
  obtain ⟨B, hB⟩ : ∃ B, w.heap.size = B := ⟨_, rfl⟩
  have e0 := ((Bx.new w 25 [.int .i64 base, .slice A n c, .slice G m d, .int .i64 cap, .int .i64 en]).alloc (.cells (sgs G' m' d' A' n' c' x).toArray 36)).alloc (.cells ([.int .i64 0, .slice none 0 0, .slice none 0 0, .int .i64 0, .int .i64 0] : List Value).toArray 25)
  have y0 := (Bx.new (w.alloc (.cells ([.int .i64 base, .slice A n c, .slice G m d, .int .i64 cap, .int .i64 en] : List Value).toArray 25)) 36 (sgs G' m' d' A' n' c' x)).alloc (.cells ([.int .i64 0, .slice none 0 0, .slice none 0 0, .int .i64 0, .int .i64 0] : List Value).toArray 25)
  have r0 := Bx.new ((w.alloc (.cells ([.int .i64 base, .slice A n c, .slice G m d, .int .i64 cap, .int .i64 en] : List Value).toArray 25)).alloc (.cells (sgs G' m' d' A' n' c' x).toArray 36)) 25 [.int .i64 0, .slice none 0 0, .slice none 0 0, .int .i64 0, .int .i64 0]
  rw [World.size_alloc] at y0
  rw [World.size_alloc, World.size_alloc] at r0
  rw [hB] at e0 y0 r0
  have HB := Lib.hid hB
  have bw : Below w.heap.size w (((w.alloc (.cells ([.int .i64 base, .slice A n c, .slice G m d, .int .i64 cap, .int .i64 en] : List Value).toArray 25)).alloc (.cells (sgs G' m' d' A' n' c' x).toArray 36)).alloc (.cells ([.int .i64 0, .slice none 0 0, .slice none 0 0, .int .i64 0, .int .i64 0] : List Value).toArray 25)) := (((Below.refl _ _).alloc (Nat.le_refl _) _).alloc (by simp) _).alloc (by simp; omega) _
  have b0 : Below B w (((w.alloc (.cells ([.int .i64 base, .slice A n c, .slice G m d, .int .i64 cap, .int .i64 en] : List Value).toArray 25)).alloc (.cells (sgs G' m' d' A' n' c' x).toArray 36)).alloc (.cells ([.int .i64 0, .slice none 0 0, .slice none 0 0, .int .i64 0, .int .i64 0] : List Value).toArray 25)) := by rw [← hB]; exact bw
  have s0 := hb.keep bw; have g0 := hg.keep bw; have l0 := hsl.keep bw
  obtain ⟨fr, hfr⟩ : ∃ z, farR ⟨base, bl, gl, cap, en⟩ = z := ⟨_, rfl⟩
  obtain ⟨at_, hat⟩ : ∃ z, unwr fr x.dsn = z := ⟨_, rfl⟩
  obtain ⟨ed, hed⟩ : ∃ z, edW ⟨base, bl, gl, cap, en⟩ = z := ⟨_, rfl⟩
  have htop := far_top hv
  rw [hfr] at htop
  have hub := unwr_bd (c := fr) (low := x.dsn) htop.1
  rw [hat] at hub
  have HFR := Lib.hid hfr; have HAT := Lib.hid hat
  have HU := Lib.hid (show unw (near0 fr) x.dsn = at_ by rw [unw_r htop.1 (by omega)]; exact hat)
  have HED := Lib.hid (show edgeR ⟨base, bl, gl, cap, en⟩ = ed by unfold edgeR; rw [if_pos ((wmay_iff _).2 hv)]; exact hed)
  have HEW := Lib.hid hed
  have HBD := Lib.hid (show 0 ≤ fr ∧ fr ≤ 2305843009213693953 ∧ 0 ≤ at_ ∧ at_ < 4611686018427387904 from ⟨htop.1, by omega, hub.1, by omega⟩)
  have HN := Lib.hid (va_n hv hb.rd.len); have HDS := Lib.hid hds; have HV := Lib.hid hv; have HN' := Lib.hid hn'; have HL := Lib.hid hsl.rd.len
  clear hb hg hsl hv hds hn' htop hub hfr hat hed bw
  have HP := Lib.hid (And.intro e0 (And.intro y0 (And.intro r0 (And.intro s0 (And.intro g0 (And.intro l0 (And.intro b0 (show B ≤ (((w.alloc (.cells ([.int .i64 base, .slice A n c, .slice G m d, .int .i64 cap, .int .i64 en] : List Value).toArray 25)).alloc (.cells (sgs G' m' d' A' n' c' x).toArray 36)).alloc (.cells ([.int .i64 0, .slice none 0 0, .slice none 0 0, .int .i64 0, .int .i64 0] : List Value).toArray 25)).heap.size by have := e0.lt; omega))))))))
  clear e0 y0 r0 s0 g0 l0 b0
  go_enter Try.func28, Try.ntmps28
  go_upto_region 1 with fail
  change Code.wp _ _ _ _ (((w.alloc (.cells ([.int .i64 base, .slice A n c, .slice G m d, .int .i64 cap, .int .i64 en] : List Value).toArray 25)).alloc (.cells (sgs G' m' d' A' n' c' x).toArray 36)).alloc (.cells ([.int .i64 0, .slice none 0 0, .slice none 0 0, .int .i64 0, .int .i64 0] : List Value).toArray 25))
  generalize ((w.alloc (.cells ([.int .i64 base, .slice A n c, .slice G m d, .int .i64 cap, .int .i64 en] : List Value).toArray 25)).alloc (.cells (sgs G' m' d' A' n' c' x).toArray 36)).alloc (.cells ([.int .i64 0, .slice none 0 0, .slice none 0 0, .int .i64 0, .int .i64 0] : List Value).toArray 25) = w1 at HP ⊢
  clear hB
  refine wp_region_V [] 6 (fun (W : World) => Bx W B 25 [.int .i64 base, .slice A n c, .slice G m d, .int .i64 cap, .int .i64 en] ∧ Bx W (B + 1) 36 (sgs G' m' d' A' n' c' x) ∧ Bx W (B + 2) 25 [.int .i64 0, .slice none 0 0, .slice none 0 0, .int .i64 0, .int .i64 0] ∧ Sl W A n c bl ∧ Ss W G m d gl ∧ Sl W A' n' c' x.b ∧ Below B w W ∧ B ≤ W.heap.size) (by kernel_rfl) (by rfl) ?_
  have HS : ((fun (W : World) => Bx W B 25 [.int .i64 base, .slice A n c, .slice G m d, .int .i64 cap, .int .i64 en] ∧ Bx W (B + 1) 36 (sgs G' m' d' A' n' c' x) ∧ Bx W (B + 2) 25 [.int .i64 0, .slice none 0 0, .slice none 0 0, .int .i64 0, .int .i64 0] ∧ Sl W A n c bl ∧ Ss W G m d gl ∧ Sl W A' n' c' x.b ∧ Below B w W ∧ B ≤ W.heap.size)) _ := ⟨HP.out.1.drew, HP.out.2.1.drew, HP.out.2.2.1.drew, HP.out.2.2.2.1.keep (Below.refl _ _).drew, HP.out.2.2.2.2.1.keep (Below.refl _ _).drew, HP.out.2.2.2.2.2.1.keep (Below.refl _ _).drew, HP.out.2.2.2.2.2.2.1.drew, HP.out.2.2.2.2.2.2.2⟩
  generalize w1.drew = wd at HS  ⊢
  refine wpAnyV_take (i := 0) (v := .agg #[.int .i64 base, .slice A n c, .slice G m d, .int .i64 cap, .int .i64 en]) rfl (by kernel_rfl) (fun _ _ _ h => h) (rsub_y (cs := [.int .i64 base, .slice A n c, .slice G m d, .int .i64 cap, .int .i64 en]) (vs := [.int .i64 base, .slice A n c, .slice G m d, .int .i64 cap, .int .i64 en]) ir_weave (by rfl) (.tmp 2) rfl rfl (fun w hSw => hSw.1) rfl rfl) HS ?_
  try simp only [Act.put, List.setIfInBounds_toArray, List.set_cons_zero, List.set_cons_succ]
  refine wpAnyV_takeU (i := 2) (v := .pointer (some ⟨B + 1, 5, none⟩)) rfl (by kernel_rfl) (fun _ _ _ h => h) (Or.inl ⟨by rfl, fun w _ => ?_⟩) HS ?_
  · clear HS; go_simp
  try simp only [Act.put, List.setIfInBounds_toArray, List.set_cons_zero, List.set_cons_succ]
  refine wpAnyV_take (i := 3) (v := .int .u32 x.dsn) rfl (by kernel_rfl) (fun _ _ _ h => h) (Or.inl ⟨by rfl, fun w hSw => ?_⟩) HS ?_
  · have cc := Bx.cell (hSw.2.1) 5 (v := .int .u32 x.dsn) rfl
    clear hSw HS
    go_simp
  try simp only [Act.put, List.setIfInBounds_toArray, List.set_cons_zero, List.set_cons_succ]
  refine wpAnyV_one (k := 1) rfl (by kernel_rfl) (fun K hK => ?_)
  go_simp
  refine (rlcum_any base A n c G m d cap en bl gl _ HS.2.2.2.1 HS.2.2.2.2.1 HV.out).mono ?_
  rintro e w2 ⟨rfl, hb⟩
  rw [HFR.out]
  have HS : ((fun (W : World) => Bx W B 25 [.int .i64 base, .slice A n c, .slice G m d, .int .i64 cap, .int .i64 en] ∧ Bx W (B + 1) 36 (sgs G' m' d' A' n' c' x) ∧ Bx W (B + 2) 25 [.int .i64 0, .slice none 0 0, .slice none 0 0, .int .i64 0, .int .i64 0] ∧ Sl W A n c bl ∧ Ss W G m d gl ∧ Sl W A' n' c' x.b ∧ Below B w W ∧ B ≤ W.heap.size)) _ := ⟨HS.1.kept hb, HS.2.1.kept hb, HS.2.2.1.kept hb, HS.2.2.2.1.keep hb, HS.2.2.2.2.1.keep hb, HS.2.2.2.2.2.1.keep hb, HS.2.2.2.2.2.2.1.trans (hb.mono HS.2.2.2.2.2.2.2), Nat.le_trans HS.2.2.2.2.2.2.2 hb.size⟩
  refine hK _ _ HS ?_
  clear hK K
  try simp only [Act.put, List.setIfInBounds_toArray, List.set_cons_zero, List.set_cons_succ]
  refine wpAnyV_one (k := 4) rfl (by kernel_rfl) (fun K hK => ?_)
  go_simp
  refine (unwrap_any fr x.dsn (by have := HBD.out; omega) HDS.out.1 HDS.out.2 _).mono ?_
  rintro e w3 ⟨rfl, rfl⟩
  rw [HU.out]
  have HS : ((fun (W : World) => Bx W B 25 [.int .i64 base, .slice A n c, .slice G m d, .int .i64 cap, .int .i64 en] ∧ Bx W (B + 1) 36 (sgs G' m' d' A' n' c' x) ∧ Bx W (B + 2) 25 [.int .i64 0, .slice none 0 0, .slice none 0 0, .int .i64 0, .int .i64 0] ∧ Sl W A n c bl ∧ Ss W G m d gl ∧ Sl W A' n' c' x.b ∧ Below B w W ∧ B ≤ W.heap.size)) _ := HS
  refine hK _ _ HS ?_
  clear hK K
  try simp only [Act.put, List.setIfInBounds_toArray, List.set_cons_zero, List.set_cons_succ]
  refine wpAnyV_takeU (i := 5) (v := .int .i64 at_) rfl (by kernel_rfl) (fun _ _ _ h => h) (Or.inl ⟨by rfl, fun w _ => ?_⟩) HS ?_
  · clear HS; go_simp
  try simp only [Act.put, List.setIfInBounds_toArray, List.set_cons_zero, List.set_cons_succ]
  refine ⟨by kernel_rfl, ?_⟩
  clear HP
  have HP := Lib.hid HS
  clear HS
  cases hf : x.fin with
  | true =>
    have HF := Lib.hid (show stoR ⟨base, bl, gl, cap, en⟩ x = wshutR ⟨base, bl, gl, cap, en⟩ at_ by unfold stoR; rw [if_pos hf, HFR.out, HAT.out])
    obtain ⟨e2, y2, r2, s2, g2, l2, b2, z2⟩ := HP.out
    have cf : w2.cell? ⟨B + 1, 2, none⟩ = some (.bool true) := (y2.cell 2 rfl).trans (by rw [hf])
    clear hf
    go_wp2_with (refine rwv_load rfl (.tmp 2) rfl rfl e2 rfl ?_)
    refine (wshut_any base A n c G m d cap en bl gl _ s2 g2 HN.out at_ (by unfold W64; have := HBD.out; omega)).mono ?_
    rintro e w3 ⟨R, k, q, H, u, v, rfl, hsb, hsq, hb⟩
    obtain ⟨⟨X, ee⟩, hX⟩ : ∃ z, wshutR ⟨base, bl, gl, cap, en⟩ at_ = z := ⟨_, rfl⟩
    have HX := Lib.hid hX
    rw [hX] at hsb hsq ⊢
    dsimp only at hsb hsq ⊢
    have r3 := r2.kept hb; have b3 := b2.trans (hb.mono z2); have z3 := Nat.le_trans z2 hb.size
    have hlt := r2.lt
    clear e2 y2 r2 s2 g2 l2 b2 cf hX
    go_wp2_with (refine rwv_store rfl (.tmp 4) (.tmp 19) rfl rfl [.int .i64 X.base, .slice R k q, .slice H u v, .int .i64 X.cap, .int .i64 X.en] rfl r3 rfl rfl rfl ?_)
    refine rwv_end2 (by rfl) (by rfl) (by rfl) (rwv_put r3 [.int .i64 X.base, .slice R k q, .slice H u v, .int .i64 X.cap, .int .i64 X.en]) rfl rfl ?_
    rw [HB.out, HF.out, HX.out]
    exact ⟨R, k, q, H, u, v, rfl, sb_low (sb_row hsb (by omega) [.int .i64 X.base, .slice R k q, .slice H u v, .int .i64 X.cap, .int .i64 X.en]) z2, (sq_row hsq (by omega) [.int .i64 X.base, .slice R k q, .slice H u v, .int .i64 X.cap, .int .i64 X.en]).mono z2, b3.grown (rwv_grown w3 (B + 2) _) z3 (fun k hk => by cases hk; omega)⟩
  | false =>
  have i1 : IntKind.i64.wrap (at_ + (n' : Int)) = at_ + (n' : Int) := IntWalk.i64_in _ (by have := HBD.out; have := HN'.out; omega)
  have cf : w2.cell? ⟨B + 1, 2, none⟩ = some (.bool false) := (HP.out.2.1.cell 2 rfl).trans (by rw [hf])
  have HFF := Lib.hid hf
  clear hf
  go_upto_region 4 with fail
  clear cf
  by_cases hd : ed < at_ + (n' : Int)
  · have dd : decide (ed < at_ + (n' : Int)) = true := decide_eq_true hd
    refine wp_region_V [] 8 (fun (W : World) => Bx W B 25 [.int .i64 base, .slice A n c, .slice G m d, .int .i64 cap, .int .i64 en] ∧ Bx W (B + 1) 36 (sgs G' m' d' A' n' c' x) ∧ Bx W (B + 2) 25 [.int .i64 0, .slice none 0 0, .slice none 0 0, .int .i64 0, .int .i64 0] ∧ Sl W A n c bl ∧ Ss W G m d gl ∧ Sl W A' n' c' x.b ∧ Below B w W ∧ B ≤ W.heap.size) (by kernel_rfl) (by rfl) ?_
    have HS : ((fun (W : World) => Bx W B 25 [.int .i64 base, .slice A n c, .slice G m d, .int .i64 cap, .int .i64 en] ∧ Bx W (B + 1) 36 (sgs G' m' d' A' n' c' x) ∧ Bx W (B + 2) 25 [.int .i64 0, .slice none 0 0, .slice none 0 0, .int .i64 0, .int .i64 0] ∧ Sl W A n c bl ∧ Ss W G m d gl ∧ Sl W A' n' c' x.b ∧ Below B w W ∧ B ≤ W.heap.size)) _ := ⟨HP.out.1.drew, HP.out.2.1.drew, HP.out.2.2.1.drew, HP.out.2.2.2.1.keep (Below.refl _ _).drew, HP.out.2.2.2.2.1.keep (Below.refl _ _).drew, HP.out.2.2.2.2.2.1.keep (Below.refl _ _).drew, HP.out.2.2.2.2.2.2.1.drew, HP.out.2.2.2.2.2.2.2⟩
    generalize w2.drew = we at HS  ⊢
    refine wpAnyV_takeU (i := 0) (v := .int .i64 at_) rfl (by kernel_rfl) (fun _ _ _ h => h) (Or.inl ⟨by rfl, fun w _ => ?_⟩) HS ?_
    · clear HS; go_simp
    try simp only [Act.put, List.setIfInBounds_toArray, List.set_cons_zero, List.set_cons_succ]
    refine wpAnyV_takeU (i := 1) (v := .pointer (some ⟨B + 1, 14, none⟩)) rfl (by kernel_rfl) (fun _ _ _ h => h) (Or.inl ⟨by rfl, fun w _ => ?_⟩) HS ?_
    · clear HS; go_simp
    try simp only [Act.put, List.setIfInBounds_toArray, List.set_cons_zero, List.set_cons_succ]
    refine wpAnyV_take (i := 2) (v := .slice A' n' c') rfl (by kernel_rfl) (fun _ _ _ h => h) (Or.inl ⟨by rfl, fun w hSw => ?_⟩) HS ?_
    · have cc := Bx.cell (hSw.2.1) 14 (v := .slice A' n' c') rfl
      clear hSw HS
      go_simp
    try simp only [Act.put, List.setIfInBounds_toArray, List.set_cons_zero, List.set_cons_succ]
    refine wpAnyV_takeU (i := 3) (v := .int .i64 (n' : Int)) rfl (by kernel_rfl) (fun _ _ _ h => h) (Or.inl ⟨by rfl, fun w _ => ?_⟩) HS ?_
    · clear HS; go_simp
    try simp only [Act.put, List.setIfInBounds_toArray, List.set_cons_zero, List.set_cons_succ]
    refine wpAnyV_takeU (i := 4) (v := .int .i64 (at_ + (n' : Int))) rfl (by kernel_rfl) (fun _ _ _ h => h) (Or.inl ⟨by rfl, fun w _ => ?_⟩) HS ?_
    · clear HS; go_simp
    try simp only [Act.put, List.setIfInBounds_toArray, List.set_cons_zero, List.set_cons_succ]
    refine wpAnyV_take (i := 5) (v := .agg #[.int .i64 base, .slice A n c, .slice G m d, .int .i64 cap, .int .i64 en]) rfl (by kernel_rfl) (fun _ _ _ h => h) (rsub_y (cs := [.int .i64 base, .slice A n c, .slice G m d, .int .i64 cap, .int .i64 en]) (vs := [.int .i64 base, .slice A n c, .slice G m d, .int .i64 cap, .int .i64 en]) ir_weave (by rfl) (.tmp 2) rfl rfl (fun w hSw => hSw.1) rfl rfl) HS ?_
    try simp only [Act.put, List.setIfInBounds_toArray, List.set_cons_zero, List.set_cons_succ]
    refine wpAnyV_one (k := 6) rfl (by kernel_rfl) (fun K hK => ?_)
    go_simp
    refine (wedge_any base A n c G m d cap en bl gl _ HS.2.2.2.1 HS.2.2.2.2.1 HN.out).mono ?_
    rintro e w4 ⟨rfl, hb⟩
    rw [HED.out]
    have HS : ((fun (W : World) => Bx W B 25 [.int .i64 base, .slice A n c, .slice G m d, .int .i64 cap, .int .i64 en] ∧ Bx W (B + 1) 36 (sgs G' m' d' A' n' c' x) ∧ Bx W (B + 2) 25 [.int .i64 0, .slice none 0 0, .slice none 0 0, .int .i64 0, .int .i64 0] ∧ Sl W A n c bl ∧ Ss W G m d gl ∧ Sl W A' n' c' x.b ∧ Below B w W ∧ B ≤ W.heap.size)) _ := ⟨HS.1.kept hb, HS.2.1.kept hb, HS.2.2.1.kept hb, HS.2.2.2.1.keep hb, HS.2.2.2.2.1.keep hb, HS.2.2.2.2.2.1.keep hb, HS.2.2.2.2.2.2.1.trans (hb.mono HS.2.2.2.2.2.2.2), Nat.le_trans HS.2.2.2.2.2.2.2 hb.size⟩
    refine hK _ _ HS ?_
    clear hK K
    try simp only [Act.put, List.setIfInBounds_toArray, List.set_cons_zero, List.set_cons_succ]
    refine wpAnyV_takeU (i := 7) (v := .bool true) rfl (by kernel_rfl) (fun _ _ _ h => h) (Or.inl ⟨by rfl, fun w _ => ?_⟩) HS ?_
    · clear HS; go_simp
    try simp only [Act.put, List.setIfInBounds_toArray, List.set_cons_zero, List.set_cons_succ]
    refine ⟨by kernel_rfl, ?_⟩
    obtain ⟨e4, y4, r4, s4, g4, l4, b4, z4⟩ := HS
    clear HP
    have HF := Lib.hid (show stoR ⟨base, bl, gl, cap, en⟩ x = (zw, 4) by unfold stoR; rw [if_neg (by rw [HFF.out]; simp), HFR.out, HAT.out, HEW.out, HL.out, if_pos hd])
    have bld : ∀ w, (Instr.build 25 #[]).run Try.prog w = .ok (.agg ([.int .i64 0, .slice none 0 0, .slice none 0 0, .int .i64 0, .int .i64 0] : List Value).toArray) w := fun _ => by kernel_rfl
    clear hd
    go_wp2_with (refine rwv_store rfl (.tmp 4) (.tmp 29) rfl rfl [.int .i64 0, .slice none 0 0, .slice none 0 0, .int .i64 0, .int .i64 0] rfl r4 rfl rfl rfl ?_)
    refine rwv_end2 (by rfl) (by rfl) (by rfl) (rwv_put r4 [.int .i64 0, .slice none 0 0, .slice none 0 0, .int .i64 0, .int .i64 0]) rfl rfl ?_
    rw [HB.out, HF.out]
    have hlt := r4.lt
    exact ⟨none, 0, 0, none, 0, 0, rfl, ⟨Sl.none _, fun _ _ _ e => by cases e⟩, Sq.none _ _, b4.grown (rwv_grown _ (B + 2) _) z4 (fun k hk => by cases hk; omega)⟩
  · have dd : decide (ed < at_ + (n' : Int)) = false := decide_eq_false hd
    refine wp_region_V [] 8 (fun (W : World) => Bx W B 25 [.int .i64 base, .slice A n c, .slice G m d, .int .i64 cap, .int .i64 en] ∧ Bx W (B + 1) 36 (sgs G' m' d' A' n' c' x) ∧ Bx W (B + 2) 25 [.int .i64 0, .slice none 0 0, .slice none 0 0, .int .i64 0, .int .i64 0] ∧ Sl W A n c bl ∧ Ss W G m d gl ∧ Sl W A' n' c' x.b ∧ Below B w W ∧ B ≤ W.heap.size) (by kernel_rfl) (by rfl) ?_
    have HS : ((fun (W : World) => Bx W B 25 [.int .i64 base, .slice A n c, .slice G m d, .int .i64 cap, .int .i64 en] ∧ Bx W (B + 1) 36 (sgs G' m' d' A' n' c' x) ∧ Bx W (B + 2) 25 [.int .i64 0, .slice none 0 0, .slice none 0 0, .int .i64 0, .int .i64 0] ∧ Sl W A n c bl ∧ Ss W G m d gl ∧ Sl W A' n' c' x.b ∧ Below B w W ∧ B ≤ W.heap.size)) _ := ⟨HP.out.1.drew, HP.out.2.1.drew, HP.out.2.2.1.drew, HP.out.2.2.2.1.keep (Below.refl _ _).drew, HP.out.2.2.2.2.1.keep (Below.refl _ _).drew, HP.out.2.2.2.2.2.1.keep (Below.refl _ _).drew, HP.out.2.2.2.2.2.2.1.drew, HP.out.2.2.2.2.2.2.2⟩
    generalize w2.drew = we at HS  ⊢
    refine wpAnyV_takeU (i := 0) (v := .int .i64 at_) rfl (by kernel_rfl) (fun _ _ _ h => h) (Or.inl ⟨by rfl, fun w _ => ?_⟩) HS ?_
    · clear HS; go_simp
    try simp only [Act.put, List.setIfInBounds_toArray, List.set_cons_zero, List.set_cons_succ]
    refine wpAnyV_takeU (i := 1) (v := .pointer (some ⟨B + 1, 14, none⟩)) rfl (by kernel_rfl) (fun _ _ _ h => h) (Or.inl ⟨by rfl, fun w _ => ?_⟩) HS ?_
    · clear HS; go_simp
    try simp only [Act.put, List.setIfInBounds_toArray, List.set_cons_zero, List.set_cons_succ]
    refine wpAnyV_take (i := 2) (v := .slice A' n' c') rfl (by kernel_rfl) (fun _ _ _ h => h) (Or.inl ⟨by rfl, fun w hSw => ?_⟩) HS ?_
    · have cc := Bx.cell (hSw.2.1) 14 (v := .slice A' n' c') rfl
      clear hSw HS
      go_simp
    try simp only [Act.put, List.setIfInBounds_toArray, List.set_cons_zero, List.set_cons_succ]
    refine wpAnyV_takeU (i := 3) (v := .int .i64 (n' : Int)) rfl (by kernel_rfl) (fun _ _ _ h => h) (Or.inl ⟨by rfl, fun w _ => ?_⟩) HS ?_
    · clear HS; go_simp
    try simp only [Act.put, List.setIfInBounds_toArray, List.set_cons_zero, List.set_cons_succ]
    refine wpAnyV_takeU (i := 4) (v := .int .i64 (at_ + (n' : Int))) rfl (by kernel_rfl) (fun _ _ _ h => h) (Or.inl ⟨by rfl, fun w _ => ?_⟩) HS ?_
    · clear HS; go_simp
    try simp only [Act.put, List.setIfInBounds_toArray, List.set_cons_zero, List.set_cons_succ]
    refine wpAnyV_take (i := 5) (v := .agg #[.int .i64 base, .slice A n c, .slice G m d, .int .i64 cap, .int .i64 en]) rfl (by kernel_rfl) (fun _ _ _ h => h) (rsub_y (cs := [.int .i64 base, .slice A n c, .slice G m d, .int .i64 cap, .int .i64 en]) (vs := [.int .i64 base, .slice A n c, .slice G m d, .int .i64 cap, .int .i64 en]) ir_weave (by rfl) (.tmp 2) rfl rfl (fun w hSw => hSw.1) rfl rfl) HS ?_
    try simp only [Act.put, List.setIfInBounds_toArray, List.set_cons_zero, List.set_cons_succ]
    refine wpAnyV_one (k := 6) rfl (by kernel_rfl) (fun K hK => ?_)
    go_simp
    refine (wedge_any base A n c G m d cap en bl gl _ HS.2.2.2.1 HS.2.2.2.2.1 HN.out).mono ?_
    rintro e w4 ⟨rfl, hb⟩
    rw [HED.out]
    have HS : ((fun (W : World) => Bx W B 25 [.int .i64 base, .slice A n c, .slice G m d, .int .i64 cap, .int .i64 en] ∧ Bx W (B + 1) 36 (sgs G' m' d' A' n' c' x) ∧ Bx W (B + 2) 25 [.int .i64 0, .slice none 0 0, .slice none 0 0, .int .i64 0, .int .i64 0] ∧ Sl W A n c bl ∧ Ss W G m d gl ∧ Sl W A' n' c' x.b ∧ Below B w W ∧ B ≤ W.heap.size)) _ := ⟨HS.1.kept hb, HS.2.1.kept hb, HS.2.2.1.kept hb, HS.2.2.2.1.keep hb, HS.2.2.2.2.1.keep hb, HS.2.2.2.2.2.1.keep hb, HS.2.2.2.2.2.2.1.trans (hb.mono HS.2.2.2.2.2.2.2), Nat.le_trans HS.2.2.2.2.2.2.2 hb.size⟩
    refine hK _ _ HS ?_
    clear hK K
    try simp only [Act.put, List.setIfInBounds_toArray, List.set_cons_zero, List.set_cons_succ]
    refine wpAnyV_takeU (i := 7) (v := .bool false) rfl (by kernel_rfl) (fun _ _ _ h => h) (Or.inl ⟨by rfl, fun w _ => ?_⟩) HS ?_
    · clear HS; go_simp
    try simp only [Act.put, List.setIfInBounds_toArray, List.set_cons_zero, List.set_cons_succ]
    refine ⟨by kernel_rfl, ?_⟩
    obtain ⟨e4, y4, r4, s4, g4, l4, b4, z4⟩ := HS
    clear HP
    have HF := Lib.hid (show stoR ⟨base, bl, gl, cap, en⟩ x = ((putR ⟨base, bl, gl, cap, en⟩ at_ x.b).1, (putR ⟨base, bl, gl, cap, en⟩ at_ x.b).2.2) by unfold stoR; rw [if_neg (by rw [HFF.out]; simp), HFR.out, HAT.out, HEW.out, HL.out, if_neg hd])
    clear hd i1
    have c14 := y4.cell 14 rfl
    go_wp2_with (refine rwv_load rfl (.tmp 2) rfl rfl e4 rfl ?_)
    refine (wput_any base A n c G m d cap en bl gl _ s4 g4 HN.out at_ A' n' c' x.b (by unfold W64; have := HBD.out; omega) l4 (by have := HN'.out; omega)).mono ?_
    rintro e w5 ⟨R, k, q, H, u, v, rfl, hsb, hsq, hb⟩
    obtain ⟨⟨X, cnt, ee⟩, hX⟩ : ∃ z, putR ⟨base, bl, gl, cap, en⟩ at_ x.b = z := ⟨_, rfl⟩
    have HX := Lib.hid hX
    rw [hX] at hsb hsq ⊢
    dsimp only at hsb hsq ⊢
    have e5 := e4.kept hb; have r5 := r4.kept hb; have b5 := b4.trans (hb.mono z4); have z5 := Nat.le_trans z4 hb.size
    have hlt := r4.lt
    clear e4 y4 r4 s4 g4 l4 b4 hX c14 dd
    go_upto_region 7 with (refine rwv_store rfl (.tmp 2) (.tmp 36) rfl rfl [.int .i64 X.base, .slice R k q, .slice H u v, .int .i64 X.cap, .int .i64 X.en] rfl e5 rfl rfl rfl ?_)
    have e6 := rwv_put e5 [.int .i64 X.base, .slice R k q, .slice H u v, .int .i64 X.cap, .int .i64 X.en]
    have hg6 := rwv_grown w5 B ([.int .i64 X.base, .slice R k q, .slice H u v, .int .i64 X.cap, .int .i64 X.en] : List Value).toArray
    have r6 := r5.grown hg6 (fun e => by have := Option.some.inj e; omega)
    have hsb6 := sb_row hsb (K := B) (by omega) [.int .i64 X.base, .slice R k q, .slice H u v, .int .i64 X.cap, .int .i64 X.en]
    have hsq6 := sq_row hsq (K := B) (by omega) [.int .i64 X.base, .slice R k q, .slice H u v, .int .i64 X.cap, .int .i64 X.en]
    have b6 := b5.grown hg6 z5 (fun k hk => by cases hk; exact Nat.le_refl _)
    have z6 := Nat.le_trans z5 hg6.size
    generalize w5.setRow B ([.int .i64 X.base, .slice R k q, .slice H u v, .int .i64 X.cap, .int .i64 X.en] : List Value).toArray = w6 at e6 r6 hsb6 hsq6 b6 z6 ⊢
    clear e5 r5 b5 hsb hsq hg6
    go_wp2_with (first | (refine rwv_load rfl (.tmp 2) rfl rfl e6 rfl ?_) | (refine rwv_store rfl (.tmp 4) (.tmp 39) rfl rfl [.int .i64 X.base, .slice R k q, .slice H u v, .int .i64 X.cap, .int .i64 X.en] rfl r6 rfl rfl rfl ?_))
    refine rwv_end2 (by rfl) (by rfl) (by rfl) (rwv_put r6 [.int .i64 X.base, .slice R k q, .slice H u v, .int .i64 X.cap, .int .i64 X.en]) rfl rfl ?_
    rw [HB.out, HF.out, HX.out]
    exact ⟨R, k, q, H, u, v, rfl, sb_low (sb_row hsb6 (by omega) [.int .i64 X.base, .slice R k q, .slice H u v, .int .i64 X.cap, .int .i64 X.en]) z4, (sq_row hsq6 (by omega) [.int .i64 X.base, .slice R k q, .slice H u v, .int .i64 X.cap, .int .i64 X.en]).mono z4, b6.grown (rwv_grown w6 (B + 2) _) z6 (fun k hk => by cases hk; omega)⟩
end Go.Proofs.Ytggnhccpncgfiaa
namespace Go.Proofs.Ytggnhccpncgfiaa
open Go.RowKit
/-- the positions of a segment, as the landed code counts them -/
def szR (x : Sg) : Int := if (x.b.length : Int) < 1 then 1 else x.b.length
def mkR' (mk : Ms) (x : Sg) (marked : Bool) : Ms := if marked = true then ⟨mk.pk + 1, mk.bt + szR x, mk.ca, mk.md, mk.pt⟩ else mk
/-- what recorded does -/
def recR (l : List Sp) (mk : Ms) (x : Sg) (marked : Bool) : Inl × Int :=
  if (addR l (unwr (gapIn l 0) x.seq, unwr (gapIn l 0) x.seq + szR x)).2 ≠ 0 then (zinl, (addR l (unwr (gapIn l 0) x.seq, unwr (gapIn l 0) x.seq + szR x)).2)
  else if mmay (mkR' mk x marked) = false then (zinl, 5)
  else (⟨(addR l (unwr (gapIn l 0) x.seq, unwr (gapIn l 0) x.seq + szR x)).1, mkR' mk x marked⟩, 0)
theorem sq_row6 {ww : World} {base0 K : Nat} {R : Option Addr} {k q : Nat} {l : List Sp} (h : Sq ww base0 R k q l) (hb : K < base0) (vs : List Value) : Sq (ww.setRow K vs.toArray) base0 R k q l := sq_row h hb vs
set_option maxRecDepth 100000 in
set_option maxHeartbeats 32000000 in
theorem rlrec_any (SA : Option Addr) (sn sc : Nat) (l : List Sp) (mk : Ms) (G' : Option Addr) (m' d' : Nat) (A' : Option Addr) (n' c' : Nat) (x : Sg) (marked : Bool) (w : World) (hs : Ss w SA sn sc l) (hsl : Sl w A' n' c' x.b) (hmb : mayB l = true) (hmk : MsOk mk) (hsq : U32 x.seq) (hn' : n' ≤ 65536) :
    Calls Try.prog 29 #[.agg #[.slice SA sn sc, .int .i64 mk.pk, .int .i64 mk.bt, .int .i64 mk.ca, .int .i64 mk.md, .int .i64 mk.pt], .agg (sgs G' m' d' A' n' c' x).toArray, .bool marked] w fun e w' => ∃ R k q, e = .returned (.tuple #[.agg #[.slice R k q, .int .i64 (recR l mk x marked).1.m.pk, .int .i64 (recR l mk x marked).1.m.bt, .int .i64 (recR l mk x marked).1.m.ca, .int .i64 (recR l mk x marked).1.m.md, .int .i64 (recR l mk x marked).1.m.pt], .int .i64 (recR l mk x marked).2]) ∧ Sq w' w.heap.size R k q (recR l mk x marked).1.got ∧ Below w.heap.size w w' := by
  obtain ⟨B, hB⟩ : ∃ B, w.heap.size = B := ⟨_, rfl⟩
  have e1 := ((Bx.new w 29 [.slice SA sn sc, .int .i64 mk.pk, .int .i64 mk.bt, .int .i64 mk.ca, .int .i64 mk.md, .int .i64 mk.pt]).alloc (.cells (sgs G' m' d' A' n' c' x).toArray 36)).alloc (.cells ([.slice none 0 0, .int .i64 0, .int .i64 0, .int .i64 0, .int .i64 0, .int .i64 0] : List Value).toArray 29)
  have x1 := (Bx.new (w.alloc (.cells ([.slice SA sn sc, .int .i64 mk.pk, .int .i64 mk.bt, .int .i64 mk.ca, .int .i64 mk.md, .int .i64 mk.pt] : List Value).toArray 29)) 36 (sgs G' m' d' A' n' c' x)).alloc (.cells ([.slice none 0 0, .int .i64 0, .int .i64 0, .int .i64 0, .int .i64 0, .int .i64 0] : List Value).toArray 29)
  have r1 := Bx.new ((w.alloc (.cells ([.slice SA sn sc, .int .i64 mk.pk, .int .i64 mk.bt, .int .i64 mk.ca, .int .i64 mk.md, .int .i64 mk.pt] : List Value).toArray 29)).alloc (.cells (sgs G' m' d' A' n' c' x).toArray 36)) 29 [.slice none 0 0, .int .i64 0, .int .i64 0, .int .i64 0, .int .i64 0, .int .i64 0]
  rw [World.size_alloc] at x1
  rw [World.size_alloc, World.size_alloc] at r1
  rw [hB] at e1 x1 r1
  have HBW := Lib.hid hB
  have bw : Below w.heap.size w (((w.alloc (.cells ([.slice SA sn sc, .int .i64 mk.pk, .int .i64 mk.bt, .int .i64 mk.ca, .int .i64 mk.md, .int .i64 mk.pt] : List Value).toArray 29)).alloc (.cells (sgs G' m' d' A' n' c' x).toArray 36)).alloc (.cells ([.slice none 0 0, .int .i64 0, .int .i64 0, .int .i64 0, .int .i64 0, .int .i64 0] : List Value).toArray 29)) := (((Below.refl _ _).alloc (Nat.le_refl _) _).alloc (by simp) _).alloc (by simp; omega) _
  have b1 : Below B w (((w.alloc (.cells ([.slice SA sn sc, .int .i64 mk.pk, .int .i64 mk.bt, .int .i64 mk.ca, .int .i64 mk.md, .int .i64 mk.pt] : List Value).toArray 29)).alloc (.cells (sgs G' m' d' A' n' c' x).toArray 36)).alloc (.cells ([.slice none 0 0, .int .i64 0, .int .i64 0, .int .i64 0, .int .i64 0, .int .i64 0] : List Value).toArray 29)) := by rw [← hB]; exact bw
  have s1 := hs.keep bw
  have z1 : B ≤ (((w.alloc (.cells ([.slice SA sn sc, .int .i64 mk.pk, .int .i64 mk.bt, .int .i64 mk.ca, .int .i64 mk.md, .int .i64 mk.pt] : List Value).toArray 29)).alloc (.cells (sgs G' m' d' A' n' c' x).toArray 36)).alloc (.cells ([.slice none 0 0, .int .i64 0, .int .i64 0, .int .i64 0, .int .i64 0, .int .i64 0] : List Value).toArray 29)).heap.size := by have := e1.lt; omega
  have hg0 := gap0 hmb
  obtain ⟨gp, hgp⟩ : ∃ z, gapIn l 0 = z := ⟨_, rfl⟩
  obtain ⟨at_, hat⟩ : ∃ z, unwr gp x.seq = z := ⟨_, rfl⟩
  obtain ⟨sz, hsz⟩ : ∃ z, szR x = z := ⟨_, rfl⟩
  obtain ⟨⟨ad, ae⟩, had⟩ : ∃ z, addR l (at_, at_ + sz) = z := ⟨_, rfl⟩
  rw [hgp] at hg0
  have hub := unwr_bd (c := gp) (low := x.seq) hg0.1
  rw [hat] at hub
  have hsz' : (if (n' : Int) < 1 then (1 : Int) else (n' : Int)) = sz := by rw [← hsz]; unfold szR; rw [hsl.rd.len]
  have hszb : 1 ≤ sz ∧ sz ≤ 65536 := by rw [← hsz']; split <;> omega
  have HG := Lib.hid (show gapF l 0 = gp by rw [gap_zero hmb]; exact hgp)
  have HGP := Lib.hid hgp; have HAT := Lib.hid hat; have HSZ := Lib.hid hsz; have HAD := Lib.hid had
  have HU := Lib.hid (show unw (near0 gp) x.seq = at_ by rw [unw_r hg0.1 hg0.2.1]; exact hat)
  have HBD := Lib.hid (show 0 ≤ gp ∧ gp ≤ 4611686018427387904 ∧ 0 ≤ at_ ∧ at_ < 4611686022722355200 ∧ 1 ≤ sz ∧ sz ≤ 65536 from ⟨hg0.1, hg0.2.1, hub.1, by omega, hszb.1, hszb.2⟩)
  have HSQ := Lib.hid hsq; have HMK := Lib.hid hmk; have HZ' := Lib.hid hsz'
  clear hs hsl hmb hmk hsq hn' hg0 hub hszb hgp hat hsz had bw hsz'
  go_enter Try.func29, Try.ntmps29
  go_upto_region 1 with fail
  change Code.wp _ _ _ _ (((w.alloc (.cells ([.slice SA sn sc, .int .i64 mk.pk, .int .i64 mk.bt, .int .i64 mk.ca, .int .i64 mk.md, .int .i64 mk.pt] : List Value).toArray 29)).alloc (.cells (sgs G' m' d' A' n' c' x).toArray 36)).alloc (.cells ([.slice none 0 0, .int .i64 0, .int .i64 0, .int .i64 0, .int .i64 0, .int .i64 0] : List Value).toArray 29))
  generalize (((w.alloc (.cells ([.slice SA sn sc, .int .i64 mk.pk, .int .i64 mk.bt, .int .i64 mk.ca, .int .i64 mk.md, .int .i64 mk.pt] : List Value).toArray 29)).alloc (.cells (sgs G' m' d' A' n' c' x).toArray 36)).alloc (.cells ([.slice none 0 0, .int .i64 0, .int .i64 0, .int .i64 0, .int .i64 0, .int .i64 0] : List Value).toArray 29)) = w1 at e1 x1 r1 b1 s1 z1 ⊢
  clear hB
  have c14 := x1.cell 14 rfl
  have hz := HZ'.out
  go_upto_region 2 with fail
  clear c14 hz
  refine wp_region_V [] 7 (fun (W : World) => Bx W B 29 [.slice SA sn sc, .int .i64 mk.pk, .int .i64 mk.bt, .int .i64 mk.ca, .int .i64 mk.md, .int .i64 mk.pt] ∧ Bx W (B + 1) 36 (sgs G' m' d' A' n' c' x) ∧ Bx W (B + 2) 29 [.slice none 0 0, .int .i64 0, .int .i64 0, .int .i64 0, .int .i64 0, .int .i64 0] ∧ Ss W SA sn sc l ∧ Below B w W ∧ B ≤ W.heap.size) (by kernel_rfl) (by rfl) ?_
  have HS : ((fun (W : World) => Bx W B 29 [.slice SA sn sc, .int .i64 mk.pk, .int .i64 mk.bt, .int .i64 mk.ca, .int .i64 mk.md, .int .i64 mk.pt] ∧ Bx W (B + 1) 36 (sgs G' m' d' A' n' c' x) ∧ Bx W (B + 2) 29 [.slice none 0 0, .int .i64 0, .int .i64 0, .int .i64 0, .int .i64 0, .int .i64 0] ∧ Ss W SA sn sc l ∧ Below B w W ∧ B ≤ W.heap.size)) _ := ⟨e1.drew, x1.drew, r1.drew, s1.keep (Below.refl _ _).drew, b1.drew, z1⟩
  generalize w1.drew = wd at HS  ⊢
  refine wpAnyV_takeU (i := 0) (v := .pointer (some ⟨B, 0, none⟩)) rfl (by kernel_rfl) (fun _ _ _ h => h) (Or.inl ⟨by rfl, fun w _ => ?_⟩) HS ?_
  · clear HS; go_simp
  try simp only [Act.put, List.setIfInBounds_toArray, List.set_cons_zero, List.set_cons_succ]
  refine wpAnyV_take (i := 1) (v := .slice SA sn sc) rfl (by kernel_rfl) (fun _ _ _ h => h) (Or.inl ⟨by rfl, fun w hSw => ?_⟩) HS ?_
  · have cc := Bx.cell (hSw.1) 0 (v := .slice SA sn sc) rfl
    clear hSw HS
    go_simp
  try simp only [Act.put, List.setIfInBounds_toArray, List.set_cons_zero, List.set_cons_succ]
  refine wpAnyV_takeU (i := 3) (v := .pointer (some ⟨B + 1, 4, none⟩)) rfl (by kernel_rfl) (fun _ _ _ h => h) (Or.inl ⟨by rfl, fun w _ => ?_⟩) HS ?_
  · clear HS; go_simp
  try simp only [Act.put, List.setIfInBounds_toArray, List.set_cons_zero, List.set_cons_succ]
  refine wpAnyV_take (i := 4) (v := .int .u32 x.seq) rfl (by kernel_rfl) (fun _ _ _ h => h) (Or.inl ⟨by rfl, fun w hSw => ?_⟩) HS ?_
  · have cc := Bx.cell (hSw.2.1) 4 (v := .int .u32 x.seq) rfl
    clear hSw HS
    go_simp
  try simp only [Act.put, List.setIfInBounds_toArray, List.set_cons_zero, List.set_cons_succ]
  refine wpAnyV_one (k := 2) rfl (by kernel_rfl) (fun K hK => ?_)
  go_simp
  refine (rlmiss_any SA sn sc l _ HS.2.2.2.1).mono ?_
  rintro e w2 ⟨rfl, hb⟩
  rw [HG.out]
  have HS : ((fun (W : World) => Bx W B 29 [.slice SA sn sc, .int .i64 mk.pk, .int .i64 mk.bt, .int .i64 mk.ca, .int .i64 mk.md, .int .i64 mk.pt] ∧ Bx W (B + 1) 36 (sgs G' m' d' A' n' c' x) ∧ Bx W (B + 2) 29 [.slice none 0 0, .int .i64 0, .int .i64 0, .int .i64 0, .int .i64 0, .int .i64 0] ∧ Ss W SA sn sc l ∧ Below B w W ∧ B ≤ W.heap.size)) _ := ⟨HS.1.kept hb, HS.2.1.kept hb, HS.2.2.1.kept hb, HS.2.2.2.1.keep hb, HS.2.2.2.2.1.trans (hb.mono HS.2.2.2.2.2), Nat.le_trans HS.2.2.2.2.2 hb.size⟩
  refine hK _ _ HS ?_
  clear hK K
  try simp only [Act.put, List.setIfInBounds_toArray, List.set_cons_zero, List.set_cons_succ]
  refine wpAnyV_one (k := 5) rfl (by kernel_rfl) (fun K hK => ?_)
  go_simp
  refine (unwrap_any gp x.seq (by have := HBD.out; omega) HSQ.out.1 HSQ.out.2 _).mono ?_
  rintro e w3 ⟨rfl, rfl⟩
  rw [HU.out]
  have HS : ((fun (W : World) => Bx W B 29 [.slice SA sn sc, .int .i64 mk.pk, .int .i64 mk.bt, .int .i64 mk.ca, .int .i64 mk.md, .int .i64 mk.pt] ∧ Bx W (B + 1) 36 (sgs G' m' d' A' n' c' x) ∧ Bx W (B + 2) 29 [.slice none 0 0, .int .i64 0, .int .i64 0, .int .i64 0, .int .i64 0, .int .i64 0] ∧ Ss W SA sn sc l ∧ Below B w W ∧ B ≤ W.heap.size)) _ := HS
  refine hK _ _ HS ?_
  clear hK K
  try simp only [Act.put, List.setIfInBounds_toArray, List.set_cons_zero, List.set_cons_succ]
  refine wpAnyV_takeU (i := 6) (v := .int .i64 at_) rfl (by kernel_rfl) (fun _ _ _ h => h) (Or.inl ⟨by rfl, fun w _ => ?_⟩) HS ?_
  · clear HS; go_simp
  try simp only [Act.put, List.setIfInBounds_toArray, List.set_cons_zero, List.set_cons_succ]
  refine ⟨by kernel_rfl, ?_⟩
  obtain ⟨e2, x2, r2, s2, b2, z2⟩ := HS
  clear e1 x1 r1 s1 b1 z1
  have i1 : IntKind.i64.wrap (at_ + sz) = at_ + sz := IntWalk.i64_in _ (by have := HBD.out; omega)
  have c0 := e2.cell 0 rfl
  go_wp2_with fail
  refine (add_own SA sn sc l at_ (at_ + sz) _ s2 (by unfold W64; have := HBD.out; omega) (by unfold W64; have := HBD.out; omega)).mono ?_
  rintro e w4 ⟨R, k, q, rfl, hsq, hb⟩
  rw [HAD.out]
  rw [HAD.out] at hsq
  dsimp only at hsq ⊢
  have e4 := e2.kept hb; have r4 := r2.kept hb; have b4 := b2.trans (hb.mono z2); have z4 := Nat.le_trans z2 hb.size
  have hz2 : B + 2 < w2.heap.size := r2.lt
  have HZZ := Lib.hid z2
  clear c0 i1 e2 x2 r2 s2 b2 z2 hb
  by_cases hae : ae = 0
  case neg =>
    have da : (ae != 0) = true := by simpa using hae
    have HF := Lib.hid (show recR l mk x marked = (zinl, ae) by unfold recR; rw [HSZ.out, HGP.out, HAT.out, HAD.out, if_pos hae])
    clear hae
    go_wp2_with (refine rin_store rfl (.tmp 6) (.tmp 35) rfl rfl [.slice none 0 0, .int .i64 0, .int .i64 0, .int .i64 0, .int .i64 0, .int .i64 0] rfl r4 rfl rfl rfl ?_)
    refine rin_end2 (by rfl) (by rfl) (by rfl) (rin_put r4 [.slice none 0 0, .int .i64 0, .int .i64 0, .int .i64 0, .int .i64 0, .int .i64 0]) rfl rfl ?_
    rw [HBW.out, HF.out]
    have hlt := r4.lt
    exact ⟨none, 0, 0, rfl, Sq.none _ _, b4.grown (rin_grown _ (B + 2) _) z4 (fun k hk => by cases hk; omega)⟩
  subst hae
  have c0 := e4.cell 0 rfl
  have f0 := e4.free 0
  go_upto_region 7 with fail
  have e5 : Bx (w4.setCell ⟨B, 0, none⟩ (.slice R k q)) B 29 [.slice R k q, .int .i64 mk.pk, .int .i64 mk.bt, .int .i64 mk.ca, .int .i64 mk.md, .int .i64 mk.pt] := e4.set 0 (.slice R k q)
  have hg := sg_gset w4 ⟨B, 0, none⟩ (.slice R k q)
  have r5 := r4.grown hg (fun e => by have := Option.some.inj e; simp at this)
  have q5 := hsq.set (p := ⟨B, 0, none⟩) (by show B < w2.heap.size; omega) (.slice R k q)
  have b5 := b4.grown hg z4 (fun k hk => by cases hk; exact Nat.le_refl _)
  have z5 := Nat.le_trans z4 hg.size
  generalize w4.setCell ⟨B, 0, none⟩ (.slice R k q) = w5 at e5 r5 q5 b5 z5 ⊢
  clear e4 r4 hsq b4 z4 hg c0 f0
  cases marked with
  | false =>
    go_wp2_with (refine rsub_load (cs := [.slice R k q, .int .i64 (mk.pk), .int .i64 (mk.bt), .int .i64 (mk.ca), .int .i64 (mk.md), .int .i64 (mk.pt)]) (vs := mcs (⟨mk.pk, mk.bt, mk.ca, mk.md, mk.pt⟩ : Ms)) ir_marks rfl (.tmp 53) rfl rfl e5 rfl rfl ?_)
    refine (mkmay_any (mk.pk) (mk.bt) (mk.ca) (mk.md) (mk.pt) _).mono ?_
    rintro e w8 ⟨rfl, hb⟩
    have e8 := e5.kept hb; have r8 := r5.kept hb; have q8 := q5.keep hb; have b8 := b5.trans (hb.mono z5); have z8 := Nat.le_trans z5 hb.size
    clear e5 r5 q5 b5 z5 hb
    cases hm : mmay (⟨mk.pk, mk.bt, mk.ca, mk.md, mk.pt⟩ : Ms) with
    | false =>
      have HF := Lib.hid (show recR l mk x false = (zinl, 5) by
        unfold recR; rw [HSZ.out, HGP.out, HAT.out, HAD.out, if_neg (by simp), if_pos (by unfold mkR'; rw [if_neg (by simp)]; exact hm)])
      clear hm
      go_wp2_with (refine rin_store rfl (.tmp 6) (.tmp 57) rfl rfl [.slice none 0 0, .int .i64 0, .int .i64 0, .int .i64 0, .int .i64 0, .int .i64 0] rfl r8 rfl rfl rfl ?_)
      refine rin_end2 (by rfl) (by rfl) (by rfl) (rin_put r8 [.slice none 0 0, .int .i64 0, .int .i64 0, .int .i64 0, .int .i64 0, .int .i64 0]) rfl rfl ?_
      rw [HBW.out, HF.out]
      have hlt := r8.lt
      exact ⟨none, 0, 0, rfl, Sq.none _ _, b8.grown (rin_grown _ (B + 2) _) z8 (fun k hk => by cases hk; omega)⟩
    | true =>
      have HF := Lib.hid (show recR l mk x false = (⟨ad, (⟨mk.pk, mk.bt, mk.ca, mk.md, mk.pt⟩ : Ms)⟩, 0) by
        unfold recR; rw [HSZ.out, HGP.out, HAT.out, HAD.out, if_neg (by simp), if_neg (by unfold mkR'; rw [if_neg (by simp)]; rw [show mmay mk = true from hm]; simp)]; unfold mkR'; rw [if_neg (by simp)])
      clear hm
      go_wp2_with (first | (refine rin_load rfl (.tmp 3) rfl rfl e8 rfl ?_) | (refine rin_store rfl (.tmp 6) (.tmp 58) rfl rfl [.slice R k q, .int .i64 (mk.pk), .int .i64 (mk.bt), .int .i64 (mk.ca), .int .i64 (mk.md), .int .i64 (mk.pt)] rfl r8 rfl rfl rfl ?_))
      refine rin_end2 (by rfl) (by rfl) (by rfl) (rin_put r8 [.slice R k q, .int .i64 (mk.pk), .int .i64 (mk.bt), .int .i64 (mk.ca), .int .i64 (mk.md), .int .i64 (mk.pt)]) rfl rfl ?_
      rw [HBW.out, HF.out]
      have hlt := r8.lt
      exact ⟨R, k, q, rfl, (sq_row6 q8 (by omega) [.slice R k q, .int .i64 (mk.pk), .int .i64 (mk.bt), .int .i64 (mk.ca), .int .i64 (mk.md), .int .i64 (mk.pt)]).mono HZZ.out, b8.grown (rin_grown _ (B + 2) _) z8 (fun k hk => by cases hk; omega)⟩
  | true =>
    have i1 : IntKind.i64.wrap (mk.pk + 1) = mk.pk + 1 := IntWalk.i64_in _ (by have := HMK.out.p0; have := HMK.out.p1; omega)
    have c1 := e5.cell 1 rfl
    have f1 := e5.free 1
    go_upto_region 9 with fail
    have e6 : Bx (w5.setCell ⟨B, 1, none⟩ (.int .i64 (mk.pk + 1))) B 29 [.slice R k q, .int .i64 (mk.pk + 1), .int .i64 mk.bt, .int .i64 mk.ca, .int .i64 mk.md, .int .i64 mk.pt] := e5.set 1 (.int .i64 (mk.pk + 1))
    have hg := sg_gset w5 ⟨B, 1, none⟩ (.int .i64 (mk.pk + 1))
    have r6 := r5.grown hg (fun e => by have := Option.some.inj e; simp at this)
    have q6 := q5.set (p := ⟨B, 1, none⟩) (by show B < w2.heap.size; omega) (.int .i64 (mk.pk + 1))
    have b6 := b5.grown hg z5 (fun k hk => by cases hk; exact Nat.le_refl _)
    have z6 := Nat.le_trans z5 hg.size
    generalize w5.setCell ⟨B, 1, none⟩ (.int .i64 (mk.pk + 1)) = w6 at e6 r6 q6 b6 z6 ⊢
    clear e5 r5 q5 b5 z5 hg c1 f1 i1
    have i2 : IntKind.i64.wrap (mk.bt + sz) = mk.bt + sz := IntWalk.i64_in _ (by have := HMK.out.b0; have := HMK.out.b1; have := HBD.out; omega)
    have c2 := e6.cell 2 rfl
    have f2 := e6.free 2
    go_upto_region 10 with fail
    have e7 : Bx (w6.setCell ⟨B, 2, none⟩ (.int .i64 (mk.bt + sz))) B 29 [.slice R k q, .int .i64 (mk.pk + 1), .int .i64 (mk.bt + sz), .int .i64 (mk.ca), .int .i64 (mk.md), .int .i64 (mk.pt)] := e6.set 2 (.int .i64 (mk.bt + sz))
    have hg := sg_gset w6 ⟨B, 2, none⟩ (.int .i64 (mk.bt + sz))
    have r7 := r6.grown hg (fun e => by have := Option.some.inj e; simp at this)
    have q7 := q6.set (p := ⟨B, 2, none⟩) (by show B < w2.heap.size; omega) (.int .i64 (mk.bt + sz))
    have b7 := b6.grown hg z6 (fun k hk => by cases hk; exact Nat.le_refl _)
    have z7 := Nat.le_trans z6 hg.size
    generalize w6.setCell ⟨B, 2, none⟩ (.int .i64 (mk.bt + sz)) = w7 at e7 r7 q7 b7 z7 ⊢
    clear e6 r6 q6 b6 z6 hg c2 f2 i2
    go_wp2_with (refine rsub_load (cs := [.slice R k q, .int .i64 (mk.pk + 1), .int .i64 (mk.bt + sz), .int .i64 (mk.ca), .int .i64 (mk.md), .int .i64 (mk.pt)]) (vs := mcs (⟨mk.pk + 1, mk.bt + sz, mk.ca, mk.md, mk.pt⟩ : Ms)) ir_marks rfl (.tmp 53) rfl rfl e7 rfl rfl ?_)
    refine (mkmay_any (mk.pk + 1) (mk.bt + sz) (mk.ca) (mk.md) (mk.pt) _).mono ?_
    rintro e w8 ⟨rfl, hb⟩
    have e8 := e7.kept hb; have r8 := r7.kept hb; have q8 := q7.keep hb; have b8 := b7.trans (hb.mono z7); have z8 := Nat.le_trans z7 hb.size
    clear e7 r7 q7 b7 z7 hb
    cases hm : mmay (⟨mk.pk + 1, mk.bt + sz, mk.ca, mk.md, mk.pt⟩ : Ms) with
    | false =>
      have HF := Lib.hid (show recR l mk x true = (zinl, 5) by
        unfold recR; rw [HSZ.out, HGP.out, HAT.out, HAD.out, if_neg (by simp), if_pos (by unfold mkR'; rw [if_pos rfl, HSZ.out]; exact hm)])
      clear hm
      go_wp2_with (refine rin_store rfl (.tmp 6) (.tmp 57) rfl rfl [.slice none 0 0, .int .i64 0, .int .i64 0, .int .i64 0, .int .i64 0, .int .i64 0] rfl r8 rfl rfl rfl ?_)
      refine rin_end2 (by rfl) (by rfl) (by rfl) (rin_put r8 [.slice none 0 0, .int .i64 0, .int .i64 0, .int .i64 0, .int .i64 0, .int .i64 0]) rfl rfl ?_
      rw [HBW.out, HF.out]
      have hlt := r8.lt
      exact ⟨none, 0, 0, rfl, Sq.none _ _, b8.grown (rin_grown _ (B + 2) _) z8 (fun k hk => by cases hk; omega)⟩
    | true =>
      have HF := Lib.hid (show recR l mk x true = (⟨ad, (⟨mk.pk + 1, mk.bt + sz, mk.ca, mk.md, mk.pt⟩ : Ms)⟩, 0) by
        unfold recR; rw [HSZ.out, HGP.out, HAT.out, HAD.out, if_neg (by simp), if_neg (by unfold mkR'; rw [if_pos rfl, HSZ.out]; rw [show mmay (⟨mk.pk + 1, mk.bt + sz, mk.ca, mk.md, mk.pt⟩ : Ms) = true from hm]; simp)]; unfold mkR'; rw [if_pos rfl, HSZ.out])
      clear hm
      go_wp2_with (first | (refine rin_load rfl (.tmp 3) rfl rfl e8 rfl ?_) | (refine rin_store rfl (.tmp 6) (.tmp 58) rfl rfl [.slice R k q, .int .i64 (mk.pk + 1), .int .i64 (mk.bt + sz), .int .i64 (mk.ca), .int .i64 (mk.md), .int .i64 (mk.pt)] rfl r8 rfl rfl rfl ?_))
      refine rin_end2 (by rfl) (by rfl) (by rfl) (rin_put r8 [.slice R k q, .int .i64 (mk.pk + 1), .int .i64 (mk.bt + sz), .int .i64 (mk.ca), .int .i64 (mk.md), .int .i64 (mk.pt)]) rfl rfl ?_
      rw [HBW.out, HF.out]
      have hlt := r8.lt
      exact ⟨R, k, q, rfl, (sq_row6 q8 (by omega) [.slice R k q, .int .i64 (mk.pk + 1), .int .i64 (mk.bt + sz), .int .i64 (mk.ca), .int .i64 (mk.md), .int .i64 (mk.pt)]).mono HZZ.out, b8.grown (rin_grown _ (B + 2) _) z8 (fun k hk => by cases hk; omega)⟩
end Go.Proofs.Ytggnhccpncgfiaa
namespace Go.Proofs.Ytggnhccpncgfiaa
open Go.RowKit
theorem sto_cases (r : Rc) (x : Sg) : (x.fin = true ∧ stoR r.w x = wvR r x) ∨ (x.fin = false ∧ edW r.w < atR r x + sizeS x ∧ stoR r.w x = (zw, 4)) ∨ (x.fin = false ∧ ¬ (edW r.w < atR r x + sizeS x) ∧ stoR r.w x = wvR r x) := by
  by_cases hfin : x.fin = true
  · left
    refine ⟨hfin, ?_⟩
    unfold stoR wvR; rw [if_pos hfin, if_pos hfin]; rfl
  · have hfin' : x.fin = false := by simpa using hfin
    have hs : sizeS x = x.b.length := by unfold sizeS; rw [if_neg hfin]
    right
    by_cases hd : edW r.w < atR r x + sizeS x
    · left
      refine ⟨hfin', hd, ?_⟩
      unfold stoR; rw [if_neg hfin, if_pos (by rw [hs] at hd; exact hd)]
    · right
      refine ⟨hfin', hd, ?_⟩
      unfold stoR wvR; rw [if_neg hfin, if_neg hfin, if_neg (by rw [hs] at hd; exact hd)]; rfl
theorem sto_err {r : Rc} {x : Sg} {marked : Bool} (hm : rcmay r = true) (hf : formB x = true) (he : (stoR r.w x).2 ≠ 0) : takeE r x marked = (stoR r.w x).2 := by
  unfold takeE
  rw [if_neg (by rw [hm]; simp), if_neg (by rw [hf]; simp)]
  rcases sto_cases r x with ⟨h1, h2⟩ | ⟨h1, h2, h3⟩ | ⟨h1, h2, h3⟩
  · rw [h2] at he ⊢
    rw [if_neg (fun h => by rw [h1] at h; cases h.1), if_pos he]
  · rw [if_pos ⟨h1, h2⟩, h3]
  · rw [h3] at he ⊢
    rw [if_neg (fun h => h2 h.2), if_pos he]
theorem sto_ok {r : Rc} {x : Sg} {marked : Bool} (hm : rcmay r = true) (hf : formB x = true) (he : (stoR r.w x).2 = 0) :
    wvR r x = stoR r.w x ∧ takeE r x marked = (recR (r.s x.sub.toNat).got (r.s x.sub.toNat).m x marked).2 ∧ ((recR (r.s x.sub.toNat).got (r.s x.sub.toNat).m x marked).2 = 0 → takenR r x marked = (r.put (recR (r.s x.sub.toNat).got (r.s x.sub.toNat).m x marked).1 x.sub.toNat).weave (stoR r.w x).1) := by
  have hF := (formB_iff x).1 hf
  have hsz : szR x = sizeS x := by
    unfold szR sizeS
    cases hfin : x.fin with
    | false =>
      have hb := hF.2.2.2 hfin
      have : 0 < x.b.length := List.length_pos_iff.2 hb
      rw [if_neg (by omega), if_neg (by simp)]
    | true =>
      rw [hF.2.2.1 hfin, if_pos (by simp), if_pos rfl]
  have hw : wvR r x = stoR r.w x ∧ ¬ (x.fin = false ∧ edW r.w < atR r x + sizeS x) := by
    rcases sto_cases r x with ⟨h1, h2⟩ | ⟨h1, h2, h3⟩ | ⟨h1, h2, h3⟩
    · exact ⟨h2.symm, fun h => by rw [h1] at h; cases h.1⟩
    · rw [h3] at he; cases he
    · exact ⟨h3.symm, fun h => h2 h.2⟩
  have hadd : addS r x = addR (r.s x.sub.toNat).got (unwr (gapIn (r.s x.sub.toNat).got 0) x.seq, unwr (gapIn (r.s x.sub.toNat).got 0) x.seq + szR x) := by unfold addS seqR; rw [hsz]
  have hmk : mkR r x marked = mkR' (r.s x.sub.toNat).m x marked := by unfold mkR mkR'; rw [hsz]
  refine ⟨hw.1, ?_, ?_⟩
  · unfold takeE recR
    rw [if_neg (by rw [hm]; simp), if_neg (by rw [hf]; simp), if_neg hw.2, if_neg (by rw [hw.1, he]; simp), ← hadd, hmk]
    split
    · rfl
    · split <;> rfl
  · intro h
    unfold recR at h ⊢
    rw [← hadd] at h ⊢
    unfold takenR
    by_cases h1 : (addS r x).2 ≠ 0
    · rw [if_pos h1] at h; exact absurd h h1
    · rw [if_neg h1] at h ⊢
      by_cases h2 : mmay (mkR' (r.s x.sub.toNat).m x marked) = false
      · rw [if_pos h2] at h; cases h
      · rw [if_neg h2, hw.1, hmk]
theorem RcM.and {w : World} {p q : Nat → Prop} {s : Rcs} {r : Rc} (h : RcM w p s r) (k : RcM w q s r) : RcM w (fun b => p b ∧ q b) s r :=
  ⟨h.b, h.g, h.g0, h.g1, h.g2, h.g3, h.wide, fun h0 b o z e => ⟨h.pb h0 b o z e, k.pb h0 b o z e⟩, fun h0 b o z e => ⟨h.pg h0 b o z e, k.pg h0 b o z e⟩, fun h0 b o z e => ⟨h.p0 h0 b o z e, k.p0 h0 b o z e⟩, fun h0 b o z e => ⟨h.p1 h0 b o z e, k.p1 h0 b o z e⟩, fun h0 b o z e => ⟨h.p2 h0 b o z e, k.p2 h0 b o z e⟩, fun h0 b o z e => ⟨h.p3 h0 b o z e, k.p3 h0 b o z e⟩⟩
theorem RcM.wv {w : World} {p : Nat → Prop} {s : Rcs} {r : Rc} (h : RcM w p s r) {X : Wv} {R H : Option Addr} {k q u v : Nat} (hb : Sl w R k q X.b) (hg : Ss w H u v X.got) (pb : InP p R k) (pg : InP p H u) (hw : n64 X.base ∧ n64 X.cap ∧ n64 X.en) :
    RcM w p ⟨R, k, q, H, u, v, s.a0, s.n0, s.c0, s.a1, s.n1, s.c1, s.a2, s.n2, s.c2, s.a3, s.n3, s.c3⟩ (r.weave X) :=
  ⟨hb, hg, h.g0, h.g1, h.g2, h.g3, ⟨hw.1, hw.2.1, hw.2.2, h.wide.m0, h.wide.m1, h.wide.m2, h.wide.m3⟩, pb, pg, h.p0, h.p1, h.p2, h.p3⟩
/-- the slices of a receiver with another list at a subflow -/
def Rcs.at_ (s : Rcs) (A : Option Addr) (n c : Nat) : Nat → Rcs
  | 0 => ⟨s.wa, s.wn, s.wc, s.ga, s.gn, s.gc, A, n, c, s.a1, s.n1, s.c1, s.a2, s.n2, s.c2, s.a3, s.n3, s.c3⟩
  | 1 => ⟨s.wa, s.wn, s.wc, s.ga, s.gn, s.gc, s.a0, s.n0, s.c0, A, n, c, s.a2, s.n2, s.c2, s.a3, s.n3, s.c3⟩
  | 2 => ⟨s.wa, s.wn, s.wc, s.ga, s.gn, s.gc, s.a0, s.n0, s.c0, s.a1, s.n1, s.c1, A, n, c, s.a3, s.n3, s.c3⟩
  | _ => ⟨s.wa, s.wn, s.wc, s.ga, s.gn, s.gc, s.a0, s.n0, s.c0, s.a1, s.n1, s.c1, s.a2, s.n2, s.c2, A, n, c⟩
theorem rcs_put (s : Rcs) (r : Rc) (y : Inl) (A : Option Addr) (n c : Nat) {i : Nat} (hi : i ≤ 3) : setAllR (rcs s r) (5 + i * 6) [.slice A n c, .int .i64 y.m.pk, .int .i64 y.m.bt, .int .i64 y.m.ca, .int .i64 y.m.md, .int .i64 y.m.pt] = rcs (s.at_ A n c i) (r.put y i) := by
  have hc : i = 0 ∨ i = 1 ∨ i = 2 ∨ i = 3 := by omega
  rcases hc with rfl | rfl | rfl | rfl <;> rfl
theorem RcM.put {w : World} {p : Nat → Prop} {s : Rcs} {r : Rc} (h : RcM w p s r) {y : Inl} {A : Option Addr} {n c : Nat} (hs : Ss w A n c y.got) (hp : InP p A n) (hm : MsW y.m) {i : Nat} (hi : i ≤ 3) : RcM w p (s.at_ A n c i) (r.put y i) := by
  have hc : i = 0 ∨ i = 1 ∨ i = 2 ∨ i = 3 := by omega
  rcases hc with rfl | rfl | rfl | rfl
  · exact ⟨h.b, h.g, hs, h.g1, h.g2, h.g3, ⟨h.wide.base, h.wide.cap, h.wide.en, hm, h.wide.m1, h.wide.m2, h.wide.m3⟩, h.pb, h.pg, hp, h.p1, h.p2, h.p3⟩
  · exact ⟨h.b, h.g, h.g0, hs, h.g2, h.g3, ⟨h.wide.base, h.wide.cap, h.wide.en, h.wide.m0, hm, h.wide.m2, h.wide.m3⟩, h.pb, h.pg, h.p0, hp, h.p2, h.p3⟩
  · exact ⟨h.b, h.g, h.g0, h.g1, hs, h.g3, ⟨h.wide.base, h.wide.cap, h.wide.en, h.wide.m0, h.wide.m1, hm, h.wide.m3⟩, h.pb, h.pg, h.p0, h.p1, hp, h.p3⟩
  · exact ⟨h.b, h.g, h.g0, h.g1, h.g2, hs, ⟨h.wide.base, h.wide.cap, h.wide.en, h.wide.m0, h.wide.m1, h.wide.m2, hm⟩, h.pb, h.pg, h.p0, h.p1, h.p2, hp⟩
theorem sb_gr {ww w' : World} {base0 K : Nat} {R : Option Addr} {k q : Nat} {l : List Int} (h : Sb ww base0 R k q l) (hg : ww.grownBy w' (some K)) (hb : K < base0) : Sb w' base0 R k q l :=
  ⟨slp_grown (p := fun b => base0 ≤ b) h.sl (fun _ b o z e => h.at_ b o z e) hg (fun b hb2 e => by have := Option.some.inj e; omega), h.at_⟩
theorem sq_gr {ww w' : World} {base0 K : Nat} {R : Option Addr} {k q : Nat} {l : List Sp} (h : Sq ww base0 R k q l) (hg : ww.grownBy w' (some K)) (hb : K < base0) : Sq w' base0 R k q l :=
  ⟨ssp_grown (p := fun b => base0 ≤ b) h.ss (fun _ b o z e => h.at_ b o z e) hg (fun b hb2 e => by have := Option.some.inj e; omega), h.at_⟩
theorem Sb.inp {w : World} {b0 : Nat} {A : Option Addr} {n c : Nat} {l : List Int} {p : Nat → Prop} (h : Sb w b0 A n c l) (hp : ∀ b, b0 ≤ b → p b) : InP p A n := fun _ b o s e => hp b (h.at_ b o s e)
theorem Sb.keepB {w w' : World} {b0 : Nat} {A : Option Addr} {n c : Nat} {l : List Int} (h : Sb w b0 A n c l) (hb : Below w.heap.size w w') : Sb w' b0 A n c l := ⟨h.sl.keep hb, h.at_⟩
theorem n64_in {n : Int} (h0 : -1 ≤ n) (h1 : n ≤ 4611686022722355200) : n64 n := by unfold n64; omega
end Go.Proofs.Ytggnhccpncgfiaa
