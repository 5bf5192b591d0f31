/- MsL1 XmRef1 XmRef3 XmL1 TmRef3 TmL1. -/
import Derived.Test.YtbijhkhkigdddaaGreatP09
import Derived.Test.YtbijhkhkigdddaaGreatP21
set_option linter.all false
set_option maxRecDepth 100000
set_option maxHeartbeats 32000000
namespace Go.Proofs.YtbijhkhkigdddaaGreat
open Go.RowKit
theorem res8_of (n : Int) : ((n.tmod 8 + 8).tmod 8 = n % 8) ∧ -8 < n.tmod 8 ∧ n.tmod 8 < 8 := by
 rcases Int.le_total 0 n with h | h
 ·have a := Int.tmod_eq_emod_of_nonneg (b := 8) h
  rw [a, Int.tmod_eq_emod_of_nonneg (by omega)]
  omega
 ·have a : n.tmod 8 = -((-n) % 8) := by
   have b := Int.neg_tmod (-n) 8
   rw [Int.neg_neg] at b
   rw [b, Int.tmod_eq_emod_of_nonneg (by omega)]
  rw [a, Int.tmod_eq_emod_of_nonneg (by omega)]
  omega
theorem res8_any (n : Int) (B : Nat) (w : World) (hx : w.cell? ⟨B, 0, none⟩ = some (.int .i64 8)) (h0 : -4611686018427387904 ≤ n) (h1 : n ≤ 4611686018427387904) :
  Calls Tryz.prog 208 #[n, .pointer (some ⟨B, 0, none⟩)] w fun e w' => e = .returned (.int .i64 (n % 8)) ∧ Below w.heap.size w w' := by
 obtain ⟨k1, k2, k3⟩ := res8_of n
 obtain ⟨q, hq⟩ : ∃ q, n % 8 = q := ⟨_, rfl⟩
 obtain ⟨r, hr⟩ : ∃ r, n.tmod 8 = r := ⟨_, rfl⟩
 rw [hq, hr] at k1
 rw [hr] at k2 k3
 rw [hq]
 have HQ := Zh hq; clear hq
 go_enter Tryz.func208, Tryz.ntmps208
 go_upto_region 8 with fail
 go_quiet (fail)
 go_wp2_with fail
 go_ret
 exact ⟨rfl, below_drewN (Zb) _⟩
theorem res24_of (n : Int) : ((n.tmod 16777216 + 16777216).tmod 16777216 = n % 16777216) ∧ -16777216 < n.tmod 16777216 ∧ n.tmod 16777216 < 16777216 := by
 rcases Int.le_total 0 n with h | h
 ·have a := Int.tmod_eq_emod_of_nonneg (b := 16777216) h
  rw [a, Int.tmod_eq_emod_of_nonneg (by omega)]
  omega
 ·have a : n.tmod 16777216 = -((-n) % 16777216) := by
   have b := Int.neg_tmod (-n) 16777216
   rw [Int.neg_neg] at b
   rw [b, Int.tmod_eq_emod_of_nonneg (by omega)]
  rw [a, Int.tmod_eq_emod_of_nonneg (by omega)]
  omega
theorem res24_any (n : Int) (B : Nat) (w : World) (hx : w.cell? ⟨B, 0, none⟩ = some (.int .i64 16777216)) (h0 : -4611686018427387904 ≤ n) (h1 : n ≤ 4611686018427387904) :
  Calls Tryz.prog 208 #[n, .pointer (some ⟨B, 0, none⟩)] w fun e w' => e = .returned (.int .i64 (n % 16777216)) ∧ Below w.heap.size w w' := by
 obtain ⟨k1, k2, k3⟩ := res24_of n
 obtain ⟨q, hq⟩ : ∃ q, n % 16777216 = q := ⟨_, rfl⟩
 obtain ⟨r, hr⟩ : ∃ r, n.tmod 16777216 = r := ⟨_, rfl⟩
 rw [hq, hr] at k1
 rw [hr] at k2 k3
 rw [hq]
 have HQ := Zh hq; clear hq
 go_enter Tryz.func208, Tryz.ntmps208
 go_upto_region 8 with fail
 go_quiet (fail)
 go_wp2_with fail
 go_ret
 exact ⟨rfl, below_drewN (Zb) _⟩
theorem modulo_any (m : Int) (w : World) :
  Calls Tryz.prog 179 #[m] w fun e w' => e = .returned (.func (.func 208) #[] #[.pointer (some ⟨w.heap.size, 0, none⟩)]) ∧ Bx w' w.heap.size 3 [m] ∧ Below w.heap.size w w' := by
 have hmf : ∀ (fn : Fn) (first cap : Array Value) (w : World), (Instr.makeFunc fn first cap).run Tryz.prog w = .ok (.func fn first cap) w := fun _ _ _ _ => rfl
 go_enter Tryz.func179, Tryz.ntmps179
 go_wp2
 go_ret
 exact ⟨rfl, Bx.new w 3 [m], (Zb).alloc Zr _⟩
def ackB (n : Int) : Bool := decide (0 ≤ n) && decide (n ≤ 1099511627776)
theorem ack_any (x : Int) (w : World) :
  Calls Tryz.prog 178 #[x] w fun e w' => e = .returned (.bool (ackB x)) ∧ w = w' := by
 unfold ackB
 by_cases h1 : 0 ≤ x
 ·by_cases h2 : x ≤ 1099511627776
  ·rw [Zt h1, Zt h2]
   go_enter Tryz.func178, Tryz.ntmps178
   go_wp2
   go_ret
   exact ⟨rfl, rfl⟩
  ·rw [Zt h1, Zf h2]
   go_enter Tryz.func178, Tryz.ntmps178
   go_wp2
   go_ret
   exact ⟨rfl, rfl⟩
 ·rw [Zf h1]
  have h1' : x < 0 := by omega
  go_enter Tryz.func178, Tryz.ntmps178
  go_wp2
  go_ret
  exact ⟨rfl, rfl⟩
def likR (n p : Int) : Int := if 8 ≤ p then n + (p - n) / 8 * 8 else n
theorem likely_any (n p : Int) (w : World) (h0 : 0 ≤ n) (h1 : n ≤ 7) (h2 : 0 ≤ p) (h3 : p ≤ 1099511627776) :
  Calls Tryz.prog 180 #[n, p] w fun e w' => e = .returned (.int .i64 (likR n p)) ∧ Below w.heap.size w w' := by
 by_cases c : 8 ≤ p
 ·have hr : likR n p = p - (p - n) % 8 := by unfold likR; rw [if_pos c]; omega
  obtain ⟨q, hq⟩ : ∃ q, (p - n) % 8 = q := ⟨_, rfl⟩
  have q0 : 0 ≤ q := by omega
  have q1 : q < 8 := by omega
  rw [hr, hq]
  have HQ := Zh hq; clear hq hr
  have c' : ¬ (p < 8) := by omega
  have d : decide (p < 8) = false := Zf c'
  go_enter Tryz.func180, Tryz.ntmps180
  go_wp2_with (go_at_call 179; refine (modulo_any 8 _).mono ?_; rintro e w1 ⟨rfl, hx1, hb1⟩)
  refine (res8_any (p - n) _ _ (hx1.cell 0 rfl) (by omega) (by omega)).mono ?_
  rintro e w2 ⟨rfl, hb2⟩
  rw [HQ.out]
  go_wp2_with fail
  go_ret
  exact ⟨rfl, hb1.trans (hb2.mono (Zl hx1.lt))⟩
 ·have hr : likR n p = n := by unfold likR; rw [if_neg c]
  rw [hr]
  clear hr
  have c' : p < 8 := by omega
  have d : decide (p < 8) = true := Zt c'
  go_enter Tryz.func180, Tryz.ntmps180
  go_wp2_with fail
  go_ret
  exact ⟨rfl, Below.refl _ _⟩
def clM (n low high : Int) : Int := if n < low ∨ high < low then low else if high < n then high else n
theorem mcl_any (n low high : Int) (w : World) :
  Calls Tryz.prog 157 #[n, low, high] w fun e w' => e = .returned (.int .i64 (clM n low high)) ∧ w = w' := clamp_any n low high w
theorem clm_id (n low high : Int) (h : low ≤ high) : n = clM n low high ↔ low ≤ n ∧ n ≤ high := by
 unfold clM
 by_cases a : n < low ∨ high < low
 ·rw [if_pos a]; omega
 ·rw [if_neg a]; split <;> omega
theorem clm_ge (n low high : Int) (h : low ≤ high) : low ≤ clM n low high := by
 unfold clM
 by_cases a : n < low ∨ high < low
 ·rw [if_pos a]; omega
 ·rw [if_neg a]; split <;> omega
theorem mtwo_new (W : World) (o : Obj) (t : TypeId) (cs : List Value) : Bx ((W.alloc o).alloc (.cells cs.toArray t)) (W.heap.size + 1) t cs := by
 have := Bx.new (W.alloc o) t cs
 have hsz : (W.alloc o).heap.size = W.heap.size + 1 := by simp
 rw [hsz] at this; exact this
theorem mtwo_below (W : World) (o o' : Obj) : Below W.heap.size W ((W.alloc o).alloc o') := ((Zb).alloc Zr _).alloc (by simp) _
theorem mnear_any (pk bt ca md pt : Int) (w : World) :
  Calls Tryz.prog 101 #[.agg #[pk, bt, ca, md, pt]] w fun e w' => e = .returned (.agg #[.int .i64 (clM pk 0 1152921504606846976), .int .i64 (clM bt 0 1152921504606846976), .int .i64 (clM ca 0 1152921504606846976), .int .i64 (clM md 0 (clM ca 0 1152921504606846976)), .int .i64 (clM pt 0 1024)]) ∧ Below w.heap.size w w' := by
 go_enter Tryz.func101, Tryz.ntmps101
 go_wp2_with (go_at_call 157; refine (mcl_any _ _ _ _).mono ?_; rintro e w1 ⟨rfl, rfl⟩)
 exact ms_end1 (by rfl) (by rfl) (mtwo_new w _ _ [.int .i64 (clM pk 0 1152921504606846976), .int .i64 (clM bt 0 1152921504606846976), .int .i64 (clM ca 0 1152921504606846976), .int .i64 (clM md 0 (clM ca 0 1152921504606846976)), .int .i64 (clM pt 0 1024)]) rfl rfl ⟨rfl, mtwo_below _ _ _⟩
theorem mnear_iff (pk bt ca md pt : Int) : mmay ⟨pk, bt, ca, md, pt⟩ = true ↔ pk = clM pk 0 1152921504606846976 ∧ bt = clM bt 0 1152921504606846976 ∧ ca = clM ca 0 1152921504606846976 ∧ md = clM md 0 (clM ca 0 1152921504606846976) ∧ pt = clM pt 0 1024 := by
 rw [clm_id pk _ _ (by decide), clm_id bt _ _ (by decide), clm_id pt _ _ (by decide), clm_id md _ _ (clm_ge ca 0 _ (by decide)), mmay_iff]
 constructor
 ·intro ⟨a, b, c, d, e, f, g, h, i, j⟩
  dsimp only at *
  have hc := (clm_id ca 0 1152921504606846976 (by decide)).2 ⟨e, f⟩
  exact ⟨⟨a, b⟩, ⟨c, d⟩, hc, ⟨g, by rw [← hc]; exact h⟩, i, j⟩
 ·intro ⟨⟨a, b⟩, ⟨c, d⟩, hc, ⟨g, h⟩, i, j⟩
  have he := (clm_id ca 0 1152921504606846976 (by decide)).1 hc
  rw [← hc] at h
  exact ⟨a, b, c, d, he.1, he.2, g, h, i, j⟩
theorem mkmay_any (pk bt ca md pt : Int) (w : World) :
  Calls Tryz.prog 42 #[.agg #[pk, bt, ca, md, pt]] w fun e w' => e = .returned (.bool (mmay ⟨pk, bt, ca, md, pt⟩)) ∧ Below w.heap.size w w' := by
 obtain ⟨B, hB⟩ : ∃ B, w.heap.size = B := ⟨_, rfl⟩
 rw [hB]
 have e0 : Bx (w.alloc (.cells #[pk, bt, ca, md, pt] 29)) B 29 [pk, bt, ca, md, pt] := by rw [← hB]; exact Bx.new w _ _
 have b0 : Below B w (w.alloc (.cells #[pk, bt, ca, md, pt] 29)) := (Zb).alloc (by omega) _
 obtain ⟨y1, H1⟩ : ∃ y, clM pk 0 1152921504606846976 = y := ⟨_, rfl⟩
 obtain ⟨y2, H2⟩ : ∃ y, clM bt 0 1152921504606846976 = y := ⟨_, rfl⟩
 obtain ⟨y3, H3⟩ : ∃ y, clM ca 0 1152921504606846976 = y := ⟨_, rfl⟩
 obtain ⟨y4, H4⟩ : ∃ y, clM md 0 y3 = y := ⟨_, rfl⟩
 obtain ⟨y5, H5⟩ : ∃ y, clM pt 0 1024 = y := ⟨_, rfl⟩
 have hq := mnear_iff pk bt ca md pt
 rw [H1, H2, H3, H4, H5] at hq
 obtain ⟨q, hq2⟩ : ∃ q, mmay ⟨pk, bt, ca, md, pt⟩ = q := ⟨_, rfl⟩
 rw [hq2] at hq ⊢
 have HQ := Zh hq; clear hq hq2
 go_enter Tryz.func42, Tryz.ntmps42
 go_upto_region 1 with fail
 refine tB 3 5 (fun (W : World) => Bx W B 29 [pk, bt, ca, md, pt] ∧ Below B w W) ⟨e0.drew, b0.drew⟩ (fun HS => ?_)
 refine tS 0 rfl (ms_yields (by rfl) (.tmp 1) rfl rfl [pk, bt, ca, md, pt] rfl 29 (fun W hW => hW.1)) HS ?_
 refine tS 1 rfl (ms_yields (by rfl) (.tmp 1) rfl rfl [pk, bt, ca, md, pt] rfl 29 (fun W hW => hW.1)) HS ?_
 refine tO 2 (fun K hK => ?_)
 go_simp
 refine (mnear_any pk bt ca md pt _).mono ?_
 rintro e w2 ⟨rfl, hb2⟩
 rw [H1, H2, H3, H4, H5]
 have HS : (fun (W : World) => Bx W B 29 [pk, bt, ca, md, pt] ∧ Below B w W) _ := ⟨(e0.drew).kept hb2, b0.drew.trans (hb2.mono (Zl e0.drew.lt))⟩
 refine kP hK HS ?_
 clear hK K
 refine ⟨by kernel_rfl, ?_⟩
 simp only [List.drop_succ_cons, List.drop_zero]
 have K1 := Zh H1; have K2 := Zh H2; have K3 := Zh H3; have K4 := Zh H4; have K5 := Zh H5; clear H1 H2 H3 H4 H5
 go_wp2_with fail
 all_goals (go_ret; refine ⟨?_, HS.2⟩; have hq := HQ.out; cases q <;> simp_all)
theorem info_xw : (Tryz.prog.info? 36).map (·.size) = some 2 := by kernel_rfl
theorem xw_struct : ∃ fs, Tryz.prog.underlying 36 = some (.struct fs) := ⟨_, Tryz.underlying36⟩
section
variable {W : World} {B : Nat} {t : TypeId} {cs : List Value}
def xw_put := @g_put
def xw_grown := @g_grown
def xw_gset := @g_gset
def xw_load := @g_load 36 2 xw_struct info_xw
theorem xw_store {ops : Array Oper} {rest : List Oper} {o : Oper} {a : Act} {Q : Exit → Act → World → Prop} (hgd : o.guard = none) (x y : Operand) (ho : o.op = .store 36 x y) (hx : a.eval x = .pointer (some ⟨B, 0, none⟩))
  (vs : List Value) (hy : a.eval y = .agg vs.toArray) (h : Bx W B t cs) (hl : cs.length = 2) (hv : vs.length = 2) (h1 : vs.all (·.oneCell') = true) (k : wpList Tryz.prog ops Q rest (a.put o.dst undef) (W.setRow B vs.toArray)) : wpList Tryz.prog ops Q (o :: rest) a W :=
 wpList_store_row hgd _ x y ho B vs.toArray hx hy t cs.toArray h (by rw [info_xw]; simp [hv]) (by simp [hl, hv]) (by simpa using h1) k
def xw_var := @g_var 36 2 xw_struct info_xw
variable {fn : Func} {tmps : Array Value} {R : Ending → World → Prop} {v u : Value} {ds : List Deferred} {p q r : Tmp}
def xw_end1 := @g_end1 36 2 xw_struct info_xw
def xw_end2 := @g_end2 36 2 xw_struct info_xw
end
def cl2 (n low high : Int) : Int := if n < low ∨ high < low then low else if high < n then high else n
theorem cl2_in {n low high : Int} (h : low ≤ n ∧ n ≤ high) : cl2 n low high = n := by unfold cl2; rw [if_neg (by omega), if_neg (by omega)]
theorem cl2_eq {n low high : Int} (h : low ≤ high) : cl2 n low high = min (max n low) high := by unfold cl2; split <;> (try split) <;> omega
def TellX (w w' : World) (e : Ending) (x : Int × Int × Int) : Prop := e = .returned (.tuple #[.agg #[x.1, x.2.1], x.2.2]) ∧ Below w.heap.size w w'
def xinB (n lo hi : Int) : Bool := decide (lo ≤ n) && decide (n ≤ hi)
theorem xin_iff (n lo hi : Int) : xinB n lo hi = true ↔ lo ≤ n ∧ n ≤ hi := by unfold xinB; simp
theorem xwin_any (n lo hi : Int) (w : World) :
  Calls Tryz.prog 106 #[n, lo, hi] w fun e w' => e = .returned (.bool (xinB n lo hi)) ∧ w = w' := by
 by_cases h1 : lo ≤ n
 ·have e1 : xinB n lo hi = decide (n ≤ hi) := by unfold xinB; rw [Zt h1]; rfl
  rw [e1]
  clear e1
  have d1 : decide (lo ≤ n) = true := Zt h1
  go_enter Tryz.func106, Tryz.ntmps106
  go_wp2
  go_ret
  exact ⟨rfl, rfl⟩
 ·have e1 : xinB n lo hi = false := by unfold xinB; rw [Zf h1]; rfl
  rw [e1]
  clear e1
  have d1 : decide (lo ≤ n) = false := Zf h1
  go_enter Tryz.func106, Tryz.ntmps106
  go_wp2
  go_ret
  exact ⟨rfl, rfl⟩
theorem xmB_win (c t mss most : Int) : xmB c t mss most = (xinB mss 1 1460 && (xinB most mss 1073741824 && (xinB c mss most && xinB t mss most))) := by
 rw [Bool.eq_iff_iff, xmB_iff]
 simp only [Bool.and_eq_true, xin_iff]
 exact ⟨fun ⟨a, b, c, d, e, f, g, h⟩ => ⟨⟨a, b⟩, ⟨c, d⟩, ⟨e, f⟩, g, h⟩, fun ⟨⟨a, b⟩, ⟨c, d⟩, ⟨e, f⟩, g, h⟩ => ⟨a, b, c, d, e, f, g, h⟩⟩
theorem xwmay_any (c t mss most : Int) (w : World) :
  Calls Tryz.prog 46 #[.agg #[c, t], mss, most] w fun e w' => e = .returned (.bool (xmB c t mss most)) ∧ Below w.heap.size w w' := by
 obtain ⟨B, hB⟩ : ∃ B, w.heap.size = B := ⟨_, rfl⟩
 have e0 := Bx.new w 36 [c, t]
 rw [hB] at e0 ⊢
 have b0 : Below B w (w.alloc (.cells #[c, t] 36)) := by rw [← hB]; exact (Zb).alloc Zr _
 obtain ⟨q, hq⟩ : ∃ q, xmB c t mss most = q := ⟨_, rfl⟩
 rw [hq]
 rw [xmB_win] at hq
 go_enter Tryz.func46, Tryz.ntmps46
 go_upto_region 1 with fail
 change Code.wp _ _ _ _ (w.alloc (.cells #[c, t] 36))
 generalize w.alloc (.cells #[c, t] 36) = w1 at e0 b0 ⊢
 have c0 := e0.cell 0 rfl; have c1 := e0.cell 1 rfl
 cases h0 : xinB mss 1 1460 with
 | false =>
  have hF : q = false := by rw [← hq]; simp [h0]
  subst hF
  clear hq
  go_wp2_with (go_at_call 106; refine (xwin_any _ _ _ _).mono ?_; rintro e wx ⟨rfl, rfl⟩)
  go_ret
  exact ⟨rfl, b0⟩
 | true =>
 cases h1 : xinB most mss 1073741824 with
 | false =>
  have hF : q = false := by rw [← hq]; simp [h0, h1]
  subst hF
  clear hq
  go_wp2_with (go_at_call 106; refine (xwin_any _ _ _ _).mono ?_; rintro e wx ⟨rfl, rfl⟩)
  go_ret
  exact ⟨rfl, b0⟩
 | true =>
 cases h2 : xinB c mss most with
 | false =>
  have hF : q = false := by rw [← hq]; simp [h0, h1, h2]
  subst hF
  clear hq
  go_wp2_with (go_at_call 106; refine (xwin_any _ _ _ _).mono ?_; rintro e wx ⟨rfl, rfl⟩)
  go_ret
  exact ⟨rfl, b0⟩
 | true =>
 have hF : q = xinB t mss most := by rw [← hq]; simp [h0, h1, h2]
 subst hF
 clear hq
 go_wp2_with (go_at_call 106; refine (xwin_any _ _ _ _).mono ?_; rintro e wx ⟨rfl, rfl⟩)
 go_ret
 exact ⟨rfl, b0⟩
def slC (c t n : Int) : Int := if c < t then min (c + n) t else c
def grC (c t n : Int) : Int := if t ≤ c then c + n else c
def rdC (c n : Int) : Int := c - c * n / 2048
def loC (c mss : Int) : Int := max (c / 2) (2 * mss)
theorem slowed_any (c t n : Int) (w : World) (h0 : 0 ≤ c ∧ c ≤ 1073741824) (h1 : 0 ≤ n ∧ n ≤ 1099511627776) :
  Calls Tryz.prog 225 #[.agg #[c, t], n] w fun e w' => e = .returned (.agg #[.int .i64 (slC c t n), t]) ∧ Below w.heap.size w w' := by
 obtain ⟨q, hq⟩ : ∃ q, slC c t n = q := ⟨_, rfl⟩
 rw [hq]
 unfold slC at hq
 have i1 : IntKind.i64.wrap (c + n) = c + n := IntWalk.i64_in _ (by omega)
 clear h0 h1
 obtain ⟨B, hB⟩ : ∃ B, w.heap.size = B := ⟨_, rfl⟩
 have e0 := (Bx.new w 36 [c, t]).alloc (.cells #[.int .i64 0, .int .i64 0] 36)
 have y0 := Bx.new (w.alloc (.cells #[c, t] 36)) 36 [.int .i64 0, .int .i64 0]
 rw [World.size_alloc] at y0
 rw [hB] at e0 y0 ⊢
 have b0 : Below B w ((w.alloc (.cells #[c, t] 36)).alloc (.cells #[.int .i64 0, .int .i64 0] 36)) := by rw [← hB]; exact ((Zb).alloc Zr _).alloc (by simp) _
 go_enter Tryz.func225, Tryz.ntmps225
 go_upto_region 1 with fail
 generalize (w.alloc (.cells #[c, t] 36)).alloc (.cells #[.int .i64 0, .int .i64 0] 36) = w1 at e0 y0 b0 ⊢
 have hBs : B ≤ w1.heap.size := Zl e0.lt
 have c0 := e0.cell 0 rfl; have c1 := e0.cell 1 rfl
 by_cases k : c < t
 case neg =>
  have dk : decide (c < t) = false := Zf k
  rw [if_neg k] at hq
  subst hq
  have e1 := e0; have y1 := y0; have b1 := b0
  have hB1 := hBs
  clear k
  go_wp2_with (first | (refine xw_load rfl (.tmp 2) rfl rfl e1 rfl ?_) | (refine xw_store rfl (.tmp 4) (.tmp 18) rfl rfl [c, t] rfl y1 rfl rfl rfl ?_))
  refine xw_end1 (by rfl) (by rfl) (xw_put y1 [c, t]) rfl rfl ?_
  exact ⟨rfl, b1.grown (xw_grown _ (B + 1) #[c, t]) hB1 (fun k hk => by cases hk; omega)⟩
 case pos =>
 have dk : decide (c < t) = true := Zt k
 rw [if_pos k] at hq
 clear k
 subst hq
 have e1 : Bx (w1.setCell ⟨B, 0, none⟩ (.int .i64 (min (c + n) t))) B 36 [.int .i64 (min (c + n) t), t] := e0.set 0 _
 have y1 : Bx (w1.setCell ⟨B, 0, none⟩ (.int .i64 (min (c + n) t))) (B + 1) 36 [.int .i64 0, .int .i64 0] := y0.far (by show B + 1 ≠ B; omega) _
 have b1 : Below B w (w1.setCell ⟨B, 0, none⟩ (.int .i64 (min (c + n) t))) := b0.grown (xw_gset _ _ _) hBs (fun k hk => by cases hk; exact Nat.le_refl B)
 have hB1 := Zl e1.lt
 have fr0 := e0.free 0
 go_wp2_with (first | (refine xw_load rfl (.tmp 2) rfl rfl e1 rfl ?_) | (refine xw_store rfl (.tmp 4) (.tmp 18) rfl rfl [.int .i64 (min (c + n) t), t] rfl y1 rfl rfl rfl ?_))
 refine xw_end1 (by rfl) (by rfl) (xw_put y1 [.int .i64 (min (c + n) t), t]) rfl rfl ?_
 exact ⟨rfl, b1.grown (xw_grown _ (B + 1) #[.int .i64 (min (c + n) t), t]) hB1 (fun k hk => by cases hk; omega)⟩
theorem grown_any (c t n : Int) (w : World) (h0 : 0 ≤ c ∧ c ≤ 1073741824) (h1 : 0 ≤ n ∧ n ≤ 1099511627776) :
  Calls Tryz.prog 226 #[.agg #[c, t], n] w fun e w' => e = .returned (.agg #[.int .i64 (grC c t n), t]) ∧ Below w.heap.size w w' := by
 obtain ⟨q, hq⟩ : ∃ q, grC c t n = q := ⟨_, rfl⟩
 rw [hq]
 unfold grC at hq
 have i1 : IntKind.i64.wrap (c + n) = c + n := IntWalk.i64_in _ (by omega)
 clear h0 h1
 obtain ⟨B, hB⟩ : ∃ B, w.heap.size = B := ⟨_, rfl⟩
 have e0 := (Bx.new w 36 [c, t]).alloc (.cells #[.int .i64 0, .int .i64 0] 36)
 have y0 := Bx.new (w.alloc (.cells #[c, t] 36)) 36 [.int .i64 0, .int .i64 0]
 rw [World.size_alloc] at y0
 rw [hB] at e0 y0 ⊢
 have b0 : Below B w ((w.alloc (.cells #[c, t] 36)).alloc (.cells #[.int .i64 0, .int .i64 0] 36)) := by rw [← hB]; exact ((Zb).alloc Zr _).alloc (by simp) _
 go_enter Tryz.func226, Tryz.ntmps226
 go_upto_region 1 with fail
 generalize (w.alloc (.cells #[c, t] 36)).alloc (.cells #[.int .i64 0, .int .i64 0] 36) = w1 at e0 y0 b0 ⊢
 have hBs : B ≤ w1.heap.size := Zl e0.lt
 have c0 := e0.cell 0 rfl; have c1 := e0.cell 1 rfl
 by_cases k : t ≤ c
 case neg =>
  have dk : decide (t ≤ c) = false := Zf k
  rw [if_neg k] at hq
  subst hq
  have e1 := e0; have y1 := y0; have b1 := b0
  have hB1 := hBs
  clear k
  go_wp2_with (first | (refine xw_load rfl (.tmp 2) rfl rfl e1 rfl ?_) | (refine xw_store rfl (.tmp 4) (.tmp 15) rfl rfl [c, t] rfl y1 rfl rfl rfl ?_))
  refine xw_end1 (by rfl) (by rfl) (xw_put y1 [c, t]) rfl rfl ?_
  exact ⟨rfl, b1.grown (xw_grown _ (B + 1) #[c, t]) hB1 (fun k hk => by cases hk; omega)⟩
 case pos =>
 have dk : decide (t ≤ c) = true := Zt k
 rw [if_pos k] at hq
 clear k
 subst hq
 have e1 : Bx (w1.setCell ⟨B, 0, none⟩ (.int .i64 (c + n))) B 36 [.int .i64 (c + n), t] := e0.set 0 _
 have y1 : Bx (w1.setCell ⟨B, 0, none⟩ (.int .i64 (c + n))) (B + 1) 36 [.int .i64 0, .int .i64 0] := y0.far (by show B + 1 ≠ B; omega) _
 have b1 : Below B w (w1.setCell ⟨B, 0, none⟩ (.int .i64 (c + n))) := b0.grown (xw_gset _ _ _) hBs (fun k hk => by cases hk; exact Nat.le_refl B)
 have hB1 := Zl e1.lt
 have fr0 := e0.free 0
 go_wp2_with (first | (refine xw_load rfl (.tmp 2) rfl rfl e1 rfl ?_) | (refine xw_store rfl (.tmp 4) (.tmp 15) rfl rfl [.int .i64 (c + n), t] rfl y1 rfl rfl rfl ?_))
 refine xw_end1 (by rfl) (by rfl) (xw_put y1 [.int .i64 (c + n), t]) rfl rfl ?_
 exact ⟨rfl, b1.grown (xw_grown _ (B + 1) #[.int .i64 (c + n), t]) hB1 (fun k hk => by cases hk; omega)⟩
theorem reduced_any (c t n : Int) (w : World) (h0 : 0 ≤ c ∧ c ≤ 1073741824) (h1 : 0 ≤ n ∧ n ≤ 1024) :
  Calls Tryz.prog 227 #[.agg #[c, t], n] w fun e w' => e = .returned (.agg #[.int .i64 (rdC c n), .int .i64 (rdC c n)]) ∧ Below w.heap.size w w' := by
 obtain ⟨u0, u1, u2, u3⟩ := cut_bd h0.1 h1.1 h1.2
 obtain ⟨p, hp⟩ : ∃ p, c * n = p := ⟨_, rfl⟩
 have i1 : IntKind.i64.wrap p = p := IntWalk.i64_in _ (by omega)
 have hdiv : Int.tdiv p 2048 = p / 2048 := Int.tdiv_eq_ediv_of_nonneg (by omega)
 have hr : rdC c n = c - p / 2048 := by unfold rdC; rw [hp]
 rw [hr]
 rw [hp] at u0 u1
 obtain ⟨y, hy⟩ : ∃ y, p / 2048 = y := ⟨_, rfl⟩
 rw [hy] at u0 u1 hdiv ⊢
 have i2 : IntKind.i64.wrap y = y := IntWalk.i64_in _ (by omega)
 have i3 : IntKind.i64.wrap (c - y) = c - y := IntWalk.i64_in _ (by omega)
 clear h0 h1 u0 u1 u2 u3 hr hy
 obtain ⟨B, hB⟩ : ∃ B, w.heap.size = B := ⟨_, rfl⟩
 have e0 := (Bx.new w 36 [c, t]).alloc (.cells #[.int .i64 0, .int .i64 0] 36)
 have y0 := Bx.new (w.alloc (.cells #[c, t] 36)) 36 [.int .i64 0, .int .i64 0]
 rw [World.size_alloc] at y0
 rw [hB] at e0 y0 ⊢
 have b0 : Below B w ((w.alloc (.cells #[c, t] 36)).alloc (.cells #[.int .i64 0, .int .i64 0] 36)) := by rw [← hB]; exact ((Zb).alloc Zr _).alloc (by simp) _
 go_enter Tryz.func227, Tryz.ntmps227
 go_upto_region 1 with fail
 generalize (w.alloc (.cells #[c, t] 36)).alloc (.cells #[.int .i64 0, .int .i64 0] 36) = w1 at e0 y0 b0 ⊢
 have hBs : B ≤ w1.heap.size := Zl e0.lt
 have c0 := e0.cell 0 rfl; have c1 := e0.cell 1 rfl
 have e1 := e0; have y1 := y0; have b1 := b0
 have hB1 := hBs
 go_wp2_with (refine xw_store rfl (.tmp 4) (.tmp 16) rfl rfl [.int .i64 (c - y), .int .i64 (c - y)] rfl y1 rfl rfl rfl ?_)
 refine xw_end1 (by rfl) (by rfl) (xw_put y1 [.int .i64 (c - y), .int .i64 (c - y)]) rfl rfl ?_
 exact ⟨rfl, b1.grown (xw_grown _ (B + 1) #[.int .i64 (c - y), .int .i64 (c - y)]) hB1 (fun k hk => by cases hk; omega)⟩
theorem lose_any (c t n mss : Int) (F : Nat) (w : World) (h0 : 0 ≤ c ∧ c ≤ 1073741824) (h1 : 1 ≤ mss ∧ mss ≤ 1460) (hF : Bx w F 3 [mss]) :
  Calls Tryz.prog 228 #[.agg #[c, t], n, .pointer (some ⟨F, 0, none⟩)] w fun e w' => e = .returned (.agg #[.int .i64 (loC c mss), .int .i64 (loC c mss)]) ∧ Below w.heap.size w w' := by
 obtain ⟨q, hq⟩ : ∃ q, loC c mss = q := ⟨_, rfl⟩
 rw [hq]
 unfold loC at hq
 have hd : Int.tdiv c 2 = c / 2 := Int.tdiv_eq_ediv_of_nonneg h0.1
 have i1 : IntKind.i64.wrap (2 * mss) = 2 * mss := IntWalk.i64_in _ (by omega)
 have i2 : IntKind.i64.wrap (c / 2) = c / 2 := IntWalk.i64_in _ (by omega)
 obtain ⟨y, hy⟩ : ∃ y, c / 2 = y := ⟨_, rfl⟩
 rw [hy] at hd i2 hq
 clear h0 h1 hy
 have f0 := (hF.alloc (.cells #[c, t] 36)).alloc (.cells #[.int .i64 0, .int .i64 0] 36)
 obtain ⟨B, hB⟩ : ∃ B, w.heap.size = B := ⟨_, rfl⟩
 have e0 := (Bx.new w 36 [c, t]).alloc (.cells #[.int .i64 0, .int .i64 0] 36)
 have y0 := Bx.new (w.alloc (.cells #[c, t] 36)) 36 [.int .i64 0, .int .i64 0]
 rw [World.size_alloc] at y0
 rw [hB] at e0 y0 ⊢
 have b0 : Below B w ((w.alloc (.cells #[c, t] 36)).alloc (.cells #[.int .i64 0, .int .i64 0] 36)) := by rw [← hB]; exact ((Zb).alloc Zr _).alloc (by simp) _
 go_enter Tryz.func228, Tryz.ntmps228
 go_upto_region 1 with fail
 generalize (w.alloc (.cells #[c, t] 36)).alloc (.cells #[.int .i64 0, .int .i64 0] 36) = w1 at e0 y0 b0 f0 ⊢
 have hBs : B ≤ w1.heap.size := Zl e0.lt
 have c0 := e0.cell 0 rfl; have c1 := e0.cell 1 rfl
 have f00 := f0.cell 0 rfl
 subst hq
 have e1 := e0; have y1 := y0; have b1 := b0
 have hB1 := hBs
 go_wp2_with (refine xw_store rfl (.tmp 5) (.tmp 15) rfl rfl [.int .i64 (max y (2 * mss)), .int .i64 (max y (2 * mss))] rfl y1 rfl rfl rfl ?_)
 refine xw_end1 (by rfl) (by rfl) (xw_put y1 [.int .i64 (max y (2 * mss)), .int .i64 (max y (2 * mss))]) rfl rfl ?_
 exact ⟨rfl, b1.grown (xw_grown _ (B + 1) #[.int .i64 (max y (2 * mss)), .int .i64 (max y (2 * mss))]) hB1 (fun k hk => by cases hk; omega)⟩
theorem loseall_any (c t n mss : Int) (F : Nat) (w : World) (h0 : 0 ≤ c ∧ c ≤ 1073741824) (h1 : 1 ≤ mss ∧ mss ≤ 1460) (hF : Bx w F 3 [mss]) :
  Calls Tryz.prog 229 #[.agg #[c, t], n, .pointer (some ⟨F, 0, none⟩)] w fun e w' => e = .returned (.agg #[mss, .int .i64 (loC c mss)]) ∧ Below w.heap.size w w' := by
 obtain ⟨q, hq⟩ : ∃ q, loC c mss = q := ⟨_, rfl⟩
 rw [hq]
 unfold loC at hq
 have hd : Int.tdiv c 2 = c / 2 := Int.tdiv_eq_ediv_of_nonneg h0.1
 have i1 : IntKind.i64.wrap (2 * mss) = 2 * mss := IntWalk.i64_in _ (by omega)
 have i2 : IntKind.i64.wrap (c / 2) = c / 2 := IntWalk.i64_in _ (by omega)
 obtain ⟨y, hy⟩ : ∃ y, c / 2 = y := ⟨_, rfl⟩
 rw [hy] at hd i2 hq
 clear h0 h1 hy
 have f0 := (hF.alloc (.cells #[c, t] 36)).alloc (.cells #[.int .i64 0, .int .i64 0] 36)
 obtain ⟨B, hB⟩ : ∃ B, w.heap.size = B := ⟨_, rfl⟩
 have e0 := (Bx.new w 36 [c, t]).alloc (.cells #[.int .i64 0, .int .i64 0] 36)
 have y0 := Bx.new (w.alloc (.cells #[c, t] 36)) 36 [.int .i64 0, .int .i64 0]
 rw [World.size_alloc] at y0
 rw [hB] at e0 y0 ⊢
 have b0 : Below B w ((w.alloc (.cells #[c, t] 36)).alloc (.cells #[.int .i64 0, .int .i64 0] 36)) := by rw [← hB]; exact ((Zb).alloc Zr _).alloc (by simp) _
 go_enter Tryz.func229, Tryz.ntmps229
 go_upto_region 1 with fail
 generalize (w.alloc (.cells #[c, t] 36)).alloc (.cells #[.int .i64 0, .int .i64 0] 36) = w1 at e0 y0 b0 f0 ⊢
 have hBs : B ≤ w1.heap.size := Zl e0.lt
 have c0 := e0.cell 0 rfl; have c1 := e0.cell 1 rfl
 have f00 := f0.cell 0 rfl
 subst hq
 have e1 := e0; have y1 := y0; have b1 := b0
 have hB1 := hBs
 go_wp2_with (refine xw_store rfl (.tmp 5) (.tmp 13) rfl rfl [mss, .int .i64 (max y (2 * mss))] rfl y1 rfl rfl rfl ?_)
 refine xw_end1 (by rfl) (by rfl) (xw_put y1 [mss, .int .i64 (max y (2 * mss))]) rfl rfl ?_
 exact ⟨rfl, b1.grown (xw_grown _ (B + 1) #[mss, .int .i64 (max y (2 * mss))]) hB1 (fun k hk => by cases hk; omega)⟩
def TellT (w w' : World) (e : Ending) (y : Tmr × Int) : Prop := e = .returned (.tuple #[.agg #[y.1.kd, y.1.at_], y.2]) ∧ Below w.heap.size w w'
theorem parts_bd {l : List Prt} (h : smayB l = true) : ∀ x ∈ l, POk x := by
 intro x hx
 obtain ⟨i, hi, rfl⟩ := List.getElem_of_mem hx
 have := (((smay_iff l).1 h).2 i hi).1
 rwa [ge_eq hi] at this
theorem lastR_ok {l : List Prt} (h : smayB l = true) (k : Nat) : -1 ≤ lastR (l.take k) ∧ lastR (l.take k) ≤ 1152921504606846976 :=
 lastR_bd (fun x hx => (t60_iff _).1 (parts_bd h x (List.mem_of_mem_take hx)).at_)
theorem twin_any (n lo hi : Int) (w : World) :
  Calls Tryz.prog 107 #[n, lo, hi] w fun e w' => e = .returned (.bool (winB n lo hi)) ∧ w = w' := by
 by_cases h1 : lo ≤ n
 ·have e1 : winB n lo hi = decide (n ≤ hi) := by unfold winB; rw [Zt h1]; rfl
  rw [e1]
  clear e1
  have d1 : decide (lo ≤ n) = true := Zt h1
  go_enter Tryz.func107, Tryz.ntmps107
  go_wp2
  go_ret
  exact ⟨rfl, rfl⟩
 ·have e1 : winB n lo hi = false := by unfold winB; rw [Zf h1]; rfl
  rw [e1]
  clear e1
  have d1 : decide (lo ≤ n) = false := Zf h1
  go_enter Tryz.func107, Tryz.ntmps107
  go_wp2
  go_ret
  exact ⟨rfl, rfl⟩
theorem tmB_still {v : Tmr} (h : v.kd = 0) : tmB v = (v.at_ == 0) := by
 rw [Bool.eq_iff_iff, tmB_iff, beq_iff_eq]
 refine ⟨fun g => ?_, fun g => ⟨by omega, by omega, by omega, by omega, .inr g⟩⟩
 rcases g.z with z | z
 ·omega
 ·exact z
theorem tmB_set {v : Tmr} (h : v.kd ≠ 0) : tmB v = (winB v.kd 0 2 && winB v.at_ 0 2305843009213693952) := by
 rw [Bool.eq_iff_iff, tmB_iff, Bool.and_eq_true, win_iff, win_iff]
 exact ⟨fun g => ⟨⟨g.k0, g.k1⟩, g.a0, g.a1⟩, fun ⟨⟨a, b⟩, c, d⟩ => ⟨a, b, c, d, .inl (by omega)⟩⟩
theorem timay_any (v : Tmr) (w : World) :
  Calls Tryz.prog 47 #[.agg #[v.kd, v.at_]] w fun e w' => e = .returned (.bool (tmB v)) ∧ Below w.heap.size w w' := by
 obtain ⟨B, hB⟩ : ∃ B, w.heap.size = B := ⟨_, rfl⟩
 have e0 := Bx.new w 38 [v.kd, v.at_]
 rw [hB] at e0 ⊢
 have b0 : Below B w (w.alloc (.cells #[v.kd, v.at_] 38)) := by rw [← hB]; exact (Zb).alloc Zr _
 obtain ⟨q, hq⟩ : ∃ q, tmB v = q := ⟨_, rfl⟩
 rw [hq]
 go_enter Tryz.func47, Tryz.ntmps47
 go_upto_region 1 with fail
 change Code.wp _ _ _ _ (w.alloc (.cells #[v.kd, v.at_] 38))
 generalize w.alloc (.cells #[v.kd, v.at_] 38) = w1 at e0 b0 ⊢
 have c0 := e0.cell 0 rfl; have c1 := e0.cell 1 rfl
 by_cases hk : v.kd = 0
 ·have hF : q = (v.at_ == 0) := by rw [← hq]; exact tmB_still hk
  have dk : (v.kd == 0) = true := by simpa using hk
  subst hF
  clear hq hk
  go_wp2_with fail
  go_ret
  exact ⟨rfl, b0⟩
 have dk : (v.kd == 0) = false := by simpa using hk
 rw [tmB_set hk] at hq
 clear hk
 cases h0 : winB v.kd 0 2 with
 | false =>
  have hF : q = false := by rw [← hq, h0]; rfl
  subst hF
  clear hq
  go_wp2_with (go_at_call 107; refine (twin_any _ _ _ _).mono ?_; rintro e wx ⟨rfl, rfl⟩)
  go_ret
  exact ⟨rfl, b0⟩
 | true =>
 have hF : q = winB v.at_ 0 2305843009213693952 := by rw [← hq, h0]; rfl
 subst hF
 clear hq
 go_wp2_with (go_at_call 107; refine (twin_any _ _ _ _).mono ?_; rintro e wx ⟨rfl, rfl⟩)
 go_ret
 exact ⟨rfl, b0⟩
theorem tidue_any (v : Tmr) (now : Int) (w : World) :
  Calls Tryz.prog 91 #[.agg #[v.kd, v.at_], now] w fun e w' => e = .returned (.int .i64 (tdueR v now)) ∧ Below w.heap.size w w' := by
 obtain ⟨B, hB⟩ : ∃ B, w.heap.size = B := ⟨_, rfl⟩
 rw [hB]
 have e0 := Bx.new w 38 [v.kd, v.at_]
 rw [hB] at e0
 have b0 : Below B w (w.alloc (.cells #[v.kd, v.at_] 38)) := by rw [← hB]; exact (Zb).alloc Zr _
 go_enter Tryz.func91, Tryz.ntmps91
 go_wp2_with (refine tm_load rfl (.tmp 2) rfl rfl e0 rfl ?_)
 generalize w.alloc (.cells #[v.kd, v.at_] 38) = w1 at e0 b0 ⊢
 refine (timay_any v _).mono ?_
 rintro e w2 ⟨rfl, hb2⟩
 have e2 := e0.kept hb2; have b2 := b0.trans (hb2.mono (Zl e0.lt))
 have x0 := e2.cell 0 rfl; have x1 := e2.cell 1 rfl
 clear e0 b0 hb2
 cases hk : tmB v with
 | false =>
  have hz : tdueR v now = 0 := if_neg (fun h => by rw [hk] at h; cases h.1)
  have HZ := Zh hz
  clear hz hk
  go_wp2_with fail
  go_ret
  exact ⟨by rw [HZ.out]; rfl, b2⟩
 | true =>
 by_cases c : now < v.at_
 ·have d : decide (now < v.at_) = true := Zt c
  have hz : tdueR v now = 0 := if_neg (fun h => by have := h.2; omega)
  have HZ := Zh hz
  clear hz hk
  go_wp2_with fail
  go_ret
  exact ⟨by rw [HZ.out]; rfl, b2⟩
 ·have d : decide (now < v.at_) = false := Zf c
  have hz : tdueR v now = v.kd := if_pos ⟨hk, by omega⟩
  have HZ := Zh hz
  clear hz hk
  go_wp2_with fail
  go_ret
  exact ⟨by rw [HZ.out]; rfl, b2⟩
def latA (F : Int) : Int := if F < 0 then 0 else F
theorem latA_neg {F : Int} (h : F < 0) : latA F = 0 := if_pos h
theorem latA_pos {F : Int} (h : 0 ≤ F) : latA F = F := if_neg (by omega)
theorem tilatest_any (A : Option Addr) (n c : Nat) (l : List Prt) (w : World) (hs : Se w A n c l) (hok : smayB l = true) :
  Calls Tryz.prog 160 #[.slice A n c] w fun e w' => e = .returned (.tuple #[.int .i64 (latA (lastR l)), .bool (decide (0 ≤ lastR l))]) ∧ Below w.heap.size w w' := by
 have hl := hs.rd.len
 have m1 := hs.le
 have m2 := hs.max
 have m3 : n ≤ 9223372036854775807 := by unfold maxLen at m2; omega
 clear m1 m2
 have HL := Zh hl; have HA := Zh hs; have HOK := Zh hok
 clear hs hl hok
 go_enter Tryz.func160, Tryz.ntmps160
 go_wp2_with fail
 go_loopw [4, 5, 10] (fun a s i wr => ∃ k : Nat, k ≤ n ∧ i = .int .i64 (k : Int) ∧ a = .int .i64 (latA (lastR (l.take k))) ∧ s = .bool (decide (0 ≤ lastR (l.take k))) ∧ Below w.heap.size w wr) (fun _ _ i _ => n - (intOf i).toNat)
 case atStart => exact ⟨0, Nat.zero_le _, rfl, rfl, rfl, Below.refl _ _⟩
 case round =>
  obtain ⟨k, hkn, rfl, rfl, rfl, hb⟩ := hrel
  by_cases hlt : k < n
  case neg =>
   obtain rfl : k = n := by omega
   have hd : decide (k < k) = false := Zf (by omega)
   have htk : l.take k = l := by rw [← HL.out]; exact List.take_length
   rw [htk]
   clear htk
   obtain ⟨F, hF⟩ : ∃ F, lastR l = F := ⟨_, rfl⟩
   rw [hF]
   obtain ⟨D, hD⟩ : ∃ D, latA F = D := ⟨_, rfl⟩
   rw [hD]
   have HF := Zh hF; have HD := Zh hD
   clear hF hD
   go_wp2_with fail
   go_ret2
   exact ⟨by rw [HF.out, HD.out]; rfl, hb⟩
  case pos =>
  have hd : decide (k < n) = true := Zt hlt
  have hkl : k < l.length := by rw [HL.out]; exact hlt
  have hst := lastR_take hkl
  have hlo := lastR_ok HOK.out k
  have hpk := parts_bd HOK.out (ge l k) (by rw [ge_eq hkl]; exact List.getElem_mem _)
  have hat := (t60_iff _).1 hpk.at_
  have hsr : Se wr A n c l := HA.out.keep hb
  obtain ⟨b, o, rfl, hbl, hc⟩ := hsr.rd.at_ (by omega)
  have X := prt_at hc hlt
  obtain ⟨p, hp⟩ : ∃ p, ge l k = p := ⟨_, rfl⟩
  rw [hp] at X hst hat
  obtain ⟨F, hF⟩ : ∃ F, lastR (l.take k) = F := ⟨_, rfl⟩
  rw [hF] at hst hlo ⊢
  obtain ⟨F0, F1⟩ := hlo
  obtain ⟨at0, at1⟩ := hat
  unfold lastStep toutB at hst
  obtain ⟨x0, x1, x2, x3, x4, x5, x6, x7, x8⟩ := X
  obtain ⟨P, hP⟩ : ∃ P, wr.heap.size = P := ⟨_, rfl⟩
  have eP : Bx (wr.alloc (.cells #[p.seq, p.len, p.dsn, p.at_, p.tries, p.came, p.lost, p.total, p.last] 57)) P 57 [p.seq, p.len, p.dsn, p.at_, p.tries, p.came, p.lost, p.total, p.last] := hP ▸ Bx.new wr 57 [p.seq, p.len, p.dsn, p.at_, p.tries, p.came, p.lost, p.total, p.last]
  have hwP : w.heap.size ≤ P := hP ▸ hb.size
  have bP : Below w.heap.size w (wr.alloc (.cells #[p.seq, p.len, p.dsn, p.at_, p.tries, p.came, p.lost, p.total, p.last] 57)) := hb.alloc (hP ▸ hwP) _
  have HST := Zh hst
  clear hst hpk hsr hbl hc hp hF hkl
  go_upto_region 5 with fail
  clear x0 x1 x2 x3 x4 x5 x6 x7 x8
  try rw [hP]
  generalize wr.alloc (.cells #[p.seq, p.len, p.dsn, p.at_, p.tries, p.came, p.lost, p.total, p.last] 57) = wA at eP bP ⊢
  obtain ⟨p0, p1, p2, pa, p4, came, lost, p7, p8⟩ := p
  dsimp only at at0 at1
  have x3 := eP.cell 3 rfl; have x5 := eP.cell 5 rfl; have x6 := eP.cell 6 rfl
  dsimp only at x3 x5 x6
  obtain ⟨D, hD⟩ : ∃ D, latA F = D := ⟨_, rfl⟩
  rw [hD]
  cases came with
  | true =>
   have hs2 : lastR (l.take (k + 1)) = F := by rw [HST.out]; simp
   have HS2 := Zh hs2; have HD := Zh hD; clear hs2 hD
   go_wp2_with fail
   go_roundw
   case rel => exact ⟨k + 1, by omega, by go_num, by rw [HS2.out, HD.out], by rw [HS2.out], bP⟩
   case measure => simp [intOf]; omega
  | false =>
  cases lost with
  | true =>
   have hs2 : lastR (l.take (k + 1)) = F := by rw [HST.out]; simp
   have HS2 := Zh hs2; have HD := Zh hD; clear hs2 hD
   go_wp2_with fail
   go_roundw
   case rel => exact ⟨k + 1, by omega, by go_num, by rw [HS2.out, HD.out], by rw [HS2.out], bP⟩
   case measure => simp [intOf]; omega
  | false =>
  by_cases ca : D < pa
  ·have da : decide (D < pa) = true := Zt ca
   have hs2 : lastR (l.take (k + 1)) = pa := by
    rw [HST.out]
    by_cases g : F < 0
    ·have : F < pa := by omega
     simp [this]
    ·rw [latA_pos (by omega)] at hD
     simp [hD, ca]
   have HS2 := Zh hs2; have HD := Zh hD; clear hs2 hD
   go_wp2_with fail
   go_roundw
   case rel => exact ⟨k + 1, by omega, by go_num, by (rw [HS2.out, latA_pos at0]) <;> (congr 1; omega), by rw [HS2.out, Zt at0], bP⟩
   case measure => simp [intOf]; omega
  ·have da : decide (D < pa) = false := Zf ca
   have hs2 : lastR (l.take (k + 1)) = D := by
    rw [HST.out]
    by_cases g : F < 0
    ·rw [latA_neg g] at hD
     have : F < pa := by omega
     simp [this]; omega
    ·rw [latA_pos (by omega)] at hD
     simp [hD, ca]
   have hD0 : 0 ≤ D := by
    by_cases g : F < 0
    ·rw [latA_neg g] at hD; omega
    ·rw [latA_pos (by omega)] at hD; omega
   have HS2 := Zh hs2; have HD := Zh hD; have HD0 := Zh hD0; clear hs2 hD hD0
   go_wp2_with fail
   go_roundw
   case rel => exact ⟨k + 1, by omega, by go_num, by (rw [HS2.out, latA_pos HD0.out]) <;> (congr 1; omega), by rw [HS2.out, Zt HD0.out], bP⟩
   case measure => simp [intOf]; omega
end Go.Proofs.YtbijhkhkigdddaaGreat
