/- LeL1 MsRef1 Sni RaRef1 RaL1 GrL1 RkRef1 RkRef2. -/
import Derived.Test.YtbijhkhkigdddaaGreatP07
set_option linter.all false
set_option maxRecDepth 100000
set_option maxHeartbeats 32000000
namespace Go.Proofs.YtbijhkhkigdddaaGreat
open Go.RowKit
theorem rec_any (x : Int) (w : World) :
  Calls Tryz.prog 158 #[x] w fun e w' => e = .returned (.bool (ltmB x)) ∧ w = w' := by
 have e : ltmB x = (decide (0 ≤ x) && decide (x ≤ 1152921504606846976)) := by unfold ltmB; rw [Bool.decide_and]
 by_cases h1 : 0 ≤ x
 ·by_cases h2 : x ≤ 1152921504606846976
  ·rw [Zt h1, Zt h2] at e
   rw [e]
   go_enter Tryz.func158, Tryz.ntmps158
   go_wp2
   go_ret
   exact ⟨rfl, rfl⟩
  ·rw [Zt h1, Zf h2] at e
   rw [e]
   go_enter Tryz.func158, Tryz.ntmps158
   go_wp2
   go_ret
   exact ⟨rfl, rfl⟩
 ·rw [Zf h1] at e
  rw [e]
  have h1' : x < 0 := by omega
  go_enter Tryz.func158, Tryz.ntmps158
  go_wp2
  go_ret
  exact ⟨rfl, rfl⟩
def pre1 (l : List Sp) (k : Nat) : Sp := if k = 0 then (0, -1) else sp l (k - 1)
theorem pre1_succ (l : List Sp) (k : Nat) : pre1 l (k + 1) = sp l k := by unfold pre1; rw [if_neg (by omega), Nat.add_sub_cancel]
theorem pt_of {l : List Sp} {k : Nat} {p m a b : Int} (hp : sp l k = (p, m)) (ha : pre1 l k = (a, b)) : PtOk l k ↔ (ltmB p = true ∧ ltmB m = true ∧ a ≤ p ∧ b < m) := by
 rw [ltmB_iff, ltmB_iff]
 unfold pre1 at ha
 constructor
 ·intro h
  have h1 := h.a0; have h2 := h.a1; have h3 := h.n0; have h4 := h.n1; have h5 := h.up
  rw [hp] at h1 h2 h3 h4 h5
  dsimp only at h1 h2 h3 h4 h5
  split at ha
  ·cases ha; omega
  ·have h6 := h5 (by omega)
   rw [ha] at h6
   dsimp only at h6
   omega
 ·rintro ⟨h1, h2, h3, h4⟩
  refine ⟨by rw [hp]; exact h1.1, by rw [hp]; exact h1.2, by rw [hp]; exact h2.1, by rw [hp]; exact h2.2, fun h0 => ?_⟩
  rw [if_neg (by omega)] at ha
  rw [hp, ha]
  exact ⟨h3, h4⟩
def riseB (l : List Sp) : Bool := decide (l.length ≤ 100) && ptsB l
theorem rising_any (A : Option Addr) (n c : Nat) (l : List Sp) (w : World) (hs : Ss w A n c l) :
  Calls Tryz.prog 100 #[.slice A n c] w fun e w' => e = .returned (.bool (riseB l)) ∧ Below w.heap.size w w' := by
 obtain ⟨B, hB⟩ : ∃ B, w.heap.size = B := ⟨_, rfl⟩
 rw [hB]
 have hl := hs.rd.len
 have m1 := hs.le
 have m2 := hs.max
 unfold maxLen at m2
 by_cases c2 : 100 < n
 ·have hF : riseB l = false := by unfold riseB; rw [hl, Zf (by omega)]; rfl
  rw [hF]
  clear hF
  have d2 : decide (100 < n) = true := Zt c2
  go_enter Tryz.func100, Tryz.ntmps100
  go_wp2
  go_ret
  exact ⟨rfl, Below.refl _ _⟩
 have d2 : decide (100 < n) = false := Zf c2
 have hn : n ≤ 100 := by omega
 have hmay : riseB l = ptsB l := by unfold riseB; rw [hl, Zt hn]; rfl
 obtain ⟨q, hq⟩ : ∃ q, ptsB l = q := ⟨_, rfl⟩
 rw [hmay, hq]
 have HQ := Zh hq; clear hq hmay
 have HL := Zh hl
 have HBs := Zh hB
 have HA := Zh hs
 have e0 := Bx.new w 134 [.int .i64 0, .int .i64 (-1)]
 have b0 : Below B w (w.alloc (.cells #[.int .i64 0, .int .i64 (-1)] 134)) := by rw [← hB]; exact (Zb).alloc Zr _
 rw [hB] at e0
 clear hl hs m1 m2 c2
 go_enter Tryz.func100, Tryz.ntmps100
 go_wp2_with fail
 generalize w.alloc (.cells #[.int .i64 0, .int .i64 (-1)] 134) = w1 at e0 b0 ⊢
 go_loopw [12] (fun i wr => ∃ k : Nat, k ≤ n ∧ i = .int .i64 (k : Int) ∧ PtsOk l k ∧ Bx wr B 134 [.int .i64 (pre1 l k).1, .int .i64 (pre1 l k).2] ∧ Below B w wr) (fun i _ => n - (intOf i).toNat)
 case atStart => exact ⟨0, Nat.zero_le _, rfl, fun i hi => absurd hi (by omega), e0, b0⟩
 case round =>
  obtain ⟨k, hk, rfl, hok, er, br⟩ := hrel
  by_cases hlt : k < n
  ·have hs' : Ss wr A n c l := HA.out.keep (by rw [HBs.out]; exact br)
   have hsz : B ≤ wr.heap.size := Zl er.lt
   obtain ⟨b, o, rfl, hbl, hc⟩ := hs'.rd.at_ (by omega)
   obtain ⟨y1, y2⟩ := hc k hlt
   obtain ⟨⟨p, m⟩, hp⟩ : ∃ p, sp l k = p := ⟨_, rfl⟩
   obtain ⟨⟨pa, pb⟩, ha⟩ : ∃ p, pre1 l k = p := ⟨_, rfl⟩
   have hpt := pt_of hp ha
   rw [ha] at er
   rw [hp] at y1 y2
   simp only at y1 y2
   have HP := Zh hp; have HPT := Zh hpt
   clear hc hs' hp ha hpt
   have e1 := er.alloc (.cells #[p, m] 134)
   have b1 := br.alloc hsz (.cells #[p, m] 134)
   have hok' := Zh hok; clear hok
   have v1 := Bx.new wr 134 [p, m]
   go_upto_region 7 with fail
   clear y1 y2
   obtain ⟨V, hV⟩ : ∃ V, wr.heap.size = V := ⟨_, rfl⟩
   have hBV : B < V := by rw [← hV]; exact er.lt
   rw [hV] at v1 ⊢
   generalize wr.alloc (.cells #[p, m] 134) = W at e1 b1 v1 ⊢
   have q1 := v1.cell 0 rfl; have q2 := v1.cell 1 rfl
   have x1 := e1.cell 0 rfl; have x2 := e1.cell 1 rfl
   have f1 := e1.free 0; have f2 := e1.free 1
   have hno : ¬ (ltmB p = true ∧ ltmB m = true ∧ pa ≤ p ∧ pb < m) → q = false := fun hn => by
    rw [← HQ.out]
    exact Bool.eq_false_iff.2 (fun h => hn (HPT.out.1 (((ptsB_iff l).1 h) k (by rw [HL.out]; exact hlt))))
   have HNO := Zh hno; clear hno
   cases t1 : ltmB p with
   | false =>
    have hF : q = false := HNO.out (by rw [t1]; simp)
    subst hF
    go_wp2_with (go_at_call 158; refine (rec_any _ _).mono ?_; rintro e w2 ⟨rfl, rfl⟩)
    go_ret
    exact ⟨rfl, b1⟩
   | true =>
   cases t2 : ltmB m with
   | false =>
    have hF : q = false := HNO.out (by rw [t2]; simp)
    subst hF
    go_wp2_with (go_at_call 158; refine (rec_any _ _).mono ?_; rintro e w2 ⟨rfl, rfl⟩)
    go_ret
    exact ⟨rfl, b1⟩
   | true =>
   by_cases u0 : p < pa
   ·have d0 : decide (p < pa) = true := Zt u0
    have hF : q = false := HNO.out (by omega)
    subst hF
    go_wp2_with (go_at_call 158; refine (rec_any _ _).mono ?_; rintro e w2 ⟨rfl, rfl⟩)
    go_ret
    exact ⟨rfl, b1⟩
   have d0 : decide (p < pa) = false := Zf u0
   by_cases u1 : m ≤ pb
   ·have d1 : decide (m ≤ pb) = true := Zt u1
    have hF : q = false := HNO.out (by omega)
    subst hF
    go_wp2_with (go_at_call 158; refine (rec_any _ _).mono ?_; rintro e w2 ⟨rfl, rfl⟩)
    go_ret
    exact ⟨rfl, b1⟩
   have d1 : decide (m ≤ pb) = false := Zf u1
   have hpt : PtOk l k := HPT.out.2 ⟨t1, t2, by omega, by omega⟩
   have HN := Zh hpt; clear hpt u0 u1
   go_wp2_with (go_at_call 158; refine (rec_any _ _).mono ?_; rintro e w2 ⟨rfl, rfl⟩)
   have e2 : Bx ((W.setCell ⟨B, 0, none⟩ (.int .i64 p)).setCell ⟨B, 1, none⟩ (.int .i64 m)) B 134 [.int .i64 (pre1 l (k + 1)).1, .int .i64 (pre1 l (k + 1)).2] := by
    rw [pre1_succ, HP.out]; exact (e1.set 0 (.int .i64 p)).set 1 (.int .i64 m)
   have E2 := Zh e2; clear e2
   go_roundw
   case rel => exact ⟨k + 1, by omega, by go_num, pts_snoc hok'.out HN.out, E2.out, (b1.setCell (p := ⟨B, 0, none⟩) Zr _).setCell (p := ⟨B, 1, none⟩) Zr _⟩
   case measure => simp [intOf]; omega
  ·obtain rfl : k = n := by omega
   have hT : q = true := by rw [← HQ.out, ptsB_iff, HL.out]; exact hok
   subst hT
   have hd : decide (k < k) = false := Zf (by omega)
   go_wp2_with fail
   go_ret
   exact ⟨rfl, br⟩
theorem lemay_any (span : Int) (A : Option Addr) (n c : Nat) (high : Int) (l : List Sp) (w : World) (hs : Ss w A n c l) :
  Calls Tryz.prog 41 #[.agg #[span, .slice A n c, high]] w fun e w' => e = .returned (.bool (lmay ⟨span, l, high⟩)) ∧ Below w.heap.size w w' := by
 obtain ⟨B, hB⟩ : ∃ B, w.heap.size = B := ⟨_, rfl⟩
 rw [hB]
 have hl := hs.rd.len
 have e0 := Bx.new w 27 [span, .slice A n c, high]
 rw [hB] at e0
 have b0 : Below B w (w.alloc (.cells #[span, .slice A n c, high] 27)) := by rw [← hB]; exact (Zb).alloc Zr _
 have hs0 := hs.alloc (.cells #[span, .slice A n c, high] 27)
 have x0 := e0.cell 0 rfl; have x1 := e0.cell 1 rfl; have x2 := e0.cell 2 rfl
 have hm : lmay ⟨span, l, high⟩ = (decide (1 ≤ span ∧ span ≤ 1099511627776 ∧ 0 ≤ high ∧ high < 8) && riseB l) := by
  unfold lmay headB riseB
  rw [Bool.eq_iff_iff, Bool.and_eq_true, Bool.and_eq_true, Bool.and_eq_true, decide_eq_true_eq, decide_eq_true_eq, decide_eq_true_eq]
  dsimp only
  constructor
  ·rintro ⟨h, k⟩; exact ⟨by omega, by omega, k⟩
  ·rintro ⟨h, k, j⟩; exact ⟨by omega, j⟩
 rw [hm]
 clear hl hm
 by_cases c0 : 1 ≤ span
 case neg =>
  rw [Zf (fun h => c0 h.1), Bool.false_and]
  have d0 : decide (1 ≤ span) = false := Zf c0
  go_enter Tryz.func41, Tryz.ntmps41
  go_wp2
  go_ret
  exact ⟨rfl, b0⟩
 have d0 : decide (1 ≤ span) = true := Zt c0
 by_cases c1 : span ≤ 1099511627776
 case neg =>
  rw [Zf (fun h => c1 h.2.1), Bool.false_and]
  have d1 : decide (span ≤ 1099511627776) = false := Zf c1
  go_enter Tryz.func41, Tryz.ntmps41
  go_wp2
  go_ret
  exact ⟨rfl, b0⟩
 have d1 : decide (span ≤ 1099511627776) = true := Zt c1
 by_cases c2 : 0 ≤ high
 case neg =>
  rw [Zf (fun h => c2 h.2.2.1), Bool.false_and]
  have d2 : decide (0 ≤ high) = false := Zf c2
  go_enter Tryz.func41, Tryz.ntmps41
  go_wp2
  go_ret
  exact ⟨rfl, b0⟩
 have d2 : decide (0 ≤ high) = true := Zt c2
 by_cases c3 : high < 8
 case neg =>
  rw [Zf (fun h => c3 h.2.2.2), Bool.false_and]
  have d3 : decide (high < 8) = false := Zf c3
  go_enter Tryz.func41, Tryz.ntmps41
  go_wp2
  go_ret
  exact ⟨rfl, b0⟩
 have d3 : decide (high < 8) = true := Zt c3
 rw [Zt ⟨c0, c1, c2, c3⟩, Bool.true_and]
 clear c0 c1 c2 c3
 have rr := rising_any A n c l _ hs0
 go_enter Tryz.func41, Tryz.ntmps41
 go_wp2_with (go_at_call 100; refine rr.mono ?_; rintro e w2 ⟨rfl, hb2⟩)
 go_ret
 exact ⟨rfl, b0.trans (hb2.mono (Zl e0.lt))⟩
def llastR (l : List Sp) : Int := if l.length = 0 then 0 else (sp l (l.length - 1)).1
theorem begin_any (span : Int) (A : Option Addr) (n c : Nat) (high : Int) (l : List Sp) (w : World) (hs : Ss w A n c l) :
  Calls Tryz.prog 203 #[.agg #[span, .slice A n c, high]] w fun e w' => e = .returned (.int .i64 (llastR l)) ∧ Below w.heap.size w w' := by
 obtain ⟨B, hB⟩ : ∃ B, w.heap.size = B := ⟨_, rfl⟩
 rw [hB]
 have hl := hs.rd.len
 have m1 := hs.le
 have m2 := hs.max
 unfold maxLen at m2
 have e0 := Bx.new w 27 [span, .slice A n c, high]
 rw [hB] at e0
 have b0 : Below B w (w.alloc (.cells #[span, .slice A n c, high] 27)) := by rw [← hB]; exact (Zb).alloc Zr _
 have x1 := e0.cell 1 rfl
 by_cases hn : n = 0
 ·have hz : llastR l = 0 := by unfold llastR; rw [if_pos (by omega)]
  rw [hz]
  subst hn
  clear hl hz
  go_enter Tryz.func203, Tryz.ntmps203
  go_wp2
  go_ret
  exact ⟨rfl, b0⟩
 ·obtain ⟨j, rfl⟩ : ∃ j, n = j + 1 := ⟨n - 1, by omega⟩
  have hz : llastR l = (sp l j).1 := by unfold llastR; rw [if_neg (by omega), hl, Nat.add_sub_cancel]
  rw [hz]
  have hs0 := hs.alloc (.cells #[span, .slice A (j + 1) c, high] 27)
  obtain ⟨b, o, rfl, hbl, hc⟩ := hs0.rd.at_ (by omega)
  obtain ⟨z1, z2⟩ := hc j (by omega)
  clear hc hl hz z2 hs0 hs hn
  go_enter Tryz.func203, Tryz.ntmps203
  go_wp2_with fail
  go_ret
  exact ⟨rfl, b0⟩
theorem info_ms : (Tryz.prog.info? 29).map (·.size) = some 5 := by kernel_rfl
theorem ms_struct : ∃ fs, Tryz.prog.underlying 29 = some (.struct fs) := ⟨_, Tryz.underlying29⟩
section
variable {W : World} {B : Nat} {t : TypeId} {cs : List Value}
def ms_put := @g_put
def ms_grown := @g_grown
def ms_gset := @g_gset
def ms_load := @g_load 29 5 ms_struct info_ms
theorem ms_store {ops : Array Oper} {rest : List Oper} {o : Oper} {a : Act} {Q : Exit → Act → World → Prop} (hgd : o.guard = none) (x y : Operand) (ho : o.op = .store 29 x y) (hx : a.eval x = .pointer (some ⟨B, 0, none⟩))
  (vs : List Value) (hy : a.eval y = .agg vs.toArray) (h : Bx W B t cs) (hl : cs.length = 5) (hv : vs.length = 5) (h1 : vs.all (·.oneCell') = true) (k : wpList Tryz.prog ops Q rest (a.put o.dst undef) (W.setRow B vs.toArray)) : wpList Tryz.prog ops Q (o :: rest) a W :=
 wpList_store_row hgd _ x y ho B vs.toArray hx hy t cs.toArray h (by rw [info_ms]; simp [hv]) (by simp [hl, hv]) (by simpa using h1) k
def ms_var := @g_var 29 5 ms_struct info_ms
def ms_yields := @g_yields 29 5 ms_struct info_ms
variable {fn : Func} {tmps : Array Value} {R : Ending → World → Prop} {v u : Value} {ds : List Deferred} {p q r : Tmp}
def ms_end1 := @g_end1 29 5 ms_struct info_ms
def ms_end2 := @g_end2 29 5 ms_struct info_ms
def ms_end3 := @g_end3 29 5 ms_struct info_ms
end
theorem Si.alloc {w : World} {A : Option Addr} {n c : Nat} {l : List Int} (h : Si w A n c l) (o : Obj) : Si (w.alloc o) A n c l := h.keep ((Zb).alloc Zr o)
structure Sni (w : World) (base : Nat) (G : Option Addr) (m d : Nat) (l : List Int) : Prop where
 si : Si w G m d l
 at_ : ∀ b o s, G = some ⟨b, o, s⟩ → base ≤ b
theorem Sni.none (w : World) (base : Nat) : Sni w base .none 0 0 [] := ⟨Si.none w, fun _ _ _ e => by cases e⟩
theorem Sni.keep {w w' : World} {base : Nat} {G : Option Addr} {m d : Nat} {l : List Int} (h : Sni w base G m d l) (hb : Below w.heap.size w w') : Sni w' base G m d l := ⟨h.si.keep hb, h.at_⟩
theorem Sni.grownAny {w w' : World} {base : Nat} {G : Option Addr} {m d : Nat} {l : List Int} {row : Option Nat} (h : Sni w base G m d l) (hg : w.grownBy w' row) (hB : ∀ b, row = some b → b < base) : Sni w' base G m d l := by
 refine ⟨⟨h.si.le, h.si.max, h.si.nil, h.si.rd.len, h.si.rd.wide, fun h0 => ?_⟩, h.at_⟩
 obtain ⟨b, o, e, hlt, hc⟩ := h.si.rd.at_ h0
 have hge := h.at_ b o _ e
 have hh := hg.block b hlt (by intro e2; have := hB b e2.symm; omega)
 refine ⟨b, o, e, Nat.lt_of_lt_of_le hlt hg.size, fun i hi => ?_⟩
 rw [← hc i hi]
 exact World.cell?_of_block (w := w) hh
theorem Goti.sni {w : World} {base e : Nat} {v : Value} {n : Nat} {l : List Int} (h : Goti w base e v n l) : ∃ A c, v = .slice A n c ∧ Sni w base A n c l := by
 obtain ⟨A, c, ev, hs⟩ := h.si
 subst ev
 refine ⟨A, c, rfl, hs, fun b o s ea => ?_⟩
 subst ea
 rcases h.row.2 with ⟨h1, _⟩ | ⟨g, cap, cur, h1, hg, _⟩
 ·cases h1
 ·cases h1; exact hg
theorem info_ra : (Tryz.prog.info? 32).map (·.size) = some 3 := by kernel_rfl
theorem ra_struct : ∃ fs, Tryz.prog.underlying 32 = some (.struct fs) := ⟨_, Tryz.underlying32⟩
section
variable {W : World} {B : Nat} {t : TypeId} {cs : List Value}
def ra_put := @g_put
def ra_grown := @g_grown
def ra_gset := @g_gset
def ra_load := @g_load 32 3 ra_struct info_ra
theorem ra_store {ops : Array Oper} {rest : List Oper} {o : Oper} {a : Act} {Q : Exit → Act → World → Prop} (hgd : o.guard = none) (x y : Operand) (ho : o.op = .store 32 x y) (hx : a.eval x = .pointer (some ⟨B, 0, none⟩))
  (vs : List Value) (hy : a.eval y = .agg vs.toArray) (h : Bx W B t cs) (hl : cs.length = 3) (hv : vs.length = 3) (h1 : vs.all (·.oneCell') = true) (k : wpList Tryz.prog ops Q rest (a.put o.dst undef) (W.setRow B vs.toArray)) : wpList Tryz.prog ops Q (o :: rest) a W :=
 wpList_store_row hgd _ x y ho B vs.toArray hx hy t cs.toArray h (by rw [info_ra]; simp [hv]) (by simp [hl, hv]) (by simpa using h1) k
def ra_var := @g_var 32 3 ra_struct info_ra
variable {fn : Func} {tmps : Array Value} {R : Ending → World → Prop} {v u : Value} {ds : List Deferred} {p q r : Tmp}
def ra_end2 := @g_end2 32 3 ra_struct info_ra
def ra_end3 := @g_end3 32 3 ra_struct info_ra
end
def rawinB (n lo hi : Int) : Bool := decide (lo ≤ n) && decide (n ≤ hi)
theorem rawin_iff (n lo hi : Int) : rawinB n lo hi = true ↔ lo ≤ n ∧ n ≤ hi := by unfold rawinB; simp
theorem rawin60 (x : Int) : rawinB x 0 1152921504606846976 = t60 x := by rw [Bool.eq_iff_iff, rawin_iff, t60_iff]
theorem rawithin_any (n lo hi : Int) (w : World) :
  Calls Tryz.prog 102 #[n, lo, hi] w fun e w' => e = .returned (.bool (rawinB n lo hi)) ∧ w = w' := by
 by_cases h1 : lo ≤ n
 ·have e1 : rawinB n lo hi = decide (n ≤ hi) := by unfold rawinB; rw [Zt h1]; rfl
  rw [e1]
  clear e1
  have d1 : decide (lo ≤ n) = true := Zt h1
  go_enter Tryz.func102, Tryz.ntmps102
  go_wp2
  go_ret
  exact ⟨rfl, rfl⟩
 ·have e1 : rawinB n lo hi = false := by unfold rawinB; rw [Zf h1]; rfl
  rw [e1]
  clear e1
  have d1 : decide (lo ≤ n) = false := Zf h1
  go_enter Tryz.func102, Tryz.ntmps102
  go_wp2
  go_ret
  exact ⟨rfl, rfl⟩
theorem rawithin60 (x : Int) (w : World) :
  Calls Tryz.prog 102 #[x, .int .i64 0, .int .i64 1152921504606846976] w fun e w' => e = .returned (.bool (t60 x)) ∧ w = w' := by
 rw [← rawin60]; exact rawithin_any _ _ _ _
def measB (l : List Int) : Bool := decide (l.length ≤ 10) && allB l
theorem meas_any (A : Option Addr) (n c : Nat) (l : List Int) (w : World) (hs : Si w A n c l) :
  Calls Tryz.prog 103 #[.slice A n c] w fun e w' => e = .returned (.bool (measB l)) ∧ w = w' := by
 have hl := hs.rd.len
 have m1 := hs.le
 have m2 := hs.max
 unfold maxLen at m2
 by_cases c2 : 10 < n
 ·have hF : measB l = false := by unfold measB; rw [hl, Zf (by omega)]; rfl
  rw [hF]
  clear hF
  have d2 : decide (10 < n) = true := Zt c2
  go_enter Tryz.func103, Tryz.ntmps103
  go_wp2
  go_ret
  exact ⟨rfl, rfl⟩
 have d2 : decide (10 < n) = false := Zf c2
 have hn : n ≤ 10 := by omega
 have hmay : measB l = allB l := by unfold measB; rw [hl, Zt hn]; rfl
 obtain ⟨q, hq⟩ : ∃ q, allB l = q := ⟨_, rfl⟩
 rw [hmay, hq]
 have HQ := Zh hq; clear hq hmay
 have HL := Zh hl
 have HS := Zh hs
 clear hl hs m1 m2 c2
 go_enter Tryz.func103, Tryz.ntmps103
 go_wp2_with fail
 go_loopw [10] (fun i wr => ∃ k : Nat, k ≤ n ∧ i = .int .i64 (k : Int) ∧ Hid (AllB l k) ∧ w = wr) (fun i _ => n - (intOf i).toNat)
 case atStart => exact ⟨0, Nat.zero_le _, rfl, (fun i hi => absurd hi (by omega)), rfl⟩
 case round =>
  obtain ⟨k, hk, rfl, hok, rfl⟩ := hrel
  by_cases hlt : k < n
  ·have dlt : decide (k < n) = true := Zt hlt
   obtain ⟨b, o, hA, hbl, hc⟩ := HS.out.rd.at_ (by omega)
   subst hA
   have y1 := hc k hlt
   obtain ⟨p, hp⟩ : ∃ p, it l k = p := ⟨_, rfl⟩
   rw [hp] at y1
   have HP := Zh hp
   clear hc hp
   cases ht : t60 p with
   | true =>
    have hall := all_snoc hok.out (by rw [HP.out]; exact ht)
    have HA := Zh hall; clear hall
    go_wp2_with (go_at_call 102; refine (rawithin60 _ _).mono ?_; rintro e wx ⟨rfl, rfl⟩)
    go_roundw
    case rel => exact ⟨k + 1, by omega, by go_num, HA, by first | rfl | trivial⟩
    case measure => simp [intOf]; omega
   | false =>
    have hF : q = false := by
     rw [← HQ.out]
     refine Bool.eq_false_iff.2 (fun h => ?_)
     have h1 := (allB_iff l).1 h k (by rw [HL.out]; exact hlt)
     rw [HP.out, ht] at h1; cases h1
    subst hF
    go_wp2_with (go_at_call 102; refine (rawithin60 _ _).mono ?_; rintro e wx ⟨rfl, rfl⟩)
    go_ret
    exact ⟨rfl, rfl⟩
  ·obtain rfl : k = n := by omega
   have dlt : decide (k < k) = false := Zf (by omega)
   have hT : q = true := by rw [← HQ.out, allB_iff, HL.out]; exact hok.out
   subst hT
   go_wp2_with fail
   go_ret
   exact ⟨rfl, rfl⟩
theorem ratmay_any (total last : Int) (A : Option Addr) (n c : Nat) (l : List Int) (w : World) (hs : Si w A n c l) : Calls Tryz.prog 43 #[.agg #[total, last, .slice A n c]] w fun e w' => e = .returned (.bool (ramay ⟨total, last, l⟩)) ∧ Below w.heap.size w w' := by
 obtain ⟨B, hB⟩ : ∃ B, w.heap.size = B := ⟨_, rfl⟩
 rw [hB]
 have e0 := Bx.new w 32 [total, last, .slice A n c]
 rw [hB] at e0
 have b0 : Below B w (w.alloc (.cells #[total, last, .slice A n c] 32)) := by rw [← hB]; exact (Zb).alloc Zr _
 have s0 := hs.alloc (.cells #[total, last, .slice A n c] 32)
 have hm : ramay ⟨total, last, l⟩ = (t60 total && (t60 last && measB l)) := by
  unfold ramay measB
  dsimp only
  cases allB l <;> cases t60 total <;> cases t60 last <;> simp
 rw [hm]
 clear hm
 have x0 := e0.cell 0 rfl; have x1 := e0.cell 1 rfl; have x2 := e0.cell 2 rfl
 have rr := meas_any A n c l _ s0
 cases h1 : t60 total with
 | false =>
  rw [Bool.false_and]
  go_enter Tryz.func43, Tryz.ntmps43
  go_wp2_with (go_at_call 102; refine (rawithin60 _ _).mono ?_; rintro e wx ⟨rfl, rfl⟩)
  go_ret
  exact ⟨rfl, b0⟩
 | true =>
  rw [Bool.true_and]
  cases h2 : t60 last with
  | false =>
   rw [Bool.false_and]
   go_enter Tryz.func43, Tryz.ntmps43
   go_wp2_with (go_at_call 102; refine (rawithin60 _ _).mono ?_; rintro e wx ⟨rfl, rfl⟩)
   go_ret
   exact ⟨rfl, b0⟩
  | true =>
   rw [Bool.true_and]
   go_enter Tryz.func43, Tryz.ntmps43
   go_wp2_with (first | (go_at_call 102; refine (rawithin60 _ _).mono ?_; rintro e wx ⟨rfl, rfl⟩) | (go_at_call 103; refine rr.mono ?_; rintro e wx ⟨rfl, rfl⟩))
   go_ret
   exact ⟨rfl, b0⟩
theorem raclone_any (A : Option Addr) (n c : Nat) (l : List Int) (w : World) (hr : Si w A n c l) (hn : n ≤ 1000000) :
  Calls Tryz.prog 114 #[.slice A n c] w fun e w' => ∃ R d, e = .returned (.slice R n d) ∧ Goti w' w.heap.size 3 (.slice R n d) n l ∧ Below w.heap.size w w' := by
 have qn := fun (w : World) (a : Option Addr) (n c n' c' : Nat) => Lib.run_eql_slice_nil (P := Tryz.prog) w _ _ a n c n' c' Tryz.underlying30
 cases A with
 | none =>
  have hc := hr.nil rfl
  have hle := hr.le
  obtain rfl : n = 0 := by omega
  have hz := hr.rd.len
  obtain rfl : l = [] := List.eq_nil_of_length_eq_zero hz
  clear hc hle hz
  go_enter Tryz.func114, Tryz.ntmps114
  go_wp2
  go_ret
  exact ⟨none, 0, rfl, Goti.nil _ _ _, Below.refl _ _⟩
 | some a =>
  have hmade : (w.alloc (.cells #[] 3)).ownsRow w.heap.size 3 1 (.slice (some ⟨w.heap.size, 0, none⟩) 0 0) 0 (([] : List Int).map (Value.int .i64)) := World.ownsRow_made w #[] 0 Zr (Nat.zero_le _) rfl
  go_enter Tryz.func114, Tryz.ntmps114
  go_wp2_with (at_builtin; refine wpList_appi _ rfl (.tmp 5) (.tmp 6) 30 rfl w.heap.size 3 Tryz.underlying30 info_int _ 0 [] rfl ⟨hmade, fun p hp => by simp at hp⟩ rfl hr.nil (hr.rd.keep ((Zb).alloc Zr _)) (by omega) (by simp) ?_; intro v1 w1 hown1 hgrow1 hat1)
  have b1 : Below w.heap.size w w1 := ((Zb).alloc Zr _).grown hgrow1 (by simp) (fun k hk => (hmade.lt k hk).1)
  simp only [Nat.zero_add, List.nil_append] at hown1
  obtain ⟨R, d, ev, hsl⟩ := hown1.si
  subst ev
  go_wp2
  go_ret
  exact ⟨R, d, rfl, hown1, b1⟩
theorem gin_any (x : Int) (w : World) : Calls Tryz.prog 104 #[x] w fun e w' => e = .returned (.bool (d18 x)) ∧ w = w' := by
 by_cases h1 : 0 ≤ x
 ·have e1 : d18 x = decide (x ≤ 262144) := by unfold d18; rw [Bool.eq_iff_iff]; simp [h1]
  rw [e1]
  clear e1
  have d1 : decide (0 ≤ x) = true := Zt h1
  go_enter Tryz.func104, Tryz.ntmps104
  go_wp2
  go_ret
  exact ⟨rfl, rfl⟩
 ·have e1 : d18 x = false := by unfold d18; rw [Zf (fun h => h1 h.1)]
  rw [e1]
  clear e1
  have d1 : decide (0 ≤ x) = false := Zf h1
  go_enter Tryz.func104, Tryz.ntmps104
  go_wp2
  go_ret
  exact ⟨rfl, rfl⟩
theorem gmay_same (A : Option Addr) (n c : Nat) (l : List Int) (w : World) (hs : Si w A n c l) : Calls Tryz.prog 44 #[.slice A n c] w fun e w' => e = .returned (.bool (mayG l)) ∧ w = w' := by
 have hl := hs.rd.len
 have m1 := hs.le
 have m2 := hs.max
 unfold maxLen at m2
 by_cases c2 : 16 < n
 ·have hF : mayG l = false := by unfold mayG; rw [hl, Zf (by omega), Bool.and_false]
  rw [hF]
  clear hF
  have d2 : decide (16 < n) = true := Zt c2
  go_enter Tryz.func44, Tryz.ntmps44
  go_wp2
  go_ret
  exact ⟨rfl, rfl⟩
 have d2 : decide (16 < n) = false := Zf c2
 have hn : n ≤ 16 := by omega
 have hmay : mayG l = allD l := by unfold mayG; rw [hl, Zt hn, Bool.and_true]
 obtain ⟨q, hq⟩ : ∃ q, allD l = q := ⟨_, rfl⟩
 rw [hmay, hq]
 have HQ := Zh hq; clear hq hmay
 have HL := Zh hl
 have HS := Zh hs
 clear hl hs m1 m2 c2
 go_enter Tryz.func44, Tryz.ntmps44
 go_wp2_with fail
 go_loopw [10] (fun i wr => ∃ k : Nat, k ≤ n ∧ i = .int .i64 (k : Int) ∧ Hid (AllD l k) ∧ w = wr) (fun i _ => n - (intOf i).toNat)
 case atStart => exact ⟨0, Nat.zero_le _, rfl, (fun i hi => absurd hi (by omega)), rfl⟩
 case round =>
  obtain ⟨k, hk, rfl, hok, rfl⟩ := hrel
  by_cases hlt : k < n
  ·have dlt : decide (k < n) = true := Zt hlt
   obtain ⟨b, o, hA, hbl, hc⟩ := HS.out.rd.at_ (by omega)
   subst hA
   have y1 := hc k hlt
   obtain ⟨p, hp⟩ : ∃ p, it l k = p := ⟨_, rfl⟩
   rw [hp] at y1
   have HP := Zh hp
   clear hc hp
   cases ht : d18 p with
   | true =>
    have hall := alld_snoc hok.out (by rw [HP.out]; exact ht)
    have HA := Zh hall; clear hall
    go_wp2_with (go_at_call 104; refine (gin_any _ _).mono ?_; rintro e wx ⟨rfl, rfl⟩)
    go_roundw
    case rel => exact ⟨k + 1, by omega, by go_num, HA, by first | rfl | trivial⟩
    case measure => simp [intOf]; omega
   | false =>
    have hF : q = false := by
     rw [← HQ.out]
     refine Bool.eq_false_iff.2 (fun h => ?_)
     have h1 := (allD_iff l).1 h k (by rw [HL.out]; exact hlt)
     rw [HP.out, ht] at h1; cases h1
    subst hF
    go_wp2_with (go_at_call 104; refine (gin_any _ _).mono ?_; rintro e wx ⟨rfl, rfl⟩)
    go_ret
    exact ⟨rfl, rfl⟩
  ·obtain rfl : k = n := by omega
   have dlt : decide (k < k) = false := Zf (by omega)
   have hT : q = true := by rw [← HQ.out, allD_iff, HL.out]; exact hok.out
   subst hT
   go_wp2_with fail
   go_ret
   exact ⟨rfl, rfl⟩
theorem ggmay_any (A : Option Addr) (n c : Nat) (l : List Int) (w : World) (hs : Si w A n c l) : Calls Tryz.prog 44 #[.slice A n c] w fun e w' => e = .returned (.bool (mayG l)) ∧ Below w.heap.size w w' :=
 (gmay_same A n c l w hs).mono fun _ _ h => ⟨h.1, h.2 ▸ Below.refl _ _⟩
theorem ggadd_own (A : Option Addr) (n c : Nat) (l : List Int) (d : Int) (w : World) (hs : Si w A n c l) : Calls Tryz.prog 174 #[.slice A n c, d] w fun e w' => ∃ R m f, e = .returned (.tuple #[.slice R m f, .int .i64 (addG l d).2]) ∧ Sni w' w.heap.size R m f (addG l d).1 ∧ Below w.heap.size w w' := by
 obtain ⟨B, hB⟩ : ∃ B, w.heap.size = B := ⟨_, rfl⟩
 rw [hB]
 have HB := Zh hB
 have hl := hs.rd.len
 have m1 := hs.le; have m2 := hs.max
 unfold maxLen at m2
 obtain ⟨i0, hi, hz0, hz1, hz2⟩ := info_parts info_int
 obtain ⟨x, hx⟩ : ∃ x, addG l d = x := ⟨_, rfl⟩
 rw [hx]
 have HX := Zh hx; have HL := Zh hl; have HS := Zh hs; have HN := Zh hs.nil
 clear hx hl hs hB
 cases hk : mayG l with
 | false =>
  have hx := HX.out
  rw [add_no (fun h => by have h1 := h.1; rw [hk] at h1; cases h1)] at hx
  subst hx
  clear HX
  go_enter Tryz.func174, Tryz.ntmps174
  go_wp2_with (first | (go_at_call 44; refine (gmay_same A n c l _ HS.out).mono ?_; rintro e wy ⟨rfl, rfl⟩) | (go_at_call 104; refine (gin_any _ _).mono ?_; rintro e wx ⟨rfl, rfl⟩))
  go_ret2
  exact ⟨none, 0, 0, rfl, Sni.none _ _, Below.refl _ _⟩
 | true =>
 cases hd : d18 d with
 | false =>
  have hx := HX.out
  rw [add_no (fun h => by have h1 := (d18_iff d).2 h.2; rw [hd] at h1; cases h1)] at hx
  subst hx
  clear HX
  go_enter Tryz.func174, Tryz.ntmps174
  go_wp2_with (first | (go_at_call 44; refine (gmay_same A n c l _ HS.out).mono ?_; rintro e wy ⟨rfl, rfl⟩) | (go_at_call 104; refine (gin_any _ _).mono ?_; rintro e wx ⟨rfl, rfl⟩))
  go_ret2
  exact ⟨none, 0, 0, rfl, Sni.none _ _, Below.refl _ _⟩
 | true =>
 have hd' := (d18_iff d).1 hd
 have hok : AddOk l d := ⟨hk, hd'⟩
 have hx := HX.out
 rw [add_ok hok] at hx
 subst hx
 have hn : n ≤ 16 := by have := ((mayG_iff l).1 hk).2; rw [HL.out] at this; exact this
 have WD : Hid (W64 d) := Zh (by unfold W64; omega)
 have HZ := Zh hd'
 clear HX hok m1 m2 hd'
 have hBs : B ≤ w.heap.size := by have := HB.out; omega
 by_cases h16 : n = 16
 case pos =>
  subst h16
  have hle := HS.out.le
  obtain ⟨d2, rfl⟩ : ∃ d2, c = d2 + 1 := ⟨c - 1, by omega⟩
  have hcut : ∀ w, (Instr.slice 30 (.slice A 16 (d2 + 1)) (some (.int .i64 1)) none none).run Tryz.prog w = .ok (.slice (cutI A 1 (d2 + 1)) 15 d2) w := fun w => run_cutI Tryz.prog 30 3 Tryz.underlying30 info_int A 1 15 d2 w (by omega) (by omega)
  have hs2 := Zh (HS.out.cut (k := 1) (m := 15) (d := d2) rfl rfl)
  have hn2 := Zh hs2.out.nil
  have hp : pushG l d = l.drop 1 ++ [d] := by
   unfold pushG
   rw [if_pos (by rw [HL.out]; omega), List.drop_append_of_le_length (by rw [HL.out]; omega)]
  go_enter Tryz.func174, Tryz.ntmps174
  go_wp2_with (first
   | (go_at_call 44; refine (gmay_same A 16 (d2 + 1) l _ HS.out).mono ?_; rintro e wy ⟨rfl, rfl⟩) | (go_at_call 104; refine (gin_any _ _).mono ?_; rintro e wx ⟨rfl, rfl⟩)
   | (at_make; refine wpList_make_own _ rfl _ _ 30 rfl B 3 i0 (.int .i64 0) 1 Tryz.underlying30 hi hz0 hz1 _ _ _ (15 + 1) rfl rfl (by omega) (by rw [hz2]; omega) (by unfold maxLen; omega) hBs ?_; intro w1 hown1 hgrow1; have hb1 : Below B w w1 := (Zb).grown hgrow1 hBs (fun k hk => by cases hk); have hz1' : B ≤ w1.heap.size := Zn hBs hgrow1.size; have g1 : Goti w1 B 3 (.slice (some ⟨w.heap.size, 0, none⟩) 0 (15 + 1)) 0 [] := ⟨hown1, fun _ hx => by simp at hx⟩; have RL := (hs2.out).rd.keep ((Zb).grown hgrow1 Zr (fun k hk => by cases hk)))
   | (at_builtin; (refine wpList_appi _ rfl (.tmp 24) (.tmp 25) 30 rfl B 3 Tryz.underlying30 info_int _ 0 [] rfl g1 rfl hn2.out RL (by omega) hz1' ?_; intro v1 w2 hg2 hgr2 _; have hb2 : Below B w w2 := hb1.grown hgr2 hz1' (fun k h => by have := (g1.row.lt k h).1; omega); have hz2' : B ≤ w2.heap.size := Zn hz1' hgr2.size; have g2 : Goti w2 B 3 v1 15 (l.drop 1) := by simpa using hg2))
   | (at_builtin; (refine wpList_appi _ rfl (.tmp 26) (.tmp 28) 30 rfl B 3 Tryz.underlying30 info_int _ _ _ rfl (g2.alloc (.cells #[d] 3)) rfl (fun h => by cases h) (ri_one w2 WD.out 3) (by omega) (by simp; omega) ?_; intro v2 w3 hg3 hgr3 _)))
  have b3 : Below B w w3 := (hb2.alloc hz2' (.cells #[d] 3)).grown hgr3 (by simp; omega) (fun k h => by have := (g2.row.lt k h).1; omega)
  obtain ⟨R, c2, hv, hsn⟩ := hg3.sni
  subst hv
  go_ret2
  exact ⟨R, 15 + 1, c2, rfl, by rw [hp]; exact hsn, b3⟩
 case neg =>
  have d16 : decide (n = 16) = false := Zf h16
  have d16' : decide ((n : Int) = 16) = false := Zf (by omega)
  have d16'' : (n == 16) = false := by simp; omega
  have hp : pushG l d = l ++ [d] := by
   unfold pushG
   rw [if_neg (by rw [HL.out]; omega)]
  go_enter Tryz.func174, Tryz.ntmps174
  go_wp2_with (first
   | (go_at_call 44; refine (gmay_same A n c l _ HS.out).mono ?_; rintro e wy ⟨rfl, rfl⟩) | (go_at_call 104; refine (gin_any _ _).mono ?_; rintro e wx ⟨rfl, rfl⟩)
   | (at_make; refine wpList_make_own _ rfl _ _ 30 rfl B 3 i0 (.int .i64 0) 1 Tryz.underlying30 hi hz0 hz1 _ _ _ (n + 1) rfl rfl (by omega) (by rw [hz2]; omega) (by unfold maxLen; omega) hBs ?_; intro w1 hown1 hgrow1; have hb1 : Below B w w1 := (Zb).grown hgrow1 hBs (fun k hk => by cases hk); have hz1' : B ≤ w1.heap.size := Zn hBs hgrow1.size; have g1 : Goti w1 B 3 (.slice (some ⟨w.heap.size, 0, none⟩) 0 (n + 1)) 0 [] := ⟨hown1, fun _ hx => by simp at hx⟩; have RL := (HS.out).rd.keep ((Zb).grown hgrow1 Zr (fun k hk => by cases hk)))
   | (at_builtin; (refine wpList_appi _ rfl (.tmp 24) (.tmp 25) 30 rfl B 3 Tryz.underlying30 info_int _ 0 [] rfl g1 rfl HN.out RL (by omega) hz1' ?_; intro v1 w2 hg2 hgr2 _; have hb2 : Below B w w2 := hb1.grown hgr2 hz1' (fun k h => by have := (g1.row.lt k h).1; omega); have hz2' : B ≤ w2.heap.size := Zn hz1' hgr2.size; have g2 : Goti w2 B 3 v1 n l := by simpa using hg2))
   | (at_builtin; (refine wpList_appi _ rfl (.tmp 26) (.tmp 28) 30 rfl B 3 Tryz.underlying30 info_int _ _ _ rfl (g2.alloc (.cells #[d] 3)) rfl (fun h => by cases h) (ri_one w2 WD.out 3) (by omega) (by simp; omega) ?_; intro v2 w3 hg3 hgr3 _)))
  have b3 : Below B w w3 := (hb2.alloc hz2' (.cells #[d] 3)).grown hgr3 (by simp; omega) (fun k h => by have := (g2.row.lt k h).1; omega)
  obtain ⟨R, c2, hv, hsn⟩ := hg3.sni
  subst hv
  go_ret2
  exact ⟨R, n + 1, c2, rfl, by rw [hp]; exact hsn, b3⟩
theorem info_rk : (Tryz.prog.info? 34).map (·.size) = some 6 := by kernel_rfl
theorem rk_struct : ∃ fs, Tryz.prog.underlying 34 = some (.struct fs) := ⟨_, Tryz.underlying34⟩
section
variable {W : World} {B : Nat} {t : TypeId} {cs : List Value}
def rk_put := @g_put
def rk_grown := @g_grown
def rk_load := @g_load 34 6 rk_struct info_rk
theorem rk_store {ops : Array Oper} {rest : List Oper} {o : Oper} {a : Act} {Q : Exit → Act → World → Prop} (hgd : o.guard = none) (x y : Operand) (ho : o.op = .store 34 x y) (hx : a.eval x = .pointer (some ⟨B, 0, none⟩))
  (vs : List Value) (hy : a.eval y = .agg vs.toArray) (h : Bx W B t cs) (hl : cs.length = 6) (hv : vs.length = 6) (h1 : vs.all (·.oneCell') = true) (k : wpList Tryz.prog ops Q rest (a.put o.dst undef) (W.setRow B vs.toArray)) : wpList Tryz.prog ops Q (o :: rest) a W :=
 wpList_store_row hgd _ x y ho B vs.toArray hx hy t cs.toArray h (by rw [info_rk]; simp [hv]) (by simp [hl, hv]) (by simpa using h1) k
def rk_var := @g_var 34 6 rk_struct info_rk
variable {fn : Func} {tmps : Array Value} {R : Ending → World → Prop} {v u : Value} {ds : List Deferred} {p q r : Tmp}
def rk_end2 := @g_end2 34 6 rk_struct info_rk
end
def TellK (w w' : World) (e : Ending) (y : Rkv × Int) : Prop := e = .returned (.tuple #[.agg #[y.1.at_, y.1.end_, y.1.took, y.1.far, y.1.mixed, y.1.quarters], y.2]) ∧ Below w.heap.size w w'
theorem rkcame_no {v : Rkv} {x : Prt} {a b : Int} (h : ¬ RkCameOk v x a b) : rkcameR v x a b = (zrk, 1) := if_neg h
theorem rkcame_ok {v : Rkv} {x : Prt} {a b : Int} (h : RkCameOk v x a b) : rkcameR v x a b = (newR v x a b, 0) := if_pos h
theorem new_soon {v : Rkv} {x : Prt} {a b : Int} (h : soonR x a b = true) : newR v x a b = ⟨v.at_, v.end_, v.took, farR v x, mixR v x, v.quarters⟩ := if_pos h
theorem new_new {v : Rkv} {x : Prt} {a b : Int} (h : soonR x a b = false) (k : aheadB v.at_ v.end_ x.at_ (endP x) = true) : newR v x a b = ⟨x.at_, endP x, a - x.at_, farR v x, mixR v x, v.quarters⟩ := by unfold newR; rw [if_neg (by rw [h]; simp), if_pos k]
theorem new_old {v : Rkv} {x : Prt} {a b : Int} (h : soonR x a b = false) (k : aheadB v.at_ v.end_ x.at_ (endP x) = false) : newR v x a b = ⟨v.at_, v.end_, v.took, farR v x, mixR v x, v.quarters⟩ := by unfold newR; rw [if_neg (by rw [h]; simp), if_neg (by rw [k]; simp)]
theorem far_yes {v : Rkv} {x : Prt} (h : v.far < endP x) : farR v x = endP x := if_pos h
theorem far_no {v : Rkv} {x : Prt} (h : ¬ v.far < endP x) : farR v x = v.far := if_neg h
theorem mix_yes {v : Rkv} {x : Prt} (h : x.tries = 1 ∧ endP x < v.far) : mixR v x = true := if_pos h
theorem mix_no {v : Rkv} {x : Prt} (h : ¬ (x.tries = 1 ∧ endP x < v.far)) : mixR v x = v.mixed := if_neg h
end Go.Proofs.YtbijhkhkigdddaaGreat
