/- FlG LeL4 LeL5 LeL. -/
import Derived.Test.YtbijhkhkigdddaaGreatP13
import Derived.OwnWalk
import Derived.Scope
set_option linter.all false
set_option maxRecDepth 100000
set_option maxHeartbeats 32000000
namespace Go.Proofs.YtbijhkhkigdddaaGreat
open Go.RowKit
structure Xb (n₀ : Nat) (l : List Nat) (W : World) (X S H : Nat) (s : Fs) (f : Fv) (c : Cf) (e : Int) (A : Option Addr) (n k : Nat) (t : Tv) (G : Option Addr) (m d : Nat) (told : List Prt) (bs mk : Int) : Prop where
 hg : Hg n₀ (X :: l) W S H s f c e A n k t G m d told bs mk
 ne : In1 (fun b => b ≠ X) G m
 x0 : n₀ ≤ X
 xl : X ∉ l
section
variable {n₀ S H X : Nat} {l : List Nat} {W W' : World} {s : Fs} {f : Fv} {c : Cf} {e : Int} {A : Option Addr} {n k : Nat} {t : Tv} {G : Option Addr} {m d : Nat} {told : List Prt} {bs mk : Int}
theorem Xb.call (h : Xb n₀ l W X S H s f c e A n k t G m d told bs mk) (hb : Below W.heap.size W W') : Xb n₀ l W' X S H s f c e A n k t G m d told bs mk := ⟨h.hg.call hb, h.ne, h.x0, h.xl⟩
theorem Xb.new (h : Hg n₀ l W S H s f c e A n k t G m d told bs mk) (o : Obj) : Xb n₀ l (W.alloc o) W.heap.size S H s f c e A n k t G m d told bs mk := by
 refine ⟨h.more Zr ((Zb).alloc Zr _) (by simp), fun h0 b o q e hb => ?_, h.st.size, fun hx => ?_⟩
 ·obtain ⟨b', o', e', hl, _⟩ := h.fr.rd.at_ h0
  rw [e] at e'; cases e'
  omega
 ·have := h.old _ hx; omega
theorem Xb.put (h : Xb n₀ l W X S H s f c e A n k t G m d told bs mk) (vs : List Value) (o : Nat) : Hg n₀ l (W.setCells X o vs) S H s f c e A n k t G m d told bs mk ∧ Fr n₀ l W (W.setCells X o vs) :=
 ⟨(h.hg.other (List.mem_cons_self ..) (grown_cells vs o W) h.ne).less, Fr.grown (grown_cells vs o W) h.hg.st.size h.x0 h.xl (fun b hb => h.hg.old b (List.mem_cons_of_mem _ hb))⟩
end
theorem si_ne {w : World} {A : Option Addr} {n c : Nat} {l : List Int} (h : Si w A n c l) {D : Nat} (hD : w.heap.size ≤ D) : In1 (fun b => b ≠ D) A n := fun h0 b o q e hb => by
 obtain ⟨b', o', e', hl, _⟩ := h.rd.at_ h0
 rw [e] at e'; cases e'
 omega
theorem ss_ne {w : World} {A : Option Addr} {n c : Nat} {l : List Sp} (h : Ss w A n c l) {D : Nat} (hD : w.heap.size ≤ D) : In1 (fun b => b ≠ D) A n := fun h0 b o q e hb => by
 obtain ⟨b', o', e', hl, _⟩ := h.rd.at_ h0
 rw [e] at e'; cases e'
 omega
theorem St.newp {n₀ S : Nat} {l : List Nat} {W : World} {s : Fs} {f : Fv} {c : Cf} {now e : Int} (h : St n₀ l W S s f c now e) : ∀ b, W.heap.size ≤ b → Nw n₀ (S :: l) b := fun b hb => ⟨Zn h.size hb, fun hx => by
 rcases List.mem_cons.1 hx with hx | hx
 ·have := h.bx.lt; omega
 ·have := h.old b hx; omega⟩
theorem nw_x {n₀ X S H : Nat} {l : List Nat} {A : Option Addr} {n : Nat} (h : In1 (Nw n₀ (S :: H :: X :: l)) A n) : In1 (Nw n₀ (S :: H :: l)) A n ∧ In1 (fun b => b ≠ X) A n :=
 ⟨h.imp (fun b hb => ⟨hb.1, fun hx => hb.2 (by simp only [List.mem_cons] at hx ⊢; rcases hx with hx | hx | hx <;> simp [hx])⟩), h.imp (fun b hb e => hb.2 (by simp [e]))⟩
theorem Hg.frange {n₀ S H : Nat} {l : List Nat} {W : World} {s : Fs} {f : Fv} {c : Cf} {e : Int} {A : Option Addr} {n k : Nat} {t : Tv} {m d : Nat} {told : List Prt} {bs mk : Int} {bb oo i : Nat} (h : Hg n₀ l W S H s f c e A n k t (some ⟨bb, oo, none⟩) m d told bs mk) (hi : i < m) : W.rangeAt bb (oo + i * 9) (El.cells (ge told i)) := fun j u hu => by
 obtain ⟨b, o, e', _, hc⟩ := h.fr.rd.at_ (by omega)
 cases e'
 exact hc i hi j u hu
def Bad (n₀ : Nat) (l : List Nat) (w w' : World) (S H : Nat) (z : Int) : Prop := (∃ s f c A n k t G m d told bs mk, Hg n₀ l w' S H s f c z A n k t G m d told bs mk) ∧ Fr n₀ l w w'
theorem Hg.bad {n₀ S H : Nat} {l : List Nat} {w W : World} {s : Fs} {f : Fv} {c : Cf} {e : Int} {A : Option Addr} {n k : Nat} {t : Tv} {G : Option Addr} {m d : Nat} {told : List Prt} {bs mk : Int} (h : Hg n₀ l W S H s f c e A n k t G m d told bs mk) (hf : Fr n₀ l w W) : Bad n₀ l w W S H e := ⟨⟨_, _, _, _, _, _, _, _, _, _, _, _, _, h⟩, hf⟩
theorem Hg.mk0 {n₀ S : Nat} {W : World} {s : Fs} {f : Fv} {c : Cf} {t : Tv} (h : St n₀ [] W S s f c t.now 0) (A : Option Addr) (n k : Nat) : Hg n₀ [] (W.alloc (.cells (hcs S A n k t none 0 0 0 0).toArray 110)) S W.heap.size s f c 0 A n k t none 0 0 [] 0 0 :=
 ⟨h.more Zr ((Zb).alloc Zr _) (by simp), Bx.new W 110 (hcs S A n k t none 0 0 0 0), h.size, by simp, Se.none _, In1.zero _ _⟩
end Go.Proofs.YtbijhkhkigdddaaGreat
namespace Go.Proofs.YtbijhkhkigdddaaGreat
open Go.RowKit Go.Shelf
theorem highs_any (span : Int) (A : Option Addr) (n c : Nat) (high : Int) (l : List Sp) (at_ nn : Int) (w : World) (hs : Ss w A n c l) (hok : Lok ⟨span, l, high⟩) :
  Calls Tryz.prog 204 #[.agg #[span, .slice A n c, high], at_, nn] w fun e w' => e = .returned (.int .i64 (highR ⟨span, l, high⟩ at_ nn)) ∧ Below w.heap.size w w' := by
 obtain ⟨B, hB⟩ : ∃ B, w.heap.size = B := ⟨_, rfl⟩
 rw [hB]
 have e0 := Bx.new w 27 [span, .slice A n c, high]
 rw [hB] at e0
 have b0 : Below B w (w.alloc (.cells #[span, .slice A n c, high] 27)) := by rw [← hB]; exact (Zb).alloc Zr _
 have hs0 := hs.alloc (.cells #[span, .slice A n c, high] 27)
 have hof := leof_any span A n c high l at_ _ hs0
 have hbd := of_bd hok at_
 have h0 := hok.h0; have h7 := hok.h1
 dsimp only at h0 h7
 have hhi : highR ⟨span, l, high⟩ at_ nn = if ((ofR ⟨span, l, high⟩ at_).2 && decide (2 * (ofR ⟨span, l, high⟩ at_).1 < nn)) = true then high + 1 else 0 := rfl
 rw [hhi]
 clear hhi hok
 obtain ⟨x, hx⟩ : ∃ x, ofR ⟨span, l, high⟩ at_ = x := ⟨_, rfl⟩
 rw [hx] at hof hbd ⊢
 clear hx hs hs0
 obtain ⟨om, ob⟩ := x
 dsimp only at hof hbd ⊢
 obtain ⟨om0, om1⟩ := hbd
 obtain ⟨q, hq⟩ : ∃ q, (if (ob && decide (2 * om < nn)) = true then high + 1 else 0) = q := ⟨_, rfl⟩
 rw [hq]
 have HQ := Zh hq
 clear hq
 go_enter Tryz.func204, Tryz.ntmps204
 go_upto_region 1 with fail
 generalize w.alloc (.cells #[span, .slice A n c, high] 27) = w1 at e0 b0 hof ⊢
 go_wp2_with (refine le_load rfl (.tmp 3) rfl rfl e0 rfl ?_)
 refine hof.mono ?_
 rintro e w2 ⟨rfl, hb2⟩
 have e2 := e0.kept hb2
 have b2 := b0.trans (hb2.mono (Zl e0.lt))
 have x2 := e2.cell 2 rfl
 clear e0 b0 hb2 hof
 cases ob with
 | false =>
  have hq := HQ.out
  rw [Bool.false_and, if_neg (by simp)] at hq
  subst hq
  clear HQ
  go_wp2_with fail
  go_ret
  exact ⟨rfl, b2⟩
 | true =>
 by_cases cf : 2 * om < nn
 ·have df : decide (2 * om < nn) = true := Zt cf
  have hq := HQ.out
  rw [df, Bool.and_self, if_pos rfl] at hq
  subst hq
  clear HQ
  go_wp2_with fail
  go_ret
  exact ⟨rfl, b2⟩
 ·have df : decide (2 * om < nn) = false := Zf cf
  have hq := HQ.out
  rw [df, Bool.and_false, if_neg (by simp)] at hq
  subst hq
  clear HQ cf
  go_wp2_with fail
  go_ret
  exact ⟨rfl, b2⟩
open Go.RowKit Go.Shelf
attribute [local go_sem] Oper.semAt_some
theorem Bx.not_row {W : World} {B : Nat} {t e : TypeId} {cs : List Value} (h : Bx W B t cs) (hte : t ≠ e) {base size k : Nat} {v : Value} {xs : List Value} (hr : W.ownsRow base e size v k xs) : some B ≠ v.ownBlock := by
  rcases hr.2 with ⟨rfl, _⟩ | ⟨g, cap, cur, rfl, _, hgb, _⟩
  · simp [Value.ownBlock]
  · intro e'
    obtain rfl : B = g := by simpa [Value.ownBlock] using e'
    have := (show W.heap[B]? = _ from h).symm.trans hgb
    simp at this
    exact hte this.2
theorem left_all {span at_ nn high : Int} {l : List Sp} (h : ∀ p ∈ l.filter (cnt span at_), p.2 < nn) : leftR ⟨span, l, high⟩ at_ nn = l.filter (cnt span at_) := by
  unfold leftR
  refine List.filter_congr (fun p hp => ?_)
  dsimp only
  unfold stay
  cases hc : cnt span at_ p with
  | false => rfl
  | true => rw [Bool.true_and, Zt (h p (List.mem_filter.2 ⟨hp, hc⟩))]
theorem left_filter (span at_ nn high : Int) (l : List Sp) : leftR ⟨span, l, high⟩ at_ nn = (l.filter (cnt span at_)).filter (fun p => decide (p.2 < nn)) := by
  unfold leftR
  rw [List.filter_filter]
  refine List.filter_congr (fun p _ => ?_)
  unfold stay
  rw [Bool.and_comm]
theorem left_cut {span at_ nn high : Int} {l ini rest : List Sp} {x : Sp} (hpw : l.Pairwise Rel) (hk : l.filter (cnt span at_) = (ini ++ [x]) ++ rest) (h : ∀ p ∈ ini, p.2 < nn) (hx : ¬ x.2 < nn) : leftR ⟨span, l, high⟩ at_ nn = ini := by
  have hp2 : ((ini ++ [x]) ++ rest).Pairwise Rel := by rw [← hk]; exact hpw.filter _
  rw [left_filter, hk, List.filter_append, List.filter_append, List.filter_eq_self.2 (fun p hp => Zt (h p hp))]
  have e1 : [x].filter (fun p => decide (p.2 < nn)) = [] := by simp; omega
  have e2 : rest.filter (fun p => decide (p.2 < nn)) = [] := by
    rw [List.filter_eq_nil_iff]
    intro p hp
    have := (List.pairwise_append.1 hp2).2.2 x (by simp) p hp
    have := this.2
    simp; omega
  rw [e1, e2, List.append_nil, List.append_nil]
theorem own_take {l : List Sp} {a n : Int} (h : l.length ≤ 100) : (l ++ [(a, n)]).take (min (l.length + 1) 100) = ownR l a n := by
  unfold ownR
  split
  · rw [show min (l.length + 1) 100 = l.length + 1 by omega, List.take_of_length_le (by simp)]
  · rw [show min (l.length + 1) 100 = l.length by omega, List.take_append_of_le_length Zr, List.take_length]
def AllLt (nn : Int) (l : List Sp) : Prop := ∀ p ∈ l, p.2 < nn
theorem allLt_nil (nn : Int) : AllLt nn [] := fun p hp => by cases hp
theorem allLt_snoc {nn : Int} {l : List Sp} {x : Sp} (h : AllLt nn l) (k : x.2 < nn) : AllLt nn (l ++ [x]) := fun p hp => (List.mem_append.1 hp).elim (h p) (fun e => by rw [List.mem_singleton] at e; subst e; exact k)
def CutPre (nn : Int) (pre ini : List Sp) : Prop := ∃ x, pre = ini ++ [x] ∧ AllLt nn ini ∧ ¬ x.2 < nn
theorem left_cutP {span at_ nn high : Int} {l pre ini rest : List Sp} (hpw : l.Pairwise Rel) (hk : l.filter (cnt span at_) = pre ++ rest) (h : CutPre nn pre ini) : leftR ⟨span, l, high⟩ at_ nn = ini := by
  obtain ⟨x, rfl, h1, h2⟩ := h
  exact left_cut hpw hk h1 h2
theorem cell_pt_new (w : World) (x y : Int) (t : TypeId) : ∀ j u, (vals [(x, y)])[j]? = some u → (w.alloc (.cells #[x, y] t)).cell? ((⟨w.heap.size, 0, none⟩ : Addr).add j) = some u :=
  news_of_rs (n := 1) rfl (fun i hi => by
    obtain rfl : i = 0 := by omega
    have h := Bx.new w t [x, y]
    exact ⟨h.cell 0 rfl, h.cell 1 rfl⟩)
theorem Ss.putDl {w : World} {A : Option Addr} {n c : Nat} {l : List Sp} (h : Ss w A n c l) {D : Nat} {o : Obj} {o' : Obj} (hD : w.heap[D]? = some o) (ho : o.isCells = false) : Ss (w.putObj D o') A n c l :=
  ⟨h.le, h.max, h.nil, h.rd.len, h.rd.wide, fun hn => by
    obtain ⟨b, q, e, hlt, hc⟩ := h.rd.at_ hn
    refine ⟨b, q, e, Nat.lt_of_lt_of_le hlt (grownBy_putObj' w D o').size, fun i hi => ?_⟩
    exact ⟨cell_kept (hc i hi).1 (grownBy_putObj' w D o') (fun r e => by cases e; exact ⟨_, hD, ho⟩), cell_kept (hc i hi).2 (grownBy_putObj' w D o') (fun r e => by cases e; exact ⟨_, hD, ho⟩)⟩⟩
theorem Sn.putDl {w : World} {base : Nat} {A : Option Addr} {n c : Nat} {l : List Sp} (h : Sn w base A n c l) {D : Nat} {o : Obj} {o' : Obj} (hD : w.heap[D]? = some o) (ho : o.isCells = false) : Sn (w.putObj D o') base A n c l := ⟨h.ss.putDl hD ho, h.at_⟩
theorem Sn.head {w : World} {base : Nat} {A : Option Addr} {n k c : Nat} {l : List Sp} (h : Sn w base A n c l) (hk : k ≤ n) : Sn w base A k c (l.take k) := ⟨h.ss.head hk, h.at_⟩
theorem row_own (n₀ B : Nat) (t e : TypeId) : Own (fun (s : List Sp) W => ∃ v, Boxed W B t v ∧ W.ownsRow n₀ e 2 v s.length (vals s)) := by
  have := holdsRow_own n₀ B t e 2 (fun (s : List Sp) => s.length) (fun s => vals s) (fun _ _ => True)
  intro s X Y row hs hg hr
  obtain ⟨v, h1, h2⟩ := hs
  obtain ⟨v', h1', h2', _⟩ := this s X Y row ⟨v, h1, h2, trivial⟩ hg hr
  exact ⟨v', h1', h2'⟩
theorem joined_any (span : Int) (A : Option Addr) (n c : Nat) (high : Int) (l : List Sp) (at_ nn : Int) (w : World) (hs : Ss w A n c l) (hok : Lok ⟨span, l, high⟩) (ha0 : 0 ≤ at_) (ha1 : at_ ≤ 1152921504606846976) (hn0 : 0 ≤ nn) (hn1 : nn ≤ 1152921504606846976) :
    Calls Tryz.prog 205 #[.agg #[span, .slice A n c, high], at_, nn] w fun e w' => ∃ R m d, e = .returned (.slice R m d) ∧ Sn w' w.heap.size R m d (ownR (leftR ⟨span, l, high⟩ at_ nn) at_ nn) ∧ Below w.heap.size w w' := by
  refine (callsIn_wide (n := 4)).1 ?_
  have h1 : 1 ≤ 4 := by omega
  have hlen := hs.rd.len
  obtain ⟨i0, hi, hz0, hz1, hz2⟩ := info_parts info_pt
  refine callsIn_of_wp_marks Tryz.func205 rfl trivial ?_ rfl
  simp only [Tryz.ntmps205, List.size_toArray, List.length_cons, List.length_nil, Nat.reduceAdd, Nat.reduceSub, Array.replicate_succ, Array.replicate_zero, List.push_toArray, List.append_toArray, List.nil_append, List.cons_append]
  have e0 := Bx.new w 27 [span, .slice A n c, high]
  have a2 := Bx.new (w.alloc (.cells #[span, .slice A n c, high] 27)) 3 [nn]
  rw [World.size_alloc] at a2
  have e1 := e0.alloc (.cells #[nn] 3)
  have hb0 : Below w.heap.size w ((w.alloc (.cells #[span, .slice A n c, high] 27)).alloc (.cells #[nn] 3)) := ((Below.refl _ w).alloc Zr _).alloc (by simp) _
  have hs0 := (hs.alloc (.cells #[span, .slice A n c, high] 27)).alloc (.cells #[nn] 3)
  have hn : n ≤ 100 := by have := hok.len; dsimp only at this; omega
  obtain ⟨B, hB⟩ : ∃ B, w.heap.size = B := ⟨_, rfl⟩
  rw [hB] at e1 a2 hb0 ⊢
  clear e0
  refine wpIn_wide.2 ?_
  go_upto_region 1 with fail
  generalize (w.alloc (.cells #[span, .slice A n c, high] 27)).alloc (.cells #[nn] 3) = w0 at e1 a2 hb0 hs0 ⊢
  have x1 := e1.cell 1 rfl
  have hB0 : B + 2 ≤ w0.heap.size := a2.lt
  refine wp_scope_straight ?_
  go_wp2_with (at_make; refine wpList_make_own _ rfl _ _ 25 rfl B 134 i0 (.agg #[.int .i64 0, .int .i64 0]) 2 Tryz.underlying25 hi hz0 hz1 _ _ _ (n + 1) rfl rfl (by omega) (by rw [hz2]; omega) (by unfold maxLen; omega) (by omega) ?_; intro w2 hown2 hgrow2)
  refine wp_label ?_
  go_upto_region 2 with fail
  have hsz2 : w0.heap.size ≤ w2.heap.size := hgrow2.size
  have b2 : Below B w w2 := hb0.grown hgrow2 (by omega) (fun k hk => by cases hk)
  have l2 := e1.grown hgrow2 (by simp)
  have t2 := a2.grown hgrow2 (by simp)
  have vX := Boxed.new w2 25 (.slice (some ⟨w0.heap.size, 0, none⟩) 0 (n + 1))
  have l3 := l2.alloc (.cells #[.slice (some ⟨w0.heap.size, 0, none⟩) 0 (n + 1)] 25)
  have t3 := t2.alloc (.cells #[.slice (some ⟨w0.heap.size, 0, none⟩) 0 (n + 1)] 25)
  have o3 := hown2.alloc (.cells #[.slice (some ⟨w0.heap.size, 0, none⟩) 0 (n + 1)] 25)
  have b3 := b2.alloc (by omega) (.cells #[.slice (some ⟨w0.heap.size, 0, none⟩) 0 (n + 1)] 25)
  obtain ⟨X, hX⟩ : ∃ X, w2.heap.size = X := ⟨_, rfl⟩
  have hsz3 : (w2.alloc (.cells #[.slice (some ⟨w0.heap.size, 0, none⟩) 0 (n + 1)] 25)).heap.size = X + 1 := by simp [hX]
  rw [hX] at vX ⊢
  clear x1
  generalize w2.alloc (.cells #[.slice (some ⟨w0.heap.size, 0, none⟩) 0 (n + 1)] 25) = w3 at vX l3 t3 o3 b3 hsz3 ⊢
  go_wp2_with (first | (refine le_load rfl (.tmp 3) rfl rfl l3 rfl ?_) | (go_at_call 207; refine (callsIn_wide.1 (count_in Fence.wide 4 trivial rfl span high at_ A n c _)).mono ?_; rintro e w' ⟨rfl, rfl⟩))
  have hBX : B + 2 ≤ X := by omega
  have bL := (Bx.new w3 27 [span, .slice A n c, high]).alloc (.cells #[at_] 3)
  have bT := Bx.new (w3.alloc (.cells #[span, .slice A n c, high] 27)) 3 [at_]
  rw [World.size_alloc] at bT
  rw [hsz3] at bL bT
  have vX4 := (vX.alloc (.cells #[span, .slice A n c, high] 27)).alloc (.cells #[at_] 3)
  have t4 := (t3.alloc (.cells #[span, .slice A n c, high] 27)).alloc (.cells #[at_] 3)
  have o4 := (o3.alloc (.cells #[span, .slice A n c, high] 27)).alloc (.cells #[at_] 3)
  have b4 := (b3.alloc (by omega) (.cells #[span, .slice A n c, high] 27)).alloc (by simp; omega) (.cells #[at_] 3)
  have hsz : ((w3.alloc (.cells #[span, .slice A n c, high] 27)).alloc (.cells #[at_] 3)).heap.size = X + 3 := by simp [hsz3]
  generalize (w3.alloc (.cells #[span, .slice A n c, high] 27)).alloc (.cells #[at_] 3) = w4 at bL bT vX4 t4 o4 b4 hsz ⊢
  clear vX l3 t3 o3 b3 hsz3 l2 t2 hown2 b2 hgrow2 e1 a2 hs0
  have hBw : B ≤ w.heap.size := by omega
  have k4 : Below w.heap.size w w4 := by rw [hB]; exact b4
  refine (wpIn_wide (n := 4)).1 ?_
  refine wpIn_rangeFunc_ownH rfl h1 (gf := 224) (lb := #[.pointer (some ⟨X + 1, 0, none⟩), .pointer (some ⟨X + 1 + 1, 0, none⟩)]) rfl trivial (enters_of Tryz.func224 (by kernel_rfl) rfl)
    (count_stops Fence.wide (4 - 1) trivial rfl (by omega) (X + 1) (X + 1 + 1) B A n c l span high at_ (by omega) w4 ha0 ha1 (fun i hi => ⟨(hok.pts i (by dsimp only; omega)).a0, (hok.pts i (by dsimp only; omega)).a1⟩) (by omega) bL bT (hs.rd.keep k4) (fun b o e h0 => by have := lfresh_of hs b o e h0; omega)) Kept.trans (keptK_b (by omega) (by omega) (by omega)) (Zb) (fun _ => rfl)
    (fun pre W => (((∃ v, Boxed W X 25 v ∧ W.ownsRow B 134 2 v pre.length (vals pre)) ∧ AllLt nn pre ∧ Bx W (B + 1) 3 [nn] ∧ Bx W (X + 1) 27 [span, .slice A n c, high] ∧ Bx W (X + 1 + 1) 3 [at_]) ∧ Below B w W) ∧ X + 3 ≤ W.heap.size)
    (fun c pre W => ((c = .exit 0 ∧ ∃ ini, CutPre nn pre ini ∧ (∃ v, Boxed W X 25 v ∧ W.ownsRow B 134 2 v ini.length (vals ini)) ∧ Bx W (B + 1) 3 [nn]) ∧ Below B w W) ∧ X + 3 ≤ W.heap.size)
    (OwnFrom.and (OwnFrom.and (Own.from (fun s X' Y row hs hg hr => ⟨row_own _ _ _ _ s X' Y row hs.1 hg hr, hs.2.1, bxs_own _ _ (fun _ => [nn]) s X' Y row hs.2.2.1 hg hr, bxs_own _ _ (fun _ => [span, .slice A n c, high]) s X' Y row hs.2.2.2.1 hg hr, bxs_own _ _ (fun _ => [at_]) s X' Y row hs.2.2.2.2 hg hr⟩) _) (ownFrom_below hBw (by omega))) (fun s X' Y row hs hg _ => Zn hs hg.size))
    (fun c => OwnFrom.and (OwnFrom.and (Own.from (fun s X' Y row hs hg hr => by obtain ⟨hc, ini, e1, e4, e5⟩ := hs; exact ⟨hc, ini, e1, row_own _ _ _ _ ini X' Y row e4 hg hr, bxs_own _ _ (fun _ => [nn]) s X' Y row e5 hg hr⟩) _) (ownFrom_below hBw (by omega))) (fun s X' Y row hs hg _ => Zn hs hg.size))
    ⟨⟨⟨⟨_, vX4, o4⟩, allLt_nil nn, t4, bL, bT⟩, b4⟩, by omega⟩
    (fun x a' W => ∃ P, X + 3 ≤ P ∧ Bx W P 134 [x.1, x.2] ∧ a' = { tmps := #[.agg #[.int .i64 span, .slice A n c, .int .i64 high], .int .i64 at_, .int .i64 nn, .pointer (some ⟨B, 0, none⟩), undef, .pointer (some ⟨B + 1, 0, none⟩), .slice none 0 0, .pointer (some ⟨X, 0, none⟩), .pointer (some ⟨P, 0, none⟩), .pointer (some ⟨B, 1, none⟩), .slice A n c, .int .i64 (n : Int), .int .i64 ((n : Int) + 1), .slice (some ⟨w0.heap.size, 0, none⟩) 0 (n + 1), .agg #[.int .i64 span, .slice A n c, .int .i64 high], .int .i64 at_, .func (.func 224) #[] #[.pointer (some ⟨X + 1, 0, none⟩), .pointer (some ⟨X + 1 + 1, 0, none⟩)], .agg #[.int .i64 x.1, .int .i64 x.2], undef, undef, undef, undef, undef, undef, undef, undef, undef, undef, undef, undef, undef, undef, undef, undef, undef, undef, undef, undef], defers := [] })
    (fun x a' _ X' Y row hs hg hr => by obtain ⟨P, e1, e2, e3⟩ := hs; exact ⟨P, e1, bxs_own P _ (fun (_ : Unit) => [x.1, x.2]) () X' Y row e2 hg (fun r e => (hr r e).2), e3⟩)
    ?assign ?body ?done ?stop
  case assign =>
    rintro r pre x W K ⟨⟨⟨⟨v, hv, hrow⟩, hlt, bN, bL', bT'⟩, hB1⟩, hSz⟩ hK
    gi_wp2
    exact hK _ _ ((KeepsOthers.alloc _ _).from _) (Kept.alloc (by omega) (by omega) (by omega) _) ⟨⟨⟨⟨v, hv.alloc _, hrow.alloc _⟩, hlt, bN.alloc _, bL'.alloc _, bT'.alloc _⟩, hB1.alloc (by omega) _⟩, by simp; omega⟩ ⟨W.heap.size, hSz, Bx.new W _ [x.1, x.2], rfl⟩
  case body =>
    rintro r pre x a' W hl hr ⟨⟨⟨⟨v, hv, hrow⟩, hlt, bN, bL', bT'⟩, hB1⟩, hSz⟩ ⟨P, hP, bP, rfl⟩ hpl
    have cP := bP.cell 0 rfl; have cP1 := bP.cell 1 rfl
    have cN := bN.cell 0 rfl
    have cv := hv.cell
    by_cases g : x.2 < nn
    · have d : decide (x.2 < nn) = true := Zt g
      gi_wp2_with (gi_at_builtin; refine wpListIn_append_own _ rfl (.tmp 23) (.tmp 25) 25 rfl B 134 i0 (.agg #[.int .i64 0, .int .i64 0]) 2 16 Tryz.underlying25 hi hz0 hz1 hz2 rfl (by decide) _ _ _ rfl (hrow.alloc _) ⟨W.heap.size, 0, none⟩ 1 1 (vals [(x.1, x.2)]) rfl rfl (cell_pt_new _ _ _ _) (vals_cell _) ?_ ?_ ?_ ?_; (unfold maxLen; omega); omega; (simp; omega); intro v1 y1 hown1 hgrow1 _; obtain ⟨g1, cap1, rfl⟩ := ownsRow_succ hown1; obtain ⟨hv11, hv21, hr21, hk21, hb21⟩ := Boxed.appended hv (by decide) hrow (by omega) (by omega) hown1 hgrow1; have hc11 := hv11.cell; have hf11 := hv11.frozen)
      have bN1 := ((bN.alloc (.cells #[x.1, x.2] 134)).grown hgrow1 (bN.not_row (by decide) hrow)).far (p := ⟨X, 0, none⟩) (by simp; omega) (.slice (some ⟨g1, 0, none⟩) (pre.length + 1) cap1)
      have bL1 := ((bL'.alloc (.cells #[x.1, x.2] 134)).grown hgrow1 (bL'.not_row (by decide) hrow)).far (p := ⟨X, 0, none⟩) (by simp) (.slice (some ⟨g1, 0, none⟩) (pre.length + 1) cap1)
      have bT1 := ((bT'.alloc (.cells #[x.1, x.2] 134)).grown hgrow1 (bT'.not_row (by decide) hrow)).far (p := ⟨X, 0, none⟩) (by simp; omega) (.slice (some ⟨g1, 0, none⟩) (pre.length + 1) cap1)
      exact ⟨hk21.from _, ⟨hb21, Eq.trans bL1 (Eq.symm bL'), Eq.trans bT1 (Eq.symm bT'), hb21.size⟩, ⟨⟨⟨_, hv21, by rw [vals_app, List.length_append]; exact hr21⟩, allLt_snoc hlt g, bN1, bL1, bT1⟩, hB1.trans hb21⟩, Zn hSz hb21.size⟩
    · have d : decide (x.2 < nn) = false := Zf g
      gi_wp2
      exact ⟨KeepsFrom.refl _ _, ⟨⟨rfl, pre, ⟨x, rfl, hlt, (by omega)⟩, ⟨v, hv, hrow⟩, bN⟩, hB1⟩, hSz⟩
  case done =>
    rintro D ys W hD rfl ⟨⟨⟨⟨v, hv, hrow⟩, hlt, bN, bL', bT'⟩, hB1⟩, hSz⟩ hK
    have hLeft : leftR ⟨span, l, high⟩ at_ nn = l.filter (cnt span at_) := left_all hlt
    have hlL : (l.filter (cnt span at_)).length ≤ 100 := by rw [← hLeft]; exact Zn (left_len _ _ _) hok.len
    have hwL : Wide (l.filter (cnt span at_)) := by rw [← hLeft]; exact fun p hp => hs.rd.wide p (List.mem_filter.1 hp).1
    have hcN := bN.cell 0 rfl
    have hcv := hv.cell
    have HG := Zh (⟨hrow, hwL⟩ : Gots W B 134 v (l.filter (cnt span at_)).length (l.filter (cnt span at_)))
    obtain ⟨M, hM⟩ : ∃ M, (l.filter (cnt span at_)).length = M := ⟨_, rfl⟩
    rw [hM] at HG hlL hrow
    have hwa : W64 at_ := by unfold W64; omega
    have hwn : W64 nn := by unfold W64; omega
    have HK := Zh hK; clear hK
    have HWA := Zh hwa; have HWN := Zh hwn
    have HOW := Zh (own_take (a := at_) (n := nn) (by rw [hM]; exact hlL : (l.filter (cnt span at_)).length ≤ 100)); 
    rw [hM] at HOW
    have HLF := Zh hLeft
    clear hwL hLeft hwa hwn hM
    go_upto_region 6 with fail
    go_wp2_with (at_builtin; refine wpList_apps _ rfl (.tmp 27) (.tmp 31) 25 rfl B 134 Tryz.underlying25 info_pt _ _ _ rfl ⟨HG.out.row.alloc (.cells #[at_, nn] 134), HG.out.wide⟩ rfl (fun h => by cases h) (sn_one W HWA.out HWN.out 134).rd (by omega) (by simp; omega) ?_; intro v1 y1 hown1 hgrow1 _; obtain ⟨g1, cap1, rfl⟩ := ownsRow_succ hown1.row; have hcle : M + 1 ≤ cap1 := (by obtain ⟨A', c', e', h'⟩ := hown1.ss; cases e'; exact h'.le); obtain ⟨hv11, hv21, hr21, hk21, hb21⟩ := Boxed.appended hv (by decide) hrow (by omega) (by omega) hown1.row hgrow1; have hc11 := hv11.cell; have hf11 := hv11.frozen)
    all_goals (
      have hKD := hk21.same D _ HK.out rfl
      have hgo : Gots (y1.setCell ⟨X, 0, none⟩ (.slice (some ⟨g1, 0, none⟩) (M + 1) cap1)) B 134 (.slice (some ⟨g1, 0, none⟩) (M + 1) cap1) (M + 1) _ := ⟨hr21, hown1.wide⟩
      obtain ⟨R', d', e', hsn⟩ := hgo.sn
      cases e'
      have hB2 := (hB1.trans hb21).trans (belowK_b (w := w4) (by omega) _ D _ (.deferred none) (by omega) hKD rfl rfl)
      refine ⟨by simp, .inl ⟨_, _, rfl, run_takeDeferred hKD, ?_⟩⟩
      first
        | (have hmn : min (M + 1) 100 = M + 1 := by omega
           refine ⟨.slice (some ⟨g1, 0, none⟩) (M + 1) cap1, by simp [results, Tryz.f205, go_sem], _, _, _, rfl, ?_, hB2⟩
           rw [HLF.out, ← HOW.out, hmn]
           exact (hsn.head Zr).putDl hKD rfl)
        | (have hmn : min (M + 1) 100 = 100 := by omega
           refine ⟨.slice (some ⟨g1, 0, none⟩) 100 cap1, by simp [results, Tryz.f205, go_sem], _, _, _, rfl, ?_, hB2⟩
           rw [HLF.out, ← HOW.out, hmn]
           exact (hsn.head (by omega)).putDl hKD rfl))
  case stop =>
    rintro D c pre W hD ⟨rest, hk⟩ ⟨⟨⟨rfl, ini, hcut, ⟨v, hv, hrow⟩, bN⟩, hB1⟩, hSz⟩ hK
    have hLeft : leftR ⟨span, l, high⟩ at_ nn = ini := left_cutP ((pts_iff _).1 hok.pts).2 hk hcut
    have hlL : (ini).length ≤ 100 := by rw [← hLeft]; exact Zn (left_len _ _ _) hok.len
    have hwL : Wide (ini) := by rw [← hLeft]; exact fun p hp => hs.rd.wide p (List.mem_filter.1 hp).1
    have hcN := bN.cell 0 rfl
    have hcv := hv.cell
    have HG := Zh (⟨hrow, hwL⟩ : Gots W B 134 v (ini).length (ini))
    obtain ⟨M, hM⟩ : ∃ M, (ini).length = M := ⟨_, rfl⟩
    rw [hM] at HG hlL hrow
    have hwa : W64 at_ := by unfold W64; omega
    have hwn : W64 nn := by unfold W64; omega
    have HK := Zh hK; clear hK
    have HWA := Zh hwa; have HWN := Zh hwn
    have HOW := Zh (own_take (a := at_) (n := nn) (by rw [hM]; exact hlL : (ini).length ≤ 100)); 
    rw [hM] at HOW
    have HLF := Zh hLeft
    clear hwL hLeft hwa hwn hM
    refine wpIn_wide.2 ?_
    go_upto_region 6 with fail
    go_wp2_with (at_builtin; refine wpList_apps _ rfl (.tmp 27) (.tmp 31) 25 rfl B 134 Tryz.underlying25 info_pt _ _ _ rfl ⟨HG.out.row.alloc (.cells #[at_, nn] 134), HG.out.wide⟩ rfl (fun h => by cases h) (sn_one W HWA.out HWN.out 134).rd (by omega) (by simp; omega) ?_; intro v1 y1 hown1 hgrow1 _; obtain ⟨g1, cap1, rfl⟩ := ownsRow_succ hown1.row; have hcle : M + 1 ≤ cap1 := (by obtain ⟨A', c', e', h'⟩ := hown1.ss; cases e'; exact h'.le); obtain ⟨hv11, hv21, hr21, hk21, hb21⟩ := Boxed.appended hv (by decide) hrow (by omega) (by omega) hown1.row hgrow1; have hc11 := hv11.cell; have hf11 := hv11.frozen)
    all_goals (
      have hKD := hk21.same D _ HK.out rfl
      have hgo : Gots (y1.setCell ⟨X, 0, none⟩ (.slice (some ⟨g1, 0, none⟩) (M + 1) cap1)) B 134 (.slice (some ⟨g1, 0, none⟩) (M + 1) cap1) (M + 1) _ := ⟨hr21, hown1.wide⟩
      obtain ⟨R', d', e', hsn⟩ := hgo.sn
      cases e'
      have hB2 := (hB1.trans hb21).trans (belowK_b (w := w4) (by omega) _ D _ (.deferred none) (by omega) hKD rfl rfl)
      refine ⟨by simp, .inl ⟨_, _, rfl, run_takeDeferred hKD, ?_⟩⟩
      first
        | (have hmn : min (M + 1) 100 = M + 1 := by omega
           refine ⟨.slice (some ⟨g1, 0, none⟩) (M + 1) cap1, by simp [results, Tryz.f205, go_sem], _, _, _, rfl, ?_, hB2⟩
           rw [HLF.out, ← HOW.out, hmn]
           exact (hsn.head Zr).putDl hKD rfl)
        | (have hmn : min (M + 1) 100 = 100 := by omega
           refine ⟨.slice (some ⟨g1, 0, none⟩) 100 cap1, by simp [results, Tryz.f205, go_sem], _, _, _, rfl, ?_, hB2⟩
           rw [HLF.out, ← HOW.out, hmn]
           exact (hsn.head (by omega)).putDl hKD rfl))
end Go.Proofs.YtbijhkhkigdddaaGreat
namespace Go.Proofs.YtbijhkhkigdddaaGreat
open Go.RowKit
theorem grown_setC (W : World) (b o : Nat) (v : Value) : W.grownBy (W.setCell ⟨b, o, none⟩ v) (some b) :=
 ⟨rfl, rfl, rfl, (KeepsWalks.setCell W _ v).size, fun k _ hk => Below.heap_setCell _ _ _ k (fun e => hk (by rw [e]))⟩
theorem lemet_any (span : Int) (A : Option Addr) (n c : Nat) (high : Int) (l : List Sp) (at_ nn : Int) (w : World) (hs : Ss w A n c l) :
  Calls Tryz.prog 172 #[.agg #[span, .slice A n c, high], at_, nn] w fun e w' => TellM w w' e (metR ⟨span, l, high⟩ at_ nn) := by
 unfold TellM
 obtain ⟨B, hB⟩ : ∃ B, w.heap.size = B := ⟨_, rfl⟩
 rw [hB]
 have hl := hs.rd.len
 have e0 := Bx.new w 27 [span, .slice A n c, high]
 have e1 := e0.alloc (.cells #[.int .i64 0, .slice none 0 0, .int .i64 0] 27)
 have y1 := Bx.new (w.alloc (.cells #[span, .slice A n c, high] 27)) 27 [.int .i64 0, .slice none 0 0, .int .i64 0]
 rw [World.size_alloc] at y1
 rw [hB] at e1 y1
 have b1 : Below B w ((w.alloc (.cells #[span, .slice A n c, high] 27)).alloc (.cells #[.int .i64 0, .slice none 0 0, .int .i64 0] 27)) := by rw [← hB]; exact ((Zb).alloc Zr _).alloc (by simp) _
 have hs1 : Ss ((w.alloc (.cells #[span, .slice A n c, high] 27)).alloc (.cells #[.int .i64 0, .slice none 0 0, .int .i64 0] 27)) A n c l := (hs.alloc _).alloc _
 obtain ⟨x, hx⟩ : ∃ x, metR ⟨span, l, high⟩ at_ nn = x := ⟨_, rfl⟩
 rw [hx]
 have HX := Zh hx
 have HL := Zh hl
 clear e0 hx
 have HSO := Zh hs; have HBs := Zh hB
 go_enter Tryz.func172, Tryz.ntmps172
 go_upto_region 1 with fail
 generalize (w.alloc (.cells #[span, .slice A n c, high] 27)).alloc (.cells #[.int .i64 0, .slice none 0 0, .int .i64 0] 27) = w1 at e1 y1 b1 hs1 ⊢
 go_wp2_with (refine le_load rfl (.tmp 3) rfl rfl e1 rfl ?_)
 refine (lemay_any span A n c high l _ hs1).mono ?_
 rintro e w2 ⟨rfl, hb2⟩
 have e2 := e1.kept hb2; have y2 := y1.kept hb2; have b2 := b1.trans (hb2.mono (Zl e1.lt)); have hs2 := hs1.keep hb2
 have hBs : B ≤ w2.heap.size := Zl e2.lt
 clear hs hs1 e1 y1 b1 hb2 hl
 have x0 := e2.cell 0 rfl; have x1 := e2.cell 1 rfl; have x2 := e2.cell 2 rfl
 cases hk : lmay ⟨span, l, high⟩ with
 | false =>
  have hz := met_no (v := ⟨span, l, high⟩) (a := at_) (n := nn) (fun h => by have := h.1; rw [hk] at this; exact absurd this (by simp))
  have hx := HX.out
  rw [hz] at hx; subst hx
  clear hz HX hk
  go_wp2_with (refine le_store rfl (.tmp 6) (.tmp 28) rfl rfl [.int .i64 0, .slice none 0 0, .int .i64 0] rfl y2 rfl rfl rfl ?_)
  refine le_end (by rfl) (by rfl) (by rfl) (by rfl) (le_put y2 [.int .i64 0, .slice none 0 0, .int .i64 0]) rfl rfl ?_
  exact ⟨none, 0, 0, rfl, Sn.none _ _, b2.grown (le_grown _ (B + 1) #[.int .i64 0, .slice none 0 0, .int .i64 0]) hBs (fun k hk => by cases hk; omega)⟩
 | true =>
 cases ta : ltmB at_ with
 | false =>
  have hz := met_no (v := ⟨span, l, high⟩) (a := at_) (n := nn) (fun h => by have := (ltmB_iff at_).2 ⟨h.2.1, h.2.2.1⟩; rw [ta] at this; cases this)
  have hx := HX.out
  rw [hz] at hx; subst hx
  clear hz HX hk
  go_wp2_with (first | (go_at_call 158; refine (rec_any _ _).mono ?_; rintro e wx ⟨rfl, rfl⟩) | (refine le_store rfl (.tmp 6) (.tmp 28) rfl rfl [.int .i64 0, .slice none 0 0, .int .i64 0] rfl y2 rfl rfl rfl ?_))
  refine le_end (by rfl) (by rfl) (by rfl) (by rfl) (le_put y2 [.int .i64 0, .slice none 0 0, .int .i64 0]) rfl rfl ?_
  exact ⟨none, 0, 0, rfl, Sn.none _ _, b2.grown (le_grown _ (B + 1) #[.int .i64 0, .slice none 0 0, .int .i64 0]) hBs (fun k hk => by cases hk; omega)⟩
 | true =>
 cases tb : ltmB nn with
 | false =>
  have hz := met_no (v := ⟨span, l, high⟩) (a := at_) (n := nn) (fun h => by have := (ltmB_iff nn).2 ⟨h.2.2.2.1, h.2.2.2.2.1⟩; rw [tb] at this; cases this)
  have hx := HX.out
  rw [hz] at hx; subst hx
  clear hz HX hk
  go_wp2_with (first | (go_at_call 158; refine (rec_any _ _).mono ?_; rintro e wx ⟨rfl, rfl⟩) | (refine le_store rfl (.tmp 6) (.tmp 28) rfl rfl [.int .i64 0, .slice none 0 0, .int .i64 0] rfl y2 rfl rfl rfl ?_))
  refine le_end (by rfl) (by rfl) (by rfl) (by rfl) (le_put y2 [.int .i64 0, .slice none 0 0, .int .i64 0]) rfl rfl ?_
  exact ⟨none, 0, 0, rfl, Sn.none _ _, b2.grown (le_grown _ (B + 1) #[.int .i64 0, .slice none 0 0, .int .i64 0]) hBs (fun k hk => by cases hk; omega)⟩
 | true =>
 have hok := (lmay_iff _).1 hk
 obtain ⟨c0, c1⟩ := (ltmB_iff at_).1 ta
 obtain ⟨c2, c3⟩ := (ltmB_iff nn).1 tb
 have hlast : at_ < llastR l ↔ ¬ (0 < l.length → (sp l (l.length - 1)).1 ≤ at_) := by
  unfold llastR
  split
  ·constructor
   ·intro h; omega
   ·intro h; exact absurd (fun h0 => by omega) h
  ·constructor
   ·intro h k; have := k (by omega); omega
   ·intro h
    rcases Int.lt_or_le at_ (sp l (l.length - 1)).1 with h2 | h2
    ·exact h2
    ·exact absurd (fun _ => h2) h
 have hbg := begin_any span A n c high l w2 hs2
 obtain ⟨la, hla⟩ : ∃ la, llastR l = la := ⟨_, rfl⟩
 rw [hla] at hlast hbg
 have HLA := Zh hlast
 have HOK := Zh hok; have HK := Zh hk
 clear hok hk hlast hla
 by_cases c5 : at_ < la
 ·have d5 : decide (at_ < la) = true := Zt c5
  have hz := met_no (v := ⟨span, l, high⟩) (a := at_) (n := nn) (fun h => (HLA.out.1 c5) h.2.2.2.2.2)
  have hx := HX.out
  rw [hz] at hx; subst hx
  clear hz HX c0 c1 c2 c3 c5
  go_wp2_with (first | (go_at_call 158; refine (rec_any _ _).mono ?_; rintro e wx ⟨rfl, rfl⟩) | (go_at_call 203; refine hbg.mono ?_; rintro e w3 ⟨rfl, hb3⟩; have y3 := y2.kept hb3; have b3 := b2.trans (hb3.mono hBs)) | (refine le_store rfl (.tmp 6) (.tmp 28) rfl rfl [.int .i64 0, .slice none 0 0, .int .i64 0] rfl y3 rfl rfl rfl ?_))
  refine le_end (by rfl) (by rfl) (by rfl) (by rfl) (le_put y3 [.int .i64 0, .slice none 0 0, .int .i64 0]) rfl rfl ?_
  exact ⟨none, 0, 0, rfl, Sn.none _ _, b3.grown (le_grown _ (B + 1) #[.int .i64 0, .slice none 0 0, .int .i64 0]) (by have := y3.lt; omega) (fun k hk => by cases hk; omega)⟩
 have d5 : decide (at_ < la) = false := Zf c5
 have hmok : MetOk ⟨span, l, high⟩ at_ nn := ⟨HK.out, c0, c1, c2, c3, by
  by_cases h : (0 < l.length → (sp l (l.length - 1)).1 ≤ at_)
  ·exact h
  ·exact absurd (HLA.out.2 h) c5⟩
 have HMO := Zh hmok; clear hmok
 have HC0 := Zh c0; have HC1 := Zh c1; have HC2 := Zh c2; have HC3 := Zh c3
 clear c0 c1 c2 c3 c5
 go_upto_region 3 with (first | (go_at_call 158; refine (rec_any _ _).mono ?_; rintro e wx ⟨rfl, rfl⟩) | (go_at_call 203; refine hbg.mono ?_; rintro e w3 ⟨rfl, hb3⟩; have y3 := y2.kept hb3; have e3 := e2.kept hb3; have hs3 := hs2.keep hb3; have b3 := b2.trans (hb3.mono hBs)))
 clear x0 x1 x2 hbg
 obtain ⟨hh, hhe⟩ : ∃ hh, highR ⟨span, l, high⟩ at_ nn = hh := ⟨_, rfl⟩
 have hhg := highs_any span A n c high l at_ nn w3 hs3 HOK.out
 have hhb := high_bd HOK.out at_ nn
 rw [hhe] at hhg hhb
 have HHE := Zh hhe; clear hhe
 obtain ⟨hh0, hh1⟩ := hhb
 go_upto_region 4 with (first
  | (refine le_load rfl (.tmp 3) rfl rfl e3 rfl ?_)
  | (go_at_call 204; refine hhg.mono ?_; rintro e w4 ⟨rfl, hb4⟩; have y4 := y3.kept hb4; have e4 := e3.kept hb4; have hs4 := hs3.keep hb4; have b4 := b3.trans (hb4.mono (Zl e3.lt)); have x2 := e4.cell 2 rfl; have f2 := e4.free 2))
 clear x2 f2 hhg
 have hs5 : Ss (w4.setCell ⟨B, 2, none⟩ (.int .i64 hh)) A n c l := HSO.out.keep (by rw [HBs.out]; exact b4.setCell (p := ⟨B, 2, none⟩) Zr _)
 have e5 : Bx (w4.setCell ⟨B, 2, none⟩ (.int .i64 hh)) B 27 [span, .slice A n c, hh] := e4.set 2 (.int .i64 hh)
 have y5 := y4.far (p := ⟨B, 2, none⟩) (by simp) (.int .i64 hh)
 have b5 := b4.setCell (p := ⟨B, 2, none⟩) Zr (.int .i64 hh)
 generalize w4.setCell ⟨B, 2, none⟩ (.int .i64 hh) = w5 at e5 y5 b5 hs5 ⊢
 clear e2 y2 b2 hs2 e3 y3 b3 hs3 e4 y4 b4 hs4 hb3 hb4
 have x0 := e5.cell 0 rfl; have x1 := e5.cell 1 rfl; have x2 := e5.cell 2 rfl
 by_cases h8 : hh = 8
 ·have hz := met_turn HMO.out (by rw [HHE.out]; exact h8)
  have hx := HX.out
  rw [hz] at hx; subst hx
  clear hz HX
  subst h8
  have hwa : W64 at_ := by have := HC0.out; have := HC1.out; unfold W64; omega
  have hwn : W64 nn := by have := HC2.out; have := HC3.out; unfold W64; omega
  have hsn := sn_one w5 hwa hwn 134
  have y6 := y5.alloc (.cells #[at_, nn] 134)
  have b6 := b5.alloc (Zl e5.lt) (.cells #[at_, nn] 134)
  have hBs5 : B + 1 < w5.heap.size := y5.lt
  clear hwa hwn
  go_wp2_with (refine le_store rfl (.tmp 6) (.tmp 43) rfl rfl [span, .slice (some ⟨w5.heap.size, 0, none⟩) 1 1, .int .i64 0] rfl y6 rfl rfl rfl ?_)
  refine le_end (by rfl) (by rfl) (by rfl) (by rfl) (le_put y6 [span, .slice (some ⟨w5.heap.size, 0, none⟩) 1 1, .int .i64 0]) rfl rfl ?_
  refine ⟨_, 1, 1, rfl, ?_, b6.grown (le_grown _ (B + 1) _) (Zl (by have := y6.lt; omega)) (fun k hk => by cases hk; omega)⟩
  exact ((⟨hsn, fun b o s e => by cases e; exact Nat.le_refl _⟩ : Sn _ w5.heap.size (some ⟨w5.heap.size, 0, none⟩) 1 1 [(at_, nn)]).grown (le_grown _ (B + 1) _) hBs5).mono (by omega)
 ·have d8 : (hh == 8) = false := by simpa using h8
  have hz := met_ok HMO.out (by rw [HHE.out]; exact h8)
  have hx := HX.out
  rw [hz, HHE.out] at hx; subst hx
  clear hz HX
  have hok5 : Lok ⟨span, l, hh⟩ := ⟨HOK.out.s0, HOK.out.s1, HOK.out.len, hh0, by dsimp only; omega, HOK.out.pts⟩
  have hj := joined_any span A n c hh l at_ nn w5 hs5 hok5 HC0.out HC1.out HC2.out HC3.out
  have hlf : leftR ⟨span, l, hh⟩ at_ nn = leftR ⟨span, l, high⟩ at_ nn := rfl
  rw [hlf] at hj
  have HJ := Zh hj
  clear hok5 hj hlf h8 hh0 hh1
  go_upto_region 7 with (first
   | (refine le_load rfl (.tmp 3) rfl rfl e5 rfl ?_)
   | (go_at_call 205; refine HJ.out.mono ?_; rintro e w6 ⟨R, m, d, rfl, hsn6, hb6⟩; have y6 := y5.kept hb6; have e6 := e5.kept hb6; have b6 := b5.trans (hb6.mono (Zl e5.lt)); have z1 := e6.cell 1 rfl; have f1 := e6.free 1))
  have e7 : Bx (w6.setCell ⟨B, 1, none⟩ (.slice R m d)) B 27 [span, .slice R m d, hh] := e6.set 1 (.slice R m d)
  have y7 := y6.far (p := ⟨B, 1, none⟩) (by simp) (.slice R m d)
  have b7 := b6.setCell (p := ⟨B, 1, none⟩) Zr (.slice R m d)
  have hsn7 := hsn6.grown (grown_setC w6 B 1 (.slice R m d)) e5.lt
  have hBs5 : B + 1 < w5.heap.size := y5.lt
  have HS7 := Zh hsn7
  clear x0 x1 x2 e5 y5 b5 hs5 hsn6 hsn7 HJ z1 f1
  generalize w6.setCell ⟨B, 1, none⟩ (.slice R m d) = w7 at e7 y7 b7 HS7 ⊢
  clear e6 y6 b6
  go_wp2_with (first
   | (refine le_load rfl (.tmp 3) rfl rfl e7 rfl ?_)
   | (refine le_store rfl (.tmp 6) (.tmp 49) rfl rfl [span, .slice R m d, hh] rfl y7 rfl rfl rfl ?_))
  refine le_end (by rfl) (by rfl) (by rfl) (by rfl) (le_put y7 [span, .slice R m d, hh]) rfl rfl ?_
  exact ⟨R, m, d, rfl, (HS7.out.grown (le_grown w7 (B + 1) _) hBs5).mono (by omega), b7.grown (le_grown w7 (B + 1) _) (Zl e7.lt) (fun k hk => by cases hk; omega)⟩
end Go.Proofs.YtbijhkhkigdddaaGreat
