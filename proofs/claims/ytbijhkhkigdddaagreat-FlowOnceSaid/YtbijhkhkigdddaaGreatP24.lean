/- FlL3 RtLo2 RtLo3. -/
import Derived.Test.YtbijhkhkigdddaaGreatP10
import Derived.Test.YtbijhkhkigdddaaGreatP23
import Derived.Great.BuildSlice
set_option linter.all false
set_option maxRecDepth 100000
set_option maxHeartbeats 32000000
namespace Go.Proofs.YtbijhkhkigdddaaGreat
open Go.RowKit
theorem ptclone_any (A : Option Addr) (n c : Nat) (l : List Sp) (w : World) (hr : Ss w A n c l) (hn : n ≤ 1000000) :
  Calls Tryz.prog 113 #[.slice A n c] w fun e w' => ∃ R d, e = .returned (.slice R n d) ∧ Sn w' w.heap.size R n d l ∧ Below w.heap.size w w' := by
 have qn := fun (w : World) (a : Option Addr) (n c n' c' : Nat) => Lib.run_eql_slice_nil (P := Tryz.prog) w _ _ a n c n' c' Tryz.underlying25
 cases A with
 | none =>
  have hc := hr.nil rfl
  have hle := hr.le
  obtain rfl : n = 0 := by omega
  have hz := hr.rd.len
  obtain rfl : l = [] := List.eq_nil_of_length_eq_zero hz
  clear hc hle hz
  go_enter Tryz.func113, Tryz.ntmps113
  go_wp2
  go_ret
  exact ⟨none, 0, rfl, Sn.none _ _, Below.refl _ _⟩
 | some a =>
  have hmade : (w.alloc (.cells #[] 134)).ownsRow w.heap.size 134 2 (.slice (some ⟨w.heap.size, 0, none⟩) 0 0) 0 (vals []) := World.ownsRow_made w #[] 0 Zr (Nat.zero_le _) rfl
  go_enter Tryz.func113, Tryz.ntmps113
  go_wp2_with (at_builtin; refine wpList_apps _ rfl (.tmp 5) (.tmp 6) 25 rfl w.heap.size 134 Tryz.underlying25 info_pt _ 0 [] rfl ⟨hmade, fun p hp => by simp at hp⟩ rfl hr.nil (hr.rd.alloc _) (by omega) (by simp) ?_; intro v1 w1 hown1 hgrow1 hat1)
  have b1 : Below w.heap.size w w1 := ((Zb).alloc Zr _).grown hgrow1 (by simp) (fun k hk => (hmade.lt k hk).1)
  simp only [Nat.zero_add, List.nil_append] at hown1
  obtain ⟨R, d, rfl, hsl⟩ := hown1.sn
  go_wp2
  go_ret
  exact ⟨R, d, rfl, hsl, b1⟩
theorem sni_grown {w w' : World} {base B : Nat} {G : Option Addr} {m d : Nat} {l : List Int} (h : Sni w base G m d l) (hg : w.grownBy w' (some B)) (hB : B < base) : Sni w' base G m d l := h.grownAny hg (fun b e => by cases e; exact hB)
theorem in_new {n₀ base S : Nat} {A : Option Addr} {n : Nat} (h : ∀ b o s, A = some ⟨b, o, s⟩ → base ≤ b) (hn : n₀ ≤ base) (hlt : 0 < n → ∀ b o s, A = some ⟨b, o, s⟩ → b < S) : In1 (Nw n₀ [S]) A n := fun h0 b o s e =>
 ⟨Zn hn (h b o s e), fun hx => by have := List.mem_singleton.1 hx; have := hlt h0 b o s e; omega⟩
theorem FlM.old {w : World} {p : Nat → Prop} {s : Fs} {f : Fv} (h : FlM w p s f) : FlM w (fun b => b < w.heap.size) s f := by
 refine ⟨h.l, h.b, h.d, h.g, h.wide, fun h0 b o q e => ?_, fun h0 b o q e => ?_, fun h0 b o q e => ?_, fun h0 b o q e => ?_⟩
 ·obtain ⟨b', o', e', hlt, _⟩ := h.l.rd.at_ h0; rw [e] at e'; cases e'; exact hlt
 ·obtain ⟨b', o', e', hlt, _⟩ := h.b.rd.at_ h0; rw [e] at e'; cases e'; exact hlt
 ·obtain ⟨b', o', e', hlt, _⟩ := h.d.rd.at_ h0; rw [e] at e'; cases e'; exact hlt
 ·obtain ⟨b', o', e', hlt, _⟩ := h.g.rd.at_ h0; rw [e] at e'; cases e'; exact hlt
def TellB (n₀ : Nat) (f : Fv) (c : Cf) (now : Int) (w w' : World) (e : Ending) : Prop :=
 Below n₀ w w' ∧ ((fmayB f c && t60 now) = true ∧ (∃ S s', e = .returned (.tuple #[.pointer (some ⟨S, 0, none⟩), .bool true]) ∧ St n₀ [] w' S s' f c now 0 ∧ ApL s' ∧ Thaw w' s') ∨ (fmayB f c && t60 now) = false ∧ e = .returned (.tuple #[.pointer none, .bool false]))
theorem lens {f : Fv} {c : Cf} (h : FvOk f c) : f.l.length ≤ 500 ∧ f.b.l.length ≤ 100 ∧ f.d.l.length ≤ 10 ∧ f.dl.length ≤ 16 := by
 have h1 := ((smay_iff _).1 h.l).1
 have h2 := ((lmay_iff _).1 h.b).len
 have h3 := ((ramay_iff _).1 h.d).len
 have h4 := h.g
 unfold mayG at h4
 simp only [Bool.and_eq_true, decide_eq_true_eq] at h4
 exact ⟨h1, h2, h3, h4.2⟩
theorem flbegin_any (p : Nat → Prop) (s : Fs) (f : Fv) (c : Cf) (now : Int) (w : World) (h : FlM w p s f) (hc : CfW c) : Calls Tryz.prog 60 #[.agg (fcs s f).toArray, .agg (ccs c).toArray, now] w fun e w' => TellB w.heap.size f c now w w' e := by
 unfold TellB
 obtain ⟨B, hB⟩ : ∃ B, w.heap.size = B := ⟨_, rfl⟩
 have y0 := (Bx.new w 40 (fcs s f)).alloc (.cells (ccs c).toArray 42)
 have k0 := Bx.new (w.alloc (.cells (fcs s f).toArray 40)) 42 (ccs c)
 rw [World.size_alloc] at k0
 rw [hB] at y0 k0 ⊢
 have b0 : Below B w ((w.alloc (.cells (fcs s f).toArray 40)).alloc (.cells (ccs c).toArray 42)) := by rw [← hB]; exact ((Zb).alloc Zr _).alloc (by simp) _
 have f0 := ((h.old).alloc (.cells (fcs s f).toArray 40)).alloc (.cells (ccs c).toArray 42)
 rw [hB] at f0
 have HCW := Zh hc
 obtain ⟨q, hq⟩ : ∃ q, fmayB f c = q := ⟨_, rfl⟩
 have HM := Zh (show ∀ W, FlM W (fun b => b < B) s f → Calls Tryz.prog 18 #[.agg (fcs s f).toArray, .agg (ccs c).toArray] W fun e w' => e = .returned (.bool q) ∧ Below W.heap.size W w' from fun W hf => by rw [← hq]; exact flmay_any _ s f c W hf hc)
 rw [hq]
 have HQ := Zh hq
 obtain ⟨t, ht⟩ : ∃ t, fwinB now 0 1152921504606846976 = t := ⟨_, rfl⟩
 have ht' : t60 now = t := by rw [← fwin60]; exact ht
 rw [ht']
 have HT := Zh ht
 clear ht' ht
 clear hq h hc
 go_enter Tryz.func60, Tryz.ntmps60
 go_upto_region 1 with fail
 change Code.wp _ _ _ _ ((w.alloc (.cells (fcs s f).toArray 40)).alloc (.cells (ccs c).toArray 42))
 generalize (w.alloc (.cells (fcs s f).toArray 40)).alloc (.cells (ccs c).toArray 42) = w1 at y0 k0 b0 f0 ⊢
 have z0 : B ≤ w1.heap.size := Zl y0.lt
 clear hB
 go_wp2_with (first | (refine fl_load rfl (.tmp 3) rfl rfl y0 rfl ?_) | (refine cf_load rfl (.tmp 4) rfl rfl k0 rfl ?_))
 refine (HM.out _ f0).mono ?_
 rintro e w2 ⟨rfl, hb⟩
 have y2 := y0.kept hb; have k2 := k0.kept hb; have f2 := f0.keep hb; have b2 := b0.trans (hb.mono z0); have z2 := Zn z0 hb.size
 clear y0 k0 f0 b0 z0 hb HM
 cases q with
 | false =>
  go_wp2_with (go_at_call 38; refine (fwin_any _ _ _ _).mono ?_; rintro e wx ⟨rfl, rfl⟩)
  go_ret2
  exact ⟨b2, .inr ⟨rfl, rfl⟩⟩
 | true =>
 have hok := (fmay_iff f c).1 HQ.out
 obtain ⟨n1, n2, n3, n4⟩ := lens hok
 rw [f2.l.rd.len] at n1; rw [f2.b.rd.len] at n2; rw [f2.d.rd.len] at n3; rw [f2.g.rd.len] at n4
 clear hok
 cases t with
 | false =>
  have ht := HT.out
  go_wp2_with (go_at_call 38; refine (fwin_any _ _ _ _).mono ?_; rintro e wx ⟨rfl, rfl⟩)
  go_ret2
  exact ⟨b2, .inr ⟨rfl, rfl⟩⟩
 | true =>
 have ht := HT.out
 go_upto_region 3 with (go_at_call 38; refine (fwin_any _ _ _ _).mono ?_; rintro e wx ⟨rfl, rfl⟩)
 clear ht HT
 have x1 := y2.cell 1 rfl
 go_upto_region 4 with (go_at_call 112; refine (stclone_any _ _ _ _ _ f2.l (by omega)).mono ?_; rintro e w3 ⟨R3, d3, rfl, hg, hb⟩; have u3 : In1 (fun b => b < w3.heap.size ∧ ∀ i, w3.frozen? ⟨b, i, none⟩ = false) R3 s.n1 := (fun h0 b o q e => by obtain ⟨g, cap, hgf, h1, h2⟩ := hg.row.form h0; cases hgf; cases e; exact ⟨h2, fun i => hg.row.frozenAt i⟩); have v3 := Nat.le_refl w3.heap.size; obtain ⟨R', d', e', r3⟩ := hg.sne; cases e'; clear hg; have y3 := y2.kept hb; have k3 := k2.kept hb; have f3 := f2.keep hb; have b3 := b2.trans (hb.mono z2); have z3 := Zn z2 hb.size; have g3 : B + 1 < w2.heap.size := k2.lt; clear x1; have x1 := y3.cell 1 rfl; have fr := y3.free 1; clear hb)
 have gg : w3.grownBy (w3.setCell ⟨B, 1, none⟩ (.slice R3 s.n1 d3)) (some B) := fl_gset w3 ⟨B, 1, none⟩ (.slice R3 s.n1 d3)
 have y4 : Bx (w3.setCell ⟨B, 1, none⟩ (.slice R3 s.n1 d3)) B 40 (fcs ⟨R3, s.n1, d3, s.a2, s.n2, s.c2, s.a3, s.n3, s.c3, s.a4, s.n4, s.c4⟩ f) := y3.set 1 (.slice R3 s.n1 d3)
 have k4 := k3.far (p := ⟨B, 1, none⟩) (show B + 1 ≠ B by omega) (.slice R3 s.n1 d3)
 replace r3 := Sne.grown r3 gg (by omega)
 replace u3 := u3.imp (q := fun b => b < w3.heap.size ∧ ∀ i, (w3.setCell ⟨B, 1, none⟩ (.slice R3 s.n1 d3)).frozen? ⟨b, i, none⟩ = false) (fun b h => ⟨h.1, fun i => by rw [World.frozen?_setCell]; exact h.2 i⟩)
 replace v3 := Zn v3 gg.size
 have b4 := b3.grown gg z3 (fun k hk => by cases hk; exact Nat.le_refl _)
 have z4 : B ≤ (w3.setCell ⟨B, 1, none⟩ (.slice R3 s.n1 d3)).heap.size := Zn z3 gg.size
 generalize w3.setCell ⟨B, 1, none⟩ (.slice R3 s.n1 d3) = w4 at y4 k4 r3 b4 z4 gg u3 v3 ⊢
 have v4 := Zh v3
 have f4 : FlM w4 (fun b => b < B) s f := f3.grown gg (fun b hb e => by cases e; exact Nat.lt_irrefl _ hb)
 clear x1 fr gg y3 k3 f3 b3 z3
 have x1 := y4.cell 9 rfl
 go_upto_region 5 with (go_at_call 113; refine (ptclone_any _ _ _ _ _ f4.b (by omega)).mono ?_; rintro e w5 ⟨R4, d4, rfl, hg, hb⟩; replace u3 := u3.imp (q := fun b => b < w3.heap.size ∧ ∀ i, w5.frozen? ⟨b, i, none⟩ = false) (fun b h => ⟨h.1, fun i => by rw [froz_block (hb.block b (Nat.lt_of_lt_of_le h.1 v3))]; exact h.2 i⟩); replace v3 := Zn v3 hb.size; have r4 := hg; clear hg; replace r3 := Sne.keep r3 hb; have y5 := y4.kept hb; have k5 := k4.kept hb; have f5 := f4.keep hb; have b5 := b4.trans (hb.mono z4); have z5 := Zn z4 hb.size; have g4 : B + 1 < w4.heap.size := k4.lt; clear x1; have x1 := y5.cell 9 rfl; have fr := y5.free 9; clear hb)
 have gg : w5.grownBy (w5.setCell ⟨B, 9, none⟩ (.slice R4 s.n2 d4)) (some B) := fl_gset w5 ⟨B, 9, none⟩ (.slice R4 s.n2 d4)
 have y6 : Bx (w5.setCell ⟨B, 9, none⟩ (.slice R4 s.n2 d4)) B 40 (fcs ⟨R3, s.n1, d3, R4, s.n2, d4, s.a3, s.n3, s.c3, s.a4, s.n4, s.c4⟩ f) := y5.set 9 (.slice R4 s.n2 d4)
 have k6 := k5.far (p := ⟨B, 9, none⟩) (show B + 1 ≠ B by omega) (.slice R4 s.n2 d4)
 replace r3 := Sne.grown r3 gg (by omega)
 replace r4 := Sn.grown r4 gg (by omega)
 replace u3 := u3.imp (q := fun b => b < w3.heap.size ∧ ∀ i, (w5.setCell ⟨B, 9, none⟩ (.slice R4 s.n2 d4)).frozen? ⟨b, i, none⟩ = false) (fun b h => ⟨h.1, fun i => by rw [World.frozen?_setCell]; exact h.2 i⟩)
 replace v3 := Zn v3 gg.size
 have b6 := b5.grown gg z5 (fun k hk => by cases hk; exact Nat.le_refl _)
 have z6 : B ≤ (w5.setCell ⟨B, 9, none⟩ (.slice R4 s.n2 d4)).heap.size := Zn z5 gg.size
 generalize w5.setCell ⟨B, 9, none⟩ (.slice R4 s.n2 d4) = w6 at y6 k6 r3 r4 b6 z6 gg u3 v3 ⊢
 have v6 := Zh v3
 have f6 : FlM w6 (fun b => b < B) s f := f5.grown gg (fun b hb e => by cases e; exact Nat.lt_irrefl _ hb)
 clear x1 fr gg y5 k5 f5 b5 z5
 have x1 := y6.cell 18 rfl
 go_upto_region 6 with (go_at_call 114; refine (raclone_any _ _ _ _ _ f6.d (by omega)).mono ?_; rintro e w7 ⟨R5, d5, rfl, hg, hb⟩; replace u3 := u3.imp (q := fun b => b < w3.heap.size ∧ ∀ i, w7.frozen? ⟨b, i, none⟩ = false) (fun b h => ⟨h.1, fun i => by rw [froz_block (hb.block b (Nat.lt_of_lt_of_le h.1 v3))]; exact h.2 i⟩); replace v3 := Zn v3 hb.size; obtain ⟨R', d', e', r5⟩ := hg.sni; cases e'; clear hg; replace r3 := Sne.keep r3 hb; replace r4 := Sn.keep r4 hb; have y7 := y6.kept hb; have k7 := k6.kept hb; have f7 := f6.keep hb; have b7 := b6.trans (hb.mono z6); have z7 := Zn z6 hb.size; have g5 : B + 1 < w6.heap.size := k6.lt; clear x1; have x1 := y7.cell 18 rfl; have fr := y7.free 18; clear hb)
 have gg : w7.grownBy (w7.setCell ⟨B, 18, none⟩ (.slice R5 s.n3 d5)) (some B) := fl_gset w7 ⟨B, 18, none⟩ (.slice R5 s.n3 d5)
 have y8 : Bx (w7.setCell ⟨B, 18, none⟩ (.slice R5 s.n3 d5)) B 40 (fcs ⟨R3, s.n1, d3, R4, s.n2, d4, R5, s.n3, d5, s.a4, s.n4, s.c4⟩ f) := y7.set 18 (.slice R5 s.n3 d5)
 have k8 := k7.far (p := ⟨B, 18, none⟩) (show B + 1 ≠ B by omega) (.slice R5 s.n3 d5)
 replace r3 := Sne.grown r3 gg (by omega)
 replace r4 := Sn.grown r4 gg (by omega)
 replace r5 := sni_grown r5 gg (by omega)
 replace u3 := u3.imp (q := fun b => b < w3.heap.size ∧ ∀ i, (w7.setCell ⟨B, 18, none⟩ (.slice R5 s.n3 d5)).frozen? ⟨b, i, none⟩ = false) (fun b h => ⟨h.1, fun i => by rw [World.frozen?_setCell]; exact h.2 i⟩)
 replace v3 := Zn v3 gg.size
 have b8 := b7.grown gg z7 (fun k hk => by cases hk; exact Nat.le_refl _)
 have z8 : B ≤ (w7.setCell ⟨B, 18, none⟩ (.slice R5 s.n3 d5)).heap.size := Zn z7 gg.size
 generalize w7.setCell ⟨B, 18, none⟩ (.slice R5 s.n3 d5) = w8 at y8 k8 r3 r4 r5 b8 z8 gg u3 v3 ⊢
 have v8 := Zh v3
 have f8 : FlM w8 (fun b => b < B) s f := f7.grown gg (fun b hb e => by cases e; exact Nat.lt_irrefl _ hb)
 clear x1 fr gg y7 k7 f7 b7 z7
 have x1 := y8.cell 29 rfl
 go_upto_region 7 with (go_at_call 114; refine (raclone_any _ _ _ _ _ f8.g (by omega)).mono ?_; rintro e w9 ⟨R6, d6, rfl, hg, hb⟩; replace u3 := u3.imp (q := fun b => b < w3.heap.size ∧ ∀ i, w9.frozen? ⟨b, i, none⟩ = false) (fun b h => ⟨h.1, fun i => by rw [froz_block (hb.block b (Nat.lt_of_lt_of_le h.1 v3))]; exact h.2 i⟩); replace v3 := Zn v3 hb.size; obtain ⟨R', d', e', r6⟩ := hg.sni; cases e'; clear hg; replace r3 := Sne.keep r3 hb; replace r4 := Sn.keep r4 hb; replace r5 := Sni.keep r5 hb; have y9 := y8.kept hb; have k9 := k8.kept hb; have f9 := f8.keep hb; have b9 := b8.trans (hb.mono z8); have z9 := Zn z8 hb.size; have g6 : B + 1 < w8.heap.size := k8.lt; clear x1; have x1 := y9.cell 29 rfl; have fr := y9.free 29; clear hb)
 have gg : w9.grownBy (w9.setCell ⟨B, 29, none⟩ (.slice R6 s.n4 d6)) (some B) := fl_gset w9 ⟨B, 29, none⟩ (.slice R6 s.n4 d6)
 have y10 : Bx (w9.setCell ⟨B, 29, none⟩ (.slice R6 s.n4 d6)) B 40 (fcs ⟨R3, s.n1, d3, R4, s.n2, d4, R5, s.n3, d5, R6, s.n4, d6⟩ f) := y9.set 29 (.slice R6 s.n4 d6)
 have k10 := k9.far (p := ⟨B, 29, none⟩) (show B + 1 ≠ B by omega) (.slice R6 s.n4 d6)
 replace r3 := Sne.grown r3 gg (by omega)
 replace r4 := Sn.grown r4 gg (by omega)
 replace r5 := sni_grown r5 gg (by omega)
 replace r6 := sni_grown r6 gg (by omega)
 replace u3 := u3.imp (q := fun b => b < w3.heap.size ∧ ∀ i, (w9.setCell ⟨B, 29, none⟩ (.slice R6 s.n4 d6)).frozen? ⟨b, i, none⟩ = false) (fun b h => ⟨h.1, fun i => by rw [World.frozen?_setCell]; exact h.2 i⟩)
 replace v3 := Zn v3 gg.size
 have b10 := b9.grown gg z9 (fun k hk => by cases hk; exact Nat.le_refl _)
 have z10 : B ≤ (w9.setCell ⟨B, 29, none⟩ (.slice R6 s.n4 d6)).heap.size := Zn z9 gg.size
 generalize w9.setCell ⟨B, 29, none⟩ (.slice R6 s.n4 d6) = w10 at y10 k10 r3 r4 r5 r6 b10 z10 gg u3 v3 ⊢
 have v10 := Zh v3
 clear x1 fr gg y9 k9 f9 b9 z9
 obtain ⟨S, hS⟩ : ∃ S, w10.heap.size = S := ⟨_, rfl⟩
 have hFS : ∃ s' : Fs, s' = ⟨R3, s.n1, d3, R4, s.n2, d4, R5, s.n3, d5, R6, s.n4, d6⟩ := ⟨_, rfl⟩
 obtain ⟨s', hs'⟩ := hFS
 rw [← hs'] at y10
 have HSE := Zh hs'
 have HW := Zh (w_valid ((fmay_iff f c).1 HQ.out))
 clear hs' g3 g4 g5 g6 n1 n2 n3 n4
 have R3' := Zh r3; have R4' := Zh r4; have R5' := Zh r5; have R6' := Zh r6; have U3' := Zh u3; have HBB := Zh b10; have HZZ := Zh z10
 have HBL2 := Zh b2.size; have HBL := Zh (show B ≤ w2.heap.size ∧ B ≤ w4.heap.size ∧ B ≤ w6.heap.size ∧ B ≤ w8.heap.size from ⟨z2, z4, z6, z8⟩)
 clear r3 r4 r5 r6 u3 v3 b10 z10 y2 k2 f2 y4 k4 f4 y6 k6 f6 y8 k8 f8 b2 b4 b6 b8 z2 z4 z6 z8
 go_wp2_with (first | (refine fl_load rfl (.tmp 3) rfl rfl y10 rfl ?_) | (refine cf_load rfl (.tmp 4) rfl rfl k10 rfl ?_) | (refine wpList_buildTo rfl 101 _ rfl _ rfl (scs s' f c now 0).toArray (by kernel_rfl) ?_))
 go_ret2
 have hh := HSE.out
 subst hh
 have al := fun {A : Option Addr} {n : Nat} (h : 0 < n → ∃ b o, A = some ⟨b, o, none⟩ ∧ b < w10.heap.size) => (fun h0 b o q e => by obtain ⟨b', o', e', hlt⟩ := h h0; rw [e] at e'; cases e'; rw [← hS]; exact hlt : 0 < n → ∀ b o q, A = some ⟨b, o, q⟩ → b < S)
 refine ⟨HBB.out.alloc HZZ.out _, .inl ⟨rfl, S, ⟨R3, s.n1, d3, R4, s.n2, d4, R5, s.n3, d5, R6, s.n4, d6⟩, rfl, ?_, ?_, ?_⟩⟩
 refine ⟨hS ▸ Bx.new w10 101 _, ⟨R3'.out.se.alloc _, R4'.out.ss.alloc _, R5'.out.si.alloc _, R6'.out.si.alloc _, HW.out, ?_, ?_, ?_, ?_⟩, by rw [← hS]; exact HZZ.out, (by simp), (by simp)⟩
 ·exact in_new R3'.out.at_ HBL.out.1 (al (fun h0 => by obtain ⟨b, o, e, hl, _⟩ := R3'.out.se.rd.at_ h0; exact ⟨b, o, e, hl⟩))
 ·exact in_new R4'.out.at_ HBL.out.2.1 (al (fun h0 => by obtain ⟨b, o, e, hl, _⟩ := R4'.out.ss.rd.at_ h0; exact ⟨b, o, e, hl⟩))
 ·exact in_new R5'.out.at_ HBL.out.2.2.1 (al (fun h0 => by obtain ⟨b, o, e, hl, _⟩ := R5'.out.si.rd.at_ h0; exact ⟨b, o, e, hl⟩))
 ·exact in_new R6'.out.at_ HBL.out.2.2.2 (al (fun h0 => by obtain ⟨b, o, e, hl, _⟩ := R6'.out.si.rd.at_ h0; exact ⟨b, o, e, hl⟩))
 ·intro b o q e h0
  have hu := (U3'.out h0 b o q e).1
  exact ⟨fun _ b' o' q' e' => by have := R4'.out.at_ b' o' q' e'; have := v4.out; omega, fun _ b' o' q' e' => by have := R5'.out.at_ b' o' q' e'; have := v6.out; omega, fun _ b' o' q' e' => by have := R6'.out.at_ b' o' q' e'; have := v8.out; omega⟩
 ·intro h0 b o q e i
  have hu := U3'.out h0 b o q e
  have hlt := hS ▸ Nat.lt_of_lt_of_le hu.1 v10.out
  rw [froz_block (Below.heap_alloc _ _ b (Nat.lt_of_lt_of_le hu.1 v10.out))]
  exact hu.2 i
theorem ew_in (old sample : Int) (k : Nat) (hk : k ≤ 30) (h0 : 0 ≤ old) (h1 : old ≤ 1152921504606846976) (h2 : 0 ≤ sample) (h3 : sample ≤ 1152921504606846976) : tell (ewR old sample (k : Int)) (ewOk old sample (k : Int)) = old + (sample - old) / 2 ^ k := by
 have hb := ew_between old sample k
 have hin : inB (old + (sample - old) / 2 ^ k) = true := by
  rw [inB_iff]
  rcases Int.le_total old sample with h | h
  ·have := hb.1 h; omega
  ·have := hb.2 h; omega
 have hr : ewR old sample (k : Int) = old + (sample - old) / 2 ^ k := by unfold ewR; rw [Int.toNat_natCast]
 have ho : ewOk old sample (k : Int) = true := by
  unfold ewOk
  rw [(inB_iff old).2 (by omega), (inB_iff sample).2 (by omega), (inB_iff (sample - old)).2 (by omega)]
  simp only [Bool.true_and, Bool.and_eq_true, decide_eq_true_eq]
  omega
 rw [ho, hr]; rfl
theorem moved_any (old sample : Int) (k : Nat) (hk : k ≤ 30) (h0 : 0 ≤ old) (h1 : old ≤ 1152921504606846976) (h2 : 0 ≤ sample) (h3 : sample ≤ 1152921504606846976) (w : World) :
  Calls Tryz.prog 222 #[old, sample, .int .i64 (k : Int)] w fun e w' => e = .returned (.int .i64 (old + (sample - old) / 2 ^ k)) ∧ Below w.heap.size w w' := by
 have he := ew_in old sample k hk h0 h1 h2 h3
 obtain ⟨r, hr⟩ : ∃ r, old + (sample - old) / 2 ^ k = r := ⟨_, rfl⟩
 rw [hr] at he ⊢
 have HE := Zh he; clear he hr
 go_enter Tryz.func222, Tryz.ntmps222
 go_wp2_with (go_at_call 185; refine (ewma_any _ _ _ _).mono ?_; rintro e w1 ⟨rfl, hb⟩; rw [HE.out])
 go_ret
 exact ⟨rfl, hb⟩
theorem rgrown_set (W : World) (p : Addr) (u : Value) : W.grownBy (W.setCell p u) (some p.block) :=
 ⟨rfl, rfl, rfl, by simp, fun i hi hne => Below.heap_setCell W p u i (fun e => hne (by rw [e]))⟩
theorem smS_move (srtt took : Int) : srtt + (took - srtt) / 2 ^ 3 = (7 * srtt + took) / 8 := by
 have : (2 : Int) ^ 3 = 8 := rfl
 rw [this]; omega
theorem smV_move (vr off : Int) : vr + (off - vr) / 2 ^ 2 = (3 * vr + off) / 4 := by
 have : (2 : Int) ^ 2 = 4 := rfl
 rw [this]; omega
theorem measured_any (has : Bool) (srtt vr rto shift took : Int) (w : World) (hv : RtOk ⟨has, srtt, vr, rto, shift⟩) (t0 : 0 ≤ took) (t1 : took ≤ 1099511627776) :
  Calls Tryz.prog 201 #[.agg #[has, srtt, vr, rto, shift], took] w fun e w' => e = .returned (.agg #[.bool true, .int .i64 (smS ⟨has, srtt, vr, rto, shift⟩ took), .int .i64 (smV ⟨has, srtt, vr, rto, shift⟩ took), rto, shift]) ∧ Below w.heap.size w w' := by
 have s0 : 0 ≤ srtt := hv.s0; have s1 : srtt ≤ 1152921504606846976 := hv.s1; have v0 : 0 ≤ vr := hv.v0; have v1 : vr ≤ 1152921504606846976 := hv.v1
 clear hv
 cases has with
 | false =>
  have hS : smS ⟨false, srtt, vr, rto, shift⟩ took = took := rfl
  have hV : smV ⟨false, srtt, vr, rto, shift⟩ took = took / 2 := rfl
  rw [hS, hV]
  clear hS hV
  have q2 : took.tdiv 2 = took / 2 := Int.tdiv_eq_ediv_of_nonneg t0
  have q3 : 0 ≤ took / 2 ∧ took / 2 ≤ 1099511627776 := by omega
  obtain ⟨H, hH⟩ : ∃ H, took / 2 = H := ⟨_, rfl⟩
  rw [hH] at q2 q3 ⊢
  clear hH
  obtain ⟨q4, q5⟩ := q3
  go_enter Tryz.func201, Tryz.ntmps201
  go_wp2_with fail
  exact rt_end1 (by rfl) (by rfl) (two_new w _ _ [.bool true, took, H, rto, shift]) rfl rfl ⟨rfl, two_below _ _ _⟩
 | true =>
  by_cases c : took - srtt ≤ srtt - took
  ·obtain ⟨V, hV⟩ : ∃ V, vr + ((srtt - took) - vr) / 2 ^ 2 = V := ⟨_, rfl⟩
   obtain ⟨S, hS⟩ : ∃ S, srtt + (took - srtt) / 2 ^ 3 = S := ⟨_, rfl⟩
   have eS : smS ⟨true, srtt, vr, rto, shift⟩ took = S := by rw [← hS, smS_move]; rfl
   have eV : smV ⟨true, srtt, vr, rto, shift⟩ took = V := by rw [← hV, smV_move]; unfold smV offI; rw [if_pos rfl]; dsimp only; split <;> omega
   rw [eS, eV]
   clear eS eV
   have HV : ∀ w, Calls Tryz.prog 222 #[vr, .int .i64 (srtt - took), .int .i64 2] w fun e w' => e = .returned (.int .i64 V) ∧ Below w.heap.size w w' := by rw [← hV]; exact moved_any vr (srtt - took) 2 (by decide) v0 v1 (by omega) (by omega)
   have HS : ∀ w, Calls Tryz.prog 222 #[srtt, took, .int .i64 3] w fun e w' => e = .returned (.int .i64 S) ∧ Below w.heap.size w w' := by rw [← hS]; exact moved_any srtt took 3 (by decide) s0 s1 t0 (by omega)
   have JV := Zh HV; have JS := Zh HS; clear HV HS hV hS
   have mx1 : max (took - srtt) (srtt - took) = srtt - took := by omega
   have mx2 : max (srtt - took) (took - srtt) = srtt - took := by omega
   obtain ⟨B, hB⟩ : ∃ B, w.heap.size = B := ⟨_, rfl⟩
   rw [hB]
   have e0 := Bx.new w 24 [.bool true, srtt, vr, rto, shift]
   have e1 := e0.alloc (.cells #[.bool false, .int .i64 0, .int .i64 0, .int .i64 0, .int .i64 0] 24)
   have y1 := two_new w (.cells #[.bool true, srtt, vr, rto, shift] 24) 24 [.bool false, .int .i64 0, .int .i64 0, .int .i64 0, .int .i64 0]
   rw [hB] at e1 y1
   have b1 : Below B w ((w.alloc (.cells #[.bool true, srtt, vr, rto, shift] 24)).alloc (.cells #[.bool false, .int .i64 0, .int .i64 0, .int .i64 0, .int .i64 0] 24)) := by rw [← hB]; exact two_below _ _ _
   go_enter Tryz.func201, Tryz.ntmps201
   go_wp2_with fail
   obtain ⟨w1, hw1⟩ : ∃ w1, (w.alloc (.cells #[.bool true, srtt, vr, rto, shift] 24)).alloc (.cells #[.bool false, .int .i64 0, .int .i64 0, .int .i64 0, .int .i64 0] 24) = w1 := ⟨_, rfl⟩
   rw [hw1] at e1 y1 b1 ⊢
   clear hw1 e0
   refine (JV.out _).mono ?_
   rintro e w2 ⟨rfl, hb2⟩
   have e2 := e1.kept hb2; have y2 := y1.kept hb2; have b2 := b1.trans (hb2.mono (Zl e1.lt))
   have p2 := e2.set 2 (.int .i64 V)
   simp only [List.set_cons_zero, List.set_cons_succ] at p2
   have q2 := y2.far (p := ⟨B, 2, none⟩) (by simp) (.int .i64 V)
   have x0 := e2.cell 0 rfl; have x1 := e2.cell 1 rfl; have x2 := e2.cell 2 rfl; have x3 := e2.cell 3 rfl; have x4 := e2.cell 4 rfl
   have f2 := e2.free 2
   go_wp2_with fail
   refine (JS.out _).mono ?_
   rintro e w3 ⟨rfl, hb3⟩
   have c2 : Below B w (w2.setCell ⟨B, 2, none⟩ (.int .i64 V)) := b2.grown (rgrown_set w2 ⟨B, 2, none⟩ (.int .i64 V)) (Zl e2.lt) (fun k hk => by cases hk; exact Nat.le_refl _)
   clear x0 x1 x2 x3 x4 f2
   have p3 := p2.kept hb3; have q3 := q2.kept hb3; have b3 := c2.trans (hb3.mono (Zl p2.lt))
   have p4 := p3.set 1 (.int .i64 S)
   simp only [List.set_cons_zero, List.set_cons_succ] at p4
   have q4 := q3.far (p := ⟨B, 1, none⟩) (by simp) (.int .i64 S)
   have x0 := p3.cell 0 rfl; have x1 := p3.cell 1 rfl; have x2 := p3.cell 2 rfl; have x3 := p3.cell 3 rfl; have x4 := p3.cell 4 rfl
   have f1 := p3.free 1
   have c3 : Below B w (w3.setCell ⟨B, 1, none⟩ (.int .i64 S)) := b3.grown (rgrown_set w3 ⟨B, 1, none⟩ (.int .i64 S)) (Zl p3.lt) (fun k hk => by cases hk; exact Nat.le_refl _)
   go_wp2_with (first | (refine rt_load rfl (.tmp 2) rfl rfl p4 rfl ?_) | (refine rt_store rfl (.tmp 4) (.tmp 35) rfl rfl [.bool true, S, V, rto, shift] rfl q4 rfl rfl rfl ?_))
   refine rt_end1 (by rfl) (by rfl) (rt_put q4 [.bool true, S, V, rto, shift]) rfl rfl ?_
   exact ⟨rfl, c3.grown (rt_grown _ (B + 1) _) (Zl p4.lt) (fun k hk => by cases hk; omega)⟩
  ·obtain ⟨V, hV⟩ : ∃ V, vr + ((took - srtt) - vr) / 2 ^ 2 = V := ⟨_, rfl⟩
   obtain ⟨S, hS⟩ : ∃ S, srtt + (took - srtt) / 2 ^ 3 = S := ⟨_, rfl⟩
   have eS : smS ⟨true, srtt, vr, rto, shift⟩ took = S := by rw [← hS, smS_move]; rfl
   have eV : smV ⟨true, srtt, vr, rto, shift⟩ took = V := by rw [← hV, smV_move]; unfold smV offI; rw [if_pos rfl]; dsimp only; split <;> omega
   rw [eS, eV]
   clear eS eV
   have HV : ∀ w, Calls Tryz.prog 222 #[vr, .int .i64 (took - srtt), .int .i64 2] w fun e w' => e = .returned (.int .i64 V) ∧ Below w.heap.size w w' := by rw [← hV]; exact moved_any vr (took - srtt) 2 (by decide) v0 v1 (by omega) (by omega)
   have HS : ∀ w, Calls Tryz.prog 222 #[srtt, took, .int .i64 3] w fun e w' => e = .returned (.int .i64 S) ∧ Below w.heap.size w w' := by rw [← hS]; exact moved_any srtt took 3 (by decide) s0 s1 t0 (by omega)
   have JV := Zh HV; have JS := Zh HS; clear HV HS hV hS
   have mx1 : max (took - srtt) (srtt - took) = took - srtt := by omega
   have mx2 : max (srtt - took) (took - srtt) = took - srtt := by omega
   obtain ⟨B, hB⟩ : ∃ B, w.heap.size = B := ⟨_, rfl⟩
   rw [hB]
   have e0 := Bx.new w 24 [.bool true, srtt, vr, rto, shift]
   have e1 := e0.alloc (.cells #[.bool false, .int .i64 0, .int .i64 0, .int .i64 0, .int .i64 0] 24)
   have y1 := two_new w (.cells #[.bool true, srtt, vr, rto, shift] 24) 24 [.bool false, .int .i64 0, .int .i64 0, .int .i64 0, .int .i64 0]
   rw [hB] at e1 y1
   have b1 : Below B w ((w.alloc (.cells #[.bool true, srtt, vr, rto, shift] 24)).alloc (.cells #[.bool false, .int .i64 0, .int .i64 0, .int .i64 0, .int .i64 0] 24)) := by rw [← hB]; exact two_below _ _ _
   go_enter Tryz.func201, Tryz.ntmps201
   go_wp2_with fail
   obtain ⟨w1, hw1⟩ : ∃ w1, (w.alloc (.cells #[.bool true, srtt, vr, rto, shift] 24)).alloc (.cells #[.bool false, .int .i64 0, .int .i64 0, .int .i64 0, .int .i64 0] 24) = w1 := ⟨_, rfl⟩
   rw [hw1] at e1 y1 b1 ⊢
   clear hw1 e0
   refine (JV.out _).mono ?_
   rintro e w2 ⟨rfl, hb2⟩
   have e2 := e1.kept hb2; have y2 := y1.kept hb2; have b2 := b1.trans (hb2.mono (Zl e1.lt))
   have p2 := e2.set 2 (.int .i64 V)
   simp only [List.set_cons_zero, List.set_cons_succ] at p2
   have q2 := y2.far (p := ⟨B, 2, none⟩) (by simp) (.int .i64 V)
   have x0 := e2.cell 0 rfl; have x1 := e2.cell 1 rfl; have x2 := e2.cell 2 rfl; have x3 := e2.cell 3 rfl; have x4 := e2.cell 4 rfl
   have f2 := e2.free 2
   go_wp2_with fail
   refine (JS.out _).mono ?_
   rintro e w3 ⟨rfl, hb3⟩
   have c2 : Below B w (w2.setCell ⟨B, 2, none⟩ (.int .i64 V)) := b2.grown (rgrown_set w2 ⟨B, 2, none⟩ (.int .i64 V)) (Zl e2.lt) (fun k hk => by cases hk; exact Nat.le_refl _)
   clear x0 x1 x2 x3 x4 f2
   have p3 := p2.kept hb3; have q3 := q2.kept hb3; have b3 := c2.trans (hb3.mono (Zl p2.lt))
   have p4 := p3.set 1 (.int .i64 S)
   simp only [List.set_cons_zero, List.set_cons_succ] at p4
   have q4 := q3.far (p := ⟨B, 1, none⟩) (by simp) (.int .i64 S)
   have x0 := p3.cell 0 rfl; have x1 := p3.cell 1 rfl; have x2 := p3.cell 2 rfl; have x3 := p3.cell 3 rfl; have x4 := p3.cell 4 rfl
   have f1 := p3.free 1
   have c3 : Below B w (w3.setCell ⟨B, 1, none⟩ (.int .i64 S)) := b3.grown (rgrown_set w3 ⟨B, 1, none⟩ (.int .i64 S)) (Zl p3.lt) (fun k hk => by cases hk; exact Nat.le_refl _)
   go_wp2_with (first | (refine rt_load rfl (.tmp 2) rfl rfl p4 rfl ?_) | (refine rt_store rfl (.tmp 4) (.tmp 35) rfl rfl [.bool true, S, V, rto, shift] rfl q4 rfl rfl rfl ?_))
   refine rt_end1 (by rfl) (by rfl) (rt_put q4 [.bool true, S, V, rto, shift]) rfl rfl ?_
   exact ⟨rfl, c3.grown (rt_grown _ (B + 1) _) (Zl p4.lt) (fun k hk => by cases hk; omega)⟩
theorem timeout_any (has : Bool) (srtt vr rto shift least most : Int) (w : World) (s0 : 0 ≤ srtt) (s1 : srtt ≤ 1152921504606846976) (v0 : 0 ≤ vr) (v1 : vr ≤ 1152921504606846976) :
  Calls Tryz.prog 202 #[.agg #[has, srtt, vr, rto, shift], least, most] w fun e w' => e = .returned (.int .i64 (clI (srtt + (if 4 * vr < 1000 then 1000 else 4 * vr)) least most)) ∧ Below w.heap.size w w' := by
 by_cases c : 4 * vr ≤ 1000
 ·have e : (if 4 * vr < 1000 then 1000 else 4 * vr) = 1000 := by split <;> omega
  rw [e]
  clear e
  have mx1 : max (4 * vr) 1000 = 1000 := by omega
  have mx2 : max 1000 (4 * vr) = 1000 := by omega
  go_enter Tryz.func202, Tryz.ntmps202
  go_wp2_with (go_at_call 157; refine (cl_any _ _ _ _).mono ?_; rintro e w1 ⟨rfl, rfl⟩)
  go_ret
  exact ⟨rfl, (Zb).alloc Zr _⟩
 ·have e : (if 4 * vr < 1000 then 1000 else 4 * vr) = 4 * vr := by split <;> omega
  rw [e]
  clear e
  have mx1 : max (4 * vr) 1000 = 4 * vr := by omega
  have mx2 : max 1000 (4 * vr) = 4 * vr := by omega
  go_enter Tryz.func202, Tryz.ntmps202
  go_wp2_with (go_at_call 157; refine (cl_any _ _ _ _).mono ?_; rintro e w1 ⟨rfl, rfl⟩)
  go_ret
  exact ⟨rfl, (Zb).alloc Zr _⟩
theorem Below.own {N B i : Nat} {w W : World} (h : Below N w W) (hl : N ≤ W.heap.size) (hB : N ≤ B) (u : Value) : Below N w (W.setCell ⟨B, i, none⟩ u) :=
 h.grown (rgrown_set W ⟨B, i, none⟩ u) hl (fun k hk => by cases hk; exact hB)
theorem rtdouble_any (has : Bool) (srtt vr rto shift : Int) (w : World) :
  Calls Tryz.prog 155 #[.agg #[has, srtt, vr, rto, shift]] w fun e w' => TellE w w' e (dbl ⟨has, srtt, vr, rto, shift⟩) := by
 unfold TellE
 obtain ⟨B, hB⟩ : ∃ B, w.heap.size = B := ⟨_, rfl⟩
 rw [hB]
 have e0 := Bx.new w 24 [has, srtt, vr, rto, shift]
 have e1 := e0.alloc (.cells #[.bool false, .int .i64 0, .int .i64 0, .int .i64 0, .int .i64 0] 24)
 have y1 := two_new w (.cells #[has, srtt, vr, rto, shift] 24) 24 [.bool false, .int .i64 0, .int .i64 0, .int .i64 0, .int .i64 0]
 rw [hB] at e1 y1
 have b1 : Below B w ((w.alloc (.cells #[has, srtt, vr, rto, shift] 24)).alloc (.cells #[.bool false, .int .i64 0, .int .i64 0, .int .i64 0, .int .i64 0] 24)) := by rw [← hB]; exact two_below _ _ _
 clear e0
 go_enter Tryz.func155, Tryz.ntmps155
 go_wp2_with (refine rt_load rfl (.tmp 1) rfl rfl e1 rfl ?_)
 obtain ⟨w1, hw1⟩ : ∃ w1, (w.alloc (.cells #[has, srtt, vr, rto, shift] 24)).alloc (.cells #[.bool false, .int .i64 0, .int .i64 0, .int .i64 0, .int .i64 0] 24) = w1 := ⟨_, rfl⟩
 rw [hw1] at e1 y1 b1 ⊢
 clear hw1
 refine (rtmay_any has srtt vr rto shift _).mono ?_
 rintro e w2 ⟨he, hb2⟩
 have e2 := e1.kept hb2; have y2 := y1.kept hb2; have b2 := b1.trans (hb2.mono (Zl e1.lt))
 clear e1 y1 b1 hb2
 have hBs : B ≤ w2.heap.size := Zl e2.lt
 cases hk : rtB ⟨has, srtt, vr, rto, shift⟩ with
 | false =>
  rw [hk] at he; subst he
  have hx : dbl ⟨has, srtt, vr, rto, shift⟩ = (zrt, 1) := by unfold dbl; rw [if_neg (by rw [hk]; simp)]
  have HX := Zh hx; clear hx
  go_wp2_with (refine rt_store rfl (.tmp 2) (.tmp 7) rfl rfl [.bool false, .int .i64 0, .int .i64 0, .int .i64 0, .int .i64 0] rfl y2 rfl rfl rfl ?_)
  refine rt_end (by rfl) (by rfl) (by rfl) (rt_put y2 [.bool false, .int .i64 0, .int .i64 0, .int .i64 0, .int .i64 0]) rfl rfl ?_
  rw [HX.out]
  exact ⟨rfl, b2.grown (rt_grown _ (B + 1) #[.bool false, .int .i64 0, .int .i64 0, .int .i64 0, .int .i64 0]) (Zl e2.lt) (fun k hk => by cases hk; omega)⟩
 | true =>
  rw [hk] at he; subst he
  have hx : dbl ⟨has, srtt, vr, rto, shift⟩ = (⟨has, srtt, vr, rto, upS shift⟩, 0) := by unfold dbl; rw [if_pos hk]
  have hv := (rtB_iff _).1 hk
  have h0 : 0 ≤ shift := hv.h0
  have h1 : shift ≤ 16 := hv.h1
  obtain ⟨U, hU⟩ : ∃ U, upS shift = U := ⟨_, rfl⟩
  rw [hU] at hx
  have HX := Zh hx; clear hx hk hv
  by_cases c : shift + 1 ≤ 16
  ·obtain rfl : shift + 1 = U := by rw [← hU]; unfold upS; rw [if_pos (by omega)]
   clear hU
   have mn1 : min (shift + 1) 16 = shift + 1 := by omega
   have e3 := e2.set 4 (.int .i64 (shift + 1))
   simp only [List.set_cons_zero, List.set_cons_succ] at e3
   have y3 := y2.far (p := ⟨B, 4, none⟩) (by simp) (.int .i64 (shift + 1))
   have b3 : Below B w (w2.setCell ⟨B, 4, none⟩ (.int .i64 (shift + 1))) := Below.own b2 hBs Zr _
   have x4 := e2.cell 4 rfl; have f4 := e2.free 4
   go_wp2_with (first | (refine rt_load rfl (.tmp 1) rfl rfl e3 rfl ?_) | (refine rt_store rfl (.tmp 2) (.tmp 13) rfl rfl [has, srtt, vr, rto, .int .i64 (shift + 1)] rfl y3 rfl rfl rfl ?_))
   refine rt_end (by rfl) (by rfl) (by rfl) (rt_put y3 [has, srtt, vr, rto, .int .i64 (shift + 1)]) rfl rfl ?_
   rw [HX.out]
   exact ⟨rfl, b3.grown (rt_grown _ (B + 1) _) (Zl e3.lt) (fun k hk => by cases hk; omega)⟩
  ·obtain rfl : 16 = U := by rw [← hU]; unfold upS; rw [if_neg (by omega)]; omega
   clear hU
   have mn1 : min (shift + 1) 16 = 16 := by omega
   have e3 := e2.set 4 (.int .i64 16)
   simp only [List.set_cons_zero, List.set_cons_succ] at e3
   have y3 := y2.far (p := ⟨B, 4, none⟩) (by simp) (.int .i64 16)
   have b3 : Below B w (w2.setCell ⟨B, 4, none⟩ (.int .i64 16)) := Below.own b2 hBs Zr _
   have x4 := e2.cell 4 rfl; have f4 := e2.free 4
   go_wp2_with (first | (refine rt_load rfl (.tmp 1) rfl rfl e3 rfl ?_) | (refine rt_store rfl (.tmp 2) (.tmp 13) rfl rfl [has, srtt, vr, rto, .int .i64 16] rfl y3 rfl rfl rfl ?_))
   refine rt_end (by rfl) (by rfl) (by rfl) (rt_put y3 [has, srtt, vr, rto, .int .i64 16]) rfl rfl ?_
   rw [HX.out]
   exact ⟨rfl, b3.grown (rt_grown _ (B + 1) _) (Zl e3.lt) (fun k hk => by cases hk; omega)⟩
theorem pow16 {n : Nat} (h : n ≤ 16) : (2 : Int) ^ n ≤ 65536 := by
 obtain ⟨k, hk⟩ : ∃ k, 16 = n + k := ⟨16 - n, by omega⟩
 have h1 := pow_pos2 k
 have h2 : (2 : Int) ^ n * 1 ≤ 2 ^ n * 2 ^ k := Int.mul_le_mul_of_nonneg_left h1 (Int.le_trans (by decide) (pow_pos2 n))
 rw [← Int.pow_add, ← hk, Int.mul_one] at h2
 exact Int.le_trans h2 (by decide)
theorem rtwait_any (has : Bool) (srtt vr rto shift : Int) (most : Int) (w : World) :
  Calls Tryz.prog 161 #[.agg #[has, srtt, vr, rto, shift], most] w fun e w' => e = .returned (.int .i64 (wt ⟨has, srtt, vr, rto, shift⟩ most)) ∧ Below w.heap.size w w' := by
 obtain ⟨B, hB⟩ : ∃ B, w.heap.size = B := ⟨_, rfl⟩
 rw [hB]
 have e1 := Bx.new w 24 [has, srtt, vr, rto, shift]
 rw [hB] at e1
 have b1 : Below B w (w.alloc (.cells #[has, srtt, vr, rto, shift] 24)) := (Zb).alloc (by omega) _
 go_enter Tryz.func161, Tryz.ntmps161
 go_wp2_with (refine rt_load rfl (.tmp 2) rfl rfl e1 rfl ?_)
 refine (rtmay_any has srtt vr rto shift _).mono ?_
 rintro e w2 ⟨he, hb2⟩
 have e2 := e1.kept hb2; have b2 := b1.trans (hb2.mono (Zl e1.lt))
 have x0 := e2.cell 0 rfl; have x3 := e2.cell 3 rfl; have x4 := e2.cell 4 rfl
 cases hk : rtB ⟨has, srtt, vr, rto, shift⟩ with
 | false =>
  rw [hk] at he; subst he
  have hx : wt ⟨has, srtt, vr, rto, shift⟩ most = 0 := by unfold wt; rw [if_neg (by rw [hk]; simp)]
  have HX := Zh hx; clear hx
  go_wp2_with fail
  go_ret
  exact ⟨by rw [HX.out]; rfl, b2⟩
 | true =>
  rw [hk] at he; subst he
  by_cases c1 : 1 ≤ most
  case neg =>
   have hx : wt ⟨has, srtt, vr, rto, shift⟩ most = 0 := by unfold wt mostOk; rw [if_neg (fun k => c1 k.2.1)]
   have HX := Zh hx; clear hx
   have c1' : most < 1 := by omega
   have d1 : decide (most < 1) = true := Zt c1'
   go_wp2_with fail
   go_ret
   exact ⟨by rw [HX.out]; rfl, b2⟩
  have c1' : ¬ (most < 1) := by omega
  have d1 : decide (most < 1) = false := Zf c1'
  by_cases c2 : most ≤ 1099511627776
  case neg =>
   have hx : wt ⟨has, srtt, vr, rto, shift⟩ most = 0 := by unfold wt mostOk; rw [if_neg (fun k => c2 k.2.2)]
   have HX := Zh hx; clear hx
   have c2' : 1099511627776 < most := by omega
   have d2 : decide (1099511627776 < most) = true := Zt c2'
   go_wp2_with fail
   go_ret
   exact ⟨by rw [HX.out]; rfl, b2⟩
  have c2' : ¬ (1099511627776 < most) := by omega
  have d2 : decide (1099511627776 < most) = false := Zf c2'
  have hv := (rtB_iff _).1 hk
  have h0 : 0 ≤ shift := hv.h0; have h1 : shift ≤ 16 := hv.h1; have h2 : 0 ≤ rto := hv.o0; have h3 : rto ≤ 1152921504606846976 := hv.o1
  have HK := Zh hk; clear hk hv
  obtain ⟨sh, rfl⟩ : ∃ sh : Nat, shift = (sh : Int) := ⟨shift.toNat, by omega⟩
  have hsh' : ((⟨has, srtt, vr, rto, (sh : Int)⟩ : Rt).shift).toNat = sh := by show ((sh : Int)).toNat = sh; omega
  cases has with
  | true =>
   have hbase : base ⟨true, srtt, vr, rto, (sh : Int)⟩ = rto := rfl
   have hsh16 : sh ≤ 16 := by omega
   have hP1 : (1 : Int) ≤ 2 ^ sh := pow_pos2 sh
   have hP2 : (2 : Int) ^ sh ≤ 65536 := pow16 hsh16
   have hwt : wt ⟨true, srtt, vr, rto, (sh : Int)⟩ most = minI (rto * 2 ^ sh) most := by
    unfold wt
    rw [if_pos ⟨HK.out, c1, c2⟩, hbase, hsh']
   clear hbase hsh'
   by_cases k : rto ≤ most
   ·obtain ⟨Y, hY⟩ : ∃ Y : Int, rto * 2 ^ sh = Y := ⟨_, rfl⟩
    have hY0 : 0 ≤ Y := by rw [← hY]; exact Int.mul_nonneg (by omega) (Int.le_trans (by decide) hP1)
    have hY1 : Y ≤ 72057594037927936 := by
     rw [← hY]
     have h1 : (rto : Int) * 2 ^ sh ≤ 1099511627776 * 65536 := Int.mul_le_mul (show (rto : Int) ≤ 1099511627776 by omega) hP2 (Int.le_trans (by decide) hP1) (by decide)
     exact Int.le_trans h1 (by decide)
    have hr : minI (rto * 2 ^ sh) most = if Y ≤ most then Y else most := by
     rw [hY]; unfold minI; split <;> split <;> omega
    rw [hr] at hwt
    clear hr hP1 hP2
    by_cases c6 : Y ≤ most
    ·rw [if_pos c6] at hwt
     have mn1 : min rto most = rto := by omega
     have mn2 : min Y most = Y := by omega
     have HWT := Zh hwt; clear hwt
     go_wp2_with fail
     go_ret
     exact ⟨by rw [HWT.out]; rfl, b2⟩
    ·rw [if_neg c6] at hwt
     have mn1 : min rto most = rto := by omega
     have mn2 : min Y most = most := by omega
     have HWT := Zh hwt; clear hwt
     go_wp2_with fail
     go_ret
     exact ⟨by rw [HWT.out]; rfl, b2⟩
   ·obtain ⟨Y, hY⟩ : ∃ Y : Int, most * 2 ^ sh = Y := ⟨_, rfl⟩
    have hY0 : 0 ≤ Y := by rw [← hY]; exact Int.mul_nonneg (by omega) (Int.le_trans (by decide) hP1)
    have hY1 : Y ≤ 72057594037927936 := by
     rw [← hY]
     have h1 : (most : Int) * 2 ^ sh ≤ 1099511627776 * 65536 := Int.mul_le_mul (show (most : Int) ≤ 1099511627776 by omega) hP2 (Int.le_trans (by decide) hP1) (by decide)
     exact Int.le_trans h1 (by decide)
    have hr : minI (rto * 2 ^ sh) most = if Y ≤ most then Y else most := by
     have h2 : most * 1 ≤ most * 2 ^ sh := Int.mul_le_mul_of_nonneg_left hP1 (by omega)
     have h3 : most * 2 ^ sh ≤ rto * 2 ^ sh := Int.mul_le_mul_of_nonneg_right (by omega) (by omega)
     rw [hY] at h2 h3
     unfold minI; split <;> split <;> omega
    rw [hr] at hwt
    clear hr hP1 hP2
    by_cases c6 : Y ≤ most
    ·rw [if_pos c6] at hwt
     have mn1 : min rto most = most := by omega
     have mn2 : min Y most = Y := by omega
     have HWT := Zh hwt; clear hwt
     go_wp2_with fail
     go_ret
     exact ⟨by rw [HWT.out]; rfl, b2⟩
    ·rw [if_neg c6] at hwt
     have mn1 : min rto most = most := by omega
     have mn2 : min Y most = most := by omega
     have HWT := Zh hwt; clear hwt
     go_wp2_with fail
     go_ret
     exact ⟨by rw [HWT.out]; rfl, b2⟩
  | false =>
   have hbase : base ⟨false, srtt, vr, rto, (sh : Int)⟩ = 1000000 := rfl
   have hsh16 : sh ≤ 16 := by omega
   have hP1 : (1 : Int) ≤ 2 ^ sh := pow_pos2 sh
   have hP2 : (2 : Int) ^ sh ≤ 65536 := pow16 hsh16
   have hwt : wt ⟨false, srtt, vr, rto, (sh : Int)⟩ most = minI (1000000 * 2 ^ sh) most := by
    unfold wt
    rw [if_pos ⟨HK.out, c1, c2⟩, hbase, hsh']
   clear hbase hsh'
   by_cases k : 1000000 ≤ most
   ·obtain ⟨Y, hY⟩ : ∃ Y : Int, 1000000 * 2 ^ sh = Y := ⟨_, rfl⟩
    have hY0 : 0 ≤ Y := by rw [← hY]; exact Int.mul_nonneg (by omega) (Int.le_trans (by decide) hP1)
    have hY1 : Y ≤ 72057594037927936 := by
     rw [← hY]
     have h1 : (1000000 : Int) * 2 ^ sh ≤ 1099511627776 * 65536 := Int.mul_le_mul (show (1000000 : Int) ≤ 1099511627776 by omega) hP2 (Int.le_trans (by decide) hP1) (by decide)
     exact Int.le_trans h1 (by decide)
    have hr : minI (1000000 * 2 ^ sh) most = if Y ≤ most then Y else most := by
     rw [hY]; unfold minI; split <;> split <;> omega
    rw [hr] at hwt
    clear hr hP1 hP2
    by_cases c6 : Y ≤ most
    ·rw [if_pos c6] at hwt
     have mn1 : min 1000000 most = 1000000 := by omega
     have mn2 : min Y most = Y := by omega
     have HWT := Zh hwt; clear hwt
     go_wp2_with fail
     go_ret
     exact ⟨by rw [HWT.out]; rfl, b2⟩
    ·rw [if_neg c6] at hwt
     have mn1 : min 1000000 most = 1000000 := by omega
     have mn2 : min Y most = most := by omega
     have HWT := Zh hwt; clear hwt
     go_wp2_with fail
     go_ret
     exact ⟨by rw [HWT.out]; rfl, b2⟩
   ·obtain ⟨Y, hY⟩ : ∃ Y : Int, most * 2 ^ sh = Y := ⟨_, rfl⟩
    have hY0 : 0 ≤ Y := by rw [← hY]; exact Int.mul_nonneg (by omega) (Int.le_trans (by decide) hP1)
    have hY1 : Y ≤ 72057594037927936 := by
     rw [← hY]
     have h1 : (most : Int) * 2 ^ sh ≤ 1099511627776 * 65536 := Int.mul_le_mul (show (most : Int) ≤ 1099511627776 by omega) hP2 (Int.le_trans (by decide) hP1) (by decide)
     exact Int.le_trans h1 (by decide)
    have hr : minI (1000000 * 2 ^ sh) most = if Y ≤ most then Y else most := by
     have h2 : most * 1 ≤ most * 2 ^ sh := Int.mul_le_mul_of_nonneg_left hP1 (by omega)
     have h3 : most * 2 ^ sh ≤ 1000000 * 2 ^ sh := Int.mul_le_mul_of_nonneg_right (by omega) (by omega)
     rw [hY] at h2 h3
     unfold minI; split <;> split <;> omega
    rw [hr] at hwt
    clear hr hP1 hP2
    by_cases c6 : Y ≤ most
    ·rw [if_pos c6] at hwt
     have mn1 : min 1000000 most = most := by omega
     have mn2 : min Y most = Y := by omega
     have HWT := Zh hwt; clear hwt
     go_wp2_with fail
     go_ret
     exact ⟨by rw [HWT.out]; rfl, b2⟩
    ·rw [if_neg c6] at hwt
     have mn1 : min 1000000 most = most := by omega
     have mn2 : min Y most = most := by omega
     have HWT := Zh hwt; clear hwt
     go_wp2_with fail
     go_ret
     exact ⟨by rw [HWT.out]; rfl, b2⟩
end Go.Proofs.YtbijhkhkigdddaaGreat
