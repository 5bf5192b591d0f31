/- FlH RkRef4 RkL5 RaTell. -/
import Derived.Test.YtbijhkhkigdddaaGreatP11
set_option linter.all false
set_option maxRecDepth 100000
set_option maxHeartbeats 32000000
namespace Go.Proofs.YtbijhkhkigdddaaGreat
open Go.RowKit
def smpD (d : Rv) (told : List Prt) : Rv :=
 if 0 < told.length then (if (sampR d (ge told (told.length - 1)).total (ge told (told.length - 1)).last).2.2 = 0 then (sampR d (ge told (told.length - 1)).total (ge told (told.length - 1)).last).1 else d) else d
def countG (f : Fv) (t : Tv) (told : List Prt) : Fv := { f with m := (markH f t told).1, d := smpD (rateH f t told).1 told }
def loseG (f : Fv) (c : Cf) (told : List Prt) (now : Int) : Fv := if 0 < told.length then lostF f c now else f
def turnG (f : Fv) (c : Cf) (t : Tv) : Fv := if f.rd ≤ t.got then roundF f c t.growth t.now else f
def settleG (f : Fv) (told : List Prt) : Fv := if 0 < told.length then { f with pb := false } else f
theorem markF_pb (f : Fv) (c : Cf) (n bytes : Int) (b : Bool) : markF { f with pb := b } c n bytes = { markF f c n bytes with pb := b } := by
 unfold markF
 by_cases h : 0 < n ∧ f.cut = false
 ·rw [if_pos h, if_pos h]
 ·rw [if_neg h, if_neg h]
  by_cases k : n = 0
  ·rw [if_pos k, if_pos k]
  ·rw [if_neg k, if_neg k]
theorem lostF_pb (f : Fv) (c : Cf) (now : Int) (b : Bool) : lostF { f with pb := b } c now = { lostF f c now with pb := b } := by
 unfold lostF
 show (if 0 < (lostR f.k f.l now (slackF f now)).2.1 ∧ f.cut = false then _ else _) = _
 by_cases h : 0 < (lostR f.k f.l now (slackF f now)).2.1 ∧ f.cut = false
 ·rw [if_pos h, if_pos h]; rfl
 ·rw [if_neg h, if_neg h]; rfl
theorem lose_rd (f : Fv) (c : Cf) (n bytes : Int) (told : List Prt) (now : Int) : (loseG (markF f c n bytes) c told now).rd = f.rd := by
 rw [← (mark_stay f c n bytes).2.2.2]
 unfold loseG
 split
 ·unfold lostF; split <;> rfl
 ·rfl
theorem sampF_eq (f : Fv) (told : List Prt) : sampF f told = settleG { f with d := smpD f.d told } told := by
 unfold sampF settleG smpD
 by_cases h : 0 < told.length
 ·rw [if_pos h, if_pos h, if_pos h]
 ·rw [if_neg h, if_neg h, if_neg h]
theorem step7_eq (f : Fv) (c : Cf) (t : Tv) (told : List Prt) :
  step7 f c t told = setF (settleG (turnG (loseG (markF (countG f t told) c (markH f t told).2.1 (lenSum told)) c told t.now) c t) told) c t.now := by
 have h0 := lose_rd (countG f t told) c (markH f t told).2.1 (lenSum told) told t.now
 have hT : step5 f c t told = settleG (loseG (markF (countG f t told) c (markH f t told).2.1 (lenSum told)) c told t.now) told := by
  unfold step5 turnF
  rw [sampF_eq]
  unfold settleG loseG
  by_cases h : 0 < told.length
  ·simp only [if_pos h]
   have e1 := markF_pb (countG f t told) c (markH f t told).2.1 (lenSum told) false
   have e2 := lostF_pb (markF (countG f t told) c (markH f t told).2.1 (lenSum told)) c t.now false
   show lostF (markF { countG f t told with pb := false } c (markH f t told).2.1 (lenSum told)) c t.now = _
   rw [e1, e2]
  ·simp only [if_neg h]; rfl
 unfold step7
 rw [hT]
 obtain ⟨g, hg⟩ : ∃ g, loseG (markF (countG f t told) c (markH f t told).2.1 (lenSum told)) c told t.now = g := ⟨_, rfl⟩
 rw [hg] at h0 ⊢
 have h1 : g.rd = f.rd := h0
 unfold turnG
 rw [h1]
 by_cases k : f.rd ≤ t.got
 ·rw [if_pos k, if_pos k]
  unfold settleG
  by_cases h : 0 < told.length
  ·rw [if_pos h, if_pos h]; rfl
  ·rw [if_neg h, if_neg h]
 ·rw [if_neg k, if_neg k]
def hcs (S : Nat) (A : Option Addr) (n k : Nat) (t : Tv) (G : Option Addr) (m d : Nat) (bs mk : Int) : List Value :=
 [.pointer (some ⟨S, 0, none⟩), t.got, .slice A n k, t.ace, .int .u32 t.ce, t.now, t.growth, .slice G m d, bs, mk]
structure Hg (n₀ : Nat) (l : List Nat) (W : World) (S H : Nat) (s : Fs) (f : Fv) (c : Cf) (e : Int) (A : Option Addr) (n k : Nat) (t : Tv) (G : Option Addr) (m d : Nat) (told : List Prt) (bs mk : Int) : Prop where
 st : St n₀ (H :: l) W S s f c t.now e
 bx : Bx W H 110 (hcs S A n k t G m d bs mk)
 h0 : n₀ ≤ H
 off : H ∉ l
 fr : Se W G m d told
 fo : In1 (Nw n₀ [S, H]) G m
section
variable {n₀ S H : Nat} {l : List Nat} {W W' : World} {s s' : Fs} {f f' : Fv} {c : Cf} {e e' : Int} {A : Option Addr} {n k : Nat} {t : Tv} {G : Option Addr} {m d : Nat} {told : List Prt} {bs mk : Int}
theorem Hg.old (h : Hg n₀ l W S H s f c e A n k t G m d told bs mk) : ∀ b ∈ l, b < W.heap.size := fun b hb => h.st.old b (List.mem_cons_of_mem _ hb)
theorem Hg.call (h : Hg n₀ l W S H s f c e A n k t G m d told bs mk) (hb : Below W.heap.size W W') : Hg n₀ l W' S H s f c e A n k t G m d told bs mk :=
 ⟨h.st.call hb, h.bx.kept hb, h.h0, h.off, h.fr.keep hb, h.fo⟩
theorem Hg.drew (h : Hg n₀ l W S H s f c e A n k t G m d told bs mk) : Hg n₀ l W.drew S H s f c e A n k t G m d told bs mk := h.call (Zb).drew
theorem Hg.frm (h : Hg n₀ l W S H s f c e A n k t G m d told bs mk) (hb : Below W.heap.size W W') : Fr n₀ l W W' := Fr.call hb h.st.size h.old
theorem Hg.ne (h : Hg n₀ l W S H s f c e A n k t G m d told bs mk) : S ≠ H := fun e => h.st.off (by rw [e]; exact List.mem_cons_self ..)
theorem Hg.cells (h : Hg n₀ l W S H s f c e A n k t G m d told bs mk) (o : Nat) (vs : List Value) (hv : setAll (scs s f c t.now e) o vs = scs s' f' c t.now e') (hfm : FlM W (Nw n₀ (S :: H :: l)) s' f') : Hg n₀ l (W.setCells S o vs) S H s' f' c e' A n k t G m d told bs mk :=
 ⟨h.st.cells o vs hv hfm, h.bx.grown (grown_cells vs o W) (fun e => h.ne (Zo e).symm), h.h0, h.off, se_grown h.fr h.fo (grown_cells vs o W) (fun b hb e => hb.2 (by rw [← Zo e]; exact List.mem_cons_self ..)), h.fo⟩
theorem Hg.set (h : Hg n₀ l W S H s f c e A n k t G m d told bs mk) (o : Nat) (v : Value) (hv : (scs s f c t.now e).set o v = scs s' f' c t.now e') (hfm : FlM W (Nw n₀ (S :: H :: l)) s' f') : Hg n₀ l (W.setCell ⟨S, o, none⟩ v) S H s' f' c e' A n k t G m d told bs mk := h.cells o [v] hv hfm
theorem Hg.frc (h : Hg n₀ l W S H s f c e A n k t G m d told bs mk) (o : Nat) (vs : List Value) : Fr n₀ l W (W.setCells S o vs) := (h.st.frc o vs).tail
theorem Hg.frs (h : Hg n₀ l W S H s f c e A n k t G m d told bs mk) (o : Nat) (v : Value) : Fr n₀ l W (W.setCell ⟨S, o, none⟩ v) := (h.st.frs o v).tail
theorem Hg.put (h : Hg n₀ l W S H s f c e A n k t G m d told bs mk) {A' : Option Addr} {n' k' : Nat} {G' : Option Addr} {m' d' : Nat} {told' : List Prt} {bs' mk' : Int} (o : Nat) (v : Value) (hv : (hcs S A n k t G m d bs mk).set o v = hcs S A' n' k' t G' m' d' bs' mk') (hf : Se W G' m' d' told') (ho : In1 (Nw n₀ [S, H]) G' m') :
  Hg n₀ l (W.setCell ⟨H, o, none⟩ v) S H s f c e A' n' k' t G' m' d' told' bs' mk' := by
 have hg : W.grownBy (W.setCell ⟨H, o, none⟩ v) (some H) := fl_gset W ⟨H, o, none⟩ v
 refine ⟨h.st.other hg (List.mem_cons_self ..), ?_, h.h0, h.off, se_grown hf ho hg (fun b hb e => hb.2 (by rw [← Zo e]; simp)), ho⟩
 have := h.bx.set o v
 rwa [hv] at this
theorem Hg.frp (h : Hg n₀ l W S H s f c e A n k t G m d told bs mk) (o : Nat) (v : Value) : Fr n₀ l W (W.setCell ⟨H, o, none⟩ v) :=
 Fr.grown (fl_gset W ⟨H, o, none⟩ v) h.st.size h.h0 h.off h.old
theorem Hg.fresh (h : Hg n₀ l W S H s f c e A n k t G m d told bs mk) {A' : Option Addr} {n' : Nat} (ha : ∀ b o q, A' = some ⟨b, o, q⟩ → W.heap.size ≤ b) : In1 (Nw n₀ [S, H]) A' n' := fun _ b o q e => by
 have hb := ha b o q e
 have h1 := h.st.bx.lt; have h2 := h.bx.lt
 refine ⟨Zn h.st.size hb, fun hx => ?_⟩
 rcases List.mem_cons.1 hx with hx | hx
 ·omega
 ·have := List.mem_singleton.1 hx; omega
theorem Hg.more (h : Hg n₀ l W S H s f c e A n k t G m d told bs mk) {P : Nat} (hP : W.heap.size ≤ P) (hW : Below W.heap.size W W') (hlt : P < W'.heap.size) : Hg n₀ (P :: l) W' S H s f c e A n k t G m d told bs mk := by
 have h2 := h.bx.lt
 have a := h.st.more hP hW hlt
 have k1 : ∀ b, Nw n₀ (S :: P :: H :: l) b → Nw n₀ (S :: H :: P :: l) b := fun b hb => ⟨hb.1, fun hx => hb.2 (by simp only [List.mem_cons] at hx ⊢; rcases hx with hx | hx | hx | hx <;> simp [hx])⟩
 have a2 : St n₀ (H :: P :: l) W' S s f c t.now e := ⟨a.bx, a.fm.imp k1, a.s0, fun hx => a.off (by simp only [List.mem_cons] at hx ⊢; rcases hx with hx | hx | hx <;> simp [hx]), fun b hb => a.old b (by simp only [List.mem_cons] at hb ⊢; rcases hb with hb | hb | hb <;> simp [hb])⟩
 refine ⟨a2, h.bx.kept hW, h.h0, fun hx => ?_, h.fr.keep hW, h.fo⟩
 rcases List.mem_cons.1 hx with hx | hx
 ·omega
 ·exact h.off hx
theorem Hg.less {P : Nat} (h : Hg n₀ (P :: l) W S H s f c e A n k t G m d told bs mk) : Hg n₀ l W S H s f c e A n k t G m d told bs mk := by
 have k1 : ∀ b, Nw n₀ (S :: H :: P :: l) b → Nw n₀ (S :: H :: l) b := fun b hb => ⟨hb.1, fun hx => hb.2 (by simp only [List.mem_cons] at hx ⊢; rcases hx with hx | hx | hx <;> simp [hx])⟩
 exact ⟨⟨h.st.bx, h.st.fm.imp k1, h.st.s0, fun hx => h.st.off (by simp only [List.mem_cons] at hx ⊢; rcases hx with hx | hx <;> simp [hx]), fun b hb => h.st.old b (by simp only [List.mem_cons] at hb ⊢; rcases hb with hb | hb <;> simp [hb])⟩, h.bx, h.h0, fun hx => h.off (List.mem_cons_of_mem _ hx), h.fr, h.fo⟩
theorem Hg.other (h : Hg n₀ l W S H s f c e A n k t G m d told bs mk) {X : Nat} (hX : X ∈ l) (hg : W.grownBy W' (some X)) (hr : In1 (fun b => b ≠ X) G m) : Hg n₀ l W' S H s f c e A n k t G m d told bs mk :=
 ⟨h.st.other hg (List.mem_cons_of_mem _ hX), h.bx.grown hg (fun e => h.off (by rw [Zo e]; exact hX)), h.h0, h.off, se_grown h.fr hr hg (fun b hb e => hb (Zo e).symm), h.fo⟩
end
theorem results_tmp4 {fn : Func} {t u v x : Tmp} (h : fn.results = #[.tmp t, .tmp u, .tmp v, .tmp x]) (tmps : Array Value) (P : Program) (w : World) :
  (results fn tmps).run P w = .ok (.tuple #[tmps.getD t undef, tmps.getD u undef, tmps.getD v undef, tmps.getD x undef]) w := by
 simp [results, h]
def TellL (w w' : World) (e : Ending) (y : List Prt × Int × Int × Int) : Prop := ∃ G m d, e = .returned (.tuple #[.slice G m d, y.2.1, y.2.2.1, y.2.2.2]) ∧ Sne w' w.heap.size G m d y.1 ∧ Below w.heap.size w w'
theorem lost_no {v : Rkv} {l : List Prt} {a b : Int} (h : ¬ LostOk v l a b) : lostR v l a b = ([], 0, 0, 1) := if_neg h
theorem lost_ok {v : Rkv} {l : List Prt} {a b : Int} (h : LostOk v l a b) : lostR v l a b = (lostL v a b l, lostN v a b l, nextN v a b l, 0) := if_pos h
section
variable {v : Rkv} {x : Prt} {l : List Prt} {now slack : Int} {k : Nat}
theorem seen_came (h : x.came = true) : seenB v x = false := by unfold seenB; rw [h]; rfl
theorem seen_lost (h : x.lost = true) : seenB v x = false := by unfold seenB; rw [h]; simp
theorem seen_else (h : x.came = false) (g : x.lost = false) : seenB v x = aheadB x.at_ (endP x) v.at_ v.end_ := by unfold seenB; rw [h, g]; rfl
theorem late_none (h : seenB v x = false) : lateB v now slack x = false := by unfold lateB; rw [h]; rfl
theorem wait_none (h : seenB v x = false) : waitB v now slack x = false := by unfold waitB; rw [h]; rfl
theorem late_yes (h : seenB v x = true) (g : dueR v slack x ≤ now) : lateB v now slack x = true := by unfold lateB; rw [h, Zt g]; rfl
theorem wait_no (h : seenB v x = true) (g : dueR v slack x ≤ now) : waitB v now slack x = false := by unfold waitB; rw [h, Zt g]; rfl
theorem late_no (h : seenB v x = true) (g : ¬ dueR v slack x ≤ now) : lateB v now slack x = false := by unfold lateB; rw [h, Zf g]; rfl
theorem wait_yes (h : seenB v x = true) (g : ¬ dueR v slack x ≤ now) : waitB v now slack x = true := by unfold waitB; rw [h, Zf g]; rfl
theorem lostTo_ge (h : k < l.length) : ge (lostTo v now slack l k) k = ge l k := by
 have e : (lostL v now slack (l.take k)).length = k := by rw [lostL_len, List.length_take]; omega
 unfold lostTo ge
 rw [List.getD_eq_getElem?_getD, List.getElem?_append_right (by omega), e, Nat.sub_self, drop_ge h]
 simp [ge]
theorem lostN_bd (l : List Prt) : 0 ≤ lostN v now slack l ∧ lostN v now slack l ≤ l.length := by
 suffices hh : ∀ (l : List Prt) (n : Int), n ≤ l.foldl (fun n x => if lateB v now slack x = true then n + 1 else n) n ∧ l.foldl (fun n x => if lateB v now slack x = true then n + 1 else n) n ≤ n + l.length by
  have := hh l 0; unfold lostN; omega
 intro l
 induction l with
 | nil => intro n; simp
 | cons y t ih =>
  intro n
  rw [List.foldl_cons, List.length_cons]
  by_cases hc : lateB v now slack y = true
  ·rw [if_pos hc]; have := ih (n + 1); omega
  ·rw [if_neg hc]; have := ih n; omega
theorem round_skip (h : k < l.length) (hs : lateB v now slack (ge l k) = false) (hw : waitB v now slack (ge l k) = false) : lostTo v now slack l k = lostTo v now slack l (k + 1) ∧ lostN v now slack (l.take k) = lostN v now slack (l.take (k + 1)) ∧ nextN v now slack (l.take k) = nextN v now slack (l.take (k + 1)) := by
 rw [lostN_take _ _ _ h, nextN_take _ _ _ h, hs, hw]
 exact ⟨lostTo_same _ _ _ _ h hs, rfl, rfl⟩
theorem round_wait (h : k < l.length) (hs : lateB v now slack (ge l k) = false) (hw : waitB v now slack (ge l k) = true) : lostTo v now slack l k = lostTo v now slack l (k + 1) ∧ lostN v now slack (l.take k) = lostN v now slack (l.take (k + 1)) ∧ nextN v now slack (l.take (k + 1)) = nextStep (nextN v now slack (l.take k)) (dueR v slack (ge l k)) := by
 rw [lostN_take _ _ _ h, nextN_take _ _ _ h, hs, hw]
 exact ⟨lostTo_same _ _ _ _ h hs, rfl, rfl⟩
theorem round_late (h : k < l.length) (hs : lateB v now slack (ge l k) = true) (hw : waitB v now slack (ge l k) = false) : (lostTo v now slack l k).set k { ge l k with lost := true } = lostTo v now slack l (k + 1) ∧ lostN v now slack (l.take (k + 1)) = lostN v now slack (l.take k) + 1 ∧ nextN v now slack (l.take k) = nextN v now slack (l.take (k + 1)) := by
 have hp : lostP v now slack (ge l k) = { ge l k with lost := true } := by unfold lostP; rw [if_pos hs]
 rw [lostN_take _ _ _ h, nextN_take _ _ _ h, hs, hw, ← lostTo_set _ _ _ _ h, hp]
 exact ⟨rfl, rfl, rfl⟩
end
theorem raklost_any (v : Rkv) (A : Option Addr) (n c : Nat) (l : List Prt) (now slack : Int) (w : World) (hs : Se w A n c l) (hn : n ≤ 1000) :
  Calls Tryz.prog 132 #[.agg #[v.at_, v.end_, v.took, v.far, v.mixed, v.quarters], .slice A n c, now, slack] w fun e w' => TellL w w' e (lostR v l now slack) := by
 unfold TellL
 obtain ⟨B, hB⟩ : ∃ B, w.heap.size = B := ⟨_, rfl⟩
 have hl := hs.rd.len
 have m1 := hs.le
 have m2 := hs.max
 have m3 : n ≤ 9223372036854775807 := by unfold maxLen at m2; omega
 clear m1 m2
 have e0 := Bx.new w 34 [v.at_, v.end_, v.took, v.far, v.mixed, v.quarters]
 have b0 : Below w.heap.size w (w.alloc (.cells #[v.at_, v.end_, v.took, v.far, v.mixed, v.quarters] 34)) := (Zb).alloc Zr _
 rw [hB] at e0 b0
 obtain ⟨z, hz⟩ : ∃ z, lostR v l now slack = z := ⟨_, rfl⟩
 rw [hz]
 have HZ := Zh hz
 have HL := Zh hl; have HA := Zh hs; have HB := Zh hB
 rw [hB]
 clear hz hs hl
 go_enter Tryz.func132, Tryz.ntmps132
 go_wp2_with (refine rk_load rfl (.tmp 4) rfl rfl e0 rfl ?_)
 generalize w.alloc (.cells #[v.at_, v.end_, v.took, v.far, v.mixed, v.quarters] 34) = w1 at e0 b0 ⊢
 refine (rakmay_any v _).mono ?_
 rintro e w2 ⟨rfl, hb2⟩
 have e2 := e0.kept hb2; have b2 := b0.trans (hb2.mono (Zl e0.lt))
 have hBs : B ≤ w2.heap.size := Zl e2.lt
 clear e0 b0 hb2
 have hm := stmay_any A n c l w2 (HA.out.keep (by rw [HB.out]; exact b2))
 cases hk : rkmay v with
 | false =>
  have hz := HZ.out
  rw [lost_no (fun h => by have := h.1; rw [hk] at this; cases this)] at hz
  subst hz
  clear HZ hk
  go_wp2_with fail
  (try simp only [Exit.inBlock, Exit.then]); refine bodyPost_ret (results_tmp4 rfl _ _ _) rfl ?_
  exact ⟨none, 0, 0, rfl, Sne.none _ _, b2⟩
 | true =>
 cases hf : smayB l with
 | false =>
  rw [hf] at hm
  have hz := HZ.out
  rw [lost_no (fun h => by have := h.2.1; rw [hf] at this; cases this)] at hz
  subst hz
  clear HZ hk
  go_wp2_with (first
   | (go_at_call 97; refine hm.mono ?_; rintro e w3 ⟨rfl, hb3⟩; have e3 := e2.kept hb3; have b3 : Below B w w3 := b2.trans (hb3.mono hBs))
   | (go_at_call 105; refine (rkwin_any _ _ _ _).mono ?_; rintro e wx ⟨rfl, rfl⟩))
  (try simp only [Exit.inBlock, Exit.then]); refine bodyPost_ret (results_tmp4 rfl _ _ _) rfl ?_
  exact ⟨none, 0, 0, rfl, Sne.none _ _, b3⟩
 | true =>
 rw [hf] at hm
 cases ht : winB now 0 1152921504606846976 with
 | false =>
  have hz := HZ.out
  rw [lost_no (fun h => by have := h.2.2.1; rw [← win60, ht] at this; cases this)] at hz
  subst hz
  clear HZ hk
  clear hf
  go_wp2_with (first
   | (go_at_call 97; refine hm.mono ?_; rintro e w3 ⟨rfl, hb3⟩; have e3 := e2.kept hb3; have b3 : Below B w w3 := b2.trans (hb3.mono hBs))
   | (go_at_call 105; refine (rkwin_any _ _ _ _).mono ?_; rintro e wx ⟨rfl, rfl⟩))
  (try simp only [Exit.inBlock, Exit.then]); refine bodyPost_ret (results_tmp4 rfl _ _ _) rfl ?_
  exact ⟨none, 0, 0, rfl, Sne.none _ _, b3⟩
 | true =>
 cases hr : winB slack 0 1099511627776 with
 | false =>
  have hz := HZ.out
  rw [lost_no (fun h => by have := h.2.2.2; rw [← win40, hr] at this; cases this)] at hz
  subst hz
  clear HZ hk
  clear hf
  go_wp2_with (first
   | (go_at_call 97; refine hm.mono ?_; rintro e w3 ⟨rfl, hb3⟩; have e3 := e2.kept hb3; have b3 : Below B w w3 := b2.trans (hb3.mono hBs))
   | (go_at_call 105; refine (rkwin_any _ _ _ _).mono ?_; rintro e wx ⟨rfl, rfl⟩))
  (try simp only [Exit.inBlock, Exit.then]); refine bodyPost_ret (results_tmp4 rfl _ _ _) rfl ?_
  exact ⟨none, 0, 0, rfl, Sne.none _ _, b3⟩
 | true =>
 have hz := HZ.out
 rw [lost_ok ⟨hk, hf, by rw [← win60]; exact ht, by rw [← win40]; exact hr⟩] at hz
 have hv := (rkmay_iff v).1 hk
 have k0 := hv.k0; have k1 := hv.k1
 have hrb := (win_iff slack 0 1099511627776).1 hr
 obtain ⟨hle, hch⟩ := (smay_iff l).1 hf
 have hn5 : n ≤ 500 := by have := HL.out; omega
 have HCH := Zh hch; have HZ2 := Zh hz
 obtain ⟨r0, r1⟩ := hrb
 clear HZ hk hf hz hv hle hch
 go_upto_region 3 with (first
  | (go_at_call 97; refine hm.mono ?_; rintro e w3 ⟨rfl, hb3⟩; have e3 := e2.kept hb3; have b3 : Below B w w3 := b2.trans (hb3.mono hBs))
  | (go_at_call 105; refine (rkwin_any _ _ _ _).mono ?_; rintro e wx ⟨rfl, rfl⟩))
 clear ht hr e2 b2 hb3 hBs
 have hsz3 : B < w3.heap.size := e3.lt
 have hs3 : Se w3 A n c l := HA.out.keep (by rw [HB.out]; exact b3)
 have hcl := stclone_any A n c l w3 hs3 (by omega)
 go_upto_region 4 with (go_at_call 112; refine hcl.mono ?_; rintro e w4 ⟨R, d, rfl, hg4, hb4⟩)
 have b4 : Below B w w4 := b3.trans (hb4.mono (Zl hsz3))
 have e4 := e3.kept hb4
 have g4 : Goe w4 (B + 1) 57 (.slice R n d) n l := goe_mono hg4 (by omega)
 clear hg4 hb4 hs3 e3 b3 hsz3 hcl hm
 go_wp2_with fail
 go_loopw [12, 13, 39] (fun s12 s13 s39 wr => ∃ k : Nat, k ≤ n ∧ s39 = .int .i64 (k : Int) ∧ s12 = .int .i64 (lostN v now slack (l.take k)) ∧ s13 = .int .i64 (nextN v now slack (l.take k)) ∧ Hid (Goe wr (B + 1) 57 (.slice R n d) n (lostTo v now slack l k)) ∧ Bx wr B 34 [v.at_, v.end_, v.took, v.far, v.mixed, v.quarters] ∧ Below B w wr) (fun _ _ i _ => n - (intOf i).toNat)
 case atStart => exact ⟨0, Nat.zero_le _, rfl, rfl, rfl, Zh (by rw [lostTo_zero]; exact g4), e4, b4⟩
 case round =>
  obtain ⟨k, hkn, rfl, rfl, rfl, HG, er, br⟩ := hrel
  clear e4 b4 g4
  by_cases hlt : k < n
  case neg =>
   obtain rfl : k = n := by omega
   have hd : decide (k < k) = false := Zf (by omega)
   have hz := HZ2.out
   subst hz
   have hg := HG.out
   rw [show lostTo v now slack l k = lostL v now slack l by rw [← HL.out]; exact lostTo_all _ _ _ _] at hg
   have ht : l.take k = l := by rw [← HL.out]; exact List.take_length
   rw [ht]
   obtain ⟨G, d', hgv, hsn⟩ := hg.sne
   cases hgv
   clear HZ2 hg ht
   go_wp2_with fail
   (try simp only [Exit.inBlock, Exit.then]); refine bodyPost_ret (results_tmp4 rfl _ _ _) rfl ?_
   exact ⟨_, _, _, rfl, hsn.mono (by omega), br⟩
  case pos =>
  have hd : decide (k < n) = true := Zt hlt
  have hkl : k < l.length := by rw [HL.out]; exact hlt
  have HKL := Zh hkl
  obtain ⟨g, cap, hv3, hgB1, hgB2⟩ := HG.out.row.form (by omega)
  cases hv3
  have hpk := (HCH.out k hkl).1
  have hpw := HA.out.rd.ok.ge (i := k) hkl
  have hlb := lostN_bd (v := v) (now := now) (slack := slack) (l.take k)
  have htk : (l.take k).length = k := by rw [List.length_take]; omega
  rw [htk] at hlb
  obtain ⟨lb0, lb1⟩ := hlb
  obtain ⟨p, hp⟩ : ∃ p, ge l k = p := ⟨_, rfl⟩
  rw [hp] at hpk hpw
  have hge : ge (lostTo v now slack l k) k = p := by rw [lostTo_ge hkl, hp]
  have htl : (lostTo v now slack l k).length = n := HG.out.len
  have i9 : k * 9 + 9 ≤ n * 9 := by omega
  have e9 : n * El.k Prt = n * 9 := rfl
  have c0 := (HG.out.row.cellAt (k * 9 + 0) (by omega)).trans (evals_at _ k 0 (.int .i64 p.seq) (by omega) (by rw [hge]; rfl))
  have c1 := (HG.out.row.cellAt (k * 9 + 1) (by omega)).trans (evals_at _ k 1 (.int .i64 p.len) (by omega) (by rw [hge]; rfl))
  have c2 := (HG.out.row.cellAt (k * 9 + 2) (by omega)).trans (evals_at _ k 2 (.int .i64 p.dsn) (by omega) (by rw [hge]; rfl))
  have c3 := (HG.out.row.cellAt (k * 9 + 3) (by omega)).trans (evals_at _ k 3 (.int .i64 p.at_) (by omega) (by rw [hge]; rfl))
  have c4 := (HG.out.row.cellAt (k * 9 + 4) (by omega)).trans (evals_at _ k 4 (.int .i64 p.tries) (by omega) (by rw [hge]; rfl))
  have c5 := (HG.out.row.cellAt (k * 9 + 5) (by omega)).trans (evals_at _ k 5 (.bool p.came) (by omega) (by rw [hge]; rfl))
  have c6 := (HG.out.row.cellAt (k * 9 + 6) (by omega)).trans (evals_at _ k 6 (.bool p.lost) (by omega) (by rw [hge]; rfl))
  have c7 := (HG.out.row.cellAt (k * 9 + 7) (by omega)).trans (evals_at _ k 7 (.int .i64 p.total) (by omega) (by rw [hge]; rfl))
  have c8 := (HG.out.row.cellAt (k * 9 + 8) (by omega)).trans (evals_at _ k 8 (.int .i64 p.last) (by omega) (by rw [hge]; rfl))
  simp only [Nat.add_zero] at c0
  have hps := (t60_iff p.seq).1 hpk.seq; have hpa := (t60_iff p.at_).1 hpk.at_; have hpl1 := hpk.l1; have hpl2 := hpk.l2
  obtain ⟨hps0, hps1⟩ := hps
  obtain ⟨hpa0, hpa1⟩ := hpa
  have HP := Zh hp; have HPW := Zh hpw
  obtain ⟨F, hF⟩ : ∃ F, lostN v now slack (l.take k) = F := ⟨_, rfl⟩
  obtain ⟨N, hN⟩ : ∃ N, nextN v now slack (l.take k) = N := ⟨_, rfl⟩
  rw [hF] at lb0 lb1 ⊢
  rw [hN]
  have HF := Zh hF; have HNX := Zh hN
  obtain ⟨E, hE⟩ : ∃ E, endP p = E := ⟨_, rfl⟩
  have hee : EndOk ⟨p.seq, p.len, p.dsn, p.at_, p.tries, false, false, p.total, p.last⟩ := endOk (x := p) hpk
  have hof := fun W => rkof_any ⟨p.seq, p.len, p.dsn, p.at_, p.tries, false, false, p.total, p.last⟩ W hee
  rw [show endP ⟨p.seq, p.len, p.dsn, p.at_, p.tries, false, false, p.total, p.last⟩ = E from hE] at hof
  have hbef := fun W => before_any p.at_ E v.at_ v.end_ W
  obtain ⟨S1, hS1⟩ : ∃ S, p.at_ + v.took = S := ⟨_, rfl⟩
  have wS : IntKind.i64.wrap (p.at_ + v.took) = S1 := by rw [← hS1]; exact IntWalk.i64_in _ (by omega)
  obtain ⟨D, hD⟩ : ∃ D, S1 + slack = D := ⟨_, rfl⟩
  have wD : IntKind.i64.wrap (S1 + slack) = D := by rw [← hD]; exact IntWalk.i64_in _ (by omega)
  have hdue : dueR v slack p = D := by unfold dueR; rw [hS1, hD]
  have HE := Zh hE; have HDUE := Zh hdue; have HGE := Zh hge
  clear hpk hpw hp htk hF hN hE hee hS1 hD hdue hge htl hkl i9 e9
  go_upto_region 8 with fail
  have n5 := Bx.new wr 57 [p.seq, p.len, p.dsn, p.at_, p.tries, p.came, p.lost, p.total, p.last]
  have e5 := er.alloc (.cells #[p.seq, p.len, p.dsn, p.at_, p.tries, p.came, p.lost, p.total, p.last] 57); have g5 := HG.out.alloc (.cells #[p.seq, p.len, p.dsn, p.at_, p.tries, p.came, p.lost, p.total, p.last] 57); have b5 := br.alloc (Zl er.lt) (.cells #[p.seq, p.len, p.dsn, p.at_, p.tries, p.came, p.lost, p.total, p.last] 57)
  obtain ⟨Q, hQ⟩ : ∃ Q, wr.heap.size = Q := ⟨_, rfl⟩
  have hgQ : g < Q := by omega
  rw [hQ] at n5 ⊢
  generalize wr.alloc (.cells #[p.seq, p.len, p.dsn, p.at_, p.tries, p.came, p.lost, p.total, p.last] 57) = w5 at n5 e5 g5 b5 ⊢
  have HG5 := Zh g5
  clear c0 c1 c2 c3 c4 c5 c6 c7 c8 g5 HG er br hQ
  cases h5 : p.came with
  | true =>
   rw [h5] at n5
   have H5 := Zh h5; clear h5
   have hrs := round_skip (v := v) (now := now) (slack := slack) HKL.out (late_none (by rw [HP.out]; exact seen_came H5.out)) (wait_none (by rw [HP.out]; exact seen_came H5.out))
   rw [HF.out, HNX.out] at hrs
   have HRS := Zh hrs; clear hrs
   refine tB 16 17 (fun (W : World) => Bx W Q 57 [p.seq, p.len, p.dsn, p.at_, p.tries, .bool true, p.lost, p.total, p.last] ∧ Bx W B 34 [v.at_, v.end_, v.took, v.far, v.mixed, v.quarters] ∧ Goe W (B + 1) 57 (.slice (some ⟨g, 0, none⟩) n d) n (lostTo v now slack l k) ∧ (W.cell? ⟨Q, 0, none⟩ = some (.int .i64 p.seq) ∧ W.cell? ⟨Q, 1, none⟩ = some (.int .i64 p.len) ∧ W.cell? ⟨Q, 2, none⟩ = some (.int .i64 p.dsn) ∧ W.cell? ⟨Q, 3, none⟩ = some (.int .i64 p.at_) ∧ W.cell? ⟨Q, 4, none⟩ = some (.int .i64 p.tries) ∧ W.cell? ⟨Q, 5, none⟩ = some (.bool true) ∧ W.cell? ⟨Q, 6, none⟩ = some (.bool p.lost) ∧ W.cell? ⟨Q, 7, none⟩ = some (.int .i64 p.total) ∧ W.cell? ⟨Q, 8, none⟩ = some (.int .i64 p.last)) ∧ W.cell? ⟨B, 0, none⟩ = some (.int .i64 v.at_) ∧ W.cell? ⟨B, 1, none⟩ = some (.int .i64 v.end_) ∧ Below B w W) ⟨n5.drew, e5.drew, HG5.out.drew, ⟨n5.drew.cell 0 rfl, n5.drew.cell 1 rfl, n5.drew.cell 2 rfl, n5.drew.cell 3 rfl, n5.drew.cell 4 rfl, n5.drew.cell 5 rfl, n5.drew.cell 6 rfl, n5.drew.cell 7 rfl, n5.drew.cell 8 rfl⟩, e5.drew.cell 0 rfl, e5.drew.cell 1 rfl, b5.drew⟩ (fun HS => ?_)
   refine tU 0 HS ?_
   refine tU 1 HS ?_
   refine tU 2 HS ?_
   refine tF 3 HS ?_
   refine tF 4 HS ?_
   refine tU 5 HS ?_
   refine tU 6 HS ?_
   refine tF 7 HS ?_
   refine tF 8 HS ?_
   refine tF 9 HS ?_
   refine tF 10 HS ?_
   refine tF 11 HS ?_
   refine tF 12 HS ?_
   refine tF 13 HS ?_
   refine tF 14 HS ?_
   refine tF 15 HS ?_
   refine ⟨by kernel_rfl, ?_⟩
   simp only [List.drop_succ_cons, List.drop_zero]
   go_wp2_with fail
   have e5 := HS.2.1; have b5 := HS.2.2.2.2.2.2; have HG5 := Zh HS.2.2.1
   go_roundw
   case rel => exact ⟨k + 1, by omega, by first | rfl | go_num, by rw [HRS.out.2.1], by rw [HRS.out.2.2], Zh (by rw [← HRS.out.1]; exact HG5.out), e5, b5⟩
   case measure => simp [intOf]; omega
  | false =>
  rw [h5] at n5
  have H5 := Zh h5; clear h5
  cases h6 : p.lost with
  | true =>
   rw [h6] at n5
   have H6 := Zh h6; clear h6
   have hrs := round_skip (v := v) (now := now) (slack := slack) HKL.out (late_none (by rw [HP.out]; exact seen_lost H6.out)) (wait_none (by rw [HP.out]; exact seen_lost H6.out))
   rw [HF.out, HNX.out] at hrs
   have HRS := Zh hrs; clear hrs
   refine tB 16 17 (fun (W : World) => Bx W Q 57 [p.seq, p.len, p.dsn, p.at_, p.tries, .bool false, .bool true, p.total, p.last] ∧ Bx W B 34 [v.at_, v.end_, v.took, v.far, v.mixed, v.quarters] ∧ Goe W (B + 1) 57 (.slice (some ⟨g, 0, none⟩) n d) n (lostTo v now slack l k) ∧ (W.cell? ⟨Q, 0, none⟩ = some (.int .i64 p.seq) ∧ W.cell? ⟨Q, 1, none⟩ = some (.int .i64 p.len) ∧ W.cell? ⟨Q, 2, none⟩ = some (.int .i64 p.dsn) ∧ W.cell? ⟨Q, 3, none⟩ = some (.int .i64 p.at_) ∧ W.cell? ⟨Q, 4, none⟩ = some (.int .i64 p.tries) ∧ W.cell? ⟨Q, 5, none⟩ = some (.bool false) ∧ W.cell? ⟨Q, 6, none⟩ = some (.bool true) ∧ W.cell? ⟨Q, 7, none⟩ = some (.int .i64 p.total) ∧ W.cell? ⟨Q, 8, none⟩ = some (.int .i64 p.last)) ∧ W.cell? ⟨B, 0, none⟩ = some (.int .i64 v.at_) ∧ W.cell? ⟨B, 1, none⟩ = some (.int .i64 v.end_) ∧ Below B w W) ⟨n5.drew, e5.drew, HG5.out.drew, ⟨n5.drew.cell 0 rfl, n5.drew.cell 1 rfl, n5.drew.cell 2 rfl, n5.drew.cell 3 rfl, n5.drew.cell 4 rfl, n5.drew.cell 5 rfl, n5.drew.cell 6 rfl, n5.drew.cell 7 rfl, n5.drew.cell 8 rfl⟩, e5.drew.cell 0 rfl, e5.drew.cell 1 rfl, b5.drew⟩ (fun HS => ?_)
   refine tU 0 HS ?_
   refine tU 1 HS ?_
   refine tU 2 HS ?_
   refine tU 3 HS ?_
   refine tU 4 HS ?_
   refine tU 5 HS ?_
   refine tU 6 HS ?_
   refine tF 7 HS ?_
   refine tF 8 HS ?_
   refine tF 9 HS ?_
   refine tF 10 HS ?_
   refine tF 11 HS ?_
   refine tF 12 HS ?_
   refine tF 13 HS ?_
   refine tF 14 HS ?_
   refine tF 15 HS ?_
   refine ⟨by kernel_rfl, ?_⟩
   simp only [List.drop_succ_cons, List.drop_zero]
   go_wp2_with fail
   have e5 := HS.2.1; have b5 := HS.2.2.2.2.2.2; have HG5 := Zh HS.2.2.1
   go_roundw
   case rel => exact ⟨k + 1, by omega, by first | rfl | go_num, by rw [HRS.out.2.1], by rw [HRS.out.2.2], Zh (by rw [← HRS.out.1]; exact HG5.out), e5, b5⟩
   case measure => simp [intOf]; omega
  | false =>
  rw [h6] at n5
  have H6 := Zh h6; clear h6
  cases hah : aheadB p.at_ E v.at_ v.end_ with
  | false =>
   rw [hah] at hbef
   have HAH := Zh hah; clear hah
   have hrs := round_skip (v := v) (now := now) (slack := slack) HKL.out (late_none (by rw [HP.out]; exact ((seen_else H5.out H6.out).trans (by rw [HE.out]; exact HAH.out)))) (wait_none (by rw [HP.out]; exact ((seen_else H5.out H6.out).trans (by rw [HE.out]; exact HAH.out))))
   rw [HF.out, HNX.out] at hrs
   have HRS := Zh hrs; clear hrs
   refine tB 16 17 (fun (W : World) => Bx W Q 57 [p.seq, p.len, p.dsn, p.at_, p.tries, .bool false, .bool false, p.total, p.last] ∧ Bx W B 34 [v.at_, v.end_, v.took, v.far, v.mixed, v.quarters] ∧ Goe W (B + 1) 57 (.slice (some ⟨g, 0, none⟩) n d) n (lostTo v now slack l k) ∧ (W.cell? ⟨Q, 0, none⟩ = some (.int .i64 p.seq) ∧ W.cell? ⟨Q, 1, none⟩ = some (.int .i64 p.len) ∧ W.cell? ⟨Q, 2, none⟩ = some (.int .i64 p.dsn) ∧ W.cell? ⟨Q, 3, none⟩ = some (.int .i64 p.at_) ∧ W.cell? ⟨Q, 4, none⟩ = some (.int .i64 p.tries) ∧ W.cell? ⟨Q, 5, none⟩ = some (.bool false) ∧ W.cell? ⟨Q, 6, none⟩ = some (.bool false) ∧ W.cell? ⟨Q, 7, none⟩ = some (.int .i64 p.total) ∧ W.cell? ⟨Q, 8, none⟩ = some (.int .i64 p.last)) ∧ W.cell? ⟨B, 0, none⟩ = some (.int .i64 v.at_) ∧ W.cell? ⟨B, 1, none⟩ = some (.int .i64 v.end_) ∧ Below B w W) ⟨n5.drew, e5.drew, HG5.out.drew, ⟨n5.drew.cell 0 rfl, n5.drew.cell 1 rfl, n5.drew.cell 2 rfl, n5.drew.cell 3 rfl, n5.drew.cell 4 rfl, n5.drew.cell 5 rfl, n5.drew.cell 6 rfl, n5.drew.cell 7 rfl, n5.drew.cell 8 rfl⟩, e5.drew.cell 0 rfl, e5.drew.cell 1 rfl, b5.drew⟩ (fun HS => ?_)
   refine tU 0 HS ?_
   refine tU 1 HS ?_
   refine tU 2 HS ?_
   refine tU 3 HS ?_
   refine tU 4 HS ?_
   refine tU 5 HS ?_
   refine tU 6 HS ?_
   refine tU 7 HS ?_
   refine tU 9 HS ?_
   refine tU 10 HS ?_
   refine tU 11 HS ?_
   refine tU 12 HS ?_
   refine tU 13 HS ?_
   refine tO 8 (fun K hK => ?_)
   go_simp
   refine (hof _).mono ?_
   rintro e wv ⟨rfl, hb1⟩
   refine kK hK ⟨HS.1.kept hb1, HS.2.1.kept hb1, HS.2.2.1.below hb1, ⟨(HS.1.kept hb1).cell 0 rfl, (HS.1.kept hb1).cell 1 rfl, (HS.1.kept hb1).cell 2 rfl, (HS.1.kept hb1).cell 3 rfl, (HS.1.kept hb1).cell 4 rfl, (HS.1.kept hb1).cell 5 rfl, (HS.1.kept hb1).cell 6 rfl, (HS.1.kept hb1).cell 7 rfl, (HS.1.kept hb1).cell 8 rfl⟩, (HS.2.1.kept hb1).cell 0 rfl, (HS.2.1.kept hb1).cell 1 rfl, HS.2.2.2.2.2.2.trans (hb1.mono (Zl HS.2.1.lt))⟩ (fun HS => ?_)
   clear hK K
   refine tO 14 (fun K hK => ?_)
   go_simp
   refine (hbef _).mono ?_
   rintro e wv2 ⟨rfl, hb1⟩
   refine kK hK ⟨HS.1.kept hb1, HS.2.1.kept hb1, HS.2.2.1.below hb1, ⟨(HS.1.kept hb1).cell 0 rfl, (HS.1.kept hb1).cell 1 rfl, (HS.1.kept hb1).cell 2 rfl, (HS.1.kept hb1).cell 3 rfl, (HS.1.kept hb1).cell 4 rfl, (HS.1.kept hb1).cell 5 rfl, (HS.1.kept hb1).cell 6 rfl, (HS.1.kept hb1).cell 7 rfl, (HS.1.kept hb1).cell 8 rfl⟩, (HS.2.1.kept hb1).cell 0 rfl, (HS.2.1.kept hb1).cell 1 rfl, HS.2.2.2.2.2.2.trans (hb1.mono (Zl HS.2.1.lt))⟩ (fun HS => ?_)
   clear hK K
   refine tU 15 HS ?_
   refine ⟨by kernel_rfl, ?_⟩
   simp only [List.drop_succ_cons, List.drop_zero]
   go_wp2_with fail
   have e5 := HS.2.1; have b5 := HS.2.2.2.2.2.2; have HG5 := Zh HS.2.2.1
   go_roundw
   case rel => exact ⟨k + 1, by omega, by first | rfl | go_num, by rw [HRS.out.2.1], by rw [HRS.out.2.2], Zh (by rw [← HRS.out.1]; exact HG5.out), e5, b5⟩
   case measure => simp [intOf]; omega
  | true =>
  rw [hah] at hbef
  have HAH := Zh hah; clear hah
  have hsn : seenB v p = true := (seen_else H5.out H6.out).trans (by rw [HE.out]; exact HAH.out)
  have HSN := Zh hsn; clear hsn
  refine tB 16 17 (fun (W : World) => Bx W Q 57 [p.seq, p.len, p.dsn, p.at_, p.tries, .bool false, .bool false, p.total, p.last] ∧ Bx W B 34 [v.at_, v.end_, v.took, v.far, v.mixed, v.quarters] ∧ Goe W (B + 1) 57 (.slice (some ⟨g, 0, none⟩) n d) n (lostTo v now slack l k) ∧ (W.cell? ⟨Q, 0, none⟩ = some (.int .i64 p.seq) ∧ W.cell? ⟨Q, 1, none⟩ = some (.int .i64 p.len) ∧ W.cell? ⟨Q, 2, none⟩ = some (.int .i64 p.dsn) ∧ W.cell? ⟨Q, 3, none⟩ = some (.int .i64 p.at_) ∧ W.cell? ⟨Q, 4, none⟩ = some (.int .i64 p.tries) ∧ W.cell? ⟨Q, 5, none⟩ = some (.bool false) ∧ W.cell? ⟨Q, 6, none⟩ = some (.bool false) ∧ W.cell? ⟨Q, 7, none⟩ = some (.int .i64 p.total) ∧ W.cell? ⟨Q, 8, none⟩ = some (.int .i64 p.last)) ∧ W.cell? ⟨B, 0, none⟩ = some (.int .i64 v.at_) ∧ W.cell? ⟨B, 1, none⟩ = some (.int .i64 v.end_) ∧ Below B w W) ⟨n5.drew, e5.drew, HG5.out.drew, ⟨n5.drew.cell 0 rfl, n5.drew.cell 1 rfl, n5.drew.cell 2 rfl, n5.drew.cell 3 rfl, n5.drew.cell 4 rfl, n5.drew.cell 5 rfl, n5.drew.cell 6 rfl, n5.drew.cell 7 rfl, n5.drew.cell 8 rfl⟩, e5.drew.cell 0 rfl, e5.drew.cell 1 rfl, b5.drew⟩ (fun HS => ?_)
  refine tU 0 HS ?_
  refine tU 1 HS ?_
  refine tU 2 HS ?_
  refine tU 3 HS ?_
  refine tU 4 HS ?_
  refine tU 5 HS ?_
  refine tU 6 HS ?_
  refine tU 7 HS ?_
  refine tU 9 HS ?_
  refine tU 10 HS ?_
  refine tU 11 HS ?_
  refine tU 12 HS ?_
  refine tU 13 HS ?_
  refine tO 8 (fun K hK => ?_)
  go_simp
  refine (hof _).mono ?_
  rintro e wv ⟨rfl, hb1⟩
  refine kK hK ⟨HS.1.kept hb1, HS.2.1.kept hb1, HS.2.2.1.below hb1, ⟨(HS.1.kept hb1).cell 0 rfl, (HS.1.kept hb1).cell 1 rfl, (HS.1.kept hb1).cell 2 rfl, (HS.1.kept hb1).cell 3 rfl, (HS.1.kept hb1).cell 4 rfl, (HS.1.kept hb1).cell 5 rfl, (HS.1.kept hb1).cell 6 rfl, (HS.1.kept hb1).cell 7 rfl, (HS.1.kept hb1).cell 8 rfl⟩, (HS.2.1.kept hb1).cell 0 rfl, (HS.2.1.kept hb1).cell 1 rfl, HS.2.2.2.2.2.2.trans (hb1.mono (Zl HS.2.1.lt))⟩ (fun HS => ?_)
  clear hK K
  refine tO 14 (fun K hK => ?_)
  go_simp
  refine (hbef _).mono ?_
  rintro e wv2 ⟨rfl, hb1⟩
  refine kK hK ⟨HS.1.kept hb1, HS.2.1.kept hb1, HS.2.2.1.below hb1, ⟨(HS.1.kept hb1).cell 0 rfl, (HS.1.kept hb1).cell 1 rfl, (HS.1.kept hb1).cell 2 rfl, (HS.1.kept hb1).cell 3 rfl, (HS.1.kept hb1).cell 4 rfl, (HS.1.kept hb1).cell 5 rfl, (HS.1.kept hb1).cell 6 rfl, (HS.1.kept hb1).cell 7 rfl, (HS.1.kept hb1).cell 8 rfl⟩, (HS.2.1.kept hb1).cell 0 rfl, (HS.2.1.kept hb1).cell 1 rfl, HS.2.2.2.2.2.2.trans (hb1.mono (Zl HS.2.1.lt))⟩ (fun HS => ?_)
  clear hK K
  refine tU 15 HS ?_
  refine ⟨by kernel_rfl, ?_⟩
  simp only [List.drop_succ_cons, List.drop_zero]
  go_upto_region 9 with fail
  have n6 := HS.1; have e6 := HS.2.1; have g6 := HS.2.2.1; have b6 := HS.2.2.2.2.2.2
  have HG5 := Zh g6
  clear HS n5 e5 b5 hof hbef g6
  have x3 := n6.cell 3 rfl; have y2 := e6.cell 2 rfl
  by_cases hdn : D ≤ now
  case pos =>
   have dn : decide (D ≤ now) = true := Zt hdn
   have hrs := round_late (v := v) (now := now) (slack := slack) HKL.out (late_yes (by rw [HP.out]; exact HSN.out) (by rw [HP.out, HDUE.out]; exact hdn)) (wait_no (by rw [HP.out]; exact HSN.out) (by rw [HP.out, HDUE.out]; exact hdn))
   rw [HF.out, HNX.out, HP.out] at hrs
   have HRS := Zh hrs; clear hrs hdn
   have hw1 : IntKind.i64.wrap (F + 1) = F + 1 := IntWalk.i64_in _ (by omega)
   go_upto_region 11 with fail
   have htl : (lostTo v now slack l k).length = n := HG5.out.len
   have i9 : k * 9 + 9 ≤ n * 9 := by omega
   have e9 : n * El.k Prt = n * 9 := rfl
   have z6 := (HG5.out.row.cellAt (k * 9 + 6) (by omega)).trans (evals_at _ k 6 (.bool p.lost) (by omega) (by rw [HGE.out]; rfl))
   have f6 := HG5.out.row.frozenAt (k * 9 + 6)
   obtain ⟨q1, _⟩ := HG5.out.set (i := k) (j := 6) (u := .bool true) (y := { p with lost := true }) hlt (by decide) (by rw [HGE.out]; rfl) ⟨HPW.out.seq, HPW.out.len, HPW.out.dsn, HPW.out.at_, HPW.out.tries, HPW.out.total, HPW.out.last⟩
   change Goe (wv2.setCell ⟨g, k * 9 + 6, none⟩ _) _ _ _ _ _ at q1
   rw [HRS.out.1] at q1
   have HQ1 := Zh q1
   clear q1 htl i9 e9 x3 y2
   go_upto_region 12 with fail
   have e7 := e6.far (p := ⟨g, k * 9 + 6, none⟩) (by show B ≠ g; omega) (.bool true)
   have b7 := b6.setCell (p := ⟨g, k * 9 + 6, none⟩) (by show B ≤ g; omega) (.bool true)
   generalize wv2.setCell ⟨g, k * 9 + 6, none⟩ (.bool true) = w7 at HQ1 e7 b7 ⊢
   clear n6 e6 b6 z6 f6
   go_wp2_with fail
   go_roundw
   case rel => exact ⟨k + 1, by omega, by first | rfl | go_num, by rw [HRS.out.2.1], by rw [HRS.out.2.2], Zh (by exact HQ1.out), e7, b7⟩
   case measure => simp [intOf]; omega
  case neg =>
  have dn : decide (D ≤ now) = false := Zf hdn
  have hrs := round_wait (v := v) (now := now) (slack := slack) HKL.out (late_no (by rw [HP.out]; exact HSN.out) (by rw [HP.out, HDUE.out]; exact hdn)) (wait_yes (by rw [HP.out]; exact HSN.out) (by rw [HP.out, HDUE.out]; exact hdn))
  rw [HF.out, HNX.out, HP.out, HDUE.out] at hrs
  have HRS := Zh hrs; clear hrs hdn
  by_cases hn0 : N = 0
  case pos =>
   have dz : (N == 0) = true := by simpa using hn0
   have hst : nextStep N D = D := if_pos (.inl hn0)
   have HST := Zh hst; clear hst hn0
   go_wp2_with fail
   go_roundw
   case rel => exact ⟨k + 1, by omega, by first | rfl | go_num, by rw [HRS.out.2.1], by rw [HRS.out.2.2, HST.out], Zh (by rw [← HRS.out.1]; exact HG5.out), e6, b6⟩
   case measure => simp [intOf]; omega
  case neg =>
  have dz : (N == 0) = false := by simpa using hn0
  by_cases hdN : D < N
  case pos =>
   have d2 : decide (D < N) = true := Zt hdN
   have hst : nextStep N D = D := if_pos (.inr hdN)
   have HST := Zh hst; clear hst hn0 hdN
   go_wp2_with fail
   go_roundw
   case rel => exact ⟨k + 1, by omega, by first | rfl | go_num, by rw [HRS.out.2.1], by rw [HRS.out.2.2, HST.out], Zh (by rw [← HRS.out.1]; exact HG5.out), e6, b6⟩
   case measure => simp [intOf]; omega
  case neg =>
  have d2 : decide (D < N) = false := Zf hdN
  have hst : nextStep N D = N := if_neg (fun h => h.elim hn0 hdN)
  have HST := Zh hst; clear hst hn0 hdN
  go_wp2_with fail
  go_roundw
  case rel => exact ⟨k + 1, by omega, by first | rfl | go_num, by rw [HRS.out.2.1], by rw [HRS.out.2.2, HST.out], Zh (by rw [← HRS.out.1]; exact HG5.out), e6, b6⟩
  case measure => simp [intOf]; omega
structure Sq (w : World) (p : Nat → Prop) (G : Option Addr) (m d : Nat) (l : List Int) : Prop where
 si : Si w G m d l
 at_ : 0 < m → ∀ b o s, G = some ⟨b, o, s⟩ → p b
section
variable {w w' : World} {p q : Nat → Prop} {G : Option Addr} {m d : Nat} {l : List Int}
theorem Sq.none (w : World) (p : Nat → Prop) : Sq w p .none 0 0 [] := ⟨Si.none w, fun h => absurd h (by omega)⟩
theorem Sni.sq {base : Nat} (h : Sni w base G m d l) (hp : ∀ b, base ≤ b → p b) : Sq w p G m d l := ⟨h.si, fun _ b o s e => hp b (h.at_ b o s e)⟩
end
def TellCP (p : Nat → Prop) (w w' : World) (e : Ending) (x : Rv × Int) : Prop := ∃ R m d, e = .returned (.tuple #[.agg #[x.1.total, x.1.last, .slice R m d], x.2]) ∧ Sq w' p R m d x.1.l ∧ Below w.heap.size w w'
def TellSP (p : Nat → Prop) (w w' : World) (e : Ending) (x : Rv × Int × Int) : Prop := ∃ R m d, e = .returned (.tuple #[.agg #[x.1.total, x.1.last, .slice R m d], x.2.1, x.2.2]) ∧ Sq w' p R m d x.1.l ∧ Below w.heap.size w w'
end Go.Proofs.YtbijhkhkigdddaaGreat
