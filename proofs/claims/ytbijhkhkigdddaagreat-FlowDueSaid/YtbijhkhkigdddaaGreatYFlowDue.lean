/- FoDue FlowDueWalk. -/
import Derived.Test.YtbijhkhkigdddaaGreatM38
import Derived.Test.YtbijhkhkigdddaaGreatN4
import Derived.Test.YtbijhkhkigdddaaGreatN8
set_option linter.all false
set_option maxRecDepth 100000
set_option maxHeartbeats 32000000
namespace Go.Proofs.YtbijhkhkigdddaaGreat
open Go.RowKit
def difs (l m : List Prt) : Nat → Nat
 | 0 => 0
 | k + 1 => difs l m k + (if ((ge m k).lost != (ge l k).lost) = true then 1 else 0)
theorem difs_le (l m : List Prt) (k : Nat) : difs l m k ≤ k := by
 induction k with
 | zero => exact Nat.le_refl _
 | succ k ih => unfold difs; split <;> omega
theorem difs_none {l m : List Prt} {k : Nat} (h : ∀ i, i < k → (ge m i).lost = (ge l i).lost) : difs l m k = 0 := by
 induction k with
 | zero => rfl
 | succ k ih =>
  have h1 := ih (fun i hi => h i (by omega))
  have h2 := h k (by omega)
  unfold difs
  rw [h1, h2]
  simp
theorem difs_one {l m : List Prt} {k j : Nat} (h : ∀ i, i < k → i ≠ j → (ge m i).lost = (ge l i).lost) : difs l m k ≤ 1 := by
 induction k with
 | zero => exact Nat.zero_le _
 | succ k ih =>
  by_cases hk : k = j
  ·have h1 := difs_none (l := l) (m := m) (k := k) (fun i hi => h i (by omega) (by omega))
   unfold difs
   rw [h1]
   split <;> omega
  ·have h1 := ih (fun i hi => h i (by omega))
   have h2 := h k (by omega) hk
   unfold difs
   rw [h2]
   simpa using h1
theorem allLost_lost {x : Prt} (h : x.lost = true) : (allLost x).lost = true := by
 unfold allLost; split <;> first | rfl | exact h
structure DueF (f : Fv) (c : Cf) (now : Int) (g : Fv) (due : Int) : Prop where
 len : g.l.length = f.l.length
 came : ∀ k, k < f.l.length → (ge g.l k).came = (ge f.l k).came
 lost : ∀ k, k < f.l.length → (ge f.l k).lost = true → (ge g.l k).lost = true
 ways : (due = 0 ∧ g = f ∧ (f.tm.kd = 0 ∨ now < f.tm.at_)) ∨ (due = 1 ∧ difs f.l g.l f.l.length ≤ 1 ∧ g.pb = true ∧ g.cw = f.cw ∧ g.th = f.th ∧ g.r = f.r) ∨ (due = 2 ∧ flightR g.l = 0 ∧ g.cw = c.mss ∧ g.tm = ztm ∧ g.cut = true ∧ g.pb = false ∧ f.tm.at_ ≤ now)
theorem due_law {f : Fv} {c : Cf} {now : Int} (h : (tickF f c now).2.2 = 0) : DueF f c now (tickF f c now).1 (tickF f c now).2.1 := by
 obtain ⟨hok, hn, hd⟩ := tick_yes h
 have hb := tdue_bd hok.t now
 have hlen := hd.len
 by_cases e0 : tdueR f.tm now = 0
 ·have e : tickF f c now = (f, 0, 0) := by unfold tickF; rw [if_pos ⟨(fmay_iff f c).2 hok, hn⟩, if_pos e0]
  rw [e]
  refine ⟨rfl, fun _ _ => rfl, fun _ _ h => h, .inl ⟨rfl, rfl, ?_⟩⟩
  unfold tdueR at e0
  by_cases hq : tmB f.tm = true ∧ f.tm.at_ ≤ now
  ·rw [if_pos hq] at e0; exact .inl e0
  ·right
   have := hok.t
   by_cases hle : f.tm.at_ ≤ now
   ·exact absurd ⟨this, hle⟩ hq
   ·omega
 ·by_cases e1 : tdueR f.tm now = 1
  ·have e : tickF f c now = (setF { f with l := probeL f.l, pb := true } c now, 1, 0) := by unfold tickF; rw [if_pos ⟨(fmay_iff f c).2 hok, hn⟩, if_neg e0, if_pos e1]
   rw [e] at hlen ⊢
   have hl : (setF { f with l := probeL f.l, pb := true } c now).l = probeL f.l := rfl
   have hp : ∃ j, ∀ k, k < f.l.length → (ge (probeL f.l) k = if j = k then allLost (ge f.l k) else ge f.l k) := by
    unfold probeL
    cases hk : lastOut f.l with
    | none => exact ⟨f.l.length, fun k hk => by rw [if_neg (by omega)]⟩
    | some i =>
     obtain ⟨hi, _, _⟩ := lastOut_some hk
     refine ⟨i, fun k hk => ?_⟩
     dsimp only
     rw [ge_set hi]
     split
     ·next e => rw [e]
     ·rfl
   obtain ⟨j, hj⟩ := hp
   refine ⟨hlen, fun k hk => ?_, fun k hk hlo => ?_, .inr (.inl ⟨rfl, ?_, rfl, rfl, rfl, rfl⟩)⟩
   ·rw [hl, hj k hk]; split
    ·exact allLost_came _
    ·rfl
   ·rw [hl, hj k hk]; split
    ·exact allLost_lost hlo
    ·exact hlo
   ·rw [hl]
    refine difs_one (j := j) (fun i hi hne => ?_)
    rw [hj i hi, if_neg (fun e => hne e.symm)]
  ·obtain ⟨r1, r2, r3, r4, r5, r6, r7, r8⟩ := resend_facts hok hn (by omega)
   refine ⟨hlen, fun k hk => ?_, fun k hk hlo => ?_, .inr (.inr ⟨r8, r2, r3, r4, r5, r6, r7⟩)⟩
   ·rw [r1, ge_map _ hk]; exact allLost_came _
   ·rw [r1, ge_map _ hk]; exact allLost_lost hlo
end Go.Proofs.YtbijhkhkigdddaaGreat
namespace Go.Proofs.YtbijhkhkigdddaaGreat.flowDue
open Go.RowKit
theorem walk (s : Fs) (f : Fv) (c : Cf) (now : Int) (w : World) (h : FlM w (fun _ => True) s f) (hc : CfW c) (h3 : W64 now) :
  Calls Tryz.prog 8 #[.agg (fcs s f).toArray, .agg (ccs c).toArray, now] w fun e w' => e = .returned (.bool true) ∧ Below w.heap.size w w' := by
 obtain ⟨B, hB⟩ : ∃ B, w.heap.size = B := ⟨_, rfl⟩
 have e1 := (Bx.new w 40 (fcs s f)).alloc (.cells (ccs c).toArray 42)
 have y1 := Bx.new (w.alloc (.cells (fcs s f).toArray 40)) 42 (ccs c)
 rw [World.size_alloc] at y1
 rw [hB] at e1 y1 ⊢
 have b1 : Below B w ((w.alloc (.cells (fcs s f).toArray 40)).alloc (.cells (ccs c).toArray 42)) := by rw [← hB]; exact ((Zb).alloc Zr _).alloc (by simp) _
 have f1 := (h.alloc (.cells (fcs s f).toArray 40)).alloc (.cells (ccs c).toArray 42)
 have HC := Zh hc; have HW := Zh (show i64 now from h3)
 clear hc h h3
 go_enter Tryz.func8, Tryz.ntmps8
 go_upto_region 1 with fail
 generalize (w.alloc (.cells (fcs s f).toArray 40)).alloc (.cells (ccs c).toArray 42) = w1 at e1 y1 b1 f1 ⊢
 clear hB
 have z1 : B ≤ w1.heap.size := Zl e1.lt
 go_wp2_with fail
 refine (flawake_any _).mono ?_
 rintro e w2 ⟨rfl, hb⟩
 have e2 := e1.kept hb
 have y2 := y1.kept hb
 have f2 := f1.keep hb
 have b2 := b1.trans (hb.mono z1); have z2 := Zn z1 hb.size
 clear e1 y1 f1 b1 z1 hb
 go_wp2_with (refine fl_load rfl (.tmp 3) rfl rfl e2 rfl ?_)
 refine (flfew_any s f _).mono ?_
 rintro e w3 ⟨rfl, hb⟩
 have e3 := e2.kept hb
 have y3 := y2.kept hb
 have f3 := f2.keep hb
 have b3 := b2.trans (hb.mono z2); have z3 := Zn z2 hb.size
 clear e2 y2 f2 b2 z2 hb
 cases hfew : fewB s with
 | false =>
  go_wp2_with fail
  go_ret
  exact ⟨rfl, b3⟩
 | true =>
 go_upto_region 5 with fail
 obtain ⟨⟨g, due, er⟩, hr⟩ : ∃ r, tickF f c now = r := ⟨_, rfl⟩
 have HR := Zh hr; clear hr hfew
 go_wp2_with (first | (refine fl_load rfl (.tmp 3) rfl rfl e3 rfl ?_) | (refine cf_load rfl (.tmp 4) rfl rfl y3 rfl ?_))
 refine (fltick_any (fun _ => True) s f c now _ (fun _ _ => trivial) f3 HC.out HW.out).mono ?_
 rintro e w4 ⟨s4, he, g4, hb⟩
 rw [HR.out] at he g4
 dsimp only at he g4
 subst he
 have e4 := e3.kept hb
 have y4 := y3.kept hb
 have f4 := f3.keep hb
 have b4 := b3.trans (hb.mono z3); have z4 := Zn z3 hb.size
 clear e3 y3 f3 b3 z3 hb
 have v5 := fw1_box w4 (fcs s4 g)
 have hb := fw1_below w4 (fcs s4 g)
 have g5 := g4.keep hb
 go_upto_region 6 with (refine fl_store rfl (.tmp 9) (.tmp 29) rfl rfl (fcs s4 g) rfl (fz1 w4) rfl rfl rfl ?_)
 change Code.wp _ _ _ _ (fw1 w4 (fcs s4 g))
 generalize fw1 w4 (fcs s4 g) = w5 at v5 g5 hb ⊢
 obtain ⟨P, hP⟩ : ∃ P, w4.heap.size = P := ⟨_, rfl⟩
 rw [hP] at v5 ⊢
 have e5 := e4.kept hb
 have y5 := y4.kept hb
 have f5 := f4.keep hb
 have b5 := b4.trans (hb.mono z4); have z5 := Zn z4 hb.size
 clear e4 y4 f4 b4 z4 hb
 clear g4 hP
 by_cases her : er = 0
 case neg =>
  have d0' : (er != 0) = true := by simpa using her
  have hz := tick_err (f := f) (c := c) (now := now) (e := er) (by rw [HR.out]) her
  rw [HR.out] at hz
  have hdu : due = 0 := (Prod.mk.inj (Prod.mk.inj hz).2).1
  have k2 : w5.cell? ⟨P, 2, none⟩ = some (.int .i64 0) := (v5.cell 2 rfl).trans (by show some (Value.int .i64 g.next) = _; rw [(Prod.mk.inj hz).1]; rfl)
  subst hdu
  clear hz
  go_wp2_with fail
  go_ret
  exact ⟨rfl, b5⟩
 case pos =>
 have hsf := due_law (f := f) (c := c) (now := now) (by rw [HR.out]; exact her)
 rw [HR.out] at hsf
 dsimp only at hsf
 subst her
 have HF := Zh hsf; clear hsf HR
 have m3 : s.n1 ≤ 9223372036854775807 := by have := f5.l.le; have := f5.l.max; unfold maxLen at this; omega
 have HLEN := Zh f5.l.rd.len
 have hn4 : s4.n1 = s.n1 := by have h1 := g5.l.rd.len; have h2 := f5.l.rd.len; have h3 := HF.out.len; omega
 have HN4 := Zh hn4
 have l1 : w5.cell? ⟨B, 1, none⟩ = some (.slice s.a1 s.n1 s.c1) := e5.cell 1 rfl
 have k1 : w5.cell? ⟨P, 1, none⟩ = some (.slice s4.a1 s.n1 s4.c1) := (v5.cell 1 rfl).trans (by show some (Value.slice s4.a1 s4.n1 s4.c1) = _; rw [hn4])
 have dn : ((s.n1 : Int) != (s.n1 : Int)) = false := by simp
 obtain ⟨M, hM⟩ : ∃ M, w5.heap.size = M := ⟨_, rfl⟩
 have HM := Zh hM; clear hM hn4
 go_upto_region 10 with fail
 clear l1 k1 dn
 go_wp2_with fail
 go_loopw [12, 13] (fun a i wr => ∃ k : Nat, k ≤ s.n1 ∧ i = .int .i64 (k : Int) ∧ a = .int .i64 (difs f.l g.l k : Int) ∧ Below M w5 wr) (fun _ i _ => s.n1 - (intOf i).toNat)
 case atStart => exact ⟨0, Nat.zero_le _, rfl, rfl, Below.refl _ _⟩
 case round =>
  obtain ⟨k, hk, rfl, rfl, br⟩ := hrel
  have e9 := e5.below br (by rw [← HM.out]; exact e5.lt); have v9 := v5.below br (by rw [← HM.out]; exact v5.lt)
  have f9 := f5.keep (show Below w5.heap.size w5 wr by rw [HM.out]; exact br)
  have g9 := g5.keep (show Below w5.heap.size w5 wr by rw [HM.out]; exact br)
  have l1 : wr.cell? ⟨B, 1, none⟩ = some (.slice s.a1 s.n1 s.c1) := e9.cell 1 rfl
  have k1 : wr.cell? ⟨P, 1, none⟩ = some (.slice s4.a1 s.n1 s4.c1) := (v9.cell 1 rfl).trans (by show some (Value.slice s4.a1 s4.n1 s4.c1) = _; rw [HN4.out])
  by_cases hlt : k < s.n1
  ·have dlt : decide (k < s.n1) = true := Zt hlt
   have dlt' : decide ((k : Int) < (s.n1 : Int)) = true := Zt (by omega)
   have hkl : k < f.l.length := by rw [HLEN.out]; exact hlt
   obtain ⟨bb, o, hA, hbl, hc0⟩ := f9.l.rd.at_ (by omega)
   obtain ⟨bb2, o2, hA2, hbl2, hc2⟩ := g9.l.rd.at_ (by rw [HN4.out]; omega)
   have X := prt_at hc0 hlt
   have X2 := prt_at hc2 (show k < s4.n1 by rw [HN4.out]; exact hlt)
   rw [hA] at l1
   rw [hA2] at k1
   obtain ⟨_, _, _, _, _, x5, x6, _, _⟩ := X
   obtain ⟨_, _, _, _, _, u5, u6, _, _⟩ := X2
   rw [HF.out.came k hkl] at u5
   have HLO := Zh (HF.out.lost k hkl)
   have hdf : difs f.l g.l (k + 1) = difs f.l g.l k + (if ((ge g.l k).lost != (ge f.l k).lost) = true then 1 else 0) := rfl
   have hdl := difs_le f.l g.l k
   obtain ⟨D, hD⟩ : ∃ D, difs f.l g.l k = D := ⟨_, rfl⟩
   obtain ⟨D', hD'⟩ : ∃ D', difs f.l g.l (k + 1) = D' := ⟨_, rfl⟩
   rw [hD, hD'] at hdf
   rw [hD] at hdl ⊢
   obtain ⟨cm, hcm⟩ : ∃ u, (ge f.l k).came = u := ⟨_, rfl⟩
   obtain ⟨lo, hlo⟩ : ∃ u, (ge f.l k).lost = u := ⟨_, rfl⟩
   obtain ⟨lo2, hlo2⟩ : ∃ u, (ge g.l k).lost = u := ⟨_, rfl⟩
   rw [hcm] at x5 u5
   rw [hlo] at x6 HLO hdf
   rw [hlo2] at u6 HLO hdf
   have HD := Zh hD'
   have dcm : (cm != cm) = false := by simp
   have i1 : IntKind.i64.wrap ((D : Int) + 1) = (D : Int) + 1 := IntWalk.i64_in _ (by omega)
   clear hA hbl hc0 hA2 hbl2 hc2 e9 v9 f9 g9 hD hD' hcm hlo hlo2
   have i2 : IntKind.i64.wrap ((k : Int) + 1) = (k : Int) + 1 := IntWalk.i64_in _ (by omega)
   go_upto_region 14 with fail
   cases lo with
   | false =>
    cases lo2 with
    | false =>
     have hdd : D' = D + 0 := hdf
     clear hdf HLO
     go_quiet (fail)
     obtain ⟨nq, hnq⟩ : ∃ n, n = n := ⟨0, rfl⟩
     go_upto_region 16 with fail
     go_quiet (fail)
     go_wp2_with fail
     go_roundw
     case rel => exact ⟨k + 1, by omega, by go_num, by rw [HD.out, hdd]; first | rfl | (congr 1; omega) | go_num, below_drewN br _⟩
     case measure => simp [intOf]; omega
    | true =>
     have hdd : D' = D + 1 := hdf
     clear hdf HLO
     go_quiet (fail)
     obtain ⟨nq, hnq⟩ : ∃ n, n = n := ⟨0, rfl⟩
     go_upto_region 16 with fail
     go_quiet (fail)
     go_wp2_with fail
     go_roundw
     case rel => exact ⟨k + 1, by omega, by go_num, by rw [HD.out, hdd]; first | rfl | (congr 1; omega) | go_num, below_drewN br _⟩
     case measure => simp [intOf]; omega
   | true =>
    cases lo2 with
    | false => exact absurd (HLO.out rfl) (by decide)
    | true =>
     have hdd : D' = D + 0 := hdf
     clear hdf HLO
     go_quiet (fail)
     obtain ⟨nq, hnq⟩ : ∃ n, n = n := ⟨0, rfl⟩
     go_upto_region 16 with fail
     go_quiet (fail)
     go_wp2_with fail
     go_roundw
     case rel => exact ⟨k + 1, by omega, by go_num, by rw [HD.out, hdd]; first | rfl | (congr 1; omega) | go_num, below_drewN br _⟩
     case measure => simp [intOf]; omega
  ·obtain rfl : k = s.n1 := by omega
   have dlt : decide (s.n1 < s.n1) = false := Zf (by omega)
   have dlt' : decide ((s.n1 : Int) < (s.n1 : Int)) = false := Zf (by omega)
   have f9 := f5.keep (show Below w5.heap.size w5 wr by rw [HM.out]; exact br)
   have g9 := g5.keep (show Below w5.heap.size w5 wr by rw [HM.out]; exact br)
   have y9 := y5.below br (by rw [← HM.out]; exact y5.lt)
   have b9 := b5.trans (br.mono (by rw [← HM.out]; exact z5))
   have z9 : B ≤ wr.heap.size := by have := br.size; have := HM.out; omega
   clear e5 v5 f5 g5 b5 y5 br k1
   rcases HF.out.ways with ⟨rfl, rfl, hkd⟩ | ⟨rfl, hd1, hpb, hcw, hth, hgr⟩ | ⟨rfl, hfly, hcw, htm, hcut, hpb, hat⟩
   ·go_upto_region 20 with fail
    go_wp2_with (first | (refine fl_load rfl (.tmp 9) rfl rfl v9 rfl ?_) | (refine fl_load rfl (.tmp 3) rfl rfl e9 rfl ?_))
    refine (flsame_yes (fun _ => True) (fun _ => True) s4 s g wr g9 f9).mono ?_
    rintro e w10 ⟨rfl, hb⟩
    have e10 := e9.kept hb; have b10 := b9.trans (hb.mono z9)
    have q27 : w10.cell? ⟨B, 27, none⟩ = some (.int .i64 g.tm.kd) := e10.cell 27 rfl
    have q28 : w10.cell? ⟨B, 28, none⟩ = some (.int .i64 g.tm.at_) := e10.cell 28 rfl
    clear e9 v9 f9 g9 b9 z9 y9 HF hb
    by_cases h0 : g.tm.kd = 0
    ·have d1 : (g.tm.kd == 0) = true := by simpa using h0
     go_wp2_with fail
     go_ret
     exact ⟨rfl, b10⟩
    ·have d1 : (g.tm.kd == 0) = false := by simpa using h0
     have d2 : decide (now < g.tm.at_) = true := Zt (by rcases hkd with h | h; exact absurd h h0; exact h)
     go_wp2_with fail
     go_ret
     exact ⟨rfl, b10⟩
   ·rw [HLEN.out] at hd1
    obtain ⟨D, hD⟩ : ∃ D, difs f.l g.l s.n1 = D := ⟨_, rfl⟩
    rw [hD] at hd1 ⊢
    have d1 : decide ((D : Int) ≤ 1) = true := Zt (by omega)
    have k13 : wr.cell? ⟨P, 32, none⟩ = some (.bool true) := (v9.cell 32 rfl).trans (by show some (Value.bool g.pb) = _; rw [hpb])
    have k25 : wr.cell? ⟨P, 25, none⟩ = some (.int .i64 f.cw) := (v9.cell 25 rfl).trans (by show some (Value.int .i64 g.cw) = _; rw [hcw])
    have k26 : wr.cell? ⟨P, 26, none⟩ = some (.int .i64 f.th) := (v9.cell 26 rfl).trans (by show some (Value.int .i64 g.th) = _; rw [hth])
    have l25 : wr.cell? ⟨B, 25, none⟩ = some (.int .i64 f.cw) := e9.cell 25 rfl
    have l26 : wr.cell? ⟨B, 26, none⟩ = some (.int .i64 f.th) := e9.cell 26 rfl
    have k3 : wr.cell? ⟨P, 3, none⟩ = some (.bool f.r.has) := (v9.cell 3 rfl).trans (by show some (Value.bool g.r.has) = _; rw [hgr])
    have k4 : wr.cell? ⟨P, 4, none⟩ = some (.int .i64 f.r.srtt) := (v9.cell 4 rfl).trans (by show some (Value.int .i64 g.r.srtt) = _; rw [hgr])
    have k5 : wr.cell? ⟨P, 5, none⟩ = some (.int .i64 f.r.vr) := (v9.cell 5 rfl).trans (by show some (Value.int .i64 g.r.vr) = _; rw [hgr])
    have k6 : wr.cell? ⟨P, 6, none⟩ = some (.int .i64 f.r.rto) := (v9.cell 6 rfl).trans (by show some (Value.int .i64 g.r.rto) = _; rw [hgr])
    have k7 : wr.cell? ⟨P, 7, none⟩ = some (.int .i64 f.r.shift) := (v9.cell 7 rfl).trans (by show some (Value.int .i64 g.r.shift) = _; rw [hgr])
    have j3 : wr.cell? ⟨B, 3, none⟩ = some (.bool f.r.has) := e9.cell 3 rfl
    have j4 : wr.cell? ⟨B, 4, none⟩ = some (.int .i64 f.r.srtt) := e9.cell 4 rfl
    have j5 : wr.cell? ⟨B, 5, none⟩ = some (.int .i64 f.r.vr) := e9.cell 5 rfl
    have j6 : wr.cell? ⟨B, 6, none⟩ = some (.int .i64 f.r.rto) := e9.cell 6 rfl
    have j7 : wr.cell? ⟨B, 7, none⟩ = some (.int .i64 f.r.shift) := e9.cell 7 rfl
    clear e9 v9 f9 g9 z9 y9 HF
    go_wp2_with fail
    go_ret
    exact ⟨rfl, b9⟩
   ·go_upto_region 23 with fail
    have k1 : wr.cell? ⟨P, 1, none⟩ = some (.slice s4.a1 s4.n1 s4.c1) := v9.cell 1 rfl
    go_wp2_with fail
    refine (stflight_any _ _ _ g.l _ g9.l).mono ?_
    rw [hfly]
    rintro e w10 ⟨rfl, hb⟩
    have e10 := e9.kept hb; have v10 := v9.kept hb; have y10 := y9.kept hb; have b10 := b9.trans (hb.mono z9)
    have k25 : w10.cell? ⟨P, 25, none⟩ = some (.int .i64 c.mss) := (v10.cell 25 rfl).trans (by show some (Value.int .i64 g.cw) = _; rw [hcw])
    have m0 : w10.cell? ⟨B + 1, 0, none⟩ = some (.int .i64 c.mss) := y10.cell 0 rfl
    have k27 : w10.cell? ⟨P, 27, none⟩ = some (.int .i64 0) := (v10.cell 27 rfl).trans (by show some (Value.int .i64 g.tm.kd) = _; rw [htm]; rfl)
    have k31 : w10.cell? ⟨P, 31, none⟩ = some (.bool true) := (v10.cell 31 rfl).trans (by show some (Value.bool g.cut) = _; rw [hcut])
    have k32 : w10.cell? ⟨P, 32, none⟩ = some (.bool false) := (v10.cell 32 rfl).trans (by show some (Value.bool g.pb) = _; rw [hpb])
    have l28 : w10.cell? ⟨B, 28, none⟩ = some (.int .i64 f.tm.at_) := e10.cell 28 rfl
    have d1 : decide (f.tm.at_ ≤ now) = true := Zt hat
    have d2 : (c.mss == c.mss) = true := by simp
    clear e9 v9 f9 g9 z9 y9 HF l1 k1 hb e10 v10 y10 b9
    go_wp2_with fail
    go_ret
    exact ⟨rfl, b10⟩
end Go.Proofs.YtbijhkhkigdddaaGreat.flowDue
