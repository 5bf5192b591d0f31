/- Package timer as it landed: First, Set as contracts of the calls. -/
import Derived.Test.YtbkmadlekigjfaaTmL1
import Derived.Test.YtbkmadlekigjfaaTmMath
import Derived.Test.YtbkmadlekigjfaaRtLo3
namespace Go.Proofs.Ytbkmadlekigjfaa
open Go.RowKit
set_option linter.unusedVariables false
set_option linter.unusedSimpArgs false

/-- First, forwards -/
def fwd (out t : Tmr) : Tmr := if tmB t = true ∧ t.kd ≠ 0 ∧ (out.kd = 0 ∨ t.at_ < out.at_) then t else out
theorem tmV_iff (t : Tmr) : TmV t ↔ tmB t = true ∧ t.kd ≠ 0 := by
  unfold TmV
  refine and_congr_right fun h => ?_
  have := ((tmB_iff t).1 h).k0
  omega
theorem first_two (a b : Tmr) (ha : TmZ a) : firstR [a, firstR [b]] = fwd a b := by
  show tmStep (tmStep ztm (tmStep ztm b)) a = _
  by_cases hb : TmV b
  · have hb' := (tmV_iff b).1 hb
    have h1 : tmStep ztm b = b := step_first (.inr hb)
    rw [h1, h1]
    unfold fwd
    rcases ha with rfl | ha
    · rw [step_n not_v_ztm, if_pos ⟨hb'.1, hb'.2, .inl rfl⟩]
    · have ha' := (tmV_iff a).1 ha
      rw [step_v ha]
      by_cases c : a.at_ ≤ b.at_
      · rw [if_pos (.inr c), if_neg (fun h => by rcases h.2.2 with h | h; exact ha'.2 h; omega)]
      · rw [if_neg (fun h => by rcases h with h | h; exact hb'.2 h; exact c h), if_pos ⟨hb'.1, hb'.2, .inr (by omega)⟩]
  · rw [step_n hb, step_n not_v_ztm, step_first ha]
    unfold fwd
    rw [if_neg (fun h => hb ((tmV_iff b).2 ⟨h.1, h.2.1⟩))]
theorem first_take {l : List Tmr} {k : Nat} (h : k < l.length) : firstR (l.take (k + 1)) = fwd (firstR (l.take k)) (ge l k) := by
  rw [take_ge h, first_app, first_two _ _ (first_z _)]
theorem fwd_no {o t : Tmr} (h : ¬ (tmB t = true ∧ t.kd ≠ 0 ∧ (o.kd = 0 ∨ t.at_ < o.at_))) : fwd o t = o := if_neg h
theorem fwd_yes {o t : Tmr} (h : tmB t = true ∧ t.kd ≠ 0 ∧ (o.kd = 0 ∨ t.at_ < o.at_)) : fwd o t = t := if_pos h

set_option maxRecDepth 100000 in
set_option maxHeartbeats 8000000 in
theorem tifirst_any (A : Option Addr) (n c : Nat) (l : List Tmr) (w : World) (hs : Se w A n c l) :
    Calls Try.prog 15 #[.slice A n c] w fun e w' => e = .returned (.agg #[.int .i64 (firstR l).kd, .int .i64 (firstR l).at_]) ∧ Below w.heap.size w w' := by
  obtain ⟨B, hB⟩ : ∃ B, w.heap.size = B := ⟨_, rfl⟩
  have hl := hs.rd.len
  have m1 := hs.le
  have m2 := hs.max
  have m3 : n ≤ 9223372036854775807 := by unfold maxLen at m2; omega
  clear m1 m2
  have HL := Lib.hid hl; have HA := Lib.hid hs; have HB := Lib.hid hB
  have e0 := (Bx.new w 28 [.int .i64 0, .int .i64 0]).alloc (.cells #[.int .i64 0, .int .i64 0] 28)
  have o0 := Bx.new (w.alloc (.cells #[.int .i64 0, .int .i64 0] 28)) 28 [.int .i64 0, .int .i64 0]
  rw [World.size_alloc] at o0
  have b0 : Below w.heap.size w ((w.alloc (.cells #[.int .i64 0, .int .i64 0] 28)).alloc (.cells #[.int .i64 0, .int .i64 0] 28)) := ((Below.refl _ _).alloc (Nat.le_refl _) _).alloc (by simp) _
  rw [hB] at e0 o0 b0
  rw [hB]
  clear hs hl
  go_enter Try.func15, Try.ntmps15
  go_upto_region 2 with fail
  generalize ((w.alloc (.cells #[.int .i64 0, .int .i64 0] 28)).alloc (.cells #[.int .i64 0, .int .i64 0] 28)) = w1 at e0 o0 b0 ⊢
  go_wp2_with fail
  go_loopw [10] (fun i wr => ∃ k : Nat, k ≤ n ∧ i = .int .i64 (k : Int) ∧ Bx wr (B + 1) 28 [.int .i64 (firstR (l.take k)).kd, .int .i64 (firstR (l.take k)).at_] ∧ Bx wr B 28 [.int .i64 0, .int .i64 0] ∧ Below B w wr) (fun i _ => n - (intOf i).toNat)
  case atStart => exact ⟨0, Nat.zero_le _, rfl, o0, e0, b0⟩
  case round =>
    obtain ⟨k, hkn, rfl, hor, er, br⟩ := hrel
    clear e0 o0 b0
    by_cases hlt : k < n
    case neg =>
      obtain rfl : k = n := by omega
      have hd : decide (k < k) = false := decide_eq_false (by omega)
      have htk : l.take k = l := by rw [← HL.out]; exact List.take_length
      rw [htk] at hor
      clear htk
      obtain ⟨F, hF⟩ : ∃ F, firstR l = F := ⟨_, rfl⟩
      rw [hF] at hor
      have HF := Lib.hid hF
      clear hF
      go_wp2_with (first | (refine tm_load rfl (.tmp 3) rfl rfl hor rfl ?_) | (refine tm_store rfl (.tmp 2) (.tmp 36) rfl rfl [.int .i64 F.kd, .int .i64 F.at_] rfl er rfl rfl rfl ?_))
      refine tm_end1 (by rfl) (by rfl) (tm_put er [.int .i64 F.kd, .int .i64 F.at_]) rfl rfl ?_
      exact ⟨by rw [HF.out], br.grown (tm_grown _ B #[.int .i64 F.kd, .int .i64 F.at_]) (Nat.le_of_lt er.lt) (fun k hk => by cases hk; omega)⟩
    case pos =>
    have hd : decide (k < n) = true := decide_eq_true hlt
    have hkl : k < l.length := by rw [HL.out]; exact hlt
    have hst := first_take hkl
    obtain ⟨b, o, rfl, hbl, hc⟩ := HA.out.rd.at_ (by omega)
    have hbB : b < B := by rw [← HB.out]; exact hbl
    have X := tm_below (tm_at hc hlt) br hbB
    obtain ⟨p, hp⟩ : ∃ p, ge l k = p := ⟨_, rfl⟩
    rw [hp] at X hst
    obtain ⟨F, hF⟩ : ∃ F, firstR (l.take k) = F := ⟨_, rfl⟩
    rw [hF] at hor hst
    have HST := Lib.hid hst
    have c0 := X.c0; have c1 := X.c1
    obtain ⟨P, hP⟩ : ∃ P, wr.heap.size = P := ⟨_, rfl⟩
    have eP : Bx (wr.alloc (.cells #[.int .i64 p.kd, .int .i64 p.at_] 28)) P 28 [.int .i64 p.kd, .int .i64 p.at_] := hP ▸ Bx.new wr 28 [.int .i64 p.kd, .int .i64 p.at_]
    have hBP : B < P := hP ▸ er.lt
    have hor1 := hor.alloc (.cells #[.int .i64 p.kd, .int .i64 p.at_] 28); have er1 := er.alloc (.cells #[.int .i64 p.kd, .int .i64 p.at_] 28)
    have br1 : Below B w (wr.alloc (.cells #[.int .i64 p.kd, .int .i64 p.at_] 28)) := br.alloc (hP ▸ Nat.le_of_lt hBP) _
    clear hc hp hF hst hbl X
    go_upto_region 5 with fail
    clear c0 c1 hor er br
    try rw [hP]
    generalize (wr.alloc (.cells #[.int .i64 p.kd, .int .i64 p.at_] 28)) = wA at eP hor1 er1 br1 ⊢
    go_wp2_with (refine tm_load rfl (.tmp 5) rfl rfl eP rfl ?_)
    refine (timay_any p _).mono ?_
    rintro e w2 ⟨rfl, hb2⟩
    have or2 := hor1.kept hb2; have er2 := er1.kept hb2; have eP2 := eP.kept hb2; have br2 := br1.trans (hb2.mono (Nat.le_of_lt er1.lt))
    have hB2 : B ≤ w2.heap.size := Nat.le_of_lt er2.lt
    clear hor1 er1 eP br1 hb2
    have c0 := eP2.cell 0 rfl; have c1 := eP2.cell 1 rfl; have x0 := or2.cell 0 rfl; have x1 := or2.cell 1 rfl
    cases hk : tmB p with
    | false =>
      have hF2 : firstR (l.take (k + 1)) = F := by rw [HST.out]; exact fwd_no (by intro h; rw [hk] at h; cases h.1)
      have HF2 := Lib.hid hF2; clear hF2
      go_wp2_with fail
      go_roundw
      case rel => exact ⟨k + 1, by omega, by go_num, by rw [HF2.out]; exact or2, er2, br2⟩
      case measure => simp [intOf]; omega
    | true =>
    by_cases k0 : p.kd = 0
    case pos =>
      have dk0 : (p.kd == 0) = true := by simpa using k0
      have dk1 : (p.kd != 0) = false := by simpa using k0
      have hF2 : firstR (l.take (k + 1)) = F := by rw [HST.out]; exact fwd_no (fun h => h.2.1 k0)
      have HF2 := Lib.hid hF2; clear hF2 k0
      go_wp2_with fail
      go_roundw
      case rel => exact ⟨k + 1, by omega, by go_num, by rw [HF2.out]; exact or2, er2, br2⟩
      case measure => simp [intOf]; omega
    have dk0 : (p.kd == 0) = false := by simpa using k0
    have dk1 : (p.kd != 0) = true := by simpa using k0
    by_cases k1 : F.kd = 0
    case pos =>
      have dk2 : (F.kd == 0) = true := by simpa using k1
      have hF2 : firstR (l.take (k + 1)) = p := by rw [HST.out]; exact fwd_yes (⟨hk, k0, .inl k1⟩)
      have HF2 := Lib.hid hF2; clear hF2 k0 k1
      go_wp2_with (first | (refine tm_load rfl (.tmp 5) rfl rfl eP2 rfl ?_) | (refine tm_store rfl (.tmp 3) (.tmp 34) rfl rfl [.int .i64 p.kd, .int .i64 p.at_] rfl or2 rfl rfl rfl ?_))
      go_roundw
      case rel => exact ⟨k + 1, by omega, by go_num, by rw [HF2.out]; exact tm_put or2 [.int .i64 p.kd, .int .i64 p.at_], er2.grown (tm_grown _ (B + 1) #[.int .i64 p.kd, .int .i64 p.at_]) (by intro h; injection h; omega), br2.grown (tm_grown _ (B + 1) #[.int .i64 p.kd, .int .i64 p.at_]) hB2 (fun k hk => by cases hk; omega)⟩
      case measure => simp [intOf]; omega
    have dk2 : (F.kd == 0) = false := by simpa using k1
    by_cases k2 : p.at_ < F.at_
    case pos =>
      have dk3 : decide (p.at_ < F.at_) = true := decide_eq_true k2
      have hF2 : firstR (l.take (k + 1)) = p := by rw [HST.out]; exact fwd_yes (⟨hk, k0, .inr k2⟩)
      have HF2 := Lib.hid hF2; clear hF2 k0 k1
      go_wp2_with (first | (refine tm_load rfl (.tmp 5) rfl rfl eP2 rfl ?_) | (refine tm_store rfl (.tmp 3) (.tmp 34) rfl rfl [.int .i64 p.kd, .int .i64 p.at_] rfl or2 rfl rfl rfl ?_))
      go_roundw
      case rel => exact ⟨k + 1, by omega, by go_num, by rw [HF2.out]; exact tm_put or2 [.int .i64 p.kd, .int .i64 p.at_], er2.grown (tm_grown _ (B + 1) #[.int .i64 p.kd, .int .i64 p.at_]) (by intro h; injection h; omega), br2.grown (tm_grown _ (B + 1) #[.int .i64 p.kd, .int .i64 p.at_]) hB2 (fun k hk => by cases hk; omega)⟩
      case measure => simp [intOf]; omega
    case neg =>
      have dk3 : decide (p.at_ < F.at_) = false := decide_eq_false k2
      have hF2 : firstR (l.take (k + 1)) = F := by rw [HST.out]; exact fwd_no (fun h => by rcases h.2.2 with h | h; exact k1 h; exact k2 h)
      have HF2 := Lib.hid hF2; clear hF2 k0 k1
      go_wp2_with fail
      go_roundw
      case rel => exact ⟨k + 1, by omega, by go_num, by rw [HF2.out]; exact or2, er2, br2⟩
      case measure => simp [intOf]; omega

set_option maxRecDepth 100000 in
set_option maxHeartbeats 8000000 in
theorem tiset_any (r : Rt) (A : Option Addr) (n c : Nat) (l : List Prt) (pb : Bool) (now most : Int) (w : World) (hs : Se w A n c l) :
    Calls Try.prog 9 #[.agg #[.bool r.has, .int .i64 r.srtt, .int .i64 r.vr, .int .i64 r.rto, .int .i64 r.shift], .slice A n c, .bool pb, .int .i64 now, .int .i64 most] w fun e w' => TellT w w' e (setR r l pb now most) := by
  unfold TellT
  obtain ⟨B, hB⟩ : ∃ B, w.heap.size = B := ⟨_, rfl⟩
  have HA := Lib.hid hs; have HB := Lib.hid hB
  have e0 := (Bx.new w 23 [.bool r.has, .int .i64 r.srtt, .int .i64 r.vr, .int .i64 r.rto, .int .i64 r.shift]).alloc (.cells #[.int .i64 0, .int .i64 0] 28)
  have y0 := Bx.new (w.alloc (.cells #[.bool r.has, .int .i64 r.srtt, .int .i64 r.vr, .int .i64 r.rto, .int .i64 r.shift] 23)) 28 [.int .i64 0, .int .i64 0]
  rw [World.size_alloc] at y0
  have b0 : Below w.heap.size w ((w.alloc (.cells #[.bool r.has, .int .i64 r.srtt, .int .i64 r.vr, .int .i64 r.rto, .int .i64 r.shift] 23)).alloc (.cells #[.int .i64 0, .int .i64 0] 28)) := ((Below.refl _ _).alloc (Nat.le_refl _) _).alloc (by simp) _
  rw [hB] at e0 y0 b0
  obtain ⟨z, hz⟩ : ∃ z, setR r l pb now most = z := ⟨_, rfl⟩
  rw [hz, hB]
  have HZ := Lib.hid hz
  clear hs hz
  go_enter Try.func9, Try.ntmps9
  go_wp2_with (refine rt_load rfl (.tmp 5) rfl rfl e0 rfl ?_)
  generalize ((w.alloc (.cells #[.bool r.has, .int .i64 r.srtt, .int .i64 r.vr, .int .i64 r.rto, .int .i64 r.shift] 23)).alloc (.cells #[.int .i64 0, .int .i64 0] 28)) = w1 at e0 y0 b0 ⊢
  refine (rtmay_any r.has r.srtt r.vr r.rto r.shift _).mono ?_
  rintro e w2 ⟨rfl, hb2⟩
  have e2 := e0.kept hb2; have y2 := y0.kept hb2; have b2 := b0.trans (hb2.mono (Nat.le_of_lt e0.lt))
  have hB2 : B ≤ w2.heap.size := Nat.le_of_lt e2.lt
  clear e0 y0 b0 hb2
  have hm := stmay_any A n c l w2 (HA.out.keep (by rw [HB.out]; exact b2))
  obtain ⟨q1, hq1⟩ : ∃ q, rtB ⟨r.has, r.srtt, r.vr, r.rto, r.shift⟩ = q := ⟨_, rfl⟩
  have hq1' : rtB r = q1 := hq1
  rw [hq1]
  clear hq1
  cases q1 with
  | false =>
    have hz := HZ.out
    rw [set_no (fun h => by have := h.1; rw [hq1'] at this; cases this)] at hz
    subst hz
    clear HZ hq1'
    go_wp2_with (first | (refine tm_store rfl (.tmp 10) (.tmp 35) rfl rfl [.int .i64 0, .int .i64 0] rfl y2 rfl rfl rfl ?_))
    refine tm_end2 (by rfl) (by rfl) (by rfl) (tm_put y2 [.int .i64 0, .int .i64 0]) rfl rfl ?_
    exact ⟨rfl, b2.grown (tm_grown _ (B + 1) #[.int .i64 0, .int .i64 0]) hB2 (fun k hk => by cases hk; omega)⟩
  | true =>
  cases hf : smayB l with
  | false =>
    rw [hf] at hm
    have hz := HZ.out
    rw [set_no (fun h => by have := h.2.1; rw [hf] at this; cases this)] at hz
    subst hz
    clear HZ hq1' hf
    go_wp2_with (first | (go_at_call 18; refine hm.mono ?_; rintro e w3 ⟨rfl, hb3⟩; have e3 := e2.kept hb3; have y3 := y2.kept hb3; have b3 : Below B w w3 := b2.trans (hb3.mono hB2)) | (go_at_call 19; refine (twin_any _ _ _ _).mono ?_; rintro e wx ⟨rfl, rfl⟩) | (refine tm_store rfl (.tmp 10) (.tmp 35) rfl rfl [.int .i64 0, .int .i64 0] rfl y3 rfl rfl rfl ?_))
    refine tm_end2 (by rfl) (by rfl) (by rfl) (tm_put y3 [.int .i64 0, .int .i64 0]) rfl rfl ?_
    exact ⟨rfl, b3.grown (tm_grown _ (B + 1) #[.int .i64 0, .int .i64 0]) (Nat.le_of_lt e3.lt) (fun k hk => by cases hk; omega)⟩
  | true =>
  rw [hf] at hm
  cases ht : winB now 0 1152921504606846976 with
  | false =>
    have htn : ¬ (0 ≤ now ∧ now ≤ 1152921504606846976) := fun h => by rw [(win_iff _ _ _).2 h] at ht; cases ht
    have hz := HZ.out
    rw [set_no (fun h => by exact htn ⟨h.2.2.1, h.2.2.2.1⟩)] at hz
    subst hz
    clear HZ hq1' hf htn
    go_wp2_with (first | (go_at_call 18; refine hm.mono ?_; rintro e w3 ⟨rfl, hb3⟩; have e3 := e2.kept hb3; have y3 := y2.kept hb3; have b3 : Below B w w3 := b2.trans (hb3.mono hB2)) | (go_at_call 19; refine (twin_any _ _ _ _).mono ?_; rintro e wx ⟨rfl, rfl⟩) | (refine tm_store rfl (.tmp 10) (.tmp 35) rfl rfl [.int .i64 0, .int .i64 0] rfl y3 rfl rfl rfl ?_))
    refine tm_end2 (by rfl) (by rfl) (by rfl) (tm_put y3 [.int .i64 0, .int .i64 0]) rfl rfl ?_
    exact ⟨rfl, b3.grown (tm_grown _ (B + 1) #[.int .i64 0, .int .i64 0]) (Nat.le_of_lt e3.lt) (fun k hk => by cases hk; omega)⟩
  | true =>
  cases hr : winB most 1 1099511627776 with
  | false =>
    have htn : ¬ (1 ≤ most ∧ most ≤ 1099511627776) := fun h => by rw [(win_iff _ _ _).2 h] at hr; cases hr
    have hz := HZ.out
    rw [set_no (fun h => by exact htn ⟨h.2.2.2.2.1, h.2.2.2.2.2⟩)] at hz
    subst hz
    clear HZ hq1' hf htn
    go_wp2_with (first | (go_at_call 18; refine hm.mono ?_; rintro e w3 ⟨rfl, hb3⟩; have e3 := e2.kept hb3; have y3 := y2.kept hb3; have b3 : Below B w w3 := b2.trans (hb3.mono hB2)) | (go_at_call 19; refine (twin_any _ _ _ _).mono ?_; rintro e wx ⟨rfl, rfl⟩) | (refine tm_store rfl (.tmp 10) (.tmp 35) rfl rfl [.int .i64 0, .int .i64 0] rfl y3 rfl rfl rfl ?_))
    refine tm_end2 (by rfl) (by rfl) (by rfl) (tm_put y3 [.int .i64 0, .int .i64 0]) rfl rfl ?_
    exact ⟨rfl, b3.grown (tm_grown _ (B + 1) #[.int .i64 0, .int .i64 0]) (Nat.le_of_lt e3.lt) (fun k hk => by cases hk; omega)⟩
  | true =>
  have hnb := (win_iff _ _ _).1 ht
  have hmb := (win_iff _ _ _).1 hr
  have hok : SetOk r l now most := ⟨hq1', hf, hnb.1, hnb.2, hmb.1, hmb.2⟩
  have hz := HZ.out
  rw [set_ok hok] at hz
  have hv := (rtB_iff r).1 hq1'
  have hsr0 := hv.s0; have hsr1 := hv.s1
  have hwt := wt_bd (most := most) hv hmb
  have hlo := lastR_ok hf l.length
  rw [List.take_length] at hlo
  obtain ⟨n0, n1⟩ := hnb
  obtain ⟨t0, t1⟩ := hmb
  obtain ⟨W, hW⟩ : ∃ W, wt r most = W := ⟨_, rfl⟩
  rw [hW] at hwt
  obtain ⟨W0, W1⟩ := hwt
  obtain ⟨F, hF⟩ : ∃ F, lastR l = F := ⟨_, rfl⟩
  rw [hF] at hlo
  obtain ⟨F0, F1⟩ := hlo
  unfold setT endAt at hz
  rw [hF, hW] at hz
  have HZ2 := Lib.hid hz; have HW := Lib.hid hW; have HF := Lib.hid hF
  have HFF := Lib.hid hf
  have hsr := fun W h => Se.keep (w' := W) HA.out h
  clear HZ hz hok hq1' hv hW hF hf
  go_upto_region 3 with (first | (go_at_call 18; refine hm.mono ?_; rintro e w3 ⟨rfl, hb3⟩; have e3 := e2.kept hb3; have y3 := y2.kept hb3; have b3 : Below B w w3 := b2.trans (hb3.mono hB2)) | (go_at_call 19; refine (twin_any _ _ _ _).mono ?_; rintro e wx ⟨rfl, rfl⟩))
  clear e2 y2 b2 hb3 hB2 hm ht hr
  obtain ⟨T, hT⟩ : ∃ T, w3.heap.size = T := ⟨_, rfl⟩
  have t3 : Bx (w3.alloc (.cells #[.int .i64 0, .int .i64 0] 28)) T 28 [.int .i64 0, .int .i64 0] := hT ▸ Bx.new w3 28 [.int .i64 0, .int .i64 0]
  have hBT : B + 1 < T := hT ▸ y3.lt
  have e4 := e3.alloc (.cells #[.int .i64 0, .int .i64 0] 28); have y4 := y3.alloc (.cells #[.int .i64 0, .int .i64 0] 28)
  have b4 : Below B w (w3.alloc (.cells #[.int .i64 0, .int .i64 0] 28)) := b3.alloc (by rw [hT]; omega) _
  clear e3 y3 b3
  go_upto_region 4 with fail
  try rw [hT]
  generalize (w3.alloc (.cells #[.int .i64 0, .int .i64 0] 28)) = w4 at t3 e4 y4 b4 ⊢
  have hla := tilatest_any A n c l w4 (HA.out.keep (by rw [HB.out]; exact b4)) HFF.out
  rw [HF.out] at hla
  obtain ⟨D, hD⟩ : ∃ D, latA F = D := ⟨_, rfl⟩
  rw [hD] at hla
  have HD := Lib.hid hD
  clear hD
  go_upto_region 5 with (go_at_call 20; refine hla.mono ?_; rintro e w5 ⟨rfl, hb5⟩)
  have e5 := e4.kept hb5; have y5 := y4.kept hb5; have t5 := t3.kept hb5; have b5 := b4.trans (hb5.mono (Nat.le_of_lt e4.lt))
  clear e4 y4 t3 b4 hb5 hla
  go_wp2_with (refine rt_load rfl (.tmp 5) rfl rfl e5 rfl ?_)
  refine (rtwait_any r.has r.srtt r.vr r.rto r.shift most _).mono ?_
  rintro e w6 ⟨rfl, hb6⟩
  have hwe : wt ⟨r.has, r.srtt, r.vr, r.rto, r.shift⟩ most = W := HW.out
  rw [hwe]
  have e6 := e5.kept hb6; have y6 := y5.kept hb6; have t6 := t5.kept hb6; have b6 := b5.trans (hb6.mono (Nat.le_of_lt e5.lt))
  have hB6 : B ≤ w6.heap.size := Nat.le_of_lt e6.lt
  clear e5 y5 t5 b5 hb6 hwe
  have x0 := e6.cell 0 rfl; have x1 := e6.cell 1 rfl
  have c0 := t6.cell 0 rfl; have fr := t6.free 0
  by_cases cf : F < 0
  case pos =>
    have df : decide (0 ≤ F) = false := decide_eq_false (by omega)
    have hz := HZ2.out
    rw [if_pos cf] at hz
    subst hz
    clear HZ2
    go_upto_region 11 with fail
    have t7 : Bx (w6.setCell ⟨T, 0, none⟩ (.int .i64 0)) T 28 [.int .i64 0, .int .i64 0] := t6.set 0 (.int .i64 0)
    have y7 : Bx (w6.setCell ⟨T, 0, none⟩ (.int .i64 0)) (B + 1) 28 [.int .i64 0, .int .i64 0] := y6.far (p := ⟨T, 0, none⟩) (show B + 1 ≠ T by omega) _
    have b7 : Below B w (w6.setCell ⟨T, 0, none⟩ (.int .i64 0)) := b6.grown (tm_gset w6 ⟨T, 0, none⟩ _) hB6 (fun k hk => by cases hk; show B ≤ T; omega)
    have hB7 : B ≤ (w6.setCell ⟨T, 0, none⟩ (.int .i64 0)).heap.size := Nat.le_trans hB6 (by simp)
    generalize w6.setCell ⟨T, 0, none⟩ (.int .i64 0) = w7 at t7 y7 b7 hB7 ⊢
    clear x0 x1 c0 fr e6 y6 t6 b6
    go_wp2_with (first | (refine tm_load rfl (.tmp 12) rfl rfl t7 rfl ?_) | (refine tm_store rfl (.tmp 10) (.tmp 68) rfl rfl [.int .i64 0, .int .i64 0] rfl y7 rfl rfl rfl ?_))
    refine tm_end2 (by rfl) (by rfl) (by rfl) (tm_put y7 [.int .i64 0, .int .i64 0]) rfl rfl ?_
    exact ⟨rfl, b7.grown (tm_grown _ (B + 1) #[.int .i64 0, .int .i64 0]) hB7 (fun k hk => by cases hk; omega)⟩
  case neg =>
  have df : decide (0 ≤ F) = true := decide_eq_true (by omega)
  obtain rfl : F = D := by rw [← HD.out, latA_pos (by omega)]
  obtain ⟨E, hE⟩ : ∃ E, (if now < F then now else F) = E := ⟨_, rfl⟩
  have hz := HZ2.out
  rw [if_neg cf, hE] at hz
  have HZ3 := Lib.hid hz
  clear hz HZ2 HD HFF HF
  by_cases cn : now < F
  case pos =>
    have dn : decide (now < F) = true := decide_eq_true cn
    obtain rfl : now = E := by rw [← hE, if_pos cn]
    clear hE
    have hz := HZ3.out
    clear HZ3 c0 fr
    cases pb with
    | true =>
      have hz : z = (⟨2, now + W⟩, 0) := by rw [← hz]; rfl
      subst hz
      cases hh : r.has with
      | true =>
        rw [hh] at x0
        clear HW hh e6
        go_upto_region 11 with (refine tm_store rfl (.tmp 12) (.tmp 67) rfl rfl [.int .i64 2, .int .i64 (now + W)] rfl t6 rfl rfl rfl ?_)
        have t9 := tm_put t6 [.int .i64 2, .int .i64 (now + W)]
        have y9 := y6.grown (tm_grown w6 T #[.int .i64 2, .int .i64 (now + W)]) (by intro h; injection h; omega)
        have b9 := b6.grown (tm_grown w6 T #[.int .i64 2, .int .i64 (now + W)]) hB6 (fun k hk => by cases hk; omega)
        have hB9 : B ≤ (w6.setRow T #[.int .i64 2, .int .i64 (now + W)]).heap.size := Nat.le_trans hB6 (by simp [World.setRow])
        generalize w6.setRow T #[.int .i64 2, .int .i64 (now + W)] = w9 at t9 y9 b9 hB9 ⊢
        go_wp2_with (first | (refine tm_load rfl (.tmp 12) rfl rfl t9 rfl ?_) | (refine tm_store rfl (.tmp 10) (.tmp 68) rfl rfl [.int .i64 2, .int .i64 (now + W)] rfl y9 rfl rfl rfl ?_))
        refine tm_end2 (by rfl) (by rfl) (by rfl) (tm_put y9 [.int .i64 2, .int .i64 (now + W)]) rfl rfl ?_
        exact ⟨rfl, b9.grown (tm_grown _ (B + 1) #[.int .i64 2, .int .i64 (now + W)]) hB9 (fun k hk => by cases hk; omega)⟩
      | false =>
        rw [hh] at x0
        clear HW hh e6
        go_upto_region 11 with (refine tm_store rfl (.tmp 12) (.tmp 67) rfl rfl [.int .i64 2, .int .i64 (now + W)] rfl t6 rfl rfl rfl ?_)
        have t9 := tm_put t6 [.int .i64 2, .int .i64 (now + W)]
        have y9 := y6.grown (tm_grown w6 T #[.int .i64 2, .int .i64 (now + W)]) (by intro h; injection h; omega)
        have b9 := b6.grown (tm_grown w6 T #[.int .i64 2, .int .i64 (now + W)]) hB6 (fun k hk => by cases hk; omega)
        have hB9 : B ≤ (w6.setRow T #[.int .i64 2, .int .i64 (now + W)]).heap.size := Nat.le_trans hB6 (by simp [World.setRow])
        generalize w6.setRow T #[.int .i64 2, .int .i64 (now + W)] = w9 at t9 y9 b9 hB9 ⊢
        go_wp2_with (first | (refine tm_load rfl (.tmp 12) rfl rfl t9 rfl ?_) | (refine tm_store rfl (.tmp 10) (.tmp 68) rfl rfl [.int .i64 2, .int .i64 (now + W)] rfl y9 rfl rfl rfl ?_))
        refine tm_end2 (by rfl) (by rfl) (by rfl) (tm_put y9 [.int .i64 2, .int .i64 (now + W)]) rfl rfl ?_
        exact ⟨rfl, b9.grown (tm_grown _ (B + 1) #[.int .i64 2, .int .i64 (now + W)]) hB9 (fun k hk => by cases hk; omega)⟩
    | false =>
    cases hh : r.has with
    | false =>
      have hz : z = (⟨2, now + W⟩, 0) := by rw [← hz, hh]; rfl
      rw [hh] at x0
      subst hz
      clear HW hh e6
      go_upto_region 11 with (refine tm_store rfl (.tmp 12) (.tmp 67) rfl rfl [.int .i64 2, .int .i64 (now + W)] rfl t6 rfl rfl rfl ?_)
      have t9 := tm_put t6 [.int .i64 2, .int .i64 (now + W)]
      have y9 := y6.grown (tm_grown w6 T #[.int .i64 2, .int .i64 (now + W)]) (by intro h; injection h; omega)
      have b9 := b6.grown (tm_grown w6 T #[.int .i64 2, .int .i64 (now + W)]) hB6 (fun k hk => by cases hk; omega)
      have hB9 : B ≤ (w6.setRow T #[.int .i64 2, .int .i64 (now + W)]).heap.size := Nat.le_trans hB6 (by simp [World.setRow])
      generalize w6.setRow T #[.int .i64 2, .int .i64 (now + W)] = w9 at t9 y9 b9 hB9 ⊢
      go_wp2_with (first | (refine tm_load rfl (.tmp 12) rfl rfl t9 rfl ?_) | (refine tm_store rfl (.tmp 10) (.tmp 68) rfl rfl [.int .i64 2, .int .i64 (now + W)] rfl y9 rfl rfl rfl ?_))
      refine tm_end2 (by rfl) (by rfl) (by rfl) (tm_put y9 [.int .i64 2, .int .i64 (now + W)]) rfl rfl ?_
      exact ⟨rfl, b9.grown (tm_grown _ (B + 1) #[.int .i64 2, .int .i64 (now + W)]) hB9 (fun k hk => by cases hk; omega)⟩
    | true =>
    rw [hh] at x0
    have hz : z = (⟨1, now + probeT r most⟩, 0) := by rw [← hz, hh]; rfl
    unfold probeT soonT at hz
    rw [HW.out] at hz
    clear HW hh e6
    have bd : ∀ m, Below w6.heap.size w6 (w6.drewN m) := fun m => below_drewN (Below.refl _ _) m
    by_cases s1 : 2 * r.srtt < 1000
    case pos =>
      have ds1 : decide (2 * r.srtt < 1000) = true := decide_eq_true s1
      rw [if_pos s1] at hz
      by_cases s2 : 1000 < W
      case pos =>
        have ds2 : decide (1000 < W) = true := decide_eq_true s2
        rw [if_pos s2] at hz
        subst hz
        go_upto_region 9 with fail
        go_quiet (fail)
        go_upto_region 10 with fail
        generalize hW : w6.drewN nq = w8
        have b8 : Below w6.heap.size w6 w8 := by rw [← hW]; exact bd _
        have t8 := t6.kept b8; have y8 := y6.kept b8; have b8' := b6.trans (b8.mono hB6)
        have hB8 : B ≤ w8.heap.size := Nat.le_trans hB6 b8.size
        clear hW bd b8 t6 y6 x0 x1
        go_upto_region 11 with (refine tm_store rfl (.tmp 12) (.tmp 67) rfl rfl [.int .i64 1, .int .i64 (now + 1000)] rfl t8 rfl rfl rfl ?_)
        have t9 := tm_put t8 [.int .i64 1, .int .i64 (now + 1000)]
        have y9 := y8.grown (tm_grown w8 T #[.int .i64 1, .int .i64 (now + 1000)]) (by intro h; injection h; omega)
        have b9 := b8'.grown (tm_grown w8 T #[.int .i64 1, .int .i64 (now + 1000)]) hB8 (fun k hk => by cases hk; omega)
        have hB9 : B ≤ (w8.setRow T #[.int .i64 1, .int .i64 (now + 1000)]).heap.size := Nat.le_trans hB8 (by simp [World.setRow])
        generalize w8.setRow T #[.int .i64 1, .int .i64 (now + 1000)] = w9 at t9 y9 b9 hB9 ⊢
        go_wp2_with (first | (refine tm_load rfl (.tmp 12) rfl rfl t9 rfl ?_) | (refine tm_store rfl (.tmp 10) (.tmp 68) rfl rfl [.int .i64 1, .int .i64 (now + 1000)] rfl y9 rfl rfl rfl ?_))
        refine tm_end2 (by rfl) (by rfl) (by rfl) (tm_put y9 [.int .i64 1, .int .i64 (now + 1000)]) rfl rfl ?_
        exact ⟨rfl, b9.grown (tm_grown _ (B + 1) #[.int .i64 1, .int .i64 (now + 1000)]) hB9 (fun k hk => by cases hk; omega)⟩
      case neg =>
        have ds2 : decide (1000 < W) = false := decide_eq_false s2
        rw [if_neg s2] at hz
        subst hz
        go_upto_region 9 with fail
        go_quiet (fail)
        go_upto_region 10 with fail
        generalize hW : w6.drewN nq = w8
        have b8 : Below w6.heap.size w6 w8 := by rw [← hW]; exact bd _
        have t8 := t6.kept b8; have y8 := y6.kept b8; have b8' := b6.trans (b8.mono hB6)
        have hB8 : B ≤ w8.heap.size := Nat.le_trans hB6 b8.size
        clear hW bd b8 t6 y6 x0 x1
        go_upto_region 11 with (refine tm_store rfl (.tmp 12) (.tmp 67) rfl rfl [.int .i64 1, .int .i64 (now + W)] rfl t8 rfl rfl rfl ?_)
        have t9 := tm_put t8 [.int .i64 1, .int .i64 (now + W)]
        have y9 := y8.grown (tm_grown w8 T #[.int .i64 1, .int .i64 (now + W)]) (by intro h; injection h; omega)
        have b9 := b8'.grown (tm_grown w8 T #[.int .i64 1, .int .i64 (now + W)]) hB8 (fun k hk => by cases hk; omega)
        have hB9 : B ≤ (w8.setRow T #[.int .i64 1, .int .i64 (now + W)]).heap.size := Nat.le_trans hB8 (by simp [World.setRow])
        generalize w8.setRow T #[.int .i64 1, .int .i64 (now + W)] = w9 at t9 y9 b9 hB9 ⊢
        go_wp2_with (first | (refine tm_load rfl (.tmp 12) rfl rfl t9 rfl ?_) | (refine tm_store rfl (.tmp 10) (.tmp 68) rfl rfl [.int .i64 1, .int .i64 (now + W)] rfl y9 rfl rfl rfl ?_))
        refine tm_end2 (by rfl) (by rfl) (by rfl) (tm_put y9 [.int .i64 1, .int .i64 (now + W)]) rfl rfl ?_
        exact ⟨rfl, b9.grown (tm_grown _ (B + 1) #[.int .i64 1, .int .i64 (now + W)]) hB9 (fun k hk => by cases hk; omega)⟩
    case neg =>
      have ds1 : decide (2 * r.srtt < 1000) = false := decide_eq_false s1
      rw [if_neg s1] at hz
      by_cases s2 : 2 * r.srtt < W
      case pos =>
        have ds2 : decide (2 * r.srtt < W) = true := decide_eq_true s2
        rw [if_pos s2] at hz
        subst hz
        go_upto_region 9 with fail
        go_quiet (fail)
        go_upto_region 10 with fail
        generalize hW : w6.drewN nq = w8
        have b8 : Below w6.heap.size w6 w8 := by rw [← hW]; exact bd _
        have t8 := t6.kept b8; have y8 := y6.kept b8; have b8' := b6.trans (b8.mono hB6)
        have hB8 : B ≤ w8.heap.size := Nat.le_trans hB6 b8.size
        clear hW bd b8 t6 y6 x0 x1
        go_upto_region 11 with (refine tm_store rfl (.tmp 12) (.tmp 67) rfl rfl [.int .i64 1, .int .i64 (now + 2 * r.srtt)] rfl t8 rfl rfl rfl ?_)
        have t9 := tm_put t8 [.int .i64 1, .int .i64 (now + 2 * r.srtt)]
        have y9 := y8.grown (tm_grown w8 T #[.int .i64 1, .int .i64 (now + 2 * r.srtt)]) (by intro h; injection h; omega)
        have b9 := b8'.grown (tm_grown w8 T #[.int .i64 1, .int .i64 (now + 2 * r.srtt)]) hB8 (fun k hk => by cases hk; omega)
        have hB9 : B ≤ (w8.setRow T #[.int .i64 1, .int .i64 (now + 2 * r.srtt)]).heap.size := Nat.le_trans hB8 (by simp [World.setRow])
        generalize w8.setRow T #[.int .i64 1, .int .i64 (now + 2 * r.srtt)] = w9 at t9 y9 b9 hB9 ⊢
        go_wp2_with (first | (refine tm_load rfl (.tmp 12) rfl rfl t9 rfl ?_) | (refine tm_store rfl (.tmp 10) (.tmp 68) rfl rfl [.int .i64 1, .int .i64 (now + 2 * r.srtt)] rfl y9 rfl rfl rfl ?_))
        refine tm_end2 (by rfl) (by rfl) (by rfl) (tm_put y9 [.int .i64 1, .int .i64 (now + 2 * r.srtt)]) rfl rfl ?_
        exact ⟨rfl, b9.grown (tm_grown _ (B + 1) #[.int .i64 1, .int .i64 (now + 2 * r.srtt)]) hB9 (fun k hk => by cases hk; omega)⟩
      case neg =>
        have ds2 : decide (2 * r.srtt < W) = false := decide_eq_false s2
        rw [if_neg s2] at hz
        subst hz
        go_upto_region 9 with fail
        go_quiet (fail)
        go_upto_region 10 with fail
        generalize hW : w6.drewN nq = w8
        have b8 : Below w6.heap.size w6 w8 := by rw [← hW]; exact bd _
        have t8 := t6.kept b8; have y8 := y6.kept b8; have b8' := b6.trans (b8.mono hB6)
        have hB8 : B ≤ w8.heap.size := Nat.le_trans hB6 b8.size
        clear hW bd b8 t6 y6 x0 x1
        go_upto_region 11 with (refine tm_store rfl (.tmp 12) (.tmp 67) rfl rfl [.int .i64 1, .int .i64 (now + W)] rfl t8 rfl rfl rfl ?_)
        have t9 := tm_put t8 [.int .i64 1, .int .i64 (now + W)]
        have y9 := y8.grown (tm_grown w8 T #[.int .i64 1, .int .i64 (now + W)]) (by intro h; injection h; omega)
        have b9 := b8'.grown (tm_grown w8 T #[.int .i64 1, .int .i64 (now + W)]) hB8 (fun k hk => by cases hk; omega)
        have hB9 : B ≤ (w8.setRow T #[.int .i64 1, .int .i64 (now + W)]).heap.size := Nat.le_trans hB8 (by simp [World.setRow])
        generalize w8.setRow T #[.int .i64 1, .int .i64 (now + W)] = w9 at t9 y9 b9 hB9 ⊢
        go_wp2_with (first | (refine tm_load rfl (.tmp 12) rfl rfl t9 rfl ?_) | (refine tm_store rfl (.tmp 10) (.tmp 68) rfl rfl [.int .i64 1, .int .i64 (now + W)] rfl y9 rfl rfl rfl ?_))
        refine tm_end2 (by rfl) (by rfl) (by rfl) (tm_put y9 [.int .i64 1, .int .i64 (now + W)]) rfl rfl ?_
        exact ⟨rfl, b9.grown (tm_grown _ (B + 1) #[.int .i64 1, .int .i64 (now + W)]) hB9 (fun k hk => by cases hk; omega)⟩
  case neg =>
    have dn : decide (now < F) = false := decide_eq_false cn
    obtain rfl : F = E := by rw [← hE, if_neg cn]
    clear hE
    have hz := HZ3.out
    clear HZ3 c0 fr
    cases pb with
    | true =>
      have hz : z = (⟨2, F + W⟩, 0) := by rw [← hz]; rfl
      subst hz
      cases hh : r.has with
      | true =>
        rw [hh] at x0
        clear HW hh e6
        go_upto_region 11 with (refine tm_store rfl (.tmp 12) (.tmp 67) rfl rfl [.int .i64 2, .int .i64 (F + W)] rfl t6 rfl rfl rfl ?_)
        have t9 := tm_put t6 [.int .i64 2, .int .i64 (F + W)]
        have y9 := y6.grown (tm_grown w6 T #[.int .i64 2, .int .i64 (F + W)]) (by intro h; injection h; omega)
        have b9 := b6.grown (tm_grown w6 T #[.int .i64 2, .int .i64 (F + W)]) hB6 (fun k hk => by cases hk; omega)
        have hB9 : B ≤ (w6.setRow T #[.int .i64 2, .int .i64 (F + W)]).heap.size := Nat.le_trans hB6 (by simp [World.setRow])
        generalize w6.setRow T #[.int .i64 2, .int .i64 (F + W)] = w9 at t9 y9 b9 hB9 ⊢
        go_wp2_with (first | (refine tm_load rfl (.tmp 12) rfl rfl t9 rfl ?_) | (refine tm_store rfl (.tmp 10) (.tmp 68) rfl rfl [.int .i64 2, .int .i64 (F + W)] rfl y9 rfl rfl rfl ?_))
        refine tm_end2 (by rfl) (by rfl) (by rfl) (tm_put y9 [.int .i64 2, .int .i64 (F + W)]) rfl rfl ?_
        exact ⟨rfl, b9.grown (tm_grown _ (B + 1) #[.int .i64 2, .int .i64 (F + W)]) hB9 (fun k hk => by cases hk; omega)⟩
      | false =>
        rw [hh] at x0
        clear HW hh e6
        go_upto_region 11 with (refine tm_store rfl (.tmp 12) (.tmp 67) rfl rfl [.int .i64 2, .int .i64 (F + W)] rfl t6 rfl rfl rfl ?_)
        have t9 := tm_put t6 [.int .i64 2, .int .i64 (F + W)]
        have y9 := y6.grown (tm_grown w6 T #[.int .i64 2, .int .i64 (F + W)]) (by intro h; injection h; omega)
        have b9 := b6.grown (tm_grown w6 T #[.int .i64 2, .int .i64 (F + W)]) hB6 (fun k hk => by cases hk; omega)
        have hB9 : B ≤ (w6.setRow T #[.int .i64 2, .int .i64 (F + W)]).heap.size := Nat.le_trans hB6 (by simp [World.setRow])
        generalize w6.setRow T #[.int .i64 2, .int .i64 (F + W)] = w9 at t9 y9 b9 hB9 ⊢
        go_wp2_with (first | (refine tm_load rfl (.tmp 12) rfl rfl t9 rfl ?_) | (refine tm_store rfl (.tmp 10) (.tmp 68) rfl rfl [.int .i64 2, .int .i64 (F + W)] rfl y9 rfl rfl rfl ?_))
        refine tm_end2 (by rfl) (by rfl) (by rfl) (tm_put y9 [.int .i64 2, .int .i64 (F + W)]) rfl rfl ?_
        exact ⟨rfl, b9.grown (tm_grown _ (B + 1) #[.int .i64 2, .int .i64 (F + W)]) hB9 (fun k hk => by cases hk; omega)⟩
    | false =>
    cases hh : r.has with
    | false =>
      have hz : z = (⟨2, F + W⟩, 0) := by rw [← hz, hh]; rfl
      rw [hh] at x0
      subst hz
      clear HW hh e6
      go_upto_region 11 with (refine tm_store rfl (.tmp 12) (.tmp 67) rfl rfl [.int .i64 2, .int .i64 (F + W)] rfl t6 rfl rfl rfl ?_)
      have t9 := tm_put t6 [.int .i64 2, .int .i64 (F + W)]
      have y9 := y6.grown (tm_grown w6 T #[.int .i64 2, .int .i64 (F + W)]) (by intro h; injection h; omega)
      have b9 := b6.grown (tm_grown w6 T #[.int .i64 2, .int .i64 (F + W)]) hB6 (fun k hk => by cases hk; omega)
      have hB9 : B ≤ (w6.setRow T #[.int .i64 2, .int .i64 (F + W)]).heap.size := Nat.le_trans hB6 (by simp [World.setRow])
      generalize w6.setRow T #[.int .i64 2, .int .i64 (F + W)] = w9 at t9 y9 b9 hB9 ⊢
      go_wp2_with (first | (refine tm_load rfl (.tmp 12) rfl rfl t9 rfl ?_) | (refine tm_store rfl (.tmp 10) (.tmp 68) rfl rfl [.int .i64 2, .int .i64 (F + W)] rfl y9 rfl rfl rfl ?_))
      refine tm_end2 (by rfl) (by rfl) (by rfl) (tm_put y9 [.int .i64 2, .int .i64 (F + W)]) rfl rfl ?_
      exact ⟨rfl, b9.grown (tm_grown _ (B + 1) #[.int .i64 2, .int .i64 (F + W)]) hB9 (fun k hk => by cases hk; omega)⟩
    | true =>
    rw [hh] at x0
    have hz : z = (⟨1, F + probeT r most⟩, 0) := by rw [← hz, hh]; rfl
    unfold probeT soonT at hz
    rw [HW.out] at hz
    clear HW hh e6
    have bd : ∀ m, Below w6.heap.size w6 (w6.drewN m) := fun m => below_drewN (Below.refl _ _) m
    by_cases s1 : 2 * r.srtt < 1000
    case pos =>
      have ds1 : decide (2 * r.srtt < 1000) = true := decide_eq_true s1
      rw [if_pos s1] at hz
      by_cases s2 : 1000 < W
      case pos =>
        have ds2 : decide (1000 < W) = true := decide_eq_true s2
        rw [if_pos s2] at hz
        subst hz
        go_upto_region 9 with fail
        go_quiet (fail)
        go_upto_region 10 with fail
        generalize hW : w6.drewN nq = w8
        have b8 : Below w6.heap.size w6 w8 := by rw [← hW]; exact bd _
        have t8 := t6.kept b8; have y8 := y6.kept b8; have b8' := b6.trans (b8.mono hB6)
        have hB8 : B ≤ w8.heap.size := Nat.le_trans hB6 b8.size
        clear hW bd b8 t6 y6 x0 x1
        go_upto_region 11 with (refine tm_store rfl (.tmp 12) (.tmp 67) rfl rfl [.int .i64 1, .int .i64 (F + 1000)] rfl t8 rfl rfl rfl ?_)
        have t9 := tm_put t8 [.int .i64 1, .int .i64 (F + 1000)]
        have y9 := y8.grown (tm_grown w8 T #[.int .i64 1, .int .i64 (F + 1000)]) (by intro h; injection h; omega)
        have b9 := b8'.grown (tm_grown w8 T #[.int .i64 1, .int .i64 (F + 1000)]) hB8 (fun k hk => by cases hk; omega)
        have hB9 : B ≤ (w8.setRow T #[.int .i64 1, .int .i64 (F + 1000)]).heap.size := Nat.le_trans hB8 (by simp [World.setRow])
        generalize w8.setRow T #[.int .i64 1, .int .i64 (F + 1000)] = w9 at t9 y9 b9 hB9 ⊢
        go_wp2_with (first | (refine tm_load rfl (.tmp 12) rfl rfl t9 rfl ?_) | (refine tm_store rfl (.tmp 10) (.tmp 68) rfl rfl [.int .i64 1, .int .i64 (F + 1000)] rfl y9 rfl rfl rfl ?_))
        refine tm_end2 (by rfl) (by rfl) (by rfl) (tm_put y9 [.int .i64 1, .int .i64 (F + 1000)]) rfl rfl ?_
        exact ⟨rfl, b9.grown (tm_grown _ (B + 1) #[.int .i64 1, .int .i64 (F + 1000)]) hB9 (fun k hk => by cases hk; omega)⟩
      case neg =>
        have ds2 : decide (1000 < W) = false := decide_eq_false s2
        rw [if_neg s2] at hz
        subst hz
        go_upto_region 9 with fail
        go_quiet (fail)
        go_upto_region 10 with fail
        generalize hW : w6.drewN nq = w8
        have b8 : Below w6.heap.size w6 w8 := by rw [← hW]; exact bd _
        have t8 := t6.kept b8; have y8 := y6.kept b8; have b8' := b6.trans (b8.mono hB6)
        have hB8 : B ≤ w8.heap.size := Nat.le_trans hB6 b8.size
        clear hW bd b8 t6 y6 x0 x1
        go_upto_region 11 with (refine tm_store rfl (.tmp 12) (.tmp 67) rfl rfl [.int .i64 1, .int .i64 (F + W)] rfl t8 rfl rfl rfl ?_)
        have t9 := tm_put t8 [.int .i64 1, .int .i64 (F + W)]
        have y9 := y8.grown (tm_grown w8 T #[.int .i64 1, .int .i64 (F + W)]) (by intro h; injection h; omega)
        have b9 := b8'.grown (tm_grown w8 T #[.int .i64 1, .int .i64 (F + W)]) hB8 (fun k hk => by cases hk; omega)
        have hB9 : B ≤ (w8.setRow T #[.int .i64 1, .int .i64 (F + W)]).heap.size := Nat.le_trans hB8 (by simp [World.setRow])
        generalize w8.setRow T #[.int .i64 1, .int .i64 (F + W)] = w9 at t9 y9 b9 hB9 ⊢
        go_wp2_with (first | (refine tm_load rfl (.tmp 12) rfl rfl t9 rfl ?_) | (refine tm_store rfl (.tmp 10) (.tmp 68) rfl rfl [.int .i64 1, .int .i64 (F + W)] rfl y9 rfl rfl rfl ?_))
        refine tm_end2 (by rfl) (by rfl) (by rfl) (tm_put y9 [.int .i64 1, .int .i64 (F + W)]) rfl rfl ?_
        exact ⟨rfl, b9.grown (tm_grown _ (B + 1) #[.int .i64 1, .int .i64 (F + W)]) hB9 (fun k hk => by cases hk; omega)⟩
    case neg =>
      have ds1 : decide (2 * r.srtt < 1000) = false := decide_eq_false s1
      rw [if_neg s1] at hz
      by_cases s2 : 2 * r.srtt < W
      case pos =>
        have ds2 : decide (2 * r.srtt < W) = true := decide_eq_true s2
        rw [if_pos s2] at hz
        subst hz
        go_upto_region 9 with fail
        go_quiet (fail)
        go_upto_region 10 with fail
        generalize hW : w6.drewN nq = w8
        have b8 : Below w6.heap.size w6 w8 := by rw [← hW]; exact bd _
        have t8 := t6.kept b8; have y8 := y6.kept b8; have b8' := b6.trans (b8.mono hB6)
        have hB8 : B ≤ w8.heap.size := Nat.le_trans hB6 b8.size
        clear hW bd b8 t6 y6 x0 x1
        go_upto_region 11 with (refine tm_store rfl (.tmp 12) (.tmp 67) rfl rfl [.int .i64 1, .int .i64 (F + 2 * r.srtt)] rfl t8 rfl rfl rfl ?_)
        have t9 := tm_put t8 [.int .i64 1, .int .i64 (F + 2 * r.srtt)]
        have y9 := y8.grown (tm_grown w8 T #[.int .i64 1, .int .i64 (F + 2 * r.srtt)]) (by intro h; injection h; omega)
        have b9 := b8'.grown (tm_grown w8 T #[.int .i64 1, .int .i64 (F + 2 * r.srtt)]) hB8 (fun k hk => by cases hk; omega)
        have hB9 : B ≤ (w8.setRow T #[.int .i64 1, .int .i64 (F + 2 * r.srtt)]).heap.size := Nat.le_trans hB8 (by simp [World.setRow])
        generalize w8.setRow T #[.int .i64 1, .int .i64 (F + 2 * r.srtt)] = w9 at t9 y9 b9 hB9 ⊢
        go_wp2_with (first | (refine tm_load rfl (.tmp 12) rfl rfl t9 rfl ?_) | (refine tm_store rfl (.tmp 10) (.tmp 68) rfl rfl [.int .i64 1, .int .i64 (F + 2 * r.srtt)] rfl y9 rfl rfl rfl ?_))
        refine tm_end2 (by rfl) (by rfl) (by rfl) (tm_put y9 [.int .i64 1, .int .i64 (F + 2 * r.srtt)]) rfl rfl ?_
        exact ⟨rfl, b9.grown (tm_grown _ (B + 1) #[.int .i64 1, .int .i64 (F + 2 * r.srtt)]) hB9 (fun k hk => by cases hk; omega)⟩
      case neg =>
        have ds2 : decide (2 * r.srtt < W) = false := decide_eq_false s2
        rw [if_neg s2] at hz
        subst hz
        go_upto_region 9 with fail
        go_quiet (fail)
        go_upto_region 10 with fail
        generalize hW : w6.drewN nq = w8
        have b8 : Below w6.heap.size w6 w8 := by rw [← hW]; exact bd _
        have t8 := t6.kept b8; have y8 := y6.kept b8; have b8' := b6.trans (b8.mono hB6)
        have hB8 : B ≤ w8.heap.size := Nat.le_trans hB6 b8.size
        clear hW bd b8 t6 y6 x0 x1
        go_upto_region 11 with (refine tm_store rfl (.tmp 12) (.tmp 67) rfl rfl [.int .i64 1, .int .i64 (F + W)] rfl t8 rfl rfl rfl ?_)
        have t9 := tm_put t8 [.int .i64 1, .int .i64 (F + W)]
        have y9 := y8.grown (tm_grown w8 T #[.int .i64 1, .int .i64 (F + W)]) (by intro h; injection h; omega)
        have b9 := b8'.grown (tm_grown w8 T #[.int .i64 1, .int .i64 (F + W)]) hB8 (fun k hk => by cases hk; omega)
        have hB9 : B ≤ (w8.setRow T #[.int .i64 1, .int .i64 (F + W)]).heap.size := Nat.le_trans hB8 (by simp [World.setRow])
        generalize w8.setRow T #[.int .i64 1, .int .i64 (F + W)] = w9 at t9 y9 b9 hB9 ⊢
        go_wp2_with (first | (refine tm_load rfl (.tmp 12) rfl rfl t9 rfl ?_) | (refine tm_store rfl (.tmp 10) (.tmp 68) rfl rfl [.int .i64 1, .int .i64 (F + W)] rfl y9 rfl rfl rfl ?_))
        refine tm_end2 (by rfl) (by rfl) (by rfl) (tm_put y9 [.int .i64 1, .int .i64 (F + W)]) rfl rfl ?_
        exact ⟨rfl, b9.grown (tm_grown _ (B + 1) #[.int .i64 1, .int .i64 (F + W)]) hB9 (fun k hk => by cases hk; omega)⟩
end Go.Proofs.Ytbkmadlekigjfaa
