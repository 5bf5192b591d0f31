/- The reference of package timer: Set as a contract of the call. -/
import Derived.Test.YtbkmadlekigjfaaProg
import Derived.Test.YtbkmadlekigjfaaTmRef1
import Derived.Test.YtbkmadlekigjfaaRtRef3
import Derived.Test.YtbkmadlekigjfaaStRef2
import Derived.WalkKit
import Derived.WalkSpells
import Derived.WalkSmall
import Derived.Lib.Hide
import Derived.Below
import Derived.Outline
import Derived.Deep.QuietTactic
import Derived.BigQuiet
import Derived.IntWalk
import Derived.Deep.DeepCutAuto
import Derived.OrdersHeld
import Derived.StillTail
import Derived.Test.YtbkmadlekigjfaaTail
import Derived.Laws.Rows
import Derived.Laws.Tables
namespace Go.Proofs.Ytbkmadlekigjfaa
open Go.RowKit
set_option linter.unusedVariables false
set_option linter.unusedSimpArgs false

theorem tm_pb {w w' : World} {b o B : Nat} {x : Prt} (h : PrtAt w b o x) (hb : Below B w w') (hlt : b < B) : PrtAt w' b o x :=
  ⟨(hb.cell (p := ⟨b, o, none⟩) hlt).trans h.c0, (hb.cell (p := ⟨b, o + 1, none⟩) hlt).trans h.c1, (hb.cell (p := ⟨b, o + 2, none⟩) hlt).trans h.c2, (hb.cell (p := ⟨b, o + 3, none⟩) hlt).trans h.c3, (hb.cell (p := ⟨b, o + 4, none⟩) hlt).trans h.c4, (hb.cell (p := ⟨b, o + 5, none⟩) hlt).trans h.c5, (hb.cell (p := ⟨b, o + 6, none⟩) hlt).trans h.c6, (hb.cell (p := ⟨b, o + 7, none⟩) hlt).trans h.c7, (hb.cell (p := ⟨b, o + 8, none⟩) hlt).trans h.c8⟩
/-- a timer and an error -/
def TellT (w w' : World) (e : Ending) (y : Tmr × Int) : Prop := e = .returned (.tuple #[.agg #[.int .i64 y.1.kd, .int .i64 y.1.at_], .int .i64 y.2]) ∧ Below w.heap.size w w'
theorem parts_bd {l : List Prt} (h : smayB l = true) : ∀ x ∈ l, POk x := by
  intro x hx
  obtain ⟨i, hi, rfl⟩ := List.getElem_of_mem hx
  have := (((smay_iff l).1 h).2 i hi).1
  rwa [ge_eq hi] at this
theorem lastR_ok {l : List Prt} (h : smayB l = true) (k : Nat) : -1 ≤ lastR (l.take k) ∧ lastR (l.take k) ≤ 1152921504606846976 :=
  lastR_bd (fun x hx => (t60_iff _).1 (parts_bd h x (List.mem_of_mem_take hx)).at_)

set_option maxRecDepth 100000 in
set_option maxHeartbeats 8000000 in
theorem rtmset_any (r : Rt) (A : Option Addr) (n c : Nat) (l : List Prt) (pb : Bool) (now most : Int) (w : World) (hs : Se w A n c l) :
    Calls Try.prog 10 #[.agg #[.bool r.has, .int .i64 r.srtt, .int .i64 r.vr, .int .i64 r.rto, .int .i64 r.shift], .slice A n c, .bool pb, .int .i64 now, .int .i64 most] w fun e w' => TellT w w' e (setR r l pb now most) := by
  unfold TellT
  obtain ⟨B, hB⟩ : ∃ B, w.heap.size = B := ⟨_, rfl⟩
  have hl := hs.rd.len
  have m1 := hs.le
  have m2 := hs.max
  have m3 : n ≤ 9223372036854775807 := by unfold maxLen at m2; omega
  clear m1 m2
  have HL := Lib.hid hl; have HA := Lib.hid hs; have HB := Lib.hid hB
  have e0 := (Bx.new w 23 [.bool r.has, .int .i64 r.srtt, .int .i64 r.vr, .int .i64 r.rto, .int .i64 r.shift]).alloc (.cells #[.int .i64 0, .int .i64 0] 28)
  have y0 := Bx.new (w.alloc (.cells #[.bool r.has, .int .i64 r.srtt, .int .i64 r.vr, .int .i64 r.rto, .int .i64 r.shift] 23)) 28 [.int .i64 0, .int .i64 0]
  rw [World.size_alloc] at y0
  have b0 : Below w.heap.size w ((w.alloc (.cells #[.bool r.has, .int .i64 r.srtt, .int .i64 r.vr, .int .i64 r.rto, .int .i64 r.shift] 23)).alloc (.cells #[.int .i64 0, .int .i64 0] 28)) := ((Below.refl _ _).alloc (Nat.le_refl _) _).alloc (by simp) _
  rw [hB] at e0 y0 b0
  obtain ⟨z, hz⟩ : ∃ z, setR r l pb now most = z := ⟨_, rfl⟩
  rw [hz, hB]
  have HZ := Lib.hid hz
  clear hs hl hz
  go_enter Try.func10, Try.ntmps10
  go_wp2_with (refine rt_load rfl (.tmp 5) rfl rfl e0 rfl ?_)
  generalize (w.alloc (.cells #[.bool r.has, .int .i64 r.srtt, .int .i64 r.vr, .int .i64 r.rto, .int .i64 r.shift] 23)).alloc (.cells #[.int .i64 0, .int .i64 0] 28) = w1 at e0 y0 b0 ⊢
  refine (rrmay_any r.has r.srtt r.vr r.rto r.shift _).mono ?_
  rintro e w2 ⟨rfl, hb2⟩
  have e2 := e0.kept hb2; have y2 := y0.kept hb2; have b2 := b0.trans (hb2.mono (Nat.le_of_lt e0.lt))
  clear e0 y0 b0 hb2
  go_wp2_with fail
  refine (rstmay_any A n c l _ (HA.out.keep (by rw [HB.out]; exact b2))).mono ?_
  rintro e w3 ⟨rfl, hb3⟩
  have e3 := e2.kept hb3; have y3 := y2.kept hb3; have b3 := b2.trans (hb3.mono (Nat.le_of_lt e2.lt))
  have hB3 : B ≤ w3.heap.size := Nat.le_of_lt e3.lt
  clear e2 y2 b2 hb3
  obtain ⟨q1, hq1⟩ : ∃ q, rtB ⟨r.has, r.srtt, r.vr, r.rto, r.shift⟩ = q := ⟨_, rfl⟩
  have hq1' : rtB r = q1 := hq1
  rw [hq1]
  clear hq1
  cases q1 with
  | false =>
    have hz := HZ.out
    rw [set_no (fun h => by have := h.1; rw [hq1'] at this; cases this)] at hz
    subst hz
    clear HZ
    go_wp2_with (refine tm_store rfl (.tmp 10) (.tmp 44) rfl rfl [.int .i64 0, .int .i64 0] rfl y3 rfl rfl rfl ?_)
    refine tm_end2 (by rfl) (by rfl) (by rfl) (tm_put y3 [.int .i64 0, .int .i64 0]) rfl rfl ?_
    exact ⟨rfl, b3.grown (tm_grown _ (B + 1) #[.int .i64 0, .int .i64 0]) hB3 (fun k hk => by cases hk; omega)⟩
  | true =>
  cases hf : smayB l with
  | false =>
    have hz := HZ.out
    rw [set_no (fun h => by have := h.2.1; rw [hf] at this; cases this)] at hz
    subst hz
    clear HZ
    go_wp2_with (refine tm_store rfl (.tmp 10) (.tmp 44) rfl rfl [.int .i64 0, .int .i64 0] rfl y3 rfl rfl rfl ?_)
    refine tm_end2 (by rfl) (by rfl) (by rfl) (tm_put y3 [.int .i64 0, .int .i64 0]) rfl rfl ?_
    exact ⟨rfl, b3.grown (tm_grown _ (B + 1) #[.int .i64 0, .int .i64 0]) hB3 (fun k hk => by cases hk; omega)⟩
  | true =>
  by_cases c0 : now < 0
  case pos =>
    have d0 : decide (now < 0) = true := decide_eq_true c0
    have hz := HZ.out
    rw [set_no (fun h => by have := h.2.2.1; omega)] at hz
    subst hz
    clear HZ
    go_wp2_with (refine tm_store rfl (.tmp 10) (.tmp 44) rfl rfl [.int .i64 0, .int .i64 0] rfl y3 rfl rfl rfl ?_)
    refine tm_end2 (by rfl) (by rfl) (by rfl) (tm_put y3 [.int .i64 0, .int .i64 0]) rfl rfl ?_
    exact ⟨rfl, b3.grown (tm_grown _ (B + 1) #[.int .i64 0, .int .i64 0]) hB3 (fun k hk => by cases hk; omega)⟩
  case neg =>
  have d0 : decide (now < 0) = false := decide_eq_false c0
  by_cases c1 : 1152921504606846976 < now
  case pos =>
    have d1 : decide (1152921504606846976 < now) = true := decide_eq_true c1
    have hz := HZ.out
    rw [set_no (fun h => by have := h.2.2.2.1; omega)] at hz
    subst hz
    clear HZ
    go_wp2_with (refine tm_store rfl (.tmp 10) (.tmp 44) rfl rfl [.int .i64 0, .int .i64 0] rfl y3 rfl rfl rfl ?_)
    refine tm_end2 (by rfl) (by rfl) (by rfl) (tm_put y3 [.int .i64 0, .int .i64 0]) rfl rfl ?_
    exact ⟨rfl, b3.grown (tm_grown _ (B + 1) #[.int .i64 0, .int .i64 0]) hB3 (fun k hk => by cases hk; omega)⟩
  case neg =>
  have d1 : decide (1152921504606846976 < now) = false := decide_eq_false c1
  by_cases c2 : most < 1
  case pos =>
    have d2 : decide (most < 1) = true := decide_eq_true c2
    have hz := HZ.out
    rw [set_no (fun h => by have := h.2.2.2.2.1; omega)] at hz
    subst hz
    clear HZ
    go_wp2_with (refine tm_store rfl (.tmp 10) (.tmp 44) rfl rfl [.int .i64 0, .int .i64 0] rfl y3 rfl rfl rfl ?_)
    refine tm_end2 (by rfl) (by rfl) (by rfl) (tm_put y3 [.int .i64 0, .int .i64 0]) rfl rfl ?_
    exact ⟨rfl, b3.grown (tm_grown _ (B + 1) #[.int .i64 0, .int .i64 0]) hB3 (fun k hk => by cases hk; omega)⟩
  case neg =>
  have d2 : decide (most < 1) = false := decide_eq_false c2
  by_cases c3 : 1099511627776 < most
  case pos =>
    have d3 : decide (1099511627776 < most) = true := decide_eq_true c3
    have hz := HZ.out
    rw [set_no (fun h => by have := h.2.2.2.2.2; omega)] at hz
    subst hz
    clear HZ
    go_wp2_with (refine tm_store rfl (.tmp 10) (.tmp 44) rfl rfl [.int .i64 0, .int .i64 0] rfl y3 rfl rfl rfl ?_)
    refine tm_end2 (by rfl) (by rfl) (by rfl) (tm_put y3 [.int .i64 0, .int .i64 0]) rfl rfl ?_
    exact ⟨rfl, b3.grown (tm_grown _ (B + 1) #[.int .i64 0, .int .i64 0]) hB3 (fun k hk => by cases hk; omega)⟩
  case neg =>
  have d3 : decide (1099511627776 < most) = false := decide_eq_false c3
  have hok : SetOk r l now most := ⟨hq1', hf, by omega, by omega, by omega, by omega⟩
  have hz := HZ.out
  rw [set_ok hok] at hz
  have hv := (rtB_iff r).1 hq1'
  have hsr0 := hv.s0; have hsr1 := hv.s1
  have hwt := wt_bd (most := most) hv ⟨by omega, by omega⟩
  have hlo := lastR_ok hf
  obtain ⟨W, hW⟩ : ∃ W, wt r most = W := ⟨_, rfl⟩
  rw [hW] at hwt
  obtain ⟨W0, W1⟩ := hwt
  have HZ2 := Lib.hid hz; have HW := Lib.hid hW; have HLO := Lib.hid hlo; have HF := Lib.hid hf
  clear HZ hz hok hq1' hf hv hW hlo
  go_wp2_with fail
  go_loopw [14, 15] (fun a i wr => ∃ k : Nat, k ≤ n ∧ i = .int .i64 (k : Int) ∧ a = .int .i64 (lastR (l.take k)) ∧ w3 = wr) (fun _ i _ => n - (intOf i).toNat)
  case atStart => exact ⟨0, Nat.zero_le _, rfl, rfl, rfl⟩
  case round =>
    obtain ⟨k, hkn, rfl, rfl, rfl⟩ := hrel
    by_cases hlt : k < n
    case pos =>
      have hd : decide (k < n) = true := decide_eq_true hlt
      have hkl : k < l.length := by rw [HL.out]; exact hlt
      have hst := lastR_take hkl
      obtain ⟨b, o, rfl, hbl, hc⟩ := HA.out.rd.at_ (by omega)
      have X := tm_pb (prt_at hc hlt) b3 (by rw [← HB.out]; exact hbl)
      obtain ⟨p, hp⟩ : ∃ p, ge l k = p := ⟨_, rfl⟩
      rw [hp] at X hst
      obtain ⟨F, hF⟩ : ∃ F, lastR (l.take k) = F := ⟨_, rfl⟩
      rw [hF] at hst ⊢
      have x3 := X.c3; have x5 := X.c5; have x6 := X.c6
      unfold lastStep outB at hst
      have HST := Lib.hid hst
      clear hc hbl X hp hF hst hkl
      obtain ⟨p0, p1, p2, pa, p4, came, lost, p7, p8⟩ := p
      dsimp only at x3 x5 x6
      cases came with
      | true =>
        have hs2 : lastR (l.take (k + 1)) = F := by rw [HST.out]; simp
        have HS2 := Lib.hid hs2; clear hs2
        go_wp2_with fail
        go_roundw
        case rel => exact ⟨k + 1, by omega, by go_num, by rw [HS2.out], by first | trivial | rfl⟩
        case measure => simp [intOf]; omega
      | false =>
      cases lost with
      | true =>
        have hs2 : lastR (l.take (k + 1)) = F := by rw [HST.out]; simp
        have HS2 := Lib.hid hs2; clear hs2
        go_wp2_with fail
        go_roundw
        case rel => exact ⟨k + 1, by omega, by go_num, by rw [HS2.out], by first | trivial | rfl⟩
        case measure => simp [intOf]; omega
      | false =>
      by_cases ca : F < pa
      · have da : decide (F < pa) = true := decide_eq_true ca
        have hs2 : lastR (l.take (k + 1)) = pa := by rw [HST.out]; simp [ca]
        have HS2 := Lib.hid hs2; clear hs2
        go_wp2_with fail
        go_roundw
        case rel => exact ⟨k + 1, by omega, by go_num, by rw [HS2.out], by first | trivial | rfl⟩
        case measure => simp [intOf]; omega
      · have da : decide (F < pa) = false := decide_eq_false ca
        have hs2 : lastR (l.take (k + 1)) = F := by rw [HST.out]; simp [ca]
        have HS2 := Lib.hid hs2; clear hs2
        go_wp2_with fail
        go_roundw
        case rel => exact ⟨k + 1, by omega, by go_num, by rw [HS2.out], by first | trivial | rfl⟩
        case measure => simp [intOf]; omega
    case neg =>
    obtain rfl : k = n := by omega
    have hd : decide (k < k) = false := decide_eq_false (by omega)
    have htk : l.take k = l := by rw [← HL.out]; exact List.take_length
    have hlo := HLO.out k
    rw [htk] at hlo ⊢
    obtain ⟨F, hF⟩ : ∃ F, lastR l = F := ⟨_, rfl⟩
    rw [hF] at hlo ⊢
    obtain ⟨F0, F1⟩ := hlo
    have hz := HZ2.out
    unfold setT endAt at hz
    rw [hF, HW.out] at hz
    clear HLO htk hF HZ2
    by_cases cf : F < 0
    case pos =>
      have df : decide (F < 0) = true := decide_eq_true cf
      rw [if_pos cf] at hz
      subst hz
      go_wp2_with (refine tm_store rfl (.tmp 10) (.tmp 81) rfl rfl [.int .i64 0, .int .i64 0] rfl y3 rfl rfl rfl ?_)
      refine tm_end2 (by rfl) (by rfl) (by rfl) (tm_put y3 [.int .i64 0, .int .i64 0]) rfl rfl ?_
      exact ⟨rfl, b3.grown (tm_grown _ (B + 1) #[.int .i64 0, .int .i64 0]) hB3 (fun k hk => by cases hk; omega)⟩
    case neg =>
    have df : decide (F < 0) = false := decide_eq_false cf
    rw [if_neg cf] at hz
    obtain ⟨E, hE⟩ : ∃ E, (if now < F then now else F) = E := ⟨_, rfl⟩
    rw [hE] at hz
    have HZ3 := Lib.hid hz
    clear hz
    by_cases cn : now < F
    case pos =>
      have dn : decide (now < F) = true := decide_eq_true cn
      obtain rfl : now = E := by rw [← hE, if_pos cn]
      clear hE
      go_wp2_with (refine rt_load rfl (.tmp 5) rfl rfl e3 rfl ?_)
      refine (rrwait_any r.has r.srtt r.vr r.rto r.shift most _).mono ?_
      rintro e w4 ⟨rfl, hb4⟩
      have hwe : wt ⟨r.has, r.srtt, r.vr, r.rto, r.shift⟩ most = W := HW.out
      rw [hwe]
      have e4 := e3.kept hb4; have y4 := y3.kept hb4; have b4 := b3.trans (hb4.mono hB3)
      have hB4 : B ≤ w4.heap.size := Nat.le_of_lt e4.lt
      have x0 := e4.cell 0 rfl; have x1 := e4.cell 1 rfl
      clear e3 y3 b3 hB3 hb4 hwe
      have hz := HZ3.out
      clear HZ3
      cases pb with
      | true =>
        have hz : z = (⟨2, now + W⟩, 0) := by rw [← hz]; rfl
        subst hz
        go_wp2_with (refine tm_store rfl (.tmp 10) (.tmp 98) rfl rfl [.int .i64 2, .int .i64 (now + W)] rfl y4 rfl rfl rfl ?_)
        refine tm_end2 (by rfl) (by rfl) (by rfl) (tm_put y4 [.int .i64 2, .int .i64 (now + W)]) rfl rfl ?_
        exact ⟨rfl, b4.grown (tm_grown _ (B + 1) _) hB4 (fun k hk => by cases hk; omega)⟩
      | false =>
      cases hh : r.has with
      | false =>
        have hz : z = (⟨2, now + W⟩, 0) := by rw [← hz, hh]; rfl
        rw [hh] at x0
        subst hz
        go_wp2_with (refine tm_store rfl (.tmp 10) (.tmp 98) rfl rfl [.int .i64 2, .int .i64 (now + W)] rfl y4 rfl rfl rfl ?_)
        refine tm_end2 (by rfl) (by rfl) (by rfl) (tm_put y4 [.int .i64 2, .int .i64 (now + W)]) rfl rfl ?_
        exact ⟨rfl, b4.grown (tm_grown _ (B + 1) _) hB4 (fun k hk => by cases hk; omega)⟩
      | true =>
      rw [hh] at x0
      have hz : z = (⟨1, now + probeT r most⟩, 0) := by rw [← hz, hh]; rfl
      unfold probeT soonT at hz
      rw [HW.out] at hz
      clear HW hh
      by_cases s1 : 2 * r.srtt < 1000
      · have ds1 : decide (2 * r.srtt < 1000) = true := decide_eq_true s1
        rw [if_pos s1] at hz
        by_cases s2 : 1000 < W
        · have ds2 : decide (1000 < W) = true := decide_eq_true s2
          rw [if_pos s2] at hz
          subst hz
          go_wp2_with (refine tm_store rfl (.tmp 10) (.tmp 111) rfl rfl [.int .i64 1, .int .i64 (now + 1000)] rfl y4 rfl rfl rfl ?_)
          refine tm_end2 (by rfl) (by rfl) (by rfl) (tm_put y4 [.int .i64 1, .int .i64 (now + 1000)]) rfl rfl ?_
          exact ⟨rfl, b4.grown (tm_grown _ (B + 1) _) hB4 (fun k hk => by cases hk; omega)⟩
        · have ds2 : decide (1000 < W) = false := decide_eq_false s2
          rw [if_neg s2] at hz
          subst hz
          go_wp2_with (refine tm_store rfl (.tmp 10) (.tmp 111) rfl rfl [.int .i64 1, .int .i64 (now + W)] rfl y4 rfl rfl rfl ?_)
          refine tm_end2 (by rfl) (by rfl) (by rfl) (tm_put y4 [.int .i64 1, .int .i64 (now + W)]) rfl rfl ?_
          exact ⟨rfl, b4.grown (tm_grown _ (B + 1) _) hB4 (fun k hk => by cases hk; omega)⟩
      · have ds1 : decide (2 * r.srtt < 1000) = false := decide_eq_false s1
        rw [if_neg s1] at hz
        by_cases s2 : 2 * r.srtt < W
        · have ds2 : decide (2 * r.srtt < W) = true := decide_eq_true s2
          rw [if_pos s2] at hz
          subst hz
          go_wp2_with (refine tm_store rfl (.tmp 10) (.tmp 111) rfl rfl [.int .i64 1, .int .i64 (now + 2 * r.srtt)] rfl y4 rfl rfl rfl ?_)
          refine tm_end2 (by rfl) (by rfl) (by rfl) (tm_put y4 [.int .i64 1, .int .i64 (now + 2 * r.srtt)]) rfl rfl ?_
          exact ⟨rfl, b4.grown (tm_grown _ (B + 1) _) hB4 (fun k hk => by cases hk; omega)⟩
        · have ds2 : decide (2 * r.srtt < W) = false := decide_eq_false s2
          rw [if_neg s2] at hz
          subst hz
          go_wp2_with (refine tm_store rfl (.tmp 10) (.tmp 111) rfl rfl [.int .i64 1, .int .i64 (now + W)] rfl y4 rfl rfl rfl ?_)
          refine tm_end2 (by rfl) (by rfl) (by rfl) (tm_put y4 [.int .i64 1, .int .i64 (now + W)]) rfl rfl ?_
          exact ⟨rfl, b4.grown (tm_grown _ (B + 1) _) hB4 (fun k hk => by cases hk; omega)⟩
    case neg =>
    have dn : decide (now < F) = false := decide_eq_false cn
    obtain rfl : F = E := by rw [← hE, if_neg cn]
    clear hE
    go_wp2_with (refine rt_load rfl (.tmp 5) rfl rfl e3 rfl ?_)
    refine (rrwait_any r.has r.srtt r.vr r.rto r.shift most _).mono ?_
    rintro e w4 ⟨rfl, hb4⟩
    have hwe : wt ⟨r.has, r.srtt, r.vr, r.rto, r.shift⟩ most = W := HW.out
    rw [hwe]
    have e4 := e3.kept hb4; have y4 := y3.kept hb4; have b4 := b3.trans (hb4.mono hB3)
    have hB4 : B ≤ w4.heap.size := Nat.le_of_lt e4.lt
    have x0 := e4.cell 0 rfl; have x1 := e4.cell 1 rfl
    clear e3 y3 b3 hB3 hb4 hwe
    have hz := HZ3.out
    clear HZ3
    cases pb with
    | true =>
      have hz : z = (⟨2, F + W⟩, 0) := by rw [← hz]; rfl
      subst hz
      go_wp2_with (refine tm_store rfl (.tmp 10) (.tmp 98) rfl rfl [.int .i64 2, .int .i64 (F + W)] rfl y4 rfl rfl rfl ?_)
      refine tm_end2 (by rfl) (by rfl) (by rfl) (tm_put y4 [.int .i64 2, .int .i64 (F + W)]) rfl rfl ?_
      exact ⟨rfl, b4.grown (tm_grown _ (B + 1) _) hB4 (fun k hk => by cases hk; omega)⟩
    | false =>
    cases hh : r.has with
    | false =>
      have hz : z = (⟨2, F + W⟩, 0) := by rw [← hz, hh]; rfl
      rw [hh] at x0
      subst hz
      go_wp2_with (refine tm_store rfl (.tmp 10) (.tmp 98) rfl rfl [.int .i64 2, .int .i64 (F + W)] rfl y4 rfl rfl rfl ?_)
      refine tm_end2 (by rfl) (by rfl) (by rfl) (tm_put y4 [.int .i64 2, .int .i64 (F + W)]) rfl rfl ?_
      exact ⟨rfl, b4.grown (tm_grown _ (B + 1) _) hB4 (fun k hk => by cases hk; omega)⟩
    | true =>
    rw [hh] at x0
    have hz : z = (⟨1, F + probeT r most⟩, 0) := by rw [← hz, hh]; rfl
    unfold probeT soonT at hz
    rw [HW.out] at hz
    clear HW hh
    by_cases s1 : 2 * r.srtt < 1000
    · have ds1 : decide (2 * r.srtt < 1000) = true := decide_eq_true s1
      rw [if_pos s1] at hz
      by_cases s2 : 1000 < W
      · have ds2 : decide (1000 < W) = true := decide_eq_true s2
        rw [if_pos s2] at hz
        subst hz
        go_wp2_with (refine tm_store rfl (.tmp 10) (.tmp 111) rfl rfl [.int .i64 1, .int .i64 (F + 1000)] rfl y4 rfl rfl rfl ?_)
        refine tm_end2 (by rfl) (by rfl) (by rfl) (tm_put y4 [.int .i64 1, .int .i64 (F + 1000)]) rfl rfl ?_
        exact ⟨rfl, b4.grown (tm_grown _ (B + 1) _) hB4 (fun k hk => by cases hk; omega)⟩
      · have ds2 : decide (1000 < W) = false := decide_eq_false s2
        rw [if_neg s2] at hz
        subst hz
        go_wp2_with (refine tm_store rfl (.tmp 10) (.tmp 111) rfl rfl [.int .i64 1, .int .i64 (F + W)] rfl y4 rfl rfl rfl ?_)
        refine tm_end2 (by rfl) (by rfl) (by rfl) (tm_put y4 [.int .i64 1, .int .i64 (F + W)]) rfl rfl ?_
        exact ⟨rfl, b4.grown (tm_grown _ (B + 1) _) hB4 (fun k hk => by cases hk; omega)⟩
    · have ds1 : decide (2 * r.srtt < 1000) = false := decide_eq_false s1
      rw [if_neg s1] at hz
      by_cases s2 : 2 * r.srtt < W
      · have ds2 : decide (2 * r.srtt < W) = true := decide_eq_true s2
        rw [if_pos s2] at hz
        subst hz
        go_wp2_with (refine tm_store rfl (.tmp 10) (.tmp 111) rfl rfl [.int .i64 1, .int .i64 (F + 2 * r.srtt)] rfl y4 rfl rfl rfl ?_)
        refine tm_end2 (by rfl) (by rfl) (by rfl) (tm_put y4 [.int .i64 1, .int .i64 (F + 2 * r.srtt)]) rfl rfl ?_
        exact ⟨rfl, b4.grown (tm_grown _ (B + 1) _) hB4 (fun k hk => by cases hk; omega)⟩
      · have ds2 : decide (2 * r.srtt < W) = false := decide_eq_false s2
        rw [if_neg s2] at hz
        subst hz
        go_wp2_with (refine tm_store rfl (.tmp 10) (.tmp 111) rfl rfl [.int .i64 1, .int .i64 (F + W)] rfl y4 rfl rfl rfl ?_)
        refine tm_end2 (by rfl) (by rfl) (by rfl) (tm_put y4 [.int .i64 1, .int .i64 (F + W)]) rfl rfl ?_
        exact ⟨rfl, b4.grown (tm_grown _ (B + 1) _) hB4 (fun k hk => by cases hk; omega)⟩
end Go.Proofs.Ytbkmadlekigjfaa
