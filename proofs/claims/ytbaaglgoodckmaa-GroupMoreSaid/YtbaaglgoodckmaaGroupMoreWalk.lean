/- GroupMore: the walk. -/
import Derived.Test.YtbaaglgoodckmaaGrAwake
import Derived.Test.YtbaaglgoodckmaaGrMore
import Derived.Deep.QuietTactic
import Derived.BigQuiet
import Derived.IntWalk
import Derived.Deep.AppendLies
import Derived.OrdersHeld
import Derived.Deep.DeepCutAuto
namespace Go.Proofs.Ytbaaglgoodckmaa.groupMore
open Go.RowKit
set_option linter.unusedVariables false
set_option linter.unusedSimpArgs false

set_option maxRecDepth 100000 in
set_option maxHeartbeats 16000000 in
theorem walk (A : Option Addr) (n c : Nat) (a : List Int) (A2 : Option Addr) (n2 c2 : Nat) (b : List Int) (mo : Int) (w : World) (hs : Si w A n c a) (ht : Si w A2 n2 c2 b) :
    Calls Try.prog 5 #[.slice A n c, .slice A2 n2 c2, .int .i64 mo] w fun e w' => e = .returned (.bool true) ∧ Below w.heap.size w w' := by
  obtain ⟨B, hB⟩ : ∃ B, w.heap.size = B := ⟨_, rfl⟩
  rw [hB]
  have HB := Lib.hid hB
  have m2 := hs.max; have m4 := ht.max
  have hle := hs.le; have hle2 := ht.le
  have m3 : n ≤ 9223372036854775807 := by unfold maxLen at m2; omega
  have m5 : n2 ≤ 9223372036854775807 := by unfold maxLen at m4; omega
  have HL : Hid (a.length = n) := Lib.hid hs.rd.len
  have HL2 : Hid (b.length = n2) := Lib.hid ht.rd.len
  have HS := Lib.hid hs; have HT := Lib.hid ht
  clear hs ht hB m2 m4 hle hle2
  go_enter Try.func5, Try.ntmps5
  go_wp2_with fail
  refine (grawake_any _).mono ?_
  rintro e w2 ⟨rfl, b2⟩
  rw [HB.out] at b2
  have z2 : B ≤ w2.heap.size := by have := b2.size; rw [HB.out] at this; exact this
  by_cases c0 : 40 < n
  case pos =>
    have d0 : decide (40 < n) = true := decide_eq_true c0
    have x0 : decide ((40 : Int) < (n : Int)) = true := decide_eq_true (by omega)
    go_wp2_with fail
    go_ret
    exact ⟨rfl, b2⟩
  case neg =>
  have d0 : decide (40 < n) = false := decide_eq_false c0
  have x0 : decide ((40 : Int) < (n : Int)) = false := decide_eq_false (by omega)
  by_cases c1 : 40 < n2
  case pos =>
    have d1 : decide (40 < n2) = true := decide_eq_true c1
    have x1 : decide ((40 : Int) < (n2 : Int)) = true := decide_eq_true (by omega)
    go_wp2_with fail
    go_ret
    exact ⟨rfl, b2⟩
  case neg =>
  have d1 : decide (40 < n2) = false := decide_eq_false c1
  have x1 : decide ((40 : Int) < (n2 : Int)) = false := decide_eq_false (by omega)
  by_cases c2 : mo < 0
  case pos =>
    have d2 : decide (mo < 0) = true := decide_eq_true c2
    go_wp2_with fail
    go_ret
    exact ⟨rfl, b2⟩
  case neg =>
  have d2 : decide (mo < 0) = false := decide_eq_false c2
  by_cases c3 : 1000 < mo
  case pos =>
    have d3 : decide (1000 < mo) = true := decide_eq_true c3
    go_wp2_with fail
    go_ret
    exact ⟨rfl, b2⟩
  case neg =>
  have d3 : decide (1000 < mo) = false := decide_eq_false c3
  have hn40 : n ≤ 40 := by omega
  have hm40 : n2 ≤ 40 := by omega
  have h0 : 0 ≤ mo := by omega
  have h1 : mo ≤ 1000 := by omega
  clear c0 c1 c2 c3 m3 m5
  go_wp2_with fail
  go_loopw [8, 9, 11, 12] (fun v u sm i wr => ∃ (k : Nat) (x : Bool), k ≤ n ∧ i = .int .i64 (k : Int) ∧ sm = .bool x ∧ Hid (x = true ↔ SameL a k) ∧ Hid (Rng a k) ∧ Hid (Goti wr B 3 v k (shL (a.take k) mo)) ∧ Hid (Goti wr B 3 u k (dbL (a.take k))) ∧ Hid (Apart u v) ∧ Below B w wr) (fun _ _ _ i _ => n - (intOf i).toNat)
  case atStart => exact ⟨0, true, Nat.zero_le _, rfl, rfl, Lib.hid ⟨fun _ j hj => absurd hj (by omega), fun _ => rfl⟩, Lib.hid (fun j hj => absurd hj (by omega)), Lib.hid (Goti.nil _ _ _), Lib.hid (Goti.nil _ _ _), Lib.hid (.inl rfl), b2⟩
  case round =>
    obtain ⟨k, x, hk, rfl, rfl, HX, HR, HV, HU, HAP, br⟩ := hrel
    clear b2 z2
    have zr : B ≤ wr.heap.size := by have := br.size; have := HB.out; omega
    have sr : Si wr A n c a := HS.out.keep (by rw [HB.out]; exact br)
    by_cases hlt : k < n
    · have dlt : decide (k < n) = true := decide_eq_true hlt
      obtain ⟨bb, o, hA, hbl, hc⟩ := HS.out.rd.at_ (by omega)
      have hbB : bb < B := by have := HB.out; omega
      subst hA
      obtain ⟨bb', o', hA', hbl', hcr⟩ := sr.rd.at_ (by omega)
      cases hA'
      have y1 := hcr k hlt
      have y0 := hcr 0 (by omega)
      obtain ⟨p, hp⟩ : ∃ p, it a k = p := ⟨_, rfl⟩
      obtain ⟨p0, hp0⟩ : ∃ p, it a 0 = p := ⟨_, rfl⟩
      rw [hp] at y1
      rw [hp0] at y0
      simp only [Nat.add_zero] at y0
      have HP := Lib.hid hp; have HP0 := Lib.hid hp0
      clear hc hcr hp hp0 sr hbl hbl'
      by_cases u0 : p < 0
      case pos =>
        have g0 : decide (p < 0) = true := decide_eq_true u0
        go_wp2_with fail
        go_ret
        exact ⟨rfl, br⟩
      case neg =>
      have g0 : decide (p < 0) = false := decide_eq_false u0
      by_cases u1 : 1000 < p
      case pos =>
        have g1 : decide (1000 < p) = true := decide_eq_true u1
        go_wp2_with fail
        go_ret
        exact ⟨rfl, br⟩
      case neg =>
      have g1 : decide (1000 < p) = false := decide_eq_false u1
      have W1 : Hid (W64 (p + mo)) := Lib.hid (by unfold W64; omega)
      have W2 : Hid (W64 (2 * p)) := Lib.hid (by unfold W64; omega)
      have i1 : IntKind.i64.wrap (p + mo) = p + mo := IntWalk.i64_in _ (by omega)
      have i2 : IntKind.i64.wrap (2 * p) = 2 * p := IntWalk.i64_in _ (by omega)
      have HRN : Hid (Rng a (k + 1)) := Lib.hid (fun j hj => by
        by_cases e : j = k
        · subst e; rw [HP.out]; omega
        · exact HR.out j (by omega))
      go_upto_region 13 with fail
      go_upto_region 14 with (at_builtin; go_loud (refine wpList_appi _ rfl (.tmp 55) (.tmp 62) 25 rfl B 3 Try.underlying25 info_int _ _ _ rfl (HV.out.alloc (.cells #[.int .i64 (p + mo)] 3)) rfl (fun h => by cases h) (ri_one wr W1.out 3) (by omega) (by simp; omega) ?_; intro v1 w1 hg1 hgr1 ho1))
      have b1 : Below B w w1 := (br.alloc zr (.cells #[.int .i64 (p + mo)] 3)).grown hgr1 (by simp; omega) (fun j h => by have := (HV.out.row.lt j h).1; omega)
      have z1 : B ≤ w1.heap.size := by have := b1.size; have := HB.out; omega
      have HU1 : Hid (Goti w1 B 3 _ k (dbL (a.take k))) := Lib.hid ((HU.out.alloc (.cells #[.int .i64 (p + mo)] 3)).other HAP.out hgr1)
      have HAP1 := Lib.hid (HAP.out.step (HU.out.alloc (.cells #[.int .i64 (p + mo)] 3)) ho1)
      rw [← HP.out, ← sh_take (by rw [HL.out]; exact hlt)] at hg1
      have HV1 := Lib.hid hg1
      have s1 : Si w1 (some ⟨bb, o, none⟩) n c a := HS.out.keep (by rw [HB.out]; exact b1)
      obtain ⟨bb', o', hA', hbl', hcr⟩ := s1.rd.at_ (by omega)
      cases hA'
      have q1 := hcr k hlt
      rw [HP.out] at q1
      clear hg1 hgr1 ho1 HV HU HAP br y1 y0 hcr s1 hbl' zr W1
      go_upto_region 15 with (at_builtin; go_loud (refine wpList_appi _ rfl (.tmp 64) (.tmp 70) 25 rfl B 3 Try.underlying25 info_int _ _ _ rfl (HU1.out.alloc (.cells #[.int .i64 (2 * p)] 3)) rfl (fun h => by cases h) (ri_one w1 W2.out 3) (by omega) (by simp; omega) ?_; intro v2 w3 hg2 hgr2 ho2))
      have b3 : Below B w w3 := (b1.alloc z1 (.cells #[.int .i64 (2 * p)] 3)).grown hgr2 (by simp; omega) (fun j h => by have := (HU1.out.row.lt j h).1; omega)
      have HV2 : Hid (Goti w3 B 3 _ (k + 1) (shL (a.take (k + 1)) mo)) := Lib.hid ((HV1.out.alloc (.cells #[.int .i64 (2 * p)] 3)).other HAP1.out.symm hgr2)
      have HAP2 := Lib.hid ((HAP1.out.symm.step (HV1.out.alloc (.cells #[.int .i64 (2 * p)] 3)) ho2).symm)
      rw [← HP.out, ← db_take (by rw [HL.out]; exact hlt)] at hg2
      have HU2 := Lib.hid hg2
      have s3 : Si w3 (some ⟨bb, o, none⟩) n c a := HS.out.keep (by rw [HB.out]; exact b3)
      obtain ⟨bb', o', hA', hbl', hcr⟩ := s3.rd.at_ (by omega)
      cases hA'
      have q1' := hcr k hlt
      have q0 := hcr 0 (by omega)
      rw [HP.out] at q1'
      rw [HP0.out] at q0
      simp only [Nat.add_zero] at q0
      clear hg2 hgr2 ho2 HV1 HU1 HAP1 b1 z1 hcr s3 hbl' W2 q1
      cases x with
      | false =>
        have HX2 : Hid (false = true ↔ SameL a (k + 1)) := Lib.hid ⟨(fun h => by cases h), fun h => HX.out.2 (fun j hj => h j (by omega))⟩
        go_quiet (fail)
        go_wp2_with fail
        go_roundw
        case rel => exact ⟨k + 1, false, by omega, by go_num, rfl, HX2, HRN, Lib.hid (HV2.out.below (below_drewN (Below.refl _ _) _)), Lib.hid (HU2.out.below (below_drewN (Below.refl _ _) _)), HAP2, below_drewN b3 _⟩
        case measure => simp [intOf]; omega
      | true =>
        by_cases e : p = p0
        · have de : (p == p0) = true := by simpa using e
          have HX2 : Hid (true = true ↔ SameL a (k + 1)) := Lib.hid ⟨fun _ j hj => by
            by_cases e2 : j = k
            · subst e2; rw [HP.out, HP0.out]; exact e
            · exact HX.out.1 rfl j (by omega), fun _ => rfl⟩
          clear e
          go_quiet (fail)
          go_wp2_with fail
          go_roundw
          case rel => exact ⟨k + 1, true, by omega, by go_num, rfl, HX2, HRN, Lib.hid (HV2.out.below (below_drewN (Below.refl _ _) _)), Lib.hid (HU2.out.below (below_drewN (Below.refl _ _) _)), HAP2, below_drewN b3 _⟩
          case measure => simp [intOf]; omega
        · have de : (p == p0) = false := by simpa using e
          have HX2 : Hid (false = true ↔ SameL a (k + 1)) := Lib.hid ⟨(fun h => by cases h), fun h => absurd (by rw [← HP.out, ← HP0.out]; exact h k (by omega)) e⟩
          clear e
          go_quiet (fail)
          go_wp2_with fail
          go_roundw
          case rel => exact ⟨k + 1, false, by omega, by go_num, rfl, HX2, HRN, Lib.hid (HV2.out.below (below_drewN (Below.refl _ _) _)), Lib.hid (HU2.out.below (below_drewN (Below.refl _ _) _)), HAP2, below_drewN b3 _⟩
          case measure => simp [intOf]; omega
    · obtain rfl : k = n := by omega
      have dlt : decide (k < k) = false := decide_eq_false (by omega)
      have hv := HV.out; have hu := HU.out
      rw [← HL.out, List.take_length, HL.out] at hv hu
      obtain ⟨R1, f1, e1, _⟩ := hv.si
      obtain ⟨R2, f2, e2, _⟩ := hu.si
      subst e1 e2
      have HV' := Lib.hid hv; have HU' := Lib.hid hu
      obtain ⟨wz, hwz⟩ : ∃ q, q = wr := ⟨_, rfl⟩
      subst hwz
      obtain ⟨Z, hZ⟩ : ∃ Z, wz.heap.size = Z := ⟨_, rfl⟩
      have HZ := Lib.hid hZ
      have zB : B ≤ Z := by rw [← hZ]; exact zr
      have b0 : Below Z wz wz := Below.refl _ _
      have BW := Lib.hid br
      clear HV HU HAP hv hu sr hZ br zr
      go_wp2_with fail
      go_loopw [10, 13] (fun v i wy => ∃ k2 : Nat, k2 ≤ n2 ∧ i = .int .i64 (k2 : Int) ∧ Hid (Rng b k2) ∧ Hid (Goti wy Z 3 v k2 (dbL (b.take k2))) ∧ Below Z wz wy) (fun _ i _ => n2 - (intOf i).toNat)
      case atStart => exact ⟨0, Nat.zero_le _, rfl, Lib.hid (fun j hj => absurd hj (by omega)), Lib.hid (Goti.nil _ _ _), b0⟩
      case round =>
        obtain ⟨k2, hk2, rfl, HR2, HE, bq⟩ := hrel
        clear b0
        have zq : Z ≤ wr.heap.size := by have := bq.size; have := HZ.out; omega
        have br : Below B w wr := BW.out.trans (bq.mono zB)
        by_cases hl2 : k2 < n2
        · have dl2 : decide (k2 < n2) = true := decide_eq_true hl2
          have tr : Si wr A2 n2 c2 b := HT.out.keep (by rw [HB.out]; exact br)
          obtain ⟨bb, o, hA, hbl, hc⟩ := tr.rd.at_ (by omega)
          subst hA
          have y1 := hc k2 hl2
          obtain ⟨p, hp⟩ : ∃ p, it b k2 = p := ⟨_, rfl⟩
          rw [hp] at y1
          have HP := Lib.hid hp
          clear hc hp tr
          by_cases u0 : p < 0
          case pos =>
            have g0 : decide (p < 0) = true := decide_eq_true u0
            go_wp2_with fail
            go_ret
            exact ⟨rfl, br⟩
          case neg =>
          have g0 : decide (p < 0) = false := decide_eq_false u0
          by_cases u1 : 1000 < p
          case pos =>
            have g1 : decide (1000 < p) = true := decide_eq_true u1
            go_wp2_with fail
            go_ret
            exact ⟨rfl, br⟩
          case neg =>
          have g1 : decide (1000 < p) = false := decide_eq_false u1
          have W2 : Hid (W64 (2 * p)) := Lib.hid (by unfold W64; omega)
          have i2 : IntKind.i64.wrap (2 * p) = 2 * p := IntWalk.i64_in _ (by omega)
          have HRN : Hid (Rng b (k2 + 1)) := Lib.hid (fun j hj => by
            by_cases e : j = k2
            · subst e; rw [HP.out]; omega
            · exact HR2.out j (by omega))
          go_upto_region 21 with fail
          go_wp2_with (at_builtin; go_loud (refine wpList_appi _ rfl (.tmp 101) (.tmp 107) 25 rfl Z 3 Try.underlying25 info_int _ _ _ rfl (HE.out.alloc (.cells #[.int .i64 (2 * p)] 3)) rfl (fun h => by cases h) (ri_one wr W2.out 3) (by omega) (by simp; omega) ?_; intro v2 w3 hg2 hgr2 ho2))
          have b3 : Below Z wz w3 := (bq.alloc zq (.cells #[.int .i64 (2 * p)] 3)).grown hgr2 (by simp; omega) (fun j h => by have := (HE.out.row.lt j h).1; omega)
          rw [← HP.out, ← db_take (by rw [HL2.out]; exact hl2)] at hg2
          have HE2 := Lib.hid hg2
          clear hg2 hgr2 ho2 HE bq br y1 zq
          go_roundw
          case rel => exact ⟨k2 + 1, by omega, by go_num, HRN, HE2.out |> Lib.hid, b3⟩
          case measure => simp [intOf]; omega
        · obtain rfl : k2 = n2 := by omega
          have dl2 : decide (k2 < k2) = false := decide_eq_false (by omega)
          have he := HE.out
          rw [← HL2.out, List.take_length, HL2.out] at he
          obtain ⟨R3, f3, e3, t3⟩ := he.si
          subst e3
          obtain ⟨R1', f1', e1, t1⟩ := (HV'.out.below (by rw [HZ.out]; exact bq)).si
          cases e1
          obtain ⟨R2', f2', e2, t2⟩ := (HU'.out.below (by rw [HZ.out]; exact bq)).si
          cases e2
          have sr : Si wr A k c a := HS.out.keep (by rw [HB.out]; exact br)
          have tr : Si wr A2 k2 c2 b := HT.out.keep (by rw [HB.out]; exact br)
          have zr : B ≤ wr.heap.size := by omega
          have ra : Rng a a.length := by rw [HL.out]; exact HR.out
          have rb : Rng b b.length := by rw [HL2.out]; exact HR2.out
          obtain ⟨al, hal⟩ : ∃ v, alikeG a b = v := ⟨_, rfl⟩
          have HAL := Lib.hid hal
          have HA1 : Hid (alikeG (shL a mo) b = al) := Lib.hid (by rw [alike_shift ra h0 h1]; exact hal)
          have HA2 : Hid (alikeG (dbL a) (dbL b) = al) := Lib.hid (by rw [alike_scale ra rb]; exact hal)
          have hself := alike_self ra
          have hsn : x = true → al = false := fun h => by rw [← hal]; exact same_not (by rw [HL.out]; exact HX.out.1 h)
          obtain ⟨sv, hsv⟩ : ∃ v, alikeG a a = v := ⟨_, rfl⟩
          rw [hsv] at hself
          have HSV := Lib.hid hsv
          have hsq : sv = (decide (4 ≤ k) && (decide (k ≤ 16) && !x)) := by
            rw [Bool.eq_iff_iff, hself, HL.out]
            have hx := HX.out
            cases x
            · simp only [Bool.not_false, Bool.and_true, Bool.and_eq_true, decide_eq_true_eq]
              exact ⟨fun h => ⟨h.1, h.2.1⟩, fun h => ⟨h.1, h.2, fun hs => by have := hx.2 hs; cases this⟩⟩
            · simp only [Bool.not_true, Bool.and_false]
              exact ⟨fun h => absurd (hx.1 rfl) h.2.2, fun h => by cases h⟩
          have HSQ := Lib.hid hsq; have HSN := Lib.hid hsn
          clear he hal hself hsn hsv hsq ra rb HE bq zq
          go_wp2_with fail
          refine (ggalike_any _ _ _ _ _ _ _ _ _ sr tr).mono ?_
          rintro e w4 ⟨rfl, hb4⟩
          rw [HAL.out]
          have s4 := sr.keep hb4; have t4 := tr.keep hb4; have u1 := t1.keep hb4; have u2 := t2.keep hb4; have u3 := t3.keep hb4; have b4 := br.trans (hb4.mono zr); have z4 : B ≤ w4.heap.size := Nat.le_trans zr hb4.size
          clear sr tr t1 t2 t3 br zr hb4
          go_wp2_with fail
          refine (ggalike_any _ _ _ _ _ _ _ _ _ u1 t4).mono ?_
          rintro e w5 ⟨rfl, hb5⟩
          rw [HA1.out]
          have s5 := s4.keep hb5; have v2 := u2.keep hb5; have v3 := u3.keep hb5; have b5 := b4.trans (hb5.mono z4); have z5 : B ≤ w5.heap.size := Nat.le_trans z4 hb5.size
          clear s4 t4 u1 u2 u3 b4 z4 hb5
          cases al with
          | false =>
            cases x with
            | false =>
              go_wp2_with fail
              refine (ggalike_any _ _ _ _ _ _ _ _ _ v2 v3).mono ?_
              rintro e w6 ⟨rfl, hb6⟩
              rw [HA2.out]
              have s6 := s5.keep hb6; have b6 := b5.trans (hb6.mono z5); have z6 : B ≤ w6.heap.size := Nat.le_trans z5 hb6.size
              clear s5 v2 v3 b5 z5 hb6
              go_wp2_with fail
              refine (ggalike_any _ _ _ _ _ _ _ _ _ s6 s6).mono ?_
              rintro e w7 ⟨rfl, hb7⟩
              rw [HSV.out]
              have b7 := b6.trans (hb7.mono z6)
              clear s6 b6 hb7
              have hq := HSQ.out
              by_cases f0 : 4 ≤ k
              case neg =>
                have g0 : decide (4 ≤ k) = false := decide_eq_false f0
                have g0' : decide ((4 : Int) ≤ (k : Int)) = false := decide_eq_false (by omega)
                rw [g0, Bool.false_and] at hq
                subst hq
                clear HSV
                go_wp2_with fail
                go_ret
                exact ⟨rfl, b7⟩
              case pos =>
              have g0 : decide (4 ≤ k) = true := decide_eq_true f0
              have g0' : decide ((4 : Int) ≤ (k : Int)) = true := decide_eq_true (by omega)
              by_cases f1 : k ≤ 16
              case neg =>
                have g1 : decide (k ≤ 16) = false := decide_eq_false f1
                have g1' : decide ((k : Int) ≤ 16) = false := decide_eq_false (by omega)
                rw [g0, g1, Bool.true_and, Bool.false_and] at hq
                subst hq
                clear HSV
                go_wp2_with fail
                go_ret
                exact ⟨rfl, b7⟩
              case pos =>
              have g1 : decide (k ≤ 16) = true := decide_eq_true f1
              have g1' : decide ((k : Int) ≤ 16) = true := decide_eq_true (by omega)
              rw [g0, g1, Bool.true_and, Bool.true_and] at hq
              subst hq
              clear HSV
              go_wp2_with fail
              go_ret
              exact ⟨rfl, b7⟩
            | true =>
              go_wp2_with fail
              refine (ggalike_any _ _ _ _ _ _ _ _ _ v2 v3).mono ?_
              rintro e w6 ⟨rfl, hb6⟩
              rw [HA2.out]
              have s6 := s5.keep hb6; have b6 := b5.trans (hb6.mono z5); have z6 : B ≤ w6.heap.size := Nat.le_trans z5 hb6.size
              clear s5 v2 v3 b5 z5 hb6
              go_wp2_with fail
              refine (ggalike_any _ _ _ _ _ _ _ _ _ s6 s6).mono ?_
              rintro e w7 ⟨rfl, hb7⟩
              rw [HSV.out]
              have b7 := b6.trans (hb7.mono z6)
              clear s6 b6 hb7
              have hq := HSQ.out
              by_cases f0 : 4 ≤ k
              case neg =>
                have g0 : decide (4 ≤ k) = false := decide_eq_false f0
                have g0' : decide ((4 : Int) ≤ (k : Int)) = false := decide_eq_false (by omega)
                rw [g0, Bool.false_and] at hq
                subst hq
                clear HSV
                go_wp2_with fail
                go_ret
                exact ⟨rfl, b7⟩
              case pos =>
              have g0 : decide (4 ≤ k) = true := decide_eq_true f0
              have g0' : decide ((4 : Int) ≤ (k : Int)) = true := decide_eq_true (by omega)
              by_cases f1 : k ≤ 16
              case neg =>
                have g1 : decide (k ≤ 16) = false := decide_eq_false f1
                have g1' : decide ((k : Int) ≤ 16) = false := decide_eq_false (by omega)
                rw [g0, g1, Bool.true_and, Bool.false_and] at hq
                subst hq
                clear HSV
                go_wp2_with fail
                go_ret
                exact ⟨rfl, b7⟩
              case pos =>
              have g1 : decide (k ≤ 16) = true := decide_eq_true f1
              have g1' : decide ((k : Int) ≤ 16) = true := decide_eq_true (by omega)
              rw [g0, g1, Bool.true_and, Bool.true_and] at hq
              subst hq
              clear HSV
              go_wp2_with fail
              go_ret
              exact ⟨rfl, b7⟩
          | true =>
            cases x with
            | false =>
              go_wp2_with fail
              refine (ggalike_any _ _ _ _ _ _ _ _ _ v2 v3).mono ?_
              rintro e w6 ⟨rfl, hb6⟩
              rw [HA2.out]
              have s6 := s5.keep hb6; have b6 := b5.trans (hb6.mono z5); have z6 : B ≤ w6.heap.size := Nat.le_trans z5 hb6.size
              clear s5 v2 v3 b5 z5 hb6
              go_wp2_with fail
              refine (ggalike_any _ _ _ _ _ _ _ _ _ s6 s6).mono ?_
              rintro e w7 ⟨rfl, hb7⟩
              rw [HSV.out]
              have b7 := b6.trans (hb7.mono z6)
              clear s6 b6 hb7
              have hq := HSQ.out
              by_cases f0 : 4 ≤ k
              case neg =>
                have g0 : decide (4 ≤ k) = false := decide_eq_false f0
                have g0' : decide ((4 : Int) ≤ (k : Int)) = false := decide_eq_false (by omega)
                rw [g0, Bool.false_and] at hq
                subst hq
                clear HSV
                go_wp2_with fail
                go_ret
                exact ⟨rfl, b7⟩
              case pos =>
              have g0 : decide (4 ≤ k) = true := decide_eq_true f0
              have g0' : decide ((4 : Int) ≤ (k : Int)) = true := decide_eq_true (by omega)
              by_cases f1 : k ≤ 16
              case neg =>
                have g1 : decide (k ≤ 16) = false := decide_eq_false f1
                have g1' : decide ((k : Int) ≤ 16) = false := decide_eq_false (by omega)
                rw [g0, g1, Bool.true_and, Bool.false_and] at hq
                subst hq
                clear HSV
                go_wp2_with fail
                go_ret
                exact ⟨rfl, b7⟩
              case pos =>
              have g1 : decide (k ≤ 16) = true := decide_eq_true f1
              have g1' : decide ((k : Int) ≤ 16) = true := decide_eq_true (by omega)
              rw [g0, g1, Bool.true_and, Bool.true_and] at hq
              subst hq
              clear HSV
              go_wp2_with fail
              go_ret
              exact ⟨rfl, b7⟩
            | true =>
              have hc := HSN.out rfl
              cases hc
end Go.Proofs.Ytbaaglgoodckmaa.groupMore
