/- EcfRoom: the walk. -/
import Derived.Test.YtmclffbjdkoneaaEcAwake
import Derived.Test.YtmclffbjdkoneaaEcMath
import Derived.Test.YtmclffbjdkoneaaTail2
import Derived.Deep.QuietTactic
import Derived.BigQuiet
import Derived.IntWalk
import Derived.Deep.AppendLies
import Derived.OrdersHeld
import Derived.Deep.DeepCutAuto
namespace Go.Proofs.Ytmclffbjdkoneaa.ecfRoom
open Go.RowKit
set_option linter.unusedVariables false
set_option linter.unusedSimpArgs false

set_option maxRecDepth 100000 in
set_option maxHeartbeats 16000000 in
theorem walk (A : Option Addr) (n c : Nat) (l : List Chv) (bytes mss : Int) (waits : Bool) (w : World) (hs : Se w A n c l) :
    Calls Try.prog 4 #[.slice A n c, .int .i64 bytes, .int .i64 mss, .bool waits] w fun e w' => e = .returned (.bool true) ∧ Below w.heap.size w w' := by
  obtain ⟨B, hB⟩ : ∃ B, w.heap.size = B := ⟨_, rfl⟩
  rw [hB]
  have HB := Lib.hid hB
  have m1 := hs.le; have m2 := hs.max
  have m3 : n ≤ 9223372036854775807 := by unfold maxLen at m2; omega
  have HSE := Lib.hid hs; have HL := Lib.hid hs.rd.len
  clear hs hB m1 m2
  go_enter Try.func4, Try.ntmps4
  go_wp2_with fail
  refine (ecawake_any _).mono ?_
  rintro e w2 ⟨rfl, b2⟩
  rw [HB.out] at b2
  by_cases c0 : 4 < n
  case pos =>
    have d0 : decide ((4 : Int) < (n : Int)) = true := decide_eq_true (by omega)
    have d0' : decide (4 < n) = true := decide_eq_true c0
    go_wp2_with fail
    go_ret
    exact ⟨rfl, b2⟩
  have d0 : decide ((4 : Int) < (n : Int)) = false := decide_eq_false (by omega)
  have d0' : decide (4 < n) = false := decide_eq_false c0
  have s2 : Se w2 A n c l := HSE.out.keep (by rw [HB.out]; exact b2)
  have z2 : B ≤ w2.heap.size := by have := b2.size; rw [HB.out] at this; exact this
  have hk := pick_ok l bytes mss waits
  have hpw := pick_wait l bytes mss waits
  obtain ⟨⟨pa, px⟩, hp⟩ : ∃ p, pickR l bytes mss waits = p := ⟨_, rfl⟩
  have HP := Lib.hid hp
  rw [hp] at hk hpw
  clear hp
  dsimp only at hk hpw
  have HK := Lib.hid hk; have HW := Lib.hid (fun h => (hpw h).1)
  clear hk hpw
  go_wp2_with fail
  refine (ecpick_any A n c l bytes mss waits _ s2).mono ?_
  rw [HP.out]
  rintro e w3 ⟨rfl, hb3⟩
  have b3 := b2.trans (hb3.mono z2); have z3 := Nat.le_trans z2 hb3.size
  clear s2 hb3 b2 z2 d0 d0' HP
  go_upto_region 5 with fail
  by_cases hneg : pa < 0
  case neg =>
    obtain ⟨s, rfl⟩ : ∃ s : Nat, pa = (s : Int) := ⟨pa.toNat, by omega⟩
    have hsn : s < n := by have := HK.out.hi; rw [HL.out] at this; omega
    have hpx : px = false := by
      cases hq : px with
      | false => rfl
      | true => have := HK.out.wait hq; omega
    subst hpx
    have HQ := Lib.hid (HK.out.room (by omega)).2
    have e1 : decide (n ≤ s) = false := decide_eq_false (by omega)
    have e2 : decide ((s : Int) < -1) = false := decide_eq_false (by omega)
    have e3 : decide ((s : Int) < 0) = false := decide_eq_false (by omega)
    have e4 : decide (0 ≤ (s : Int)) = true := decide_eq_true (by omega)
    have g1 : decide (bytes < 1) = false := decide_eq_false (by have := HQ.out.2.1; omega)
    have g2 : decide ((1099511627776 : Int) < bytes) = false := decide_eq_false (by have := HQ.out.2.2.1; omega)
    have g3 : decide (mss < 1) = false := decide_eq_false (by have := HQ.out.2.2.2.1; omega)
    have g4 : decide ((1460 : Int) < mss) = false := decide_eq_false (by have := HQ.out.2.2.2.2; omega)
    go_upto_region 8 with fail
    go_wp2_with fail
    go_loopw [13, 14] (fun i rm wr => ∃ k : Nat, k ≤ n ∧ i = .int .i64 (k : Int) ∧ Below B w wr) (fun i _ _ => n - (intOf i).toNat)
    case atStart => exact ⟨0, Nat.zero_le _, rfl, b3⟩
    case round =>
      obtain ⟨k, hk, rfl, br⟩ := hrel
      have zr : B ≤ wr.heap.size := by have := br.size; have := HB.out; omega
      clear b3 z3
      by_cases hlt : k < n
      · have dlt : decide (k < n) = true := decide_eq_true hlt
        obtain ⟨bb, o, hA, hbl, hc0⟩ := HSE.out.rd.at_ (by omega)
        have hbB : bb < B := by have := HB.out; omega
        have hcell : ∀ W, Below B w W → ∀ i, i < n → ∀ j u, (El.cells (ge l i))[j]? = some u → W.cell? ⟨bb, o + i * 5 + j, none⟩ = some u := fun W hW i hi j u hu => (hW.cell (p := ⟨bb, o + i * 5 + j, none⟩) hbB).trans (hc0 i hi j u hu)
        have HC := Lib.hid hcell
        subst hA
        clear hc0 hcell hbl
        obtain ⟨x, hx⟩ : ∃ x, ge l k = x := ⟨_, rfl⟩
        have HXE := Lib.hid hx; clear hx
        obtain ⟨rv, hrv⟩ : ∃ v, roomB x mss = v := ⟨_, rfl⟩
        have HRV := Lib.hid hrv; clear hrv
        have y0 := HC.out wr br k hlt 0 (.bool x.up) (by rw [HXE.out]; rfl); have y1 := HC.out wr br k hlt 1 (.int .i64 x.cwnd) (by rw [HXE.out]; rfl); have y2 := HC.out wr br k hlt 2 (.int .i64 x.flight) (by rw [HXE.out]; rfl); have y3 := HC.out wr br k hlt 3 (.int .i64 x.srtt) (by rw [HXE.out]; rfl); have y4 := HC.out wr br k hlt 4 (.int .i64 x.vr) (by rw [HXE.out]; rfl)
        simp only [Nat.add_zero] at y0
        go_wp2_with fail
        refine (ecroom_any x mss _).mono ?_
        rw [HRV.out]
        rintro e w5 ⟨rfl, hb5⟩
        have b5 := br.trans (hb5.mono zr)
        clear y0 y1 y2 y3 y4 hb5 br zr
        go_upto_region 12 with fail
        cases rv with
        | false =>
          go_quiet (fail)
          go_wp2_with fail
          go_roundw
          case rel => exact ⟨k + 1, by omega, by go_num, below_drewN b5 _⟩
          case measure => simp [intOf]; omega
        | true =>
          have hle := HK.out.least (by omega) k (by rw [HL.out]; exact hlt) (by rw [HXE.out]; exact HRV.out)
          rw [HXE.out, Int.toNat_natCast] at hle
          obtain ⟨z, hz⟩ : ∃ x, ge l s = x := ⟨_, rfl⟩
          rw [hz] at hle
          have y3 := HC.out w5 b5 k hlt 3 (.int .i64 x.srtt) (by rw [HXE.out]; rfl)
          have z3 := HC.out w5 b5 s hsn 3 (.int .i64 z.srtt) (by rw [hz]; rfl)
          have dz : decide (x.srtt < z.srtt) = false := decide_eq_false (by omega)
          clear hz hle
          go_quiet (fail)
          go_wp2_with fail
          go_roundw
          case rel => exact ⟨k + 1, by omega, by go_num, below_drewN b5 _⟩
          case measure => simp [intOf]; omega
      · obtain rfl : k = n := by omega
        have dlt : decide (k < k) = false := decide_eq_false (by omega)
        have hro := (HK.out.room (by omega)).1
        rw [Int.toNat_natCast] at hro
        obtain ⟨bb, o, hA, hbl, hc0⟩ := HSE.out.rd.at_ (by omega)
        have hbB : bb < B := by have := HB.out; omega
        have hcell : ∀ W, Below B w W → ∀ i, i < k → ∀ j u, (El.cells (ge l i))[j]? = some u → W.cell? ⟨bb, o + i * 5 + j, none⟩ = some u := fun W hW i hi j u hu => (hW.cell (p := ⟨bb, o + i * 5 + j, none⟩) hbB).trans (hc0 i hi j u hu)
        have HC := Lib.hid hcell
        subst hA
        clear hc0 hcell hbl
        obtain ⟨z, hz⟩ : ∃ x, ge l s = x := ⟨_, rfl⟩
        rw [hz] at hro
        have y0 := HC.out wr br s hsn 0 (.bool z.up) (by rw [hz]; rfl); have y1 := HC.out wr br s hsn 1 (.int .i64 z.cwnd) (by rw [hz]; rfl); have y2 := HC.out wr br s hsn 2 (.int .i64 z.flight) (by rw [hz]; rfl); have y3 := HC.out wr br s hsn 3 (.int .i64 z.srtt) (by rw [hz]; rfl); have y4 := HC.out wr br s hsn 4 (.int .i64 z.vr) (by rw [hz]; rfl)
        simp only [Nat.add_zero] at y0
        clear hz
        have HRO := Lib.hid hro; clear hro
        go_wp2_with fail
        refine (ecroom_any z mss _).mono ?_
        rw [HRO.out]
        rintro e w5 ⟨rfl, hb5⟩
        have b5 := br.trans (hb5.mono zr)
        go_wp2_with fail
        go_ret
        exact ⟨rfl, b5⟩
  case pos =>
  obtain rfl : pa = -1 := by have := HK.out.lo; omega
  have e1 : decide ((n : Int) ≤ -1) = false := decide_eq_false (by omega)
  cases px with
  | true =>
    have HQ := Lib.hid (HW.out rfl)
    have g1 : decide (bytes < 1) = false := decide_eq_false (by have := HQ.out.2.1; omega)
    have g2 : decide ((1099511627776 : Int) < bytes) = false := decide_eq_false (by have := HQ.out.2.2.1; omega)
    have g3 : decide (mss < 1) = false := decide_eq_false (by have := HQ.out.2.2.2.1; omega)
    have g4 : decide ((1460 : Int) < mss) = false := decide_eq_false (by have := HQ.out.2.2.2.2; omega)
    go_upto_region 8 with fail
    go_wp2_with fail
    go_loopw [13, 14] (fun i rm wr => ∃ k : Nat, k ≤ n ∧ i = .int .i64 (k : Int) ∧ Below B w wr) (fun i _ _ => n - (intOf i).toNat)
    case atStart => exact ⟨0, Nat.zero_le _, rfl, b3⟩
    case round =>
      obtain ⟨k, hk, rfl, br⟩ := hrel
      have zr : B ≤ wr.heap.size := by have := br.size; have := HB.out; omega
      clear b3 z3
      by_cases hlt : k < n
      · have dlt : decide (k < n) = true := decide_eq_true hlt
        obtain ⟨bb, o, hA, hbl, hc0⟩ := HSE.out.rd.at_ (by omega)
        have hbB : bb < B := by have := HB.out; omega
        have hcell : ∀ W, Below B w W → ∀ i, i < n → ∀ j u, (El.cells (ge l i))[j]? = some u → W.cell? ⟨bb, o + i * 5 + j, none⟩ = some u := fun W hW i hi j u hu => (hW.cell (p := ⟨bb, o + i * 5 + j, none⟩) hbB).trans (hc0 i hi j u hu)
        have HC := Lib.hid hcell
        subst hA
        clear hc0 hcell hbl
        obtain ⟨x, hx⟩ : ∃ x, ge l k = x := ⟨_, rfl⟩
        have HXE := Lib.hid hx; clear hx
        obtain ⟨rv, hrv⟩ : ∃ v, roomB x mss = v := ⟨_, rfl⟩
        have HRV := Lib.hid hrv; clear hrv
        have y0 := HC.out wr br k hlt 0 (.bool x.up) (by rw [HXE.out]; rfl); have y1 := HC.out wr br k hlt 1 (.int .i64 x.cwnd) (by rw [HXE.out]; rfl); have y2 := HC.out wr br k hlt 2 (.int .i64 x.flight) (by rw [HXE.out]; rfl); have y3 := HC.out wr br k hlt 3 (.int .i64 x.srtt) (by rw [HXE.out]; rfl); have y4 := HC.out wr br k hlt 4 (.int .i64 x.vr) (by rw [HXE.out]; rfl)
        simp only [Nat.add_zero] at y0
        go_wp2_with fail
        refine (ecroom_any x mss _).mono ?_
        rw [HRV.out]
        rintro e w5 ⟨rfl, hb5⟩
        have b5 := br.trans (hb5.mono zr)
        clear y0 y1 y2 y3 y4 hb5 br zr
        go_upto_region 12 with fail
        cases rv with
        | false =>
          go_quiet (fail)
          go_wp2_with fail
          go_roundw
          case rel => exact ⟨k + 1, by omega, by go_num, below_drewN b5 _⟩
          case measure => simp [intOf]; omega
        | true =>
          go_quiet (fail)
          go_wp2_with fail
          go_roundw
          case rel => exact ⟨k + 1, by omega, by go_num, below_drewN b5 _⟩
          case measure => simp [intOf]; omega
      · obtain rfl : k = n := by omega
        have dlt : decide (k < k) = false := decide_eq_false (by omega)
        go_wp2_with fail
        go_ret
        exact ⟨rfl, br⟩
  | false =>
    by_cases hq : PkOk l bytes mss
    case pos =>
      have HQ := Lib.hid hq; clear hq
      have g1 : decide (bytes < 1) = false := decide_eq_false (by have := HQ.out.2.1; omega)
      have g2 : decide ((1099511627776 : Int) < bytes) = false := decide_eq_false (by have := HQ.out.2.2.1; omega)
      have g3 : decide (mss < 1) = false := decide_eq_false (by have := HQ.out.2.2.2.1; omega)
      have g4 : decide ((1460 : Int) < mss) = false := decide_eq_false (by have := HQ.out.2.2.2.2; omega)
      go_upto_region 8 with fail
      go_wp2_with fail
      go_loopw [13, 14] (fun i rm wr => ∃ k : Nat, k ≤ n ∧ i = .int .i64 (k : Int) ∧ Below B w wr) (fun i _ _ => n - (intOf i).toNat)
      case atStart => exact ⟨0, Nat.zero_le _, rfl, b3⟩
      case round =>
        obtain ⟨k, hk, rfl, br⟩ := hrel
        have zr : B ≤ wr.heap.size := by have := br.size; have := HB.out; omega
        clear b3 z3
        by_cases hlt : k < n
        · have dlt : decide (k < n) = true := decide_eq_true hlt
          obtain ⟨bb, o, hA, hbl, hc0⟩ := HSE.out.rd.at_ (by omega)
          have hbB : bb < B := by have := HB.out; omega
          have hcell : ∀ W, Below B w W → ∀ i, i < n → ∀ j u, (El.cells (ge l i))[j]? = some u → W.cell? ⟨bb, o + i * 5 + j, none⟩ = some u := fun W hW i hi j u hu => (hW.cell (p := ⟨bb, o + i * 5 + j, none⟩) hbB).trans (hc0 i hi j u hu)
          have HC := Lib.hid hcell
          subst hA
          clear hc0 hcell hbl
          obtain ⟨x, hx⟩ : ∃ x, ge l k = x := ⟨_, rfl⟩
          have HXE := Lib.hid hx; clear hx
          obtain ⟨rv, hrv⟩ : ∃ v, roomB x mss = v := ⟨_, rfl⟩
          have HRV := Lib.hid hrv; clear hrv
          have y0 := HC.out wr br k hlt 0 (.bool x.up) (by rw [HXE.out]; rfl); have y1 := HC.out wr br k hlt 1 (.int .i64 x.cwnd) (by rw [HXE.out]; rfl); have y2 := HC.out wr br k hlt 2 (.int .i64 x.flight) (by rw [HXE.out]; rfl); have y3 := HC.out wr br k hlt 3 (.int .i64 x.srtt) (by rw [HXE.out]; rfl); have y4 := HC.out wr br k hlt 4 (.int .i64 x.vr) (by rw [HXE.out]; rfl)
          simp only [Nat.add_zero] at y0
          go_wp2_with fail
          refine (ecroom_any x mss _).mono ?_
          rw [HRV.out]
          rintro e w5 ⟨rfl, hb5⟩
          have b5 := br.trans (hb5.mono zr)
          clear y0 y1 y2 y3 y4 hb5 br zr
          go_upto_region 12 with fail
          have hrf : rv = false := by rw [← HRV.out, ← HXE.out]; exact HK.out.none (by omega) rfl HQ.out k (by rw [HL.out]; exact hlt)
          subst hrf
          go_quiet (fail)
          go_wp2_with fail
          go_roundw
          case rel => exact ⟨k + 1, by omega, by go_num, below_drewN b5 _⟩
          case measure => simp [intOf]; omega
        · obtain rfl : k = n := by omega
          have dlt : decide (k < k) = false := decide_eq_false (by omega)
          go_wp2_with fail
          go_ret
          exact ⟨rfl, br⟩
    case neg =>
      have hnq := hq
      have HNQ := Lib.hid hnq
      clear hq hnq
      by_cases q1 : bytes < 1
      case pos =>
        have g1 : decide (bytes < 1) = true := decide_eq_true q1
        go_upto_region 8 with fail
        go_wp2_with fail
        go_loopw [13, 14] (fun i rm wr => ∃ k : Nat, k ≤ n ∧ i = .int .i64 (k : Int) ∧ Below B w wr) (fun i _ _ => n - (intOf i).toNat)
        case atStart => exact ⟨0, Nat.zero_le _, rfl, b3⟩
        case round =>
          obtain ⟨k, hk, rfl, br⟩ := hrel
          have zr : B ≤ wr.heap.size := by have := br.size; have := HB.out; omega
          clear b3 z3
          by_cases hlt : k < n
          · have dlt : decide (k < n) = true := decide_eq_true hlt
            obtain ⟨bb, o, hA, hbl, hc0⟩ := HSE.out.rd.at_ (by omega)
            have hbB : bb < B := by have := HB.out; omega
            have hcell : ∀ W, Below B w W → ∀ i, i < n → ∀ j u, (El.cells (ge l i))[j]? = some u → W.cell? ⟨bb, o + i * 5 + j, none⟩ = some u := fun W hW i hi j u hu => (hW.cell (p := ⟨bb, o + i * 5 + j, none⟩) hbB).trans (hc0 i hi j u hu)
            have HC := Lib.hid hcell
            subst hA
            clear hc0 hcell hbl
            obtain ⟨x, hx⟩ : ∃ x, ge l k = x := ⟨_, rfl⟩
            have HXE := Lib.hid hx; clear hx
            obtain ⟨rv, hrv⟩ : ∃ v, roomB x mss = v := ⟨_, rfl⟩
            have HRV := Lib.hid hrv; clear hrv
            have y0 := HC.out wr br k hlt 0 (.bool x.up) (by rw [HXE.out]; rfl); have y1 := HC.out wr br k hlt 1 (.int .i64 x.cwnd) (by rw [HXE.out]; rfl); have y2 := HC.out wr br k hlt 2 (.int .i64 x.flight) (by rw [HXE.out]; rfl); have y3 := HC.out wr br k hlt 3 (.int .i64 x.srtt) (by rw [HXE.out]; rfl); have y4 := HC.out wr br k hlt 4 (.int .i64 x.vr) (by rw [HXE.out]; rfl)
            simp only [Nat.add_zero] at y0
            go_wp2_with fail
            refine (ecroom_any x mss _).mono ?_
            rw [HRV.out]
            rintro e w5 ⟨rfl, hb5⟩
            have b5 := br.trans (hb5.mono zr)
            clear y0 y1 y2 y3 y4 hb5 br zr
            go_upto_region 12 with fail
            cases rv with
            | false =>
              go_quiet (fail)
              go_wp2_with fail
              go_roundw
              case rel => exact ⟨k + 1, by omega, by go_num, below_drewN b5 _⟩
              case measure => simp [intOf]; omega
            | true =>
              go_quiet (fail)
              go_wp2_with fail
              go_roundw
              case rel => exact ⟨k + 1, by omega, by go_num, below_drewN b5 _⟩
              case measure => simp [intOf]; omega
          · obtain rfl : k = n := by omega
            have dlt : decide (k < k) = false := decide_eq_false (by omega)
            go_wp2_with fail
            go_ret
            exact ⟨rfl, br⟩
      case neg =>
      by_cases q2 : 1099511627776 < bytes
      case pos =>
        have g1 : decide (bytes < 1) = false := decide_eq_false q1
        have g2 : decide ((1099511627776 : Int) < bytes) = true := decide_eq_true q2
        go_upto_region 8 with fail
        go_wp2_with fail
        go_loopw [13, 14] (fun i rm wr => ∃ k : Nat, k ≤ n ∧ i = .int .i64 (k : Int) ∧ Below B w wr) (fun i _ _ => n - (intOf i).toNat)
        case atStart => exact ⟨0, Nat.zero_le _, rfl, b3⟩
        case round =>
          obtain ⟨k, hk, rfl, br⟩ := hrel
          have zr : B ≤ wr.heap.size := by have := br.size; have := HB.out; omega
          clear b3 z3
          by_cases hlt : k < n
          · have dlt : decide (k < n) = true := decide_eq_true hlt
            obtain ⟨bb, o, hA, hbl, hc0⟩ := HSE.out.rd.at_ (by omega)
            have hbB : bb < B := by have := HB.out; omega
            have hcell : ∀ W, Below B w W → ∀ i, i < n → ∀ j u, (El.cells (ge l i))[j]? = some u → W.cell? ⟨bb, o + i * 5 + j, none⟩ = some u := fun W hW i hi j u hu => (hW.cell (p := ⟨bb, o + i * 5 + j, none⟩) hbB).trans (hc0 i hi j u hu)
            have HC := Lib.hid hcell
            subst hA
            clear hc0 hcell hbl
            obtain ⟨x, hx⟩ : ∃ x, ge l k = x := ⟨_, rfl⟩
            have HXE := Lib.hid hx; clear hx
            obtain ⟨rv, hrv⟩ : ∃ v, roomB x mss = v := ⟨_, rfl⟩
            have HRV := Lib.hid hrv; clear hrv
            have y0 := HC.out wr br k hlt 0 (.bool x.up) (by rw [HXE.out]; rfl); have y1 := HC.out wr br k hlt 1 (.int .i64 x.cwnd) (by rw [HXE.out]; rfl); have y2 := HC.out wr br k hlt 2 (.int .i64 x.flight) (by rw [HXE.out]; rfl); have y3 := HC.out wr br k hlt 3 (.int .i64 x.srtt) (by rw [HXE.out]; rfl); have y4 := HC.out wr br k hlt 4 (.int .i64 x.vr) (by rw [HXE.out]; rfl)
            simp only [Nat.add_zero] at y0
            go_wp2_with fail
            refine (ecroom_any x mss _).mono ?_
            rw [HRV.out]
            rintro e w5 ⟨rfl, hb5⟩
            have b5 := br.trans (hb5.mono zr)
            clear y0 y1 y2 y3 y4 hb5 br zr
            go_upto_region 12 with fail
            cases rv with
            | false =>
              go_quiet (fail)
              go_wp2_with fail
              go_roundw
              case rel => exact ⟨k + 1, by omega, by go_num, below_drewN b5 _⟩
              case measure => simp [intOf]; omega
            | true =>
              go_quiet (fail)
              go_wp2_with fail
              go_roundw
              case rel => exact ⟨k + 1, by omega, by go_num, below_drewN b5 _⟩
              case measure => simp [intOf]; omega
          · obtain rfl : k = n := by omega
            have dlt : decide (k < k) = false := decide_eq_false (by omega)
            go_wp2_with fail
            go_ret
            exact ⟨rfl, br⟩
      case neg =>
      by_cases q3 : mss < 1
      case pos =>
        have g1 : decide (bytes < 1) = false := decide_eq_false q1
        have g2 : decide ((1099511627776 : Int) < bytes) = false := decide_eq_false q2
        have g3 : decide (mss < 1) = true := decide_eq_true q3
        go_upto_region 8 with fail
        go_wp2_with fail
        go_loopw [13, 14] (fun i rm wr => ∃ k : Nat, k ≤ n ∧ i = .int .i64 (k : Int) ∧ Below B w wr) (fun i _ _ => n - (intOf i).toNat)
        case atStart => exact ⟨0, Nat.zero_le _, rfl, b3⟩
        case round =>
          obtain ⟨k, hk, rfl, br⟩ := hrel
          have zr : B ≤ wr.heap.size := by have := br.size; have := HB.out; omega
          clear b3 z3
          by_cases hlt : k < n
          · have dlt : decide (k < n) = true := decide_eq_true hlt
            obtain ⟨bb, o, hA, hbl, hc0⟩ := HSE.out.rd.at_ (by omega)
            have hbB : bb < B := by have := HB.out; omega
            have hcell : ∀ W, Below B w W → ∀ i, i < n → ∀ j u, (El.cells (ge l i))[j]? = some u → W.cell? ⟨bb, o + i * 5 + j, none⟩ = some u := fun W hW i hi j u hu => (hW.cell (p := ⟨bb, o + i * 5 + j, none⟩) hbB).trans (hc0 i hi j u hu)
            have HC := Lib.hid hcell
            subst hA
            clear hc0 hcell hbl
            obtain ⟨x, hx⟩ : ∃ x, ge l k = x := ⟨_, rfl⟩
            have HXE := Lib.hid hx; clear hx
            obtain ⟨rv, hrv⟩ : ∃ v, roomB x mss = v := ⟨_, rfl⟩
            have HRV := Lib.hid hrv; clear hrv
            have y0 := HC.out wr br k hlt 0 (.bool x.up) (by rw [HXE.out]; rfl); have y1 := HC.out wr br k hlt 1 (.int .i64 x.cwnd) (by rw [HXE.out]; rfl); have y2 := HC.out wr br k hlt 2 (.int .i64 x.flight) (by rw [HXE.out]; rfl); have y3 := HC.out wr br k hlt 3 (.int .i64 x.srtt) (by rw [HXE.out]; rfl); have y4 := HC.out wr br k hlt 4 (.int .i64 x.vr) (by rw [HXE.out]; rfl)
            simp only [Nat.add_zero] at y0
            go_wp2_with fail
            refine (ecroom_any x mss _).mono ?_
            rw [HRV.out]
            rintro e w5 ⟨rfl, hb5⟩
            have b5 := br.trans (hb5.mono zr)
            clear y0 y1 y2 y3 y4 hb5 br zr
            go_upto_region 12 with fail
            cases rv with
            | false =>
              go_quiet (fail)
              go_wp2_with fail
              go_roundw
              case rel => exact ⟨k + 1, by omega, by go_num, below_drewN b5 _⟩
              case measure => simp [intOf]; omega
            | true =>
              go_quiet (fail)
              go_wp2_with fail
              go_roundw
              case rel => exact ⟨k + 1, by omega, by go_num, below_drewN b5 _⟩
              case measure => simp [intOf]; omega
          · obtain rfl : k = n := by omega
            have dlt : decide (k < k) = false := decide_eq_false (by omega)
            go_wp2_with fail
            go_ret
            exact ⟨rfl, br⟩
      case neg =>
      by_cases q4 : 1460 < mss
      case pos =>
        have g1 : decide (bytes < 1) = false := decide_eq_false q1
        have g2 : decide ((1099511627776 : Int) < bytes) = false := decide_eq_false q2
        have g3 : decide (mss < 1) = false := decide_eq_false q3
        have g4 : decide ((1460 : Int) < mss) = true := decide_eq_true q4
        go_upto_region 8 with fail
        go_wp2_with fail
        go_loopw [13, 14] (fun i rm wr => ∃ k : Nat, k ≤ n ∧ i = .int .i64 (k : Int) ∧ Below B w wr) (fun i _ _ => n - (intOf i).toNat)
        case atStart => exact ⟨0, Nat.zero_le _, rfl, b3⟩
        case round =>
          obtain ⟨k, hk, rfl, br⟩ := hrel
          have zr : B ≤ wr.heap.size := by have := br.size; have := HB.out; omega
          clear b3 z3
          by_cases hlt : k < n
          · have dlt : decide (k < n) = true := decide_eq_true hlt
            obtain ⟨bb, o, hA, hbl, hc0⟩ := HSE.out.rd.at_ (by omega)
            have hbB : bb < B := by have := HB.out; omega
            have hcell : ∀ W, Below B w W → ∀ i, i < n → ∀ j u, (El.cells (ge l i))[j]? = some u → W.cell? ⟨bb, o + i * 5 + j, none⟩ = some u := fun W hW i hi j u hu => (hW.cell (p := ⟨bb, o + i * 5 + j, none⟩) hbB).trans (hc0 i hi j u hu)
            have HC := Lib.hid hcell
            subst hA
            clear hc0 hcell hbl
            obtain ⟨x, hx⟩ : ∃ x, ge l k = x := ⟨_, rfl⟩
            have HXE := Lib.hid hx; clear hx
            obtain ⟨rv, hrv⟩ : ∃ v, roomB x mss = v := ⟨_, rfl⟩
            have HRV := Lib.hid hrv; clear hrv
            have y0 := HC.out wr br k hlt 0 (.bool x.up) (by rw [HXE.out]; rfl); have y1 := HC.out wr br k hlt 1 (.int .i64 x.cwnd) (by rw [HXE.out]; rfl); have y2 := HC.out wr br k hlt 2 (.int .i64 x.flight) (by rw [HXE.out]; rfl); have y3 := HC.out wr br k hlt 3 (.int .i64 x.srtt) (by rw [HXE.out]; rfl); have y4 := HC.out wr br k hlt 4 (.int .i64 x.vr) (by rw [HXE.out]; rfl)
            simp only [Nat.add_zero] at y0
            go_wp2_with fail
            refine (ecroom_any x mss _).mono ?_
            rw [HRV.out]
            rintro e w5 ⟨rfl, hb5⟩
            have b5 := br.trans (hb5.mono zr)
            clear y0 y1 y2 y3 y4 hb5 br zr
            go_upto_region 12 with fail
            cases rv with
            | false =>
              go_quiet (fail)
              go_wp2_with fail
              go_roundw
              case rel => exact ⟨k + 1, by omega, by go_num, below_drewN b5 _⟩
              case measure => simp [intOf]; omega
            | true =>
              go_quiet (fail)
              go_wp2_with fail
              go_roundw
              case rel => exact ⟨k + 1, by omega, by go_num, below_drewN b5 _⟩
              case measure => simp [intOf]; omega
          · obtain rfl : k = n := by omega
            have dlt : decide (k < k) = false := decide_eq_false (by omega)
            go_wp2_with fail
            go_ret
            exact ⟨rfl, br⟩
      case neg =>
        exfalso
        exact False.elim (HNQ.out ⟨by have := HL.out; omega, by omega, by omega, by omega, by omega⟩)
end Go.Proofs.Ytmclffbjdkoneaa.ecfRoom
