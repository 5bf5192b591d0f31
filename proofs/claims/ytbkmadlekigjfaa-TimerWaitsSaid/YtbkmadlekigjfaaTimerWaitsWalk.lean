/- TimerWaits: the walk. -/
import Derived.Test.YtbkmadlekigjfaaProg
import Derived.Test.YtbkmadlekigjfaaTmAwake
import Derived.Test.YtbkmadlekigjfaaTmMath
import Derived.WalkKit
import Derived.WalkSpells
import Derived.WalkSmall
import Derived.Lib.Hide
import Derived.Below
import Derived.Outline
import Derived.Deep.QuietTactic
import Derived.BigQuiet
import Derived.IntWalk
import Derived.Deep.DeepCutAuto
import Derived.OrdersHeld
import Derived.StillTail
import Derived.Test.YtbkmadlekigjfaaTail
import Derived.Laws.Rows
import Derived.Laws.Tables
namespace Go.Proofs.Ytbkmadlekigjfaa.timerWaits
open Go.RowKit
set_option linter.unusedVariables false
set_option linter.unusedSimpArgs false
set_option maxRecDepth 100000 in
set_option maxHeartbeats 8000000 in
theorem walk (r : Rt) (A : Option Addr) (n c : Nat) (l : List Prt) (pb : Bool) (now most : Int) (w : World) (hs : Se w A n c l) :
    Calls Try.prog 4 #[.agg #[.bool r.has, .int .i64 r.srtt, .int .i64 r.vr, .int .i64 r.rto, .int .i64 r.shift], .slice A n c, .bool pb, .int .i64 now, .int .i64 most] w fun e w' => e = .returned (.bool true) ∧ Below w.heap.size w w' := by
  obtain ⟨B, hB⟩ : ∃ B, w.heap.size = B := ⟨_, rfl⟩
  rw [hB]
  have m1 := hs.le; have m2 := hs.max
  have m3 : n ≤ 9223372036854775807 := by unfold maxLen at m2; omega
  clear m1 m2
  have HL := Lib.hid hs.rd.len
  have e0 := Bx.new w 23 [.bool r.has, .int .i64 r.srtt, .int .i64 r.vr, .int .i64 r.rto, .int .i64 r.shift]
  rw [hB] at e0
  have b0 : Below B w (w.alloc (.cells #[.bool r.has, .int .i64 r.srtt, .int .i64 r.vr, .int .i64 r.rto, .int .i64 r.shift] 23)) := by rw [← hB]; exact (Below.refl _ _).alloc (Nat.le_refl _) _
  have s0 := hs.alloc (.cells #[.bool r.has, .int .i64 r.srtt, .int .i64 r.vr, .int .i64 r.rto, .int .i64 r.shift] 23)
  clear hs
  go_enter Try.func4, Try.ntmps4
  go_wp2_with fail
  generalize w.alloc (.cells #[.bool r.has, .int .i64 r.srtt, .int .i64 r.vr, .int .i64 r.rto, .int .i64 r.shift] 23) = w1 at e0 b0 s0 ⊢
  refine (tiawake_any _).mono ?_
  rintro e w2 ⟨rfl, hb2⟩
  have e2 := e0.kept hb2; have b2 := b0.trans (hb2.mono (Nat.le_of_lt e0.lt)); have s2 := s0.keep hb2
  clear e0 b0 s0 hb2 hB
  by_cases c0 : 520 < n
  case pos =>
    have d0 : decide ((520 : Int) < (n : Int)) = true := decide_eq_true (by omega)
    have d0' : decide (520 < n) = true := decide_eq_true c0
    go_wp2_with fail
    go_ret
    exact ⟨rfl, b2⟩
  have d0 : decide ((520 : Int) < (n : Int)) = false := decide_eq_false (by omega)
  have d0' : decide (520 < n) = false := decide_eq_false c0
  by_cases hok : SetOk r l now most
  case neg =>
    have hx1 : setR r l pb now most = (ztm, 1) := set_no hok
    have hx2 : setR r l true now most = (ztm, 1) := set_no hok
    have HX1 := Lib.hid hx1; have HX2 := Lib.hid hx2
    clear hx1 hx2 hok
    go_wp2_with (refine rt_load rfl (.tmp 5) rfl rfl e2 rfl ?_)
    refine (tiset_any r A n c l pb now most _ s2).mono ?_
    rintro e u3 ⟨he, hb3⟩
    rw [HX1.out] at he
    dsimp only [ztm] at he
    subst he
    have hB2 : B ≤ w2.heap.size := Nat.le_of_lt e2.lt
    have e3 := (e2.kept hb3).alloc (.cells #[.int .i64 0, .int .i64 0] 28); have s3 := (s2.keep hb3).alloc (.cells #[.int .i64 0, .int .i64 0] 28)
    have b3 := (b2.trans (hb3.mono hB2)).alloc (Nat.le_trans hB2 hb3.size) (.cells #[.int .i64 0, .int .i64 0] 28)
    have f3 := Bx.new u3 28 [.int .i64 0, .int .i64 0]
    clear e2 s2 b2 hb3 hB2
    go_upto_region 5 with fail
    obtain ⟨Q, hQ⟩ : ∃ Q, u3.heap.size = Q := ⟨_, rfl⟩
    rw [hQ] at f3 ⊢
    generalize u3.alloc (.cells #[.int .i64 0, .int .i64 0] 28) = w3 at e3 s3 b3 f3 ⊢
    clear hQ
    go_wp2_with (refine rt_load rfl (.tmp 5) rfl rfl e3 rfl ?_)
    refine (tiset_any r A n c l true now most _ s3).mono ?_
    rintro e u4 ⟨he, hb4⟩
    rw [HX2.out] at he
    dsimp only [ztm] at he
    subst he
    have hB3 : B ≤ w3.heap.size := Nat.le_of_lt e3.lt
    have e4 := (e3.kept hb4).alloc (.cells #[.int .i64 0, .int .i64 0] 28); have f4 := (f3.kept hb4).alloc (.cells #[.int .i64 0, .int .i64 0] 28); have s4 := (s3.keep hb4).alloc (.cells #[.int .i64 0, .int .i64 0] 28)
    have b4 := (b3.trans (hb4.mono hB3)).alloc (Nat.le_trans hB3 hb4.size) (.cells #[.int .i64 0, .int .i64 0] 28)
    have hB4 : B ≤ (u4.alloc (.cells #[.int .i64 0, .int .i64 0] 28)).heap.size := by rw [World.size_alloc]; exact Nat.le_trans hB3 (Nat.le_trans hb4.size (Nat.le_succ _))
    have g4 := Bx.new u4 28 [.int .i64 0, .int .i64 0]
    clear e3 s3 b3 f3 hb4 hB3
    go_upto_region 6 with fail
    obtain ⟨R, hR⟩ : ∃ R, u4.heap.size = R := ⟨_, rfl⟩
    rw [hR] at g4 ⊢
    generalize u4.alloc (.cells #[.int .i64 0, .int .i64 0] 28) = w4 at e4 s4 b4 f4 g4 hB4 ⊢
    clear hR
    have x0 := f4.cell 0 rfl; have x1 := f4.cell 1 rfl
    go_wp2_with fail
    go_ret
    exact ⟨rfl, b4⟩
  have hx1 : setR r l pb now most = (setT r l pb now most, 0) := set_ok hok
  have hx2 : setR r l true now most = (setT r l true now most, 0) := set_ok hok
  have hmw : IntKind.i64.wrap (now + most) = now + most := IntWalk.i64_in _ (by have := hok.2.2; omega)
  have hno := fun h => set_none (r := r) (pb := pb) (now := now) (most := most) hok.2.1 h
  have hno2 := fun h => set_none (r := r) (pb := true) (now := now) (most := most) hok.2.1 h
  have hyes := fun h => set_two (pb := pb) hok h
  obtain ⟨a, ha⟩ : ∃ a, setT r l pb now most = a := ⟨_, rfl⟩
  obtain ⟨b, hb⟩ : ∃ b, setT r l true now most = b := ⟨_, rfl⟩
  rw [ha] at hx1 hno hyes
  rw [hb] at hx2 hno2 hyes
  have HX1 := Lib.hid hx1; have HX2 := Lib.hid hx2; have HNO := Lib.hid hno; have HNO2 := Lib.hid hno2; have HYES := Lib.hid hyes; have HMW := Lib.hid hmw
  clear hx1 hx2 hno hno2 hyes ha hb hok hmw
  go_wp2_with (refine rt_load rfl (.tmp 5) rfl rfl e2 rfl ?_)
  refine (tiset_any r A n c l pb now most _ s2).mono ?_
  rintro e u3 ⟨he, hb3⟩
  rw [HX1.out] at he
  dsimp only at he
  subst he
  have hB2 : B ≤ w2.heap.size := Nat.le_of_lt e2.lt
  have e3 := (e2.kept hb3).alloc (.cells #[.int .i64 a.kd, .int .i64 a.at_] 28); have s3 := (s2.keep hb3).alloc (.cells #[.int .i64 a.kd, .int .i64 a.at_] 28)
  have b3 := (b2.trans (hb3.mono hB2)).alloc (Nat.le_trans hB2 hb3.size) (.cells #[.int .i64 a.kd, .int .i64 a.at_] 28)
  have f3 := Bx.new u3 28 [.int .i64 a.kd, .int .i64 a.at_]
  clear e2 s2 b2 hb3 hB2
  go_upto_region 5 with fail
  obtain ⟨Q, hQ⟩ : ∃ Q, u3.heap.size = Q := ⟨_, rfl⟩
  rw [hQ] at f3 ⊢
  generalize u3.alloc (.cells #[.int .i64 a.kd, .int .i64 a.at_] 28) = w3 at e3 s3 b3 f3 ⊢
  clear hQ
  go_wp2_with (refine rt_load rfl (.tmp 5) rfl rfl e3 rfl ?_)
  refine (tiset_any r A n c l true now most _ s3).mono ?_
  rintro e u4 ⟨he, hb4⟩
  rw [HX2.out] at he
  dsimp only at he
  subst he
  have hB3 : B ≤ w3.heap.size := Nat.le_of_lt e3.lt
  have e4 := (e3.kept hb4).alloc (.cells #[.int .i64 b.kd, .int .i64 b.at_] 28); have f4 := (f3.kept hb4).alloc (.cells #[.int .i64 b.kd, .int .i64 b.at_] 28); have s4 := (s3.keep hb4).alloc (.cells #[.int .i64 b.kd, .int .i64 b.at_] 28)
  have b4 := (b3.trans (hb4.mono hB3)).alloc (Nat.le_trans hB3 hb4.size) (.cells #[.int .i64 b.kd, .int .i64 b.at_] 28)
  have hB4 : B ≤ (u4.alloc (.cells #[.int .i64 b.kd, .int .i64 b.at_] 28)).heap.size := by rw [World.size_alloc]; exact Nat.le_trans hB3 (Nat.le_trans hb4.size (Nat.le_succ _))
  have g4 := Bx.new u4 28 [.int .i64 b.kd, .int .i64 b.at_]
  clear e3 s3 b3 f3 hb4 hB3
  go_upto_region 6 with fail
  obtain ⟨R, hR⟩ : ∃ R, u4.heap.size = R := ⟨_, rfl⟩
  rw [hR] at g4 ⊢
  generalize u4.alloc (.cells #[.int .i64 b.kd, .int .i64 b.at_] 28) = w4 at e4 s4 b4 f4 g4 hB4 ⊢
  clear hR
  clear HX1 HX2
  go_wp2_with fail
  go_loopw [16, 17] (fun s16 s17 wr => ∃ k : Nat, k ≤ n ∧ s17 = .int .i64 (k : Int) ∧ s16 = .bool (anyO (l.take k)) ∧ w4 = wr) (fun _ i _ => n - (intOf i).toNat)
  case atStart => exact ⟨0, Nat.zero_le _, rfl, rfl, rfl⟩
  case round =>
    obtain ⟨k, hkn, rfl, rfl, rfl⟩ := hrel
    by_cases hlt : k < n
    case neg =>
      obtain rfl : k = n := by omega
      have hd : decide (k < k) = false := decide_eq_false (by omega)
      rw [show l.take k = l by rw [← HL.out]; exact List.take_length]
      clear s4
      cases han : anyO l with
      | false =>
        have hza := HNO.out han
        have hzb := HNO2.out han
        have hq1 : tmB a = true := by rw [hza]; decide
        have ka : a.kd = 0 := by rw [hza]; rfl
        have kb : b.kd = 0 := by rw [hzb]; rfl
        have HQ1 := Lib.hid hq1; have KA := Lib.hid ka; have KB := Lib.hid kb
        clear HNO HNO2 HYES han hza hzb hq1 ka kb
        go_upto_region 13 with fail
        go_wp2_with (refine tm_load rfl (.tmp 12) rfl rfl f4 rfl ?_)
        refine (timay_any a _).mono ?_
        rintro e w6 ⟨rfl, hb6⟩
        rw [HQ1.out]
        have f6 := f4.kept hb6; have g6 := g4.kept hb6; have e6 := e4.kept hb6; have bz : Below B w w6 := b4.trans (hb6.mono hB4)
        have xx0 := f6.cell 0 rfl; have xx1 := f6.cell 1 rfl; have yy0 := g6.cell 0 rfl; have yy1 := g6.cell 1 rfl; have rr0 := e6.cell 0 rfl
        rw [KA.out] at xx0
        rw [KB.out] at yy0
        go_wp2_with fail
        go_ret
        exact ⟨rfl, bz⟩
      | true =>
        obtain ⟨q1, q2, q3, q4, q5⟩ := HYES.out han
        clear HNO HNO2 HYES han
        have HQ1 := Lib.hid q1
        have k2 : decide (a.at_ ≤ b.at_) = true := decide_eq_true q2
        have k3 : decide (b.at_ ≤ now + most) = true := decide_eq_true q3
        have hmw := HMW.out
        have KB := Lib.hid q5
        cases pb with
        | true =>
          have KA := Lib.hid (show a.kd = 2 by simpa using q4)
          clear q1 q2 q3 q4 q5
          cases hh : r.has with
          | true =>
            have KH := Lib.hid hh
            clear hh
            go_upto_region 13 with fail
            go_wp2_with (refine tm_load rfl (.tmp 12) rfl rfl f4 rfl ?_)
            refine (timay_any a _).mono ?_
            rintro e w6 ⟨rfl, hb6⟩
            rw [HQ1.out]
            have f6 := f4.kept hb6; have g6 := g4.kept hb6; have e6 := e4.kept hb6; have bz : Below B w w6 := b4.trans (hb6.mono hB4)
            have xx0 := f6.cell 0 rfl; have xx1 := f6.cell 1 rfl; have yy0 := g6.cell 0 rfl; have yy1 := g6.cell 1 rfl; have rr0 := e6.cell 0 rfl
            rw [KA.out] at xx0
            rw [KB.out] at yy0
            rw [KH.out] at rr0
            go_wp2_with fail
            go_ret
            exact ⟨rfl, bz⟩
          | false =>
            have KH := Lib.hid hh
            clear hh
            go_upto_region 13 with fail
            go_wp2_with (refine tm_load rfl (.tmp 12) rfl rfl f4 rfl ?_)
            refine (timay_any a _).mono ?_
            rintro e w6 ⟨rfl, hb6⟩
            rw [HQ1.out]
            have f6 := f4.kept hb6; have g6 := g4.kept hb6; have e6 := e4.kept hb6; have bz : Below B w w6 := b4.trans (hb6.mono hB4)
            have xx0 := f6.cell 0 rfl; have xx1 := f6.cell 1 rfl; have yy0 := g6.cell 0 rfl; have yy1 := g6.cell 1 rfl; have rr0 := e6.cell 0 rfl
            rw [KA.out] at xx0
            rw [KB.out] at yy0
            rw [KH.out] at rr0
            go_wp2_with fail
            go_ret
            exact ⟨rfl, bz⟩
        | false =>
          cases hh : r.has with
          | true =>
            rw [hh] at q4
            have KA := Lib.hid (show a.kd = 1 by simpa using q4)
            have KH := Lib.hid hh
            clear q1 q2 q3 q4 q5 hh
            go_upto_region 13 with fail
            go_wp2_with (refine tm_load rfl (.tmp 12) rfl rfl f4 rfl ?_)
            refine (timay_any a _).mono ?_
            rintro e w6 ⟨rfl, hb6⟩
            rw [HQ1.out]
            have f6 := f4.kept hb6; have g6 := g4.kept hb6; have e6 := e4.kept hb6; have bz : Below B w w6 := b4.trans (hb6.mono hB4)
            have xx0 := f6.cell 0 rfl; have xx1 := f6.cell 1 rfl; have yy0 := g6.cell 0 rfl; have yy1 := g6.cell 1 rfl; have rr0 := e6.cell 0 rfl
            rw [KA.out] at xx0
            rw [KB.out] at yy0
            rw [KH.out] at rr0
            go_wp2_with fail
            go_ret
            exact ⟨rfl, bz⟩
          | false =>
            rw [hh] at q4
            have KA := Lib.hid (show a.kd = 2 by simpa using q4)
            have KH := Lib.hid hh
            clear q1 q2 q3 q4 q5 hh
            go_upto_region 13 with fail
            go_wp2_with (refine tm_load rfl (.tmp 12) rfl rfl f4 rfl ?_)
            refine (timay_any a _).mono ?_
            rintro e w6 ⟨rfl, hb6⟩
            rw [HQ1.out]
            have f6 := f4.kept hb6; have g6 := g4.kept hb6; have e6 := e4.kept hb6; have bz : Below B w w6 := b4.trans (hb6.mono hB4)
            have xx0 := f6.cell 0 rfl; have xx1 := f6.cell 1 rfl; have yy0 := g6.cell 0 rfl; have yy1 := g6.cell 1 rfl; have rr0 := e6.cell 0 rfl
            rw [KA.out] at xx0
            rw [KB.out] at yy0
            rw [KH.out] at rr0
            go_wp2_with fail
            go_ret
            exact ⟨rfl, bz⟩
    case pos =>
    have hd : decide (k < n) = true := decide_eq_true hlt
    have hkl : k < l.length := by rw [HL.out]; exact hlt
    have hany := anyO_take hkl
    obtain ⟨tb, tof, rfl, htl, hc⟩ := s4.rd.at_ (by omega)
    have z5 := (prt_at hc hlt).c5; have z6 := (prt_at hc hlt).c6
    obtain ⟨p, hp⟩ : ∃ p, ge l k = p := ⟨_, rfl⟩
    rw [hp] at hany z5 z6
    obtain ⟨an, han⟩ : ∃ an, anyO (l.take k) = an := ⟨_, rfl⟩
    rw [han] at hany ⊢
    unfold outB at hany
    obtain ⟨ca, hca⟩ : ∃ ca, p.came = ca := ⟨_, rfl⟩
    obtain ⟨lo, hlo⟩ : ∃ lo, p.lost = lo := ⟨_, rfl⟩
    rw [hca] at hany z5
    rw [hlo] at hany z6
    have HANY := Lib.hid hany
    clear hc hp hkl hany han hca hlo htl HNO HNO2 HYES HMW
    cases an with
    | true =>
      go_wp2_with fail
      go_roundw
      case rel => exact ⟨k + 1, by omega, by go_num, by rw [HANY.out]; rfl, by first | trivial | rfl⟩
      case measure => simp [intOf]; omega
    | false =>
      cases ca with
      | true =>
        go_wp2_with fail
        go_roundw
        case rel => exact ⟨k + 1, by omega, by go_num, by rw [HANY.out]; rfl, by first | trivial | rfl⟩
        case measure => simp [intOf]; omega
      | false =>
        cases lo with
        | true =>
          go_wp2_with fail
          go_roundw
          case rel => exact ⟨k + 1, by omega, by go_num, by rw [HANY.out]; rfl, by first | trivial | rfl⟩
          case measure => simp [intOf]; omega
        | false =>
          go_wp2_with fail
          go_roundw
          case rel => exact ⟨k + 1, by omega, by go_num, by rw [HANY.out]; rfl, by first | trivial | rfl⟩
          case measure => simp [intOf]; omega
end Go.Proofs.Ytbkmadlekigjfaa.timerWaits
