/- XmpTogether: the walk. -/
import Derived.Test.YtookmfgnhflpaaaXmAwake
import Derived.Test.YtookmfgnhflpaaaXmSh
import Derived.Deep.QuietTactic
import Derived.BigQuiet
import Derived.IntWalk
import Derived.Deep.AppendLies
namespace Go.Proofs.Ytookmfgnhflpaaa.xmpTogether
open Go.RowKit
set_option linter.unusedVariables false
set_option linter.unusedSimpArgs false

set_option maxRecDepth 100000 in
set_option maxHeartbeats 16000000 in
theorem walk (A : Option Addr) (n cc : Nat) (l : List Sp) (mss : Int) (w : World) (hs : Ss w A n cc l) :
    Calls Try.prog 5 #[.slice A n cc, .int .i64 mss] w fun e w' => e = .returned (.bool true) ∧ Below w.heap.size w w' := by
  obtain ⟨B, hB⟩ : ∃ B, w.heap.size = B := ⟨_, rfl⟩
  rw [hB]
  have HB := Lib.hid hB
  have hl := hs.rd.len
  have m1 := hs.le
  have m2 := hs.max
  have m3 : n ≤ 9223372036854775807 := by unfold maxLen at m2; omega
  clear m1 m2 hB
  have HL := Lib.hid hl; have HS := Lib.hid hs
  clear hl hs
  go_enter Try.func5, Try.ntmps5
  go_wp2_with fail
  refine (xmawake_any _).mono ?_
  rintro e w2 ⟨rfl, b2⟩
  rw [HB.out] at b2
  by_cases c0 : 4 < n
  case pos =>
    have d0 : decide (4 < n) = true := decide_eq_true c0
    have x0 : decide ((4 : Int) < (n : Int)) = true := decide_eq_true (by omega)
    go_wp2_with fail
    go_ret
    exact ⟨rfl, b2⟩
  case neg =>
  have d0 : decide (4 < n) = false := decide_eq_false c0
  have x0 : decide ((4 : Int) < (n : Int)) = false := decide_eq_false (by omega)
  by_cases c1 : mss < 1
  case pos =>
    have d1 : decide (mss < 1) = true := decide_eq_true c1
    go_wp2_with fail
    go_ret
    exact ⟨rfl, b2⟩
  case neg =>
  have d1 : decide (mss < 1) = false := decide_eq_false c1
  by_cases c2 : 1460 < mss
  case pos =>
    have d2 : decide (1460 < mss) = true := decide_eq_true c2
    go_wp2_with fail
    go_ret
    exact ⟨rfl, b2⟩
  case neg =>
  have d2 : decide (1460 < mss) = false := decide_eq_false c2
  have hn4 : n ≤ 4 := by omega
  have hm0 : 1 ≤ mss := by omega
  have hm1 : mss ≤ 1460 := by omega
  clear c0 c1 c2 m3
  go_wp2_with fail
  go_loopw [6, 7, 8, 9] (fun s sm fn i wr => ∃ (k : Nat) (x y : Bool), k ≤ n ∧ i = .int .i64 (k : Int) ∧ s = .int .i64 (shSum l mss k) ∧ sm = .bool x ∧ fn = .bool y ∧ Hid (x = true → ∀ j, j < k → sp l j = sp l 0) ∧ Hid (y = true → ∀ j, j < k → OkW (sp l j)) ∧ Below B w wr) (fun _ _ _ i _ => n - (intOf i).toNat)
  case atStart => exact ⟨0, true, true, Nat.zero_le _, rfl, rfl, rfl, rfl, Lib.hid (fun _ j hj => absurd hj (by omega)), Lib.hid (fun _ j hj => absurd hj (by omega)), b2⟩
  case round =>
    obtain ⟨k, x, y, hkn, rfl, rfl, rfl, rfl, HX, HY, br⟩ := hrel
    have hzr : B ≤ wr.heap.size := by have := br.size; rw [HB.out] at this; exact this
    have hsr : Ss wr A n cc l := HS.out.keep (by rw [HB.out]; exact br)
    have hb0 := sh_bd (l := l) (mss := mss) hm0 k
    by_cases hlt : k < n
    · have dlt : decide (k < n) = true := decide_eq_true hlt
      have hb1 := share_bd (l := l) (i := k) (mss := mss) hm0
      have hsn : shSum l mss (k + 1) = shSum l mss k + shareR l (k : Int) mss := rfl
      obtain ⟨S, hS⟩ : ∃ S, shSum l mss k = S := ⟨_, rfl⟩
      obtain ⟨v, hv⟩ : ∃ v, shareR l (k : Int) mss = v := ⟨_, rfl⟩
      have pp := fun w hs => xwshare_any A n cc l (k : Int) mss w hs
      rw [hv] at hsn hb1 pp
      rw [hS] at hsn hb0 ⊢
      have hmk : mss * (k : Int) ≤ 1460 * 4 := Int.mul_le_mul hm1 (by omega) (by omega) (by omega)
      have i1 : IntKind.i64.wrap (S + v) = S + v := IntWalk.i64_in _ (by omega)
      have dv0 : decide (v < 0) = false := decide_eq_false (by omega)
      have dv1 : decide (mss < v) = false := decide_eq_false (by omega)
      have v0 := hb1.1; have v1 := hb1.2; have s0 := hb0.1; have s1 : S ≤ 5840 := by omega
      have HSN := Lib.hid hsn
      clear hS hv hsn hb0 hb1 hmk
      go_wp2_with fail
      refine (pp _ hsr).mono ?_
      rintro e wx ⟨rfl, hbx⟩
      have bx : Below B w wx := br.trans (hbx.mono hzr)
      have hsx : Ss wx A n cc l := HS.out.keep (by rw [HB.out]; exact bx)
      clear hbx br hsr hzr pp
      obtain ⟨b, o, hA, hbl, hc⟩ := hsx.rd.at_ (by omega)
      subst hA
      obtain ⟨y0, y1⟩ := hc k hlt
      obtain ⟨x0, x1⟩ := hc 0 (by omega)
      obtain ⟨⟨p, r⟩, hp⟩ : ∃ p, sp l k = p := ⟨_, rfl⟩
      obtain ⟨⟨p0, r0⟩, hp0⟩ : ∃ p, sp l 0 = p := ⟨_, rfl⟩
      rw [hp] at y0 y1
      rw [hp0] at x0 x1
      simp only [Nat.zero_mul, Nat.add_zero] at y0 y1 x0 x1
      have HP := Lib.hid hp; have HP0 := Lib.hid hp0
      clear hc hp hp0 hsx
      go_upto_region 14 with fail
      cases x with
      | false =>
        go_quiet (fail)
        cases y with
        | false =>
          go_wp2_with fail
          go_roundw
          case rel => exact ⟨k + 1, false, false, by omega, by go_num, by rw [HSN.out], rfl, rfl, Lib.hid (fun h => by cases h), Lib.hid (fun h => by cases h), below_drewN bx _⟩
          case measure => simp [intOf]; omega
        | true =>
          by_cases f0 : 1 ≤ p
          case neg =>
            have g0 : decide (1 ≤ p) = false := decide_eq_false f0
            go_wp2_with fail
            go_roundw
            case rel => exact ⟨k + 1, false, false, by omega, by go_num, by rw [HSN.out], rfl, rfl, Lib.hid (fun h => by cases h), Lib.hid (fun h => by cases h), below_drewN bx _⟩
            case measure => simp [intOf]; omega
          case pos =>
          have g0 : decide (1 ≤ p) = true := decide_eq_true f0
          by_cases f1 : p ≤ 1073741824
          case neg =>
            have g1 : decide (p ≤ 1073741824) = false := decide_eq_false f1
            go_wp2_with fail
            go_roundw
            case rel => exact ⟨k + 1, false, false, by omega, by go_num, by rw [HSN.out], rfl, rfl, Lib.hid (fun h => by cases h), Lib.hid (fun h => by cases h), below_drewN bx _⟩
            case measure => simp [intOf]; omega
          case pos =>
          have g1 : decide (p ≤ 1073741824) = true := decide_eq_true f1
          by_cases f2 : 1 ≤ r
          case neg =>
            have g2 : decide (1 ≤ r) = false := decide_eq_false f2
            go_wp2_with fail
            go_roundw
            case rel => exact ⟨k + 1, false, false, by omega, by go_num, by rw [HSN.out], rfl, rfl, Lib.hid (fun h => by cases h), Lib.hid (fun h => by cases h), below_drewN bx _⟩
            case measure => simp [intOf]; omega
          case pos =>
          have g2 : decide (1 ≤ r) = true := decide_eq_true f2
          by_cases f3 : r ≤ 1048576
          case neg =>
            have g3 : decide (r ≤ 1048576) = false := decide_eq_false f3
            go_wp2_with fail
            go_roundw
            case rel => exact ⟨k + 1, false, false, by omega, by go_num, by rw [HSN.out], rfl, rfl, Lib.hid (fun h => by cases h), Lib.hid (fun h => by cases h), below_drewN bx _⟩
            case measure => simp [intOf]; omega
          case pos =>
          have g3 : decide (r ≤ 1048576) = true := decide_eq_true f3
          have HF : Hid (OkW (p, r)) := Lib.hid ⟨f0, f1, f2, f3⟩
          go_wp2_with fail
          go_roundw
          case rel => exact ⟨k + 1, false, true, by omega, by go_num, by rw [HSN.out], rfl, rfl, Lib.hid (fun h => by cases h), Lib.hid (fun _ j hj => by
            by_cases e : j = k
            · subst e; rw [HP.out]; exact HF.out
            · exact HY.out rfl j (by omega)), below_drewN bx _⟩
          case measure => simp [intOf]; omega
      | true =>
        by_cases ha : p = p0
        case pos =>
          by_cases hb : r = r0
          case pos =>
            subst ha hb
            go_quiet (fail)
            cases y with
            | false =>
              go_wp2_with fail
              go_roundw
              case rel => exact ⟨k + 1, true, false, by omega, by go_num, by rw [HSN.out], rfl, rfl, Lib.hid (fun _ j hj => by
                by_cases e : j = k
                · subst e; rw [HP.out, HP0.out]
                · exact HX.out rfl j (by omega)), Lib.hid (fun h => by cases h), below_drewN bx _⟩
              case measure => simp [intOf]; omega
            | true =>
              by_cases f0 : 1 ≤ p
              case neg =>
                have g0 : decide (1 ≤ p) = false := decide_eq_false f0
                go_wp2_with fail
                go_roundw
                case rel => exact ⟨k + 1, true, false, by omega, by go_num, by rw [HSN.out], rfl, rfl, Lib.hid (fun _ j hj => by
                  by_cases e : j = k
                  · subst e; rw [HP.out, HP0.out]
                  · exact HX.out rfl j (by omega)), Lib.hid (fun h => by cases h), below_drewN bx _⟩
                case measure => simp [intOf]; omega
              case pos =>
              have g0 : decide (1 ≤ p) = true := decide_eq_true f0
              by_cases f1 : p ≤ 1073741824
              case neg =>
                have g1 : decide (p ≤ 1073741824) = false := decide_eq_false f1
                go_wp2_with fail
                go_roundw
                case rel => exact ⟨k + 1, true, false, by omega, by go_num, by rw [HSN.out], rfl, rfl, Lib.hid (fun _ j hj => by
                  by_cases e : j = k
                  · subst e; rw [HP.out, HP0.out]
                  · exact HX.out rfl j (by omega)), Lib.hid (fun h => by cases h), below_drewN bx _⟩
                case measure => simp [intOf]; omega
              case pos =>
              have g1 : decide (p ≤ 1073741824) = true := decide_eq_true f1
              by_cases f2 : 1 ≤ r
              case neg =>
                have g2 : decide (1 ≤ r) = false := decide_eq_false f2
                go_wp2_with fail
                go_roundw
                case rel => exact ⟨k + 1, true, false, by omega, by go_num, by rw [HSN.out], rfl, rfl, Lib.hid (fun _ j hj => by
                  by_cases e : j = k
                  · subst e; rw [HP.out, HP0.out]
                  · exact HX.out rfl j (by omega)), Lib.hid (fun h => by cases h), below_drewN bx _⟩
                case measure => simp [intOf]; omega
              case pos =>
              have g2 : decide (1 ≤ r) = true := decide_eq_true f2
              by_cases f3 : r ≤ 1048576
              case neg =>
                have g3 : decide (r ≤ 1048576) = false := decide_eq_false f3
                go_wp2_with fail
                go_roundw
                case rel => exact ⟨k + 1, true, false, by omega, by go_num, by rw [HSN.out], rfl, rfl, Lib.hid (fun _ j hj => by
                  by_cases e : j = k
                  · subst e; rw [HP.out, HP0.out]
                  · exact HX.out rfl j (by omega)), Lib.hid (fun h => by cases h), below_drewN bx _⟩
                case measure => simp [intOf]; omega
              case pos =>
              have g3 : decide (r ≤ 1048576) = true := decide_eq_true f3
              have HF : Hid (OkW (p, r)) := Lib.hid ⟨f0, f1, f2, f3⟩
              go_wp2_with fail
              go_roundw
              case rel => exact ⟨k + 1, true, true, by omega, by go_num, by rw [HSN.out], rfl, rfl, Lib.hid (fun _ j hj => by
                by_cases e : j = k
                · subst e; rw [HP.out, HP0.out]
                · exact HX.out rfl j (by omega)), Lib.hid (fun _ j hj => by
                by_cases e : j = k
                · subst e; rw [HP.out]; exact HF.out
                · exact HY.out rfl j (by omega)), below_drewN bx _⟩
              case measure => simp [intOf]; omega
          case neg =>
            have hb2 : (r == r0) = false := by simpa using hb
            subst ha
            go_quiet (fail)
            cases y with
            | false =>
              go_wp2_with fail
              go_roundw
              case rel => exact ⟨k + 1, false, false, by omega, by go_num, by rw [HSN.out], rfl, rfl, Lib.hid (fun h => by cases h), Lib.hid (fun h => by cases h), below_drewN bx _⟩
              case measure => simp [intOf]; omega
            | true =>
              by_cases f0 : 1 ≤ p
              case neg =>
                have g0 : decide (1 ≤ p) = false := decide_eq_false f0
                go_wp2_with fail
                go_roundw
                case rel => exact ⟨k + 1, false, false, by omega, by go_num, by rw [HSN.out], rfl, rfl, Lib.hid (fun h => by cases h), Lib.hid (fun h => by cases h), below_drewN bx _⟩
                case measure => simp [intOf]; omega
              case pos =>
              have g0 : decide (1 ≤ p) = true := decide_eq_true f0
              by_cases f1 : p ≤ 1073741824
              case neg =>
                have g1 : decide (p ≤ 1073741824) = false := decide_eq_false f1
                go_wp2_with fail
                go_roundw
                case rel => exact ⟨k + 1, false, false, by omega, by go_num, by rw [HSN.out], rfl, rfl, Lib.hid (fun h => by cases h), Lib.hid (fun h => by cases h), below_drewN bx _⟩
                case measure => simp [intOf]; omega
              case pos =>
              have g1 : decide (p ≤ 1073741824) = true := decide_eq_true f1
              by_cases f2 : 1 ≤ r
              case neg =>
                have g2 : decide (1 ≤ r) = false := decide_eq_false f2
                go_wp2_with fail
                go_roundw
                case rel => exact ⟨k + 1, false, false, by omega, by go_num, by rw [HSN.out], rfl, rfl, Lib.hid (fun h => by cases h), Lib.hid (fun h => by cases h), below_drewN bx _⟩
                case measure => simp [intOf]; omega
              case pos =>
              have g2 : decide (1 ≤ r) = true := decide_eq_true f2
              by_cases f3 : r ≤ 1048576
              case neg =>
                have g3 : decide (r ≤ 1048576) = false := decide_eq_false f3
                go_wp2_with fail
                go_roundw
                case rel => exact ⟨k + 1, false, false, by omega, by go_num, by rw [HSN.out], rfl, rfl, Lib.hid (fun h => by cases h), Lib.hid (fun h => by cases h), below_drewN bx _⟩
                case measure => simp [intOf]; omega
              case pos =>
              have g3 : decide (r ≤ 1048576) = true := decide_eq_true f3
              have HF : Hid (OkW (p, r)) := Lib.hid ⟨f0, f1, f2, f3⟩
              go_wp2_with fail
              go_roundw
              case rel => exact ⟨k + 1, false, true, by omega, by go_num, by rw [HSN.out], rfl, rfl, Lib.hid (fun h => by cases h), Lib.hid (fun _ j hj => by
                by_cases e : j = k
                · subst e; rw [HP.out]; exact HF.out
                · exact HY.out rfl j (by omega)), below_drewN bx _⟩
              case measure => simp [intOf]; omega
        case neg =>
          have ha2 : (p == p0) = false := by simpa using ha
          go_quiet (fail)
          cases y with
          | false =>
            go_wp2_with fail
            go_roundw
            case rel => exact ⟨k + 1, false, false, by omega, by go_num, by rw [HSN.out], rfl, rfl, Lib.hid (fun h => by cases h), Lib.hid (fun h => by cases h), below_drewN bx _⟩
            case measure => simp [intOf]; omega
          | true =>
            by_cases f0 : 1 ≤ p
            case neg =>
              have g0 : decide (1 ≤ p) = false := decide_eq_false f0
              go_wp2_with fail
              go_roundw
              case rel => exact ⟨k + 1, false, false, by omega, by go_num, by rw [HSN.out], rfl, rfl, Lib.hid (fun h => by cases h), Lib.hid (fun h => by cases h), below_drewN bx _⟩
              case measure => simp [intOf]; omega
            case pos =>
            have g0 : decide (1 ≤ p) = true := decide_eq_true f0
            by_cases f1 : p ≤ 1073741824
            case neg =>
              have g1 : decide (p ≤ 1073741824) = false := decide_eq_false f1
              go_wp2_with fail
              go_roundw
              case rel => exact ⟨k + 1, false, false, by omega, by go_num, by rw [HSN.out], rfl, rfl, Lib.hid (fun h => by cases h), Lib.hid (fun h => by cases h), below_drewN bx _⟩
              case measure => simp [intOf]; omega
            case pos =>
            have g1 : decide (p ≤ 1073741824) = true := decide_eq_true f1
            by_cases f2 : 1 ≤ r
            case neg =>
              have g2 : decide (1 ≤ r) = false := decide_eq_false f2
              go_wp2_with fail
              go_roundw
              case rel => exact ⟨k + 1, false, false, by omega, by go_num, by rw [HSN.out], rfl, rfl, Lib.hid (fun h => by cases h), Lib.hid (fun h => by cases h), below_drewN bx _⟩
              case measure => simp [intOf]; omega
            case pos =>
            have g2 : decide (1 ≤ r) = true := decide_eq_true f2
            by_cases f3 : r ≤ 1048576
            case neg =>
              have g3 : decide (r ≤ 1048576) = false := decide_eq_false f3
              go_wp2_with fail
              go_roundw
              case rel => exact ⟨k + 1, false, false, by omega, by go_num, by rw [HSN.out], rfl, rfl, Lib.hid (fun h => by cases h), Lib.hid (fun h => by cases h), below_drewN bx _⟩
              case measure => simp [intOf]; omega
            case pos =>
            have g3 : decide (r ≤ 1048576) = true := decide_eq_true f3
            have HF : Hid (OkW (p, r)) := Lib.hid ⟨f0, f1, f2, f3⟩
            go_wp2_with fail
            go_roundw
            case rel => exact ⟨k + 1, false, true, by omega, by go_num, by rw [HSN.out], rfl, rfl, Lib.hid (fun h => by cases h), Lib.hid (fun _ j hj => by
              by_cases e : j = k
              · subst e; rw [HP.out]; exact HF.out
              · exact HY.out rfl j (by omega)), below_drewN bx _⟩
            case measure => simp [intOf]; omega
    · obtain rfl : k = n := by omega
      have dlt : decide (k < k) = false := decide_eq_false (by omega)
      have hmk : mss * (k : Int) ≤ 1460 * 4 := Int.mul_le_mul hm1 (by omega) (by omega) (by omega)
      have hle := sh_sum_le (l := l) (mss := mss) hm0 hm1 (by rw [HL.out]; omega)
      have hge := fun hl hok => sh_sum_ge (l := l) (mss := mss) hm0 hm1 (by rw [HL.out]; omega) hl hok
      rw [HL.out] at hle hge
      obtain ⟨S, hS⟩ : ∃ S, shSum l mss k = S := ⟨_, rfl⟩
      rw [hS] at hle hb0 hge ⊢
      have HS0 : Hid (k = 0 → S = 0) := Lib.hid (fun h => by subst h; exact hS.symm)
      clear hS
      have s0 := hb0.1
      have ds : decide (mss < S) = false := decide_eq_false (by omega)
      have im : IntKind.i64.wrap (mss - (k : Int)) = mss - (k : Int) := IntWalk.i64_in _ (by omega)
      have hn : k = 0 ∨ k = 1 ∨ 2 ≤ k := by omega
      have HGE := Lib.hid hge
      clear hge hb0 hmk
      rcases hn with h0 | h1 | h2
      · subst h0
        obtain rfl : S = 0 := HS0.out rfl
        have dm : decide (0 < mss) = true := decide_eq_true (by omega)
        cases y with
        | false =>
          cases x with
          | false =>
            go_wp2_with fail
            go_ret
            exact ⟨rfl, br⟩
          | true =>
            go_wp2_with fail
            go_ret
            exact ⟨rfl, br⟩
        | true =>
          cases x with
          | false =>
            go_wp2_with fail
            go_ret
            exact ⟨rfl, br⟩
          | true =>
            go_wp2_with fail
            go_ret
            exact ⟨rfl, br⟩
      · subst h1
        have dp : decide ((0 : Nat) < 1) = true := rfl
        cases y with
        | false =>
          cases x with
          | false =>
            go_wp2_with fail
            go_ret
            exact ⟨rfl, br⟩
          | true =>
            obtain ⟨sv, hsv⟩ : ∃ v, shareR l 0 mss = v := ⟨_, rfl⟩
            have p0 := fun w hs => xwshare_any A 1 cc l 0 mss w hs
            rw [hsv] at p0
            clear hsv
            go_wp2_with fail
            refine (p0 _ hsr).mono ?_
            rintro e wy ⟨rfl, hby⟩
            have by_ : Below B w wy := br.trans (hby.mono hzr)
            have hsy : Ss wy A 1 cc l := HS.out.keep (by rw [HB.out]; exact by_)
            have hzy : B ≤ wy.heap.size := Nat.le_trans hzr hby.size
            clear hby hsr
            go_wp2_with fail
            refine (p0 _ hsy).mono ?_
            rintro e wz ⟨rfl, hbz⟩
            have bz : Below B w wz := by_.trans (hbz.mono hzy)
            clear hbz hsy
            go_wp2_with fail
            go_ret
            exact ⟨rfl, bz⟩
        | true =>
          have hg := HGE.out (by omega) (HY.out rfl)
          obtain rfl : mss = S := by omega
          clear hg
          cases x with
          | false =>
            go_wp2_with fail
            go_ret
            exact ⟨rfl, br⟩
          | true =>
            obtain ⟨sv, hsv⟩ : ∃ v, shareR l 0 mss = v := ⟨_, rfl⟩
            have p0 := fun w hs => xwshare_any A 1 cc l 0 mss w hs
            rw [hsv] at p0
            clear hsv
            go_wp2_with fail
            refine (p0 _ hsr).mono ?_
            rintro e wy ⟨rfl, hby⟩
            have by_ : Below B w wy := br.trans (hby.mono hzr)
            have hsy : Ss wy A 1 cc l := HS.out.keep (by rw [HB.out]; exact by_)
            have hzy : B ≤ wy.heap.size := Nat.le_trans hzr hby.size
            clear hby hsr
            go_wp2_with fail
            refine (p0 _ hsy).mono ?_
            rintro e wz ⟨rfl, hbz⟩
            have bz : Below B w wz := by_.trans (hbz.mono hzy)
            clear hbz hsy
            go_wp2_with fail
            go_ret
            exact ⟨rfl, bz⟩
      · have dk1 : ((k : Int) == 1) = false := by simp; omega
        have dk1' : (k == 1) = false := by simp; omega
        have dk0 : ((k : Int) == 0) = false := by simp; omega
        have dk0' : (k == 0) = false := by simp; omega
        have dp : decide (0 < k) = true := decide_eq_true (by omega)
        cases y with
        | false =>
          cases x with
          | false =>
            go_wp2_with fail
            go_ret
            exact ⟨rfl, br⟩
          | true =>
            have hsm := share_same (l := l) (i := 0) (k := k - 1) (mss := mss) (by rw [HL.out]; omega) (by rw [HL.out]; omega) (HX.out rfl (k - 1) (by omega)).symm
            rw [show ((k - 1 : Nat) : Int) = (k : Int) - 1 by omega] at hsm
            obtain ⟨sv, hsv⟩ : ∃ v, shareR l ((0 : Nat) : Int) mss = v := ⟨_, rfl⟩
            rw [hsv] at hsm
            have p0 := fun w hs => xwshare_any A k cc l 0 mss w hs
            rw [show shareR l 0 mss = sv from hsv] at p0
            have p1 := fun w hs => xwshare_any A k cc l ((k : Int) - 1) mss w hs
            rw [← hsm] at p1
            have ik : IntKind.i64.wrap ((k : Int) - 1) = (k : Int) - 1 := IntWalk.i64_in _ (by omega)
            clear hsm hsv
            go_wp2_with fail
            refine (p0 _ hsr).mono ?_
            rintro e wy ⟨rfl, hby⟩
            have by_ : Below B w wy := br.trans (hby.mono hzr)
            have hsy : Ss wy A k cc l := HS.out.keep (by rw [HB.out]; exact by_)
            have hzy : B ≤ wy.heap.size := Nat.le_trans hzr hby.size
            clear hby hsr
            go_wp2_with fail
            refine (p1 _ hsy).mono ?_
            rintro e wz ⟨rfl, hbz⟩
            have bz : Below B w wz := by_.trans (hbz.mono hzy)
            clear hbz hsy
            go_wp2_with fail
            go_ret
            exact ⟨rfl, bz⟩
        | true =>
          have hg := HGE.out (by omega) (HY.out rfl)
          have dd : decide (S < mss - (k : Int)) = false := decide_eq_false (by omega)
          clear hg
          cases x with
          | false =>
            go_wp2_with fail
            go_ret
            exact ⟨rfl, br⟩
          | true =>
            have hsm := share_same (l := l) (i := 0) (k := k - 1) (mss := mss) (by rw [HL.out]; omega) (by rw [HL.out]; omega) (HX.out rfl (k - 1) (by omega)).symm
            rw [show ((k - 1 : Nat) : Int) = (k : Int) - 1 by omega] at hsm
            obtain ⟨sv, hsv⟩ : ∃ v, shareR l ((0 : Nat) : Int) mss = v := ⟨_, rfl⟩
            rw [hsv] at hsm
            have p0 := fun w hs => xwshare_any A k cc l 0 mss w hs
            rw [show shareR l 0 mss = sv from hsv] at p0
            have p1 := fun w hs => xwshare_any A k cc l ((k : Int) - 1) mss w hs
            rw [← hsm] at p1
            have ik : IntKind.i64.wrap ((k : Int) - 1) = (k : Int) - 1 := IntWalk.i64_in _ (by omega)
            clear hsm hsv
            go_wp2_with fail
            refine (p0 _ hsr).mono ?_
            rintro e wy ⟨rfl, hby⟩
            have by_ : Below B w wy := br.trans (hby.mono hzr)
            have hsy : Ss wy A k cc l := HS.out.keep (by rw [HB.out]; exact by_)
            have hzy : B ≤ wy.heap.size := Nat.le_trans hzr hby.size
            clear hby hsr
            go_wp2_with fail
            refine (p1 _ hsy).mono ?_
            rintro e wz ⟨rfl, hbz⟩
            have bz : Below B w wz := by_.trans (hbz.mono hzy)
            clear hbz hsy
            go_wp2_with fail
            go_ret
            exact ⟨rfl, bz⟩
end Go.Proofs.Ytookmfgnhflpaaa.xmpTogether
