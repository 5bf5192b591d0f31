/- The reference of package ecf: Pick as a contract of the call. -/
import Derived.Test.YtmclffbjdkoneaaEcRef1
import Derived.Test.YtmclffbjdkoneaaTail2
import Derived.WalkKit
import Derived.WalkSpells
import Derived.WalkSmall
import Derived.Lib.Hide
import Derived.Below
import Derived.Outline
import Derived.Laws.Tables
import Derived.Laws.Rows
import Derived.OrdersHeld
import Derived.Deep.QuietTactic
import Derived.BigQuiet
import Derived.IntWalk
import Derived.Deep.DeepCutAuto
import Derived.Deep.AppendLies
namespace Go.Proofs.Ytmclffbjdkoneaa
open Go.RowKit
set_option linter.unusedVariables false
set_option linter.unusedSimpArgs false

set_option maxRecDepth 100000 in
set_option maxHeartbeats 8000000 in
theorem repick_any (A : Option Addr) (n c : Nat) (l : List Chv) (bytes mss : Int) (waits : Bool) (w : World) (hs : Se w A n c l) : Calls Try.prog 10 #[.slice A n c, .int .i64 bytes, .int .i64 mss, .bool waits] w fun e w' => e = .returned (.tuple #[.int .i64 (pickR l bytes mss waits).1, .bool (pickR l bytes mss waits).2]) ∧ Below w.heap.size w w' := by
  obtain ⟨B, hB⟩ : ∃ B, w.heap.size = B := ⟨_, rfl⟩
  rw [hB]
  have HB := Lib.hid hB
  have hl := hs.rd.len
  have m1 := hs.le; have m2 := hs.max
  have m3 : n ≤ 9223372036854775807 := by unfold maxLen at m2; omega
  obtain ⟨x, hx⟩ : ∃ x, pickR l bytes mss waits = x := ⟨_, rfl⟩
  rw [hx]
  obtain ⟨xi, xw⟩ := x
  dsimp only
  have HX := Lib.hid hx; have HL := Lib.hid hl; have HS := Lib.hid hs
  clear hx hl hs hB m1 m2
  by_cases c0 : 4 < n
  case pos =>
    have d0 : decide (4 < n) = true := decide_eq_true c0
    have x0 : decide ((4 : Int) < (n : Int)) = true := decide_eq_true (by omega)
    have hx := HX.out
    unfold pickR at hx
    rw [if_neg (fun h => by obtain ⟨g0, g1, g2, g3, g4⟩ := h; have := HL.out; omega)] at hx
    cases hx
    go_enter Try.func10, Try.ntmps10
    go_wp2_with (go_at_call 19; refine (rebrief_any _ _).mono ?_; rintro e wx ⟨rfl, rfl⟩)
    go_ret2
    exact ⟨rfl, Below.refl _ _⟩
  case neg =>
  have d0 : decide (4 < n) = false := decide_eq_false c0
  have x0 : decide ((4 : Int) < (n : Int)) = false := decide_eq_false (by omega)
  by_cases c1 : bytes < 1
  case pos =>
    have d1 : decide (bytes < 1) = true := decide_eq_true c1
    have hx := HX.out
    unfold pickR at hx
    rw [if_neg (fun h => by obtain ⟨g0, g1, g2, g3, g4⟩ := h; have := HL.out; omega)] at hx
    cases hx
    go_enter Try.func10, Try.ntmps10
    go_wp2_with (go_at_call 19; refine (rebrief_any _ _).mono ?_; rintro e wx ⟨rfl, rfl⟩)
    go_ret2
    exact ⟨rfl, Below.refl _ _⟩
  case neg =>
  have d1 : decide (bytes < 1) = false := decide_eq_false c1
  by_cases hb : bytes ≤ 1099511627776
  case neg =>
    have kb : brB bytes = false := Bool.eq_false_iff.2 (fun h => by have := (brB_iff bytes).1 h; omega)
    have hx := HX.out
    unfold pickR at hx
    rw [if_neg (fun h => by obtain ⟨g0, g1, g2, g3, g4⟩ := h; have := HL.out; omega)] at hx
    cases hx
    go_enter Try.func10, Try.ntmps10
    go_wp2_with (go_at_call 19; refine (rebrief_any _ _).mono ?_; rintro e wx ⟨rfl, rfl⟩)
    go_ret2
    exact ⟨rfl, Below.refl _ _⟩
  case pos =>
  have kb : brB bytes = true := (brB_iff bytes).2 ⟨by omega, hb⟩
  by_cases c2 : mss < 1
  case pos =>
    have d2 : decide (mss < 1) = true := decide_eq_true c2
    have hx := HX.out
    unfold pickR at hx
    rw [if_neg (fun h => by obtain ⟨g0, g1, g2, g3, g4⟩ := h; have := HL.out; omega)] at hx
    cases hx
    go_enter Try.func10, Try.ntmps10
    go_wp2_with (go_at_call 19; refine (rebrief_any _ _).mono ?_; rintro e wx ⟨rfl, rfl⟩)
    go_ret2
    exact ⟨rfl, Below.refl _ _⟩
  case neg =>
  have d2 : decide (mss < 1) = false := decide_eq_false c2
  by_cases c3 : 1460 < mss
  case pos =>
    have d3 : decide (1460 < mss) = true := decide_eq_true c3
    have hx := HX.out
    unfold pickR at hx
    rw [if_neg (fun h => by obtain ⟨g0, g1, g2, g3, g4⟩ := h; have := HL.out; omega)] at hx
    cases hx
    go_enter Try.func10, Try.ntmps10
    go_wp2_with (go_at_call 19; refine (rebrief_any _ _).mono ?_; rintro e wx ⟨rfl, rfl⟩)
    go_ret2
    exact ⟨rfl, Below.refl _ _⟩
  case neg =>
  have d3 : decide (1460 < mss) = false := decide_eq_false c3
  have hok : PkOk l bytes mss := ⟨by rw [HL.out]; omega, by omega, hb, by omega, by omega⟩
  have hx := HX.out
  unfold pickR at hx
  rw [if_pos hok, HL.out] at hx
  have HXX := Lib.hid hx
  have hb1 : 1 ≤ bytes := by omega
  have hn4 : n ≤ 4 := by omega
  have hm1 : 1 ≤ mss := by omega
  have hm2 : mss ≤ 1460 := by omega
  clear hok hx HX c0 c1 c2 c3 m3
  go_enter Try.func10, Try.ntmps10
  go_wp2_with (go_at_call 19; refine (rebrief_any _ _).mono ?_; rintro e wx ⟨rfl, rfl⟩)
  go_loopw [10, 11, 12] (fun f s i wr => ∃ k : Nat, k ≤ n ∧ i = .int .i64 (k : Int) ∧ f = .int .i64 (bestI chB l k) ∧ s = .int .i64 (bestI (fun x => roomB x mss) l k) ∧ Below B w wr) (fun _ _ i _ => n - (intOf i).toNat)
  case atStart => exact ⟨0, Nat.zero_le _, rfl, rfl, rfl, Below.refl _ _⟩
  case round =>
    obtain ⟨k, hk, rfl, rfl, rfl, br⟩ := hrel
    have zr : B ≤ wr.heap.size := by have := br.size; have := HB.out; omega
    by_cases hlt : k < n
    · have dlt : decide (k < n) = true := decide_eq_true hlt
      obtain ⟨bb, o, hA, hbl, hc0⟩ := HS.out.rd.at_ (by omega)
      have hbB : bb < B := by have := HB.out; omega
      have hcell : ∀ W, Below B w W → ∀ i, i < n → ∀ j u, (El.cells (ge l i))[j]? = some u → W.cell? ⟨bb, o + i * 5 + j, none⟩ = some u := fun W hW i hi j u hu => (hW.cell (p := ⟨bb, o + i * 5 + j, none⟩) hbB).trans (hc0 i hi j u hu)
      have HC := Lib.hid hcell
      subst hA
      clear hc0 hcell hbl
      obtain ⟨x, hx⟩ : ∃ x, ge l k = x := ⟨_, rfl⟩
      have HXE := Lib.hid hx; clear hx
      have y0 := HC.out wr br k hlt 0 (.bool x.up) (by rw [HXE.out]; rfl); have y1 := HC.out wr br k hlt 1 (.int .i64 x.cwnd) (by rw [HXE.out]; rfl); have y2 := HC.out wr br k hlt 2 (.int .i64 x.flight) (by rw [HXE.out]; rfl); have y3 := HC.out wr br k hlt 3 (.int .i64 x.srtt) (by rw [HXE.out]; rfl); have y4 := HC.out wr br k hlt 4 (.int .i64 x.vr) (by rw [HXE.out]; rfl)
      simp only [Nat.add_zero] at y0
      go_wp2_with fail
      refine (remay_any x _).mono ?_
      rintro e w3 ⟨rfl, hb3⟩
      have b3 := br.trans (hb3.mono zr); have z3 : B ≤ w3.heap.size := Nat.le_trans zr hb3.size
      clear y0 y1 y2 y3 y4 br zr hb3
      have y0 := HC.out w3 b3 k hlt 0 (.bool x.up) (by rw [HXE.out]; rfl); have y1 := HC.out w3 b3 k hlt 1 (.int .i64 x.cwnd) (by rw [HXE.out]; rfl); have y2 := HC.out w3 b3 k hlt 2 (.int .i64 x.flight) (by rw [HXE.out]; rfl); have y3 := HC.out w3 b3 k hlt 3 (.int .i64 x.srtt) (by rw [HXE.out]; rfl); have y4 := HC.out w3 b3 k hlt 4 (.int .i64 x.vr) (by rw [HXE.out]; rfl)
      simp only [Nat.add_zero] at y0
      go_wp2_with fail
      refine (reroom_any x mss _).mono ?_
      rintro e w4 ⟨rfl, hb4⟩
      have b4 := b3.trans (hb4.mono z3); have z4 : B ≤ w4.heap.size := Nat.le_trans z3 hb4.size
      clear y0 y1 y2 y3 y4 b3 z3 hb4
      have y3 := HC.out w4 b4 k hlt 3 (.int .i64 x.srtt) (by rw [HXE.out]; rfl)
      have hsf := best_succ chB l k; have hss := best_succ (fun x => roomB x mss) l k
      have hbf := best_ok chB l k; have hbs := best_ok (fun x => roomB x mss) l k
      have f0 := hbf.lo; have f1 := hbf.hi; have s0 := hbs.lo; have s1 := hbs.hi
      rw [HXE.out] at hsf hss
      obtain ⟨fi, hfi⟩ : ∃ v, bestI chB l k = v := ⟨_, rfl⟩
      obtain ⟨si, hsi⟩ : ∃ v, bestI (fun x => roomB x mss) l k = v := ⟨_, rfl⟩
      rw [hfi] at hsf f0 f1 ⊢
      rw [hsi] at hss s0 s1 ⊢
      obtain ⟨F', hF'⟩ : ∃ v, bestI chB l (k + 1) = v := ⟨_, rfl⟩
      obtain ⟨S', hS'⟩ : ∃ v, bestI (fun x => roomB x mss) l (k + 1) = v := ⟨_, rfl⟩
      rw [hF'] at hsf
      rw [hS'] at hss
      have HF' := Lib.hid hF'; have HS' := Lib.hid hS'
      obtain ⟨mv, hmv⟩ : ∃ v, chB x = v := ⟨_, rfl⟩
      obtain ⟨rv, hrv⟩ : ∃ v, roomB x mss = v := ⟨_, rfl⟩
      rw [hmv] at hsf ⊢
      rw [hrv] at hss ⊢
      have HSF := Lib.hid hsf; have HSS := Lib.hid hss
      clear hsf hss hbf hbs hfi hsi hF' hS' hmv hrv
      go_upto_region 10 with fail
      cases mv with
      | false =>
        have eg : F' = fi := by rw [HSF.out, if_neg (fun h => by cases h.1)]
        have Eg := Lib.hid eg; clear eg
        go_quiet (fail)
        have b5 := below_drewN b4 nq
        have y5 := HC.out _ b5 k hlt 3 (.int .i64 x.srtt) (by rw [HXE.out]; rfl)
        generalize w4.drewN nq = w5 at b5 y5 ⊢
        go_upto_region 12 with fail
        clear y3 b4 z4
        cases rv with
        | false =>
          have eh : S' = si := by rw [HSS.out, if_neg (fun h => by cases h.1)]
          have Eh := Lib.hid eh; clear eh
          go_quiet (fail)
          go_wp2_with fail
          go_roundw
          case rel => exact ⟨k + 1, by omega, by go_num, by rw [HF'.out, Eg.out], by rw [HS'.out, Eh.out], below_drewN b5 _⟩
          case measure => simp [intOf]; omega
        | true =>
        by_cases uh : si < 0
        case pos =>
          have dh : decide (si < 0) = true := decide_eq_true uh
          have eh : S' = (k : Int) := by rw [HSS.out, if_pos ⟨rfl, .inl uh⟩]
          have Eh := Lib.hid eh; clear eh
          go_quiet (fail)
          go_wp2_with fail
          go_roundw
          case rel => exact ⟨k + 1, by omega, by go_num, by rw [HF'.out, Eg.out], by rw [HS'.out, Eh.out], below_drewN b5 _⟩
          case measure => simp [intOf]; omega
        case neg =>
        obtain ⟨nh, enh⟩ : ∃ m : Nat, si = (m : Int) := ⟨si.toNat, by omega⟩
        subst enh
        have dh : decide (((nh : Nat) : Int) < 0) = false := decide_eq_false uh
        have lh : nh < n := by omega
        obtain ⟨zh, hzh⟩ : ∃ x, ge l nh = x := ⟨_, rfl⟩
        have hhh := HSS.out
        rw [Int.toNat_natCast, hzh] at hhh
        have Zh := Lib.hid hzh
        clear hzh
        have ah := HC.out _ b5 nh lh 3 (.int .i64 zh.srtt) (by rw [Zh.out]; rfl)
        by_cases vh : x.srtt < zh.srtt
        case pos =>
          have dvh : decide (x.srtt < zh.srtt) = true := decide_eq_true vh
          have eh : S' = (k : Int) := by rw [hhh, if_pos ⟨rfl, .inr vh⟩]
          have Eh := Lib.hid eh
          clear eh hhh
          go_quiet (fail)
          go_wp2_with fail
          go_roundw
          case rel => exact ⟨k + 1, by omega, by go_num, by rw [HF'.out, Eg.out], by rw [HS'.out, Eh.out], below_drewN b5 _⟩
          case measure => simp [intOf]; omega
        case neg =>
        have dvh : decide (x.srtt < zh.srtt) = false := decide_eq_false vh
        have eh : S' = (nh : Int) := by rw [hhh, if_neg (fun h => h.2.elim (fun g => uh g) (fun g => vh g))]
        have Eh := Lib.hid eh
        clear eh hhh
        go_quiet (fail)
        go_wp2_with fail
        go_roundw
        case rel => exact ⟨k + 1, by omega, by go_num, by rw [HF'.out, Eg.out], by rw [HS'.out, Eh.out], below_drewN b5 _⟩
        case measure => simp [intOf]; omega
      | true =>
      by_cases ug : fi < 0
      case pos =>
        have dg : decide (fi < 0) = true := decide_eq_true ug
        have eg : F' = (k : Int) := by rw [HSF.out, if_pos ⟨rfl, .inl ug⟩]
        have Eg := Lib.hid eg; clear eg
        go_quiet (fail)
        have b5 := below_drewN b4 nq
        have y5 := HC.out _ b5 k hlt 3 (.int .i64 x.srtt) (by rw [HXE.out]; rfl)
        generalize w4.drewN nq = w5 at b5 y5 ⊢
        go_upto_region 12 with fail
        clear y3 b4 z4
        cases rv with
        | false =>
          have eh : S' = si := by rw [HSS.out, if_neg (fun h => by cases h.1)]
          have Eh := Lib.hid eh; clear eh
          go_quiet (fail)
          go_wp2_with fail
          go_roundw
          case rel => exact ⟨k + 1, by omega, by go_num, by rw [HF'.out, Eg.out], by rw [HS'.out, Eh.out], below_drewN b5 _⟩
          case measure => simp [intOf]; omega
        | true =>
        by_cases uh : si < 0
        case pos =>
          have dh : decide (si < 0) = true := decide_eq_true uh
          have eh : S' = (k : Int) := by rw [HSS.out, if_pos ⟨rfl, .inl uh⟩]
          have Eh := Lib.hid eh; clear eh
          go_quiet (fail)
          go_wp2_with fail
          go_roundw
          case rel => exact ⟨k + 1, by omega, by go_num, by rw [HF'.out, Eg.out], by rw [HS'.out, Eh.out], below_drewN b5 _⟩
          case measure => simp [intOf]; omega
        case neg =>
        obtain ⟨nh, enh⟩ : ∃ m : Nat, si = (m : Int) := ⟨si.toNat, by omega⟩
        subst enh
        have dh : decide (((nh : Nat) : Int) < 0) = false := decide_eq_false uh
        have lh : nh < n := by omega
        obtain ⟨zh, hzh⟩ : ∃ x, ge l nh = x := ⟨_, rfl⟩
        have hhh := HSS.out
        rw [Int.toNat_natCast, hzh] at hhh
        have Zh := Lib.hid hzh
        clear hzh
        have ah := HC.out _ b5 nh lh 3 (.int .i64 zh.srtt) (by rw [Zh.out]; rfl)
        by_cases vh : x.srtt < zh.srtt
        case pos =>
          have dvh : decide (x.srtt < zh.srtt) = true := decide_eq_true vh
          have eh : S' = (k : Int) := by rw [hhh, if_pos ⟨rfl, .inr vh⟩]
          have Eh := Lib.hid eh
          clear eh hhh
          go_quiet (fail)
          go_wp2_with fail
          go_roundw
          case rel => exact ⟨k + 1, by omega, by go_num, by rw [HF'.out, Eg.out], by rw [HS'.out, Eh.out], below_drewN b5 _⟩
          case measure => simp [intOf]; omega
        case neg =>
        have dvh : decide (x.srtt < zh.srtt) = false := decide_eq_false vh
        have eh : S' = (nh : Int) := by rw [hhh, if_neg (fun h => h.2.elim (fun g => uh g) (fun g => vh g))]
        have Eh := Lib.hid eh
        clear eh hhh
        go_quiet (fail)
        go_wp2_with fail
        go_roundw
        case rel => exact ⟨k + 1, by omega, by go_num, by rw [HF'.out, Eg.out], by rw [HS'.out, Eh.out], below_drewN b5 _⟩
        case measure => simp [intOf]; omega
      case neg =>
      obtain ⟨ng, eng⟩ : ∃ m : Nat, fi = (m : Int) := ⟨fi.toNat, by omega⟩
      subst eng
      have dg : decide (((ng : Nat) : Int) < 0) = false := decide_eq_false ug
      have lg : ng < n := by omega
      obtain ⟨zg, hzg⟩ : ∃ x, ge l ng = x := ⟨_, rfl⟩
      have hhg := HSF.out
      rw [Int.toNat_natCast, hzg] at hhg
      have Zg := Lib.hid hzg
      clear hzg
      have ag := HC.out _ b4 ng lg 3 (.int .i64 zg.srtt) (by rw [Zg.out]; rfl)
      by_cases vg : x.srtt < zg.srtt
      case pos =>
        have dvg : decide (x.srtt < zg.srtt) = true := decide_eq_true vg
        have eg : F' = (k : Int) := by rw [hhg, if_pos ⟨rfl, .inr vg⟩]
        have Eg := Lib.hid eg
        clear eg hhg
        go_quiet (fail)
        have b5 := below_drewN b4 nq
        have y5 := HC.out _ b5 k hlt 3 (.int .i64 x.srtt) (by rw [HXE.out]; rfl)
        generalize w4.drewN nq = w5 at b5 y5 ⊢
        go_upto_region 12 with fail
        clear y3 b4 z4
        cases rv with
        | false =>
          have eh : S' = si := by rw [HSS.out, if_neg (fun h => by cases h.1)]
          have Eh := Lib.hid eh; clear eh
          go_quiet (fail)
          go_wp2_with fail
          go_roundw
          case rel => exact ⟨k + 1, by omega, by go_num, by rw [HF'.out, Eg.out], by rw [HS'.out, Eh.out], below_drewN b5 _⟩
          case measure => simp [intOf]; omega
        | true =>
        by_cases uh : si < 0
        case pos =>
          have dh : decide (si < 0) = true := decide_eq_true uh
          have eh : S' = (k : Int) := by rw [HSS.out, if_pos ⟨rfl, .inl uh⟩]
          have Eh := Lib.hid eh; clear eh
          go_quiet (fail)
          go_wp2_with fail
          go_roundw
          case rel => exact ⟨k + 1, by omega, by go_num, by rw [HF'.out, Eg.out], by rw [HS'.out, Eh.out], below_drewN b5 _⟩
          case measure => simp [intOf]; omega
        case neg =>
        obtain ⟨nh, enh⟩ : ∃ m : Nat, si = (m : Int) := ⟨si.toNat, by omega⟩
        subst enh
        have dh : decide (((nh : Nat) : Int) < 0) = false := decide_eq_false uh
        have lh : nh < n := by omega
        obtain ⟨zh, hzh⟩ : ∃ x, ge l nh = x := ⟨_, rfl⟩
        have hhh := HSS.out
        rw [Int.toNat_natCast, hzh] at hhh
        have Zh := Lib.hid hzh
        clear hzh
        have ah := HC.out _ b5 nh lh 3 (.int .i64 zh.srtt) (by rw [Zh.out]; rfl)
        by_cases vh : x.srtt < zh.srtt
        case pos =>
          have dvh : decide (x.srtt < zh.srtt) = true := decide_eq_true vh
          have eh : S' = (k : Int) := by rw [hhh, if_pos ⟨rfl, .inr vh⟩]
          have Eh := Lib.hid eh
          clear eh hhh
          go_quiet (fail)
          go_wp2_with fail
          go_roundw
          case rel => exact ⟨k + 1, by omega, by go_num, by rw [HF'.out, Eg.out], by rw [HS'.out, Eh.out], below_drewN b5 _⟩
          case measure => simp [intOf]; omega
        case neg =>
        have dvh : decide (x.srtt < zh.srtt) = false := decide_eq_false vh
        have eh : S' = (nh : Int) := by rw [hhh, if_neg (fun h => h.2.elim (fun g => uh g) (fun g => vh g))]
        have Eh := Lib.hid eh
        clear eh hhh
        go_quiet (fail)
        go_wp2_with fail
        go_roundw
        case rel => exact ⟨k + 1, by omega, by go_num, by rw [HF'.out, Eg.out], by rw [HS'.out, Eh.out], below_drewN b5 _⟩
        case measure => simp [intOf]; omega
      case neg =>
      have dvg : decide (x.srtt < zg.srtt) = false := decide_eq_false vg
      have eg : F' = (ng : Int) := by rw [hhg, if_neg (fun h => h.2.elim (fun g => ug g) (fun g => vg g))]
      have Eg := Lib.hid eg
      clear eg hhg
      go_quiet (fail)
      have b5 := below_drewN b4 nq
      have y5 := HC.out _ b5 k hlt 3 (.int .i64 x.srtt) (by rw [HXE.out]; rfl)
      generalize w4.drewN nq = w5 at b5 y5 ⊢
      go_upto_region 12 with fail
      clear y3 b4 z4
      cases rv with
      | false =>
        have eh : S' = si := by rw [HSS.out, if_neg (fun h => by cases h.1)]
        have Eh := Lib.hid eh; clear eh
        go_quiet (fail)
        go_wp2_with fail
        go_roundw
        case rel => exact ⟨k + 1, by omega, by go_num, by rw [HF'.out, Eg.out], by rw [HS'.out, Eh.out], below_drewN b5 _⟩
        case measure => simp [intOf]; omega
      | true =>
      by_cases uh : si < 0
      case pos =>
        have dh : decide (si < 0) = true := decide_eq_true uh
        have eh : S' = (k : Int) := by rw [HSS.out, if_pos ⟨rfl, .inl uh⟩]
        have Eh := Lib.hid eh; clear eh
        go_quiet (fail)
        go_wp2_with fail
        go_roundw
        case rel => exact ⟨k + 1, by omega, by go_num, by rw [HF'.out, Eg.out], by rw [HS'.out, Eh.out], below_drewN b5 _⟩
        case measure => simp [intOf]; omega
      case neg =>
      obtain ⟨nh, enh⟩ : ∃ m : Nat, si = (m : Int) := ⟨si.toNat, by omega⟩
      subst enh
      have dh : decide (((nh : Nat) : Int) < 0) = false := decide_eq_false uh
      have lh : nh < n := by omega
      obtain ⟨zh, hzh⟩ : ∃ x, ge l nh = x := ⟨_, rfl⟩
      have hhh := HSS.out
      rw [Int.toNat_natCast, hzh] at hhh
      have Zh := Lib.hid hzh
      clear hzh
      have ah := HC.out _ b5 nh lh 3 (.int .i64 zh.srtt) (by rw [Zh.out]; rfl)
      by_cases vh : x.srtt < zh.srtt
      case pos =>
        have dvh : decide (x.srtt < zh.srtt) = true := decide_eq_true vh
        have eh : S' = (k : Int) := by rw [hhh, if_pos ⟨rfl, .inr vh⟩]
        have Eh := Lib.hid eh
        clear eh hhh
        go_quiet (fail)
        go_wp2_with fail
        go_roundw
        case rel => exact ⟨k + 1, by omega, by go_num, by rw [HF'.out, Eg.out], by rw [HS'.out, Eh.out], below_drewN b5 _⟩
        case measure => simp [intOf]; omega
      case neg =>
      have dvh : decide (x.srtt < zh.srtt) = false := decide_eq_false vh
      have eh : S' = (nh : Int) := by rw [hhh, if_neg (fun h => h.2.elim (fun g => uh g) (fun g => vh g))]
      have Eh := Lib.hid eh
      clear eh hhh
      go_quiet (fail)
      go_wp2_with fail
      go_roundw
      case rel => exact ⟨k + 1, by omega, by go_num, by rw [HF'.out, Eg.out], by rw [HS'.out, Eh.out], below_drewN b5 _⟩
      case measure => simp [intOf]; omega
    · obtain rfl : k = n := by omega
      have dlt : decide (k < k) = false := decide_eq_false (by omega)
      have hbf := best_ok chB l k; have hbs := best_ok (fun x => roomB x mss) l k
      have hx := HXX.out
      obtain ⟨F, hF⟩ : ∃ v, bestI chB l k = v := ⟨_, rfl⟩
      obtain ⟨S, hS⟩ : ∃ v, bestI (fun x => roomB x mss) l k = v := ⟨_, rfl⟩
      rw [hF] at hx hbf ⊢
      rw [hS] at hx hbs ⊢
      clear hF hS
      by_cases s0 : S < 0
      case pos =>
        have d0 : decide (S < 0) = true := decide_eq_true s0
        rw [if_pos s0] at hx
        cases hx
        clear hbf hbs
        go_wp2_with fail
        go_ret2
        exact ⟨rfl, br⟩
      case neg =>
      have d0 : decide (S < 0) = false := decide_eq_false s0
      rw [if_neg s0] at hx
      obtain ⟨su, rfl⟩ : ∃ m : Nat, S = (m : Int) := ⟨S.toNat, by omega⟩
      have hlsu : su < k := by have := hbs.hi; omega
      have hroom := hbs.holds (by omega)
      rw [Int.toNat_natCast] at hroom
      have hf0 : 0 ≤ F := by
        refine Int.not_lt.1 (fun h => ?_)
        have h1 := hbf.none h su hlsu
        have h2 := (roomB_iff _ _).1 hroom
        rw [(chB_iff _).2 h2.1] at h1; cases h1
      obtain ⟨fu, rfl⟩ : ∃ m : Nat, F = (m : Int) := ⟨F.toNat, by omega⟩
      have hlfu : fu < k := by have := hbf.hi; omega
      have hfok := hbf.holds (by omega)
      rw [Int.toNat_natCast] at hfok hx
      rw [Int.toNat_natCast] at hx
      obtain ⟨fx, hfx⟩ : ∃ x, ge l fu = x := ⟨_, rfl⟩
      obtain ⟨sx, hsx⟩ : ∃ x, ge l su = x := ⟨_, rfl⟩
      rw [hfx] at hfok hx
      rw [hsx] at hroom hx
      have Hfx := Lib.hid hfx; have Hsx := Lib.hid hsx
      have hfk := (chB_iff _).1 hfok; have hsk := ((roomB_iff _ _).1 hroom).1
      have HX2 := Lib.hid hx; have HFK := Lib.hid hfk; have HSK := Lib.hid hsk
      clear hbf hbs hroom hf0 hfok hfx hsx hfk hsk hx
      obtain ⟨bb, o, hA, hbl, hc0⟩ := HS.out.rd.at_ (by omega)
      have hbB : bb < B := by have := HB.out; omega
      have hcell : ∀ W, Below B w W → ∀ i, i < k → ∀ j u, (El.cells (ge l i))[j]? = some u → W.cell? ⟨bb, o + i * 5 + j, none⟩ = some u := fun W hW i hi j u hu => (hW.cell (p := ⟨bb, o + i * 5 + j, none⟩) hbB).trans (hc0 i hi j u hu)
      have HC := Lib.hid hcell
      subst hA
      clear hc0 hcell hbl
      have y0 := HC.out wr br fu hlfu 0 (.bool fx.up) (by rw [Hfx.out]; rfl); have y1 := HC.out wr br fu hlfu 1 (.int .i64 fx.cwnd) (by rw [Hfx.out]; rfl); have y2 := HC.out wr br fu hlfu 2 (.int .i64 fx.flight) (by rw [Hfx.out]; rfl); have y3 := HC.out wr br fu hlfu 3 (.int .i64 fx.srtt) (by rw [Hfx.out]; rfl); have y4 := HC.out wr br fu hlfu 4 (.int .i64 fx.vr) (by rw [Hfx.out]; rfl)
      simp only [Nat.add_zero] at y0
      go_wp2_with fail
      refine (reroom_any fx mss _).mono ?_
      rintro e w4 ⟨rfl, hb4⟩
      have b4 := br.trans (hb4.mono zr); have z4 : B ≤ w4.heap.size := Nat.le_trans zr hb4.size
      clear y0 y1 y2 y3 y4 br zr hb4
      cases hrv : roomB fx mss with
      | true =>
        have hx := HX2.out
        rw [if_pos hrv] at hx
        cases hx
        clear hrv
        go_wp2_with fail
        go_ret2
        exact ⟨rfl, b4⟩
      | false =>
      have hx := HX2.out
      rw [if_neg (by rw [hrv]; simp)] at hx
      have HX3 := Lib.hid hx
      clear hrv hx
      have f1 := HFK.out.c0; have f2 := HFK.out.c1; have f3 := HFK.out.s0; have f4 := HFK.out.s1; have f5 := HFK.out.v0; have f6 := HFK.out.v1
      have g1 := HSK.out.c0; have g2 := HSK.out.c1; have g3 := HSK.out.s0; have g4 := HSK.out.s1; have g5 := HSK.out.v0; have g6 := HSK.out.v1
      have y1 := HC.out w4 b4 fu hlfu 1 (.int .i64 fx.cwnd) (by rw [Hfx.out]; rfl); have y3 := HC.out w4 b4 fu hlfu 3 (.int .i64 fx.srtt) (by rw [Hfx.out]; rfl); have y4 := HC.out w4 b4 fu hlfu 4 (.int .i64 fx.vr) (by rw [Hfx.out]; rfl)
      have t1 := HC.out w4 b4 su hlsu 1 (.int .i64 sx.cwnd) (by rw [Hsx.out]; rfl); have t3 := HC.out w4 b4 su hlsu 3 (.int .i64 sx.srtt) (by rw [Hsx.out]; rfl); have t4 := HC.out w4 b4 su hlsu 4 (.int .i64 sx.vr) (by rw [Hsx.out]; rfl)
      have q1 : bytes.tdiv fx.cwnd = bytes / fx.cwnd := Int.tdiv_eq_ediv_of_nonneg (by omega)
      have q2 : bytes.tdiv sx.cwnd = bytes / sx.cwnd := Int.tdiv_eq_ediv_of_nonneg (by omega)
      have a1 : 0 ≤ bytes / fx.cwnd := Int.ediv_nonneg (by omega) (by omega)
      have a2 : bytes / fx.cwnd ≤ bytes := Int.ediv_le_self _ (by omega)
      have a3 : 0 ≤ bytes / sx.cwnd := Int.ediv_nonneg (by omega) (by omega)
      have a4 : bytes / sx.cwnd ≤ bytes := Int.ediv_le_self _ (by omega)
      have n1 : ¬ fx.cwnd = 0 := by omega
      have n2 : ¬ sx.cwnd = 0 := by omega
      have n1' : (fx.cwnd == 0) = false := by simpa using n1
      have n2' : (sx.cwnd == 0) = false := by simpa using n2
      obtain ⟨D, hD⟩ : ∃ v, max fx.vr sx.vr = v := ⟨_, rfl⟩
      obtain ⟨nq1, hn1⟩ : ∃ v, bytes / fx.cwnd = v := ⟨_, rfl⟩
      obtain ⟨nq2, hn2⟩ : ∃ v, bytes / sx.cwnd = v := ⟨_, rfl⟩
      rw [hn1] at q1 a1 a2
      rw [hn2] at q2 a3 a4
      have hw : waitB fx sx bytes waits = decide ((4 * (1 + nq1)) * fx.srtt < (if waits then 5 else 4) * (sx.srtt + D) ∧ ¬ (1 + nq2) * sx.srtt < 1 * (2 * fx.srtt + D)) := by unfold waitB; rw [hn1, hn2, hD]
      have HW := Lib.hid hw
      have r1 : IntKind.i64.wrap nq1 = nq1 := IntWalk.i64_in _ (by omega)
      have r2 : IntKind.i64.wrap nq2 = nq2 := IntWalk.i64_in _ (by omega)
      have r3 : IntKind.i64.wrap (1 + nq1) = 1 + nq1 := IntWalk.i64_in _ (by omega)
      have r4 : IntKind.i64.wrap (1 + nq2) = 1 + nq2 := IntWalk.i64_in _ (by omega)
      have r5 : IntKind.i64.wrap (4 * (1 + nq1)) = 4 * (1 + nq1) := IntWalk.i64_in _ (by omega)
      have D0 : 0 ≤ D := by omega
      have D1 : D ≤ 1099511627776 := by omega
      have r6 : IntKind.i64.wrap (sx.srtt + D) = sx.srtt + D := IntWalk.i64_in _ (by omega)
      have r7 : IntKind.i64.wrap (2 * fx.srtt) = 2 * fx.srtt := IntWalk.i64_in _ (by omega)
      have r8 : IntKind.i64.wrap (2 * fx.srtt + D) = 2 * fx.srtt + D := IntWalk.i64_in _ (by omega)
      have p2 := fun w => rebelow_any (1 + nq2) sx.srtt 1 (2 * fx.srtt + D) w (by omega) (by omega) (by omega) (by omega)
      obtain ⟨v2, hv2⟩ : ∃ v, decide ((1 + nq2) * sx.srtt < 1 * (2 * fx.srtt + D)) = v := ⟨_, rfl⟩
      rw [hv2] at p2
      have HV2 := Lib.hid hv2
      clear hw hv2 hn1 hn2
      by_cases e : fx.vr < sx.vr
      case pos =>
        have de : decide (fx.vr < sx.vr) = true := decide_eq_true e
        have eD : sx.vr = D := by omega
        have k6 : IntKind.i64.wrap (sx.srtt + sx.vr) = sx.srtt + D := by rw [eD]; exact r6
        have k8 : IntKind.i64.wrap (2 * fx.srtt + sx.vr) = 2 * fx.srtt + D := by rw [eD]; exact r8
        clear hD e eD
        cases waits with
        | false =>
          have HW' := HW.out
          rw [if_neg (by simp)] at HW'
          have HW := Lib.hid HW'
          clear HW'
          have p1 := fun w => rebelow_any (4 * (1 + nq1)) fx.srtt 4 (sx.srtt + D) w (by omega) (by omega) (by omega) (by omega)
          obtain ⟨v1, hv1⟩ : ∃ v, decide ((4 * (1 + nq1)) * fx.srtt < 4 * (sx.srtt + D)) = v := ⟨_, rfl⟩
          rw [hv1] at p1
          have HV1 := Lib.hid hv1
          clear hv1
          go_upto_region 27 with fail
          cases v1 with
          | false =>
            refine wp_region_tail 33 34 (fun (W : World) => Below w4.heap.size w4 W ∧ (W.cell? ⟨bb, o + fu * 5 + 3, none⟩ = some (.int .i64 fx.srtt) ∧ W.cell? ⟨bb, o + su * 5 + 3, none⟩ = some (.int .i64 sx.srtt))) (by kernel_rfl) (by rfl) (by decide) ?_
            have HS : ((fun (W : World) => Below w4.heap.size w4 W ∧ (W.cell? ⟨bb, o + fu * 5 + 3, none⟩ = some (.int .i64 fx.srtt) ∧ W.cell? ⟨bb, o + su * 5 + 3, none⟩ = some (.int .i64 sx.srtt)))) _ := ⟨(Below.refl _ _).drew, y3, t3⟩
            refine wpAnyT_take (i := 0) (v := ?vv1) rfl (by kernel_rfl) (fun _ _ _ h => h) (Or.inl ⟨by rfl, fun w hSw => ?yy1⟩) HS ?rr1
            case yy1 =>
              (try dsimp only at hSw); go_simp
              try with_reducible rfl
            try simp only [Act.put, List.setIfInBounds_toArray, List.set_cons_zero, List.set_cons_succ]
            refine wpAnyT_take (i := 1) (v := .int .i64 (4 * (1 + nq1))) rfl (by kernel_rfl) (fun _ _ _ h => h) (Or.inl ⟨by rfl, fun w hSw => ?_⟩) HS ?_
            · (try dsimp only at hSw); go_simp
            try simp only [Act.put, List.setIfInBounds_toArray, List.set_cons_zero, List.set_cons_succ]
            refine wpAnyT_take (i := 2) (v := ?vv2) rfl (by kernel_rfl) (fun _ _ _ h => h) (Or.inl ⟨by rfl, fun w hSw => ?yy2⟩) HS ?rr2
            case yy2 =>
              (try dsimp only at hSw); go_simp
              try with_reducible rfl
            try simp only [Act.put, List.setIfInBounds_toArray, List.set_cons_zero, List.set_cons_succ]
            refine wpAnyT_take (i := 3) (v := ?vv3) rfl (by kernel_rfl) (fun _ _ _ h => h) (Or.inl ⟨by rfl, fun w hSw => ?yy3⟩) HS ?rr3
            case yy3 =>
              (try dsimp only at hSw); go_simp
              try with_reducible rfl
            try simp only [Act.put, List.setIfInBounds_toArray, List.set_cons_zero, List.set_cons_succ]
            refine wpAnyT_take (i := 4) (v := ?vv4) rfl (by kernel_rfl) (fun _ _ _ h => h) (Or.inl ⟨by rfl, fun w hSw => ?yy4⟩) HS ?rr4
            case yy4 =>
              (try dsimp only at hSw); go_simp
              try with_reducible rfl
            try simp only [Act.put, List.setIfInBounds_toArray, List.set_cons_zero, List.set_cons_succ]
            refine wpAnyT_take (i := 5) (v := ?vv5) rfl (by kernel_rfl) (fun _ _ _ h => h) (Or.inl ⟨by rfl, fun w hSw => ?yy5⟩) HS ?rr5
            case yy5 =>
              (try dsimp only at hSw); go_simp
              try with_reducible rfl
            try simp only [Act.put, List.setIfInBounds_toArray, List.set_cons_zero, List.set_cons_succ]
            refine wpAnyT_take (i := 6) (v := ?vv6) rfl (by kernel_rfl) (fun _ _ _ h => h) (Or.inl ⟨by rfl, fun w hSw => ?yy6⟩) HS ?rr6
            case yy6 =>
              (try dsimp only at hSw); go_simp
              try with_reducible rfl
            try simp only [Act.put, List.setIfInBounds_toArray, List.set_cons_zero, List.set_cons_succ]
            refine wpAnyT_take (i := 7) (v := ?vv7) rfl (by kernel_rfl) (fun _ _ _ h => h) (Or.inl ⟨by rfl, fun w hSw => ?yy7⟩) HS ?rr7
            case yy7 =>
              (try dsimp only at hSw); go_simp
              try with_reducible rfl
            try simp only [Act.put, List.setIfInBounds_toArray, List.set_cons_zero, List.set_cons_succ]
            refine wpAnyT_take (i := 8) (v := ?vv8) rfl (by kernel_rfl) (fun _ _ _ h => h) (Or.inl ⟨by rfl, fun w hSw => ?yy8⟩) HS ?rr8
            case yy8 =>
              (try dsimp only at hSw); go_simp
              try with_reducible rfl
            try simp only [Act.put, List.setIfInBounds_toArray, List.set_cons_zero, List.set_cons_succ]
            refine wpAnyT_take (i := 9) (v := ?vv9) rfl (by kernel_rfl) (fun _ _ _ h => h) (Or.inl ⟨by rfl, fun w hSw => ?yy9⟩) HS ?rr9
            case yy9 =>
              (try dsimp only at hSw); go_simp
              try with_reducible rfl
            try simp only [Act.put, List.setIfInBounds_toArray, List.set_cons_zero, List.set_cons_succ]
            refine wpAnyT_take (i := 10) (v := ?vv10) rfl (by kernel_rfl) (fun _ _ _ h => h) (Or.inl ⟨by rfl, fun w hSw => ?yy10⟩) HS ?rr10
            case yy10 =>
              (try dsimp only at hSw); go_simp
              try with_reducible rfl
            try simp only [Act.put, List.setIfInBounds_toArray, List.set_cons_zero, List.set_cons_succ]
            refine wpAnyT_take (i := 11) (v := ?vv11) rfl (by kernel_rfl) (fun _ _ _ h => h) (Or.inl ⟨by rfl, fun w hSw => ?yy11⟩) HS ?rr11
            case yy11 =>
              (try dsimp only at hSw); go_simp
              try with_reducible rfl
            try simp only [Act.put, List.setIfInBounds_toArray, List.set_cons_zero, List.set_cons_succ]
            refine wpAnyT_take (i := 12) (v := ?vv12) rfl (by kernel_rfl) (fun _ _ _ h => h) (Or.inl ⟨by rfl, fun w hSw => ?yy12⟩) HS ?rr12
            case yy12 =>
              (try dsimp only at hSw); go_simp
              try with_reducible rfl
            try simp only [Act.put, List.setIfInBounds_toArray, List.set_cons_zero, List.set_cons_succ]
            refine wpAnyT_take (i := 13) (v := ?vv13) rfl (by kernel_rfl) (fun _ _ _ h => h) (Or.inl ⟨by rfl, fun w hSw => ?yy13⟩) HS ?rr13
            case yy13 =>
              (try dsimp only at hSw); go_simp
              try with_reducible rfl
            try simp only [Act.put, List.setIfInBounds_toArray, List.set_cons_zero, List.set_cons_succ]
            refine wpAnyT_take (i := 14) (v := .int .i64 (sx.srtt + D)) rfl (by kernel_rfl) (fun _ _ _ h => h) (Or.inl ⟨by rfl, fun w hSw => ?_⟩) HS ?_
            · (try dsimp only at hSw); go_simp
            try simp only [Act.put, List.setIfInBounds_toArray, List.set_cons_zero, List.set_cons_succ]
            refine wpAnyT_one (k := 15) rfl (by kernel_rfl) (by decide) (fun K hK => ?_)
            go_simp
            refine (p1 _).mono ?_
            rintro e y1w ⟨rfl, rfl⟩
            have HS : ((fun (W : World) => Below w4.heap.size w4 W ∧ (W.cell? ⟨bb, o + fu * 5 + 3, none⟩ = some (.int .i64 fx.srtt) ∧ W.cell? ⟨bb, o + su * 5 + 3, none⟩ = some (.int .i64 sx.srtt)))) _ := HS
            refine hK _ _ HS ?_
            clear hK K
            try simp only [Act.put, List.setIfInBounds_toArray, List.set_cons_zero, List.set_cons_succ]
            refine wpAnyT_take (i := 16) (v := ?vv14) rfl (by kernel_rfl) (fun _ _ _ h => h) (Or.inl ⟨by rfl, fun w hSw => ?yy14⟩) HS ?rr14
            case yy14 =>
              (try dsimp only at hSw); go_simp
              try with_reducible rfl
            try simp only [Act.put, List.setIfInBounds_toArray, List.set_cons_zero, List.set_cons_succ]
            refine wpAnyT_take (i := 17) (v := undef) rfl (by kernel_rfl) (fun _ _ _ h => h) (Or.inr ⟨by kernel_rfl, rfl⟩) HS ?_
            try simp only [Act.put, List.setIfInBounds_toArray, List.set_cons_zero, List.set_cons_succ]
            refine wpAnyT_take (i := 18) (v := undef) rfl (by kernel_rfl) (fun _ _ _ h => h) (Or.inr ⟨by kernel_rfl, rfl⟩) HS ?_
            try simp only [Act.put, List.setIfInBounds_toArray, List.set_cons_zero, List.set_cons_succ]
            refine wpAnyT_take (i := 19) (v := undef) rfl (by kernel_rfl) (fun _ _ _ h => h) (Or.inr ⟨by kernel_rfl, rfl⟩) HS ?_
            try simp only [Act.put, List.setIfInBounds_toArray, List.set_cons_zero, List.set_cons_succ]
            refine wpAnyT_take (i := 20) (v := undef) rfl (by kernel_rfl) (fun _ _ _ h => h) (Or.inr ⟨by kernel_rfl, rfl⟩) HS ?_
            try simp only [Act.put, List.setIfInBounds_toArray, List.set_cons_zero, List.set_cons_succ]
            refine wpAnyT_take (i := 21) (v := undef) rfl (by kernel_rfl) (fun _ _ _ h => h) (Or.inr ⟨by kernel_rfl, rfl⟩) HS ?_
            try simp only [Act.put, List.setIfInBounds_toArray, List.set_cons_zero, List.set_cons_succ]
            refine wpAnyT_take (i := 22) (v := undef) rfl (by kernel_rfl) (fun _ _ _ h => h) (Or.inr ⟨by kernel_rfl, rfl⟩) HS ?_
            try simp only [Act.put, List.setIfInBounds_toArray, List.set_cons_zero, List.set_cons_succ]
            refine wpAnyT_take (i := 23) (v := undef) rfl (by kernel_rfl) (fun _ _ _ h => h) (Or.inr ⟨by kernel_rfl, rfl⟩) HS ?_
            try simp only [Act.put, List.setIfInBounds_toArray, List.set_cons_zero, List.set_cons_succ]
            refine wpAnyT_take (i := 24) (v := undef) rfl (by kernel_rfl) (fun _ _ _ h => h) (Or.inr ⟨by kernel_rfl, rfl⟩) HS ?_
            try simp only [Act.put, List.setIfInBounds_toArray, List.set_cons_zero, List.set_cons_succ]
            refine wpAnyT_take (i := 25) (v := undef) rfl (by kernel_rfl) (fun _ _ _ h => h) (Or.inr ⟨by kernel_rfl, rfl⟩) HS ?_
            try simp only [Act.put, List.setIfInBounds_toArray, List.set_cons_zero, List.set_cons_succ]
            refine wpAnyT_take (i := 26) (v := undef) rfl (by kernel_rfl) (fun _ _ _ h => h) (Or.inr ⟨by kernel_rfl, rfl⟩) HS ?_
            try simp only [Act.put, List.setIfInBounds_toArray, List.set_cons_zero, List.set_cons_succ]
            refine wpAnyT_take (i := 27) (v := undef) rfl (by kernel_rfl) (fun _ _ _ h => h) (Or.inr ⟨by kernel_rfl, rfl⟩) HS ?_
            try simp only [Act.put, List.setIfInBounds_toArray, List.set_cons_zero, List.set_cons_succ]
            refine wpAnyT_take (i := 28) (v := undef) rfl (by kernel_rfl) (fun _ _ _ h => h) (Or.inr ⟨by kernel_rfl, rfl⟩) HS ?_
            try simp only [Act.put, List.setIfInBounds_toArray, List.set_cons_zero, List.set_cons_succ]
            refine wpAnyT_take (i := 29) (v := undef) rfl (by kernel_rfl) (fun _ _ _ h => h) (Or.inr ⟨by kernel_rfl, rfl⟩) HS ?_
            try simp only [Act.put, List.setIfInBounds_toArray, List.set_cons_zero, List.set_cons_succ]
            refine wpAnyT_take (i := 30) (v := undef) rfl (by kernel_rfl) (fun _ _ _ h => h) (Or.inr ⟨by kernel_rfl, rfl⟩) HS ?_
            try simp only [Act.put, List.setIfInBounds_toArray, List.set_cons_zero, List.set_cons_succ]
            refine wpAnyT_take (i := 31) (v := undef) rfl (by kernel_rfl) (fun _ _ _ h => h) (Or.inr ⟨by kernel_rfl, rfl⟩) HS ?_
            try simp only [Act.put, List.setIfInBounds_toArray, List.set_cons_zero, List.set_cons_succ]
            refine wpAnyT_take (i := 32) (v := undef) rfl (by kernel_rfl) (fun _ _ _ h => h) (Or.inr ⟨by kernel_rfl, rfl⟩) HS ?_
            try simp only [Act.put, List.setIfInBounds_toArray, List.set_cons_zero, List.set_cons_succ]
            refine ⟨by kernel_rfl, ?_⟩
            simp only [List.drop_succ_cons, List.drop_zero]
            have hx := HX3.out
            have hwv : waitB fx sx bytes false = false := by rw [HW.out]; exact decide_eq_false (fun h => by have h1 := of_decide_eq_false HV1.out; have h2 := h.1; omega)
            rw [if_neg (by rw [hwv]; simp)] at hx
            cases hx
            have bz := b4.trans (HS.1.mono z4)
            clear hwv HS
            go_wp2_with fail
            go_ret2
            exact ⟨rfl, bz⟩
          | true =>
          cases v2 with
          | false =>
            refine wp_region_tail 33 34 (fun (W : World) => Below w4.heap.size w4 W ∧ (W.cell? ⟨bb, o + fu * 5 + 3, none⟩ = some (.int .i64 fx.srtt) ∧ W.cell? ⟨bb, o + su * 5 + 3, none⟩ = some (.int .i64 sx.srtt))) (by kernel_rfl) (by rfl) (by decide) ?_
            have HS : ((fun (W : World) => Below w4.heap.size w4 W ∧ (W.cell? ⟨bb, o + fu * 5 + 3, none⟩ = some (.int .i64 fx.srtt) ∧ W.cell? ⟨bb, o + su * 5 + 3, none⟩ = some (.int .i64 sx.srtt)))) _ := ⟨(Below.refl _ _).drew, y3, t3⟩
            refine wpAnyT_take (i := 0) (v := ?vv15) rfl (by kernel_rfl) (fun _ _ _ h => h) (Or.inl ⟨by rfl, fun w hSw => ?yy15⟩) HS ?rr15
            case yy15 =>
              (try dsimp only at hSw); go_simp
              try with_reducible rfl
            try simp only [Act.put, List.setIfInBounds_toArray, List.set_cons_zero, List.set_cons_succ]
            refine wpAnyT_take (i := 1) (v := .int .i64 (4 * (1 + nq1))) rfl (by kernel_rfl) (fun _ _ _ h => h) (Or.inl ⟨by rfl, fun w hSw => ?_⟩) HS ?_
            · (try dsimp only at hSw); go_simp
            try simp only [Act.put, List.setIfInBounds_toArray, List.set_cons_zero, List.set_cons_succ]
            refine wpAnyT_take (i := 2) (v := ?vv16) rfl (by kernel_rfl) (fun _ _ _ h => h) (Or.inl ⟨by rfl, fun w hSw => ?yy16⟩) HS ?rr16
            case yy16 =>
              (try dsimp only at hSw); go_simp
              try with_reducible rfl
            try simp only [Act.put, List.setIfInBounds_toArray, List.set_cons_zero, List.set_cons_succ]
            refine wpAnyT_take (i := 3) (v := ?vv17) rfl (by kernel_rfl) (fun _ _ _ h => h) (Or.inl ⟨by rfl, fun w hSw => ?yy17⟩) HS ?rr17
            case yy17 =>
              (try dsimp only at hSw); go_simp
              try with_reducible rfl
            try simp only [Act.put, List.setIfInBounds_toArray, List.set_cons_zero, List.set_cons_succ]
            refine wpAnyT_take (i := 4) (v := ?vv18) rfl (by kernel_rfl) (fun _ _ _ h => h) (Or.inl ⟨by rfl, fun w hSw => ?yy18⟩) HS ?rr18
            case yy18 =>
              (try dsimp only at hSw); go_simp
              try with_reducible rfl
            try simp only [Act.put, List.setIfInBounds_toArray, List.set_cons_zero, List.set_cons_succ]
            refine wpAnyT_take (i := 5) (v := ?vv19) rfl (by kernel_rfl) (fun _ _ _ h => h) (Or.inl ⟨by rfl, fun w hSw => ?yy19⟩) HS ?rr19
            case yy19 =>
              (try dsimp only at hSw); go_simp
              try with_reducible rfl
            try simp only [Act.put, List.setIfInBounds_toArray, List.set_cons_zero, List.set_cons_succ]
            refine wpAnyT_take (i := 6) (v := ?vv20) rfl (by kernel_rfl) (fun _ _ _ h => h) (Or.inl ⟨by rfl, fun w hSw => ?yy20⟩) HS ?rr20
            case yy20 =>
              (try dsimp only at hSw); go_simp
              try with_reducible rfl
            try simp only [Act.put, List.setIfInBounds_toArray, List.set_cons_zero, List.set_cons_succ]
            refine wpAnyT_take (i := 7) (v := ?vv21) rfl (by kernel_rfl) (fun _ _ _ h => h) (Or.inl ⟨by rfl, fun w hSw => ?yy21⟩) HS ?rr21
            case yy21 =>
              (try dsimp only at hSw); go_simp
              try with_reducible rfl
            try simp only [Act.put, List.setIfInBounds_toArray, List.set_cons_zero, List.set_cons_succ]
            refine wpAnyT_take (i := 8) (v := ?vv22) rfl (by kernel_rfl) (fun _ _ _ h => h) (Or.inl ⟨by rfl, fun w hSw => ?yy22⟩) HS ?rr22
            case yy22 =>
              (try dsimp only at hSw); go_simp
              try with_reducible rfl
            try simp only [Act.put, List.setIfInBounds_toArray, List.set_cons_zero, List.set_cons_succ]
            refine wpAnyT_take (i := 9) (v := ?vv23) rfl (by kernel_rfl) (fun _ _ _ h => h) (Or.inl ⟨by rfl, fun w hSw => ?yy23⟩) HS ?rr23
            case yy23 =>
              (try dsimp only at hSw); go_simp
              try with_reducible rfl
            try simp only [Act.put, List.setIfInBounds_toArray, List.set_cons_zero, List.set_cons_succ]
            refine wpAnyT_take (i := 10) (v := ?vv24) rfl (by kernel_rfl) (fun _ _ _ h => h) (Or.inl ⟨by rfl, fun w hSw => ?yy24⟩) HS ?rr24
            case yy24 =>
              (try dsimp only at hSw); go_simp
              try with_reducible rfl
            try simp only [Act.put, List.setIfInBounds_toArray, List.set_cons_zero, List.set_cons_succ]
            refine wpAnyT_take (i := 11) (v := ?vv25) rfl (by kernel_rfl) (fun _ _ _ h => h) (Or.inl ⟨by rfl, fun w hSw => ?yy25⟩) HS ?rr25
            case yy25 =>
              (try dsimp only at hSw); go_simp
              try with_reducible rfl
            try simp only [Act.put, List.setIfInBounds_toArray, List.set_cons_zero, List.set_cons_succ]
            refine wpAnyT_take (i := 12) (v := ?vv26) rfl (by kernel_rfl) (fun _ _ _ h => h) (Or.inl ⟨by rfl, fun w hSw => ?yy26⟩) HS ?rr26
            case yy26 =>
              (try dsimp only at hSw); go_simp
              try with_reducible rfl
            try simp only [Act.put, List.setIfInBounds_toArray, List.set_cons_zero, List.set_cons_succ]
            refine wpAnyT_take (i := 13) (v := ?vv27) rfl (by kernel_rfl) (fun _ _ _ h => h) (Or.inl ⟨by rfl, fun w hSw => ?yy27⟩) HS ?rr27
            case yy27 =>
              (try dsimp only at hSw); go_simp
              try with_reducible rfl
            try simp only [Act.put, List.setIfInBounds_toArray, List.set_cons_zero, List.set_cons_succ]
            refine wpAnyT_take (i := 14) (v := .int .i64 (sx.srtt + D)) rfl (by kernel_rfl) (fun _ _ _ h => h) (Or.inl ⟨by rfl, fun w hSw => ?_⟩) HS ?_
            · (try dsimp only at hSw); go_simp
            try simp only [Act.put, List.setIfInBounds_toArray, List.set_cons_zero, List.set_cons_succ]
            refine wpAnyT_one (k := 15) rfl (by kernel_rfl) (by decide) (fun K hK => ?_)
            go_simp
            refine (p1 _).mono ?_
            rintro e y1w ⟨rfl, rfl⟩
            have HS : ((fun (W : World) => Below w4.heap.size w4 W ∧ (W.cell? ⟨bb, o + fu * 5 + 3, none⟩ = some (.int .i64 fx.srtt) ∧ W.cell? ⟨bb, o + su * 5 + 3, none⟩ = some (.int .i64 sx.srtt)))) _ := HS
            refine hK _ _ HS ?_
            clear hK K
            try simp only [Act.put, List.setIfInBounds_toArray, List.set_cons_zero, List.set_cons_succ]
            refine wpAnyT_take (i := 16) (v := ?vv28) rfl (by kernel_rfl) (fun _ _ _ h => h) (Or.inl ⟨by rfl, fun w hSw => ?yy28⟩) HS ?rr28
            case yy28 =>
              (try dsimp only at hSw); go_simp
              try with_reducible rfl
            try simp only [Act.put, List.setIfInBounds_toArray, List.set_cons_zero, List.set_cons_succ]
            refine wpAnyT_take (i := 17) (v := ?vv29) rfl (by kernel_rfl) (fun _ _ _ h => h) (Or.inl ⟨by rfl, fun w hSw => ?yy29⟩) HS ?rr29
            case yy29 =>
              (try dsimp only at hSw); go_simp
              try with_reducible rfl
            try simp only [Act.put, List.setIfInBounds_toArray, List.set_cons_zero, List.set_cons_succ]
            refine wpAnyT_take (i := 18) (v := ?vv30) rfl (by kernel_rfl) (fun _ _ _ h => h) (Or.inl ⟨by rfl, fun w hSw => ?yy30⟩) HS ?rr30
            case yy30 =>
              (try dsimp only at hSw); go_simp
              try with_reducible rfl
            try simp only [Act.put, List.setIfInBounds_toArray, List.set_cons_zero, List.set_cons_succ]
            refine wpAnyT_take (i := 19) (v := ?vv31) rfl (by kernel_rfl) (fun _ _ _ h => h) (Or.inl ⟨by rfl, fun w hSw => ?yy31⟩) HS ?rr31
            case yy31 =>
              (try dsimp only at hSw); go_simp
              try with_reducible rfl
            try simp only [Act.put, List.setIfInBounds_toArray, List.set_cons_zero, List.set_cons_succ]
            refine wpAnyT_take (i := 20) (v := ?vv32) rfl (by kernel_rfl) (fun _ _ _ h => h) (Or.inl ⟨by rfl, fun w hSw => ?yy32⟩) HS ?rr32
            case yy32 =>
              (try dsimp only at hSw); go_simp
              try with_reducible rfl
            try simp only [Act.put, List.setIfInBounds_toArray, List.set_cons_zero, List.set_cons_succ]
            refine wpAnyT_take (i := 21) (v := ?vv33) rfl (by kernel_rfl) (fun _ _ _ h => h) (Or.inl ⟨by rfl, fun w hSw => ?yy33⟩) HS ?rr33
            case yy33 =>
              (try dsimp only at hSw); go_simp
              try with_reducible rfl
            try simp only [Act.put, List.setIfInBounds_toArray, List.set_cons_zero, List.set_cons_succ]
            refine wpAnyT_take (i := 22) (v := ?vv34) rfl (by kernel_rfl) (fun _ _ _ h => h) (Or.inl ⟨by rfl, fun w hSw => ?yy34⟩) HS ?rr34
            case yy34 =>
              (try dsimp only at hSw); go_simp
              try with_reducible rfl
            try simp only [Act.put, List.setIfInBounds_toArray, List.set_cons_zero, List.set_cons_succ]
            refine wpAnyT_take (i := 23) (v := ?vv35) rfl (by kernel_rfl) (fun _ _ _ h => h) (Or.inl ⟨by rfl, fun w hSw => ?yy35⟩) HS ?rr35
            case yy35 =>
              (try dsimp only at hSw); go_simp
              try with_reducible rfl
            try simp only [Act.put, List.setIfInBounds_toArray, List.set_cons_zero, List.set_cons_succ]
            refine wpAnyT_take (i := 24) (v := ?vv36) rfl (by kernel_rfl) (fun _ _ _ h => h) (Or.inl ⟨by rfl, fun w hSw => ?yy36⟩) HS ?rr36
            case yy36 =>
              (try dsimp only at hSw); go_simp
              try with_reducible rfl
            try simp only [Act.put, List.setIfInBounds_toArray, List.set_cons_zero, List.set_cons_succ]
            refine wpAnyT_take (i := 25) (v := ?vv37) rfl (by kernel_rfl) (fun _ _ _ h => h) (Or.inl ⟨by rfl, fun w hSw => ?yy37⟩) HS ?rr37
            case yy37 =>
              (try dsimp only at hSw); go_simp
              try with_reducible rfl
            try simp only [Act.put, List.setIfInBounds_toArray, List.set_cons_zero, List.set_cons_succ]
            refine wpAnyT_take (i := 26) (v := ?vv38) rfl (by kernel_rfl) (fun _ _ _ h => h) (Or.inl ⟨by rfl, fun w hSw => ?yy38⟩) HS ?rr38
            case yy38 =>
              (try dsimp only at hSw); go_simp
              try with_reducible rfl
            try simp only [Act.put, List.setIfInBounds_toArray, List.set_cons_zero, List.set_cons_succ]
            refine wpAnyT_take (i := 27) (v := ?vv39) rfl (by kernel_rfl) (fun _ _ _ h => h) (Or.inl ⟨by rfl, fun w hSw => ?yy39⟩) HS ?rr39
            case yy39 =>
              (try dsimp only at hSw); go_simp
              try with_reducible rfl
            try simp only [Act.put, List.setIfInBounds_toArray, List.set_cons_zero, List.set_cons_succ]
            refine wpAnyT_take (i := 28) (v := .int .i64 (2 * fx.srtt)) rfl (by kernel_rfl) (fun _ _ _ h => h) (Or.inl ⟨by rfl, fun w hSw => ?_⟩) HS ?_
            · (try dsimp only at hSw); go_simp
            try simp only [Act.put, List.setIfInBounds_toArray, List.set_cons_zero, List.set_cons_succ]
            refine wpAnyT_take (i := 29) (v := ?vv40) rfl (by kernel_rfl) (fun _ _ _ h => h) (Or.inl ⟨by rfl, fun w hSw => ?yy40⟩) HS ?rr40
            case yy40 =>
              (try dsimp only at hSw); go_simp
              try with_reducible rfl
            try simp only [Act.put, List.setIfInBounds_toArray, List.set_cons_zero, List.set_cons_succ]
            refine wpAnyT_take (i := 30) (v := .int .i64 (2 * fx.srtt + D)) rfl (by kernel_rfl) (fun _ _ _ h => h) (Or.inl ⟨by rfl, fun w hSw => ?_⟩) HS ?_
            · (try dsimp only at hSw); go_simp
            try simp only [Act.put, List.setIfInBounds_toArray, List.set_cons_zero, List.set_cons_succ]
            refine wpAnyT_one (k := 31) rfl (by kernel_rfl) (by decide) (fun K hK => ?_)
            go_simp
            refine (p2 _).mono ?_
            rintro e y2w ⟨rfl, rfl⟩
            have HS : ((fun (W : World) => Below w4.heap.size w4 W ∧ (W.cell? ⟨bb, o + fu * 5 + 3, none⟩ = some (.int .i64 fx.srtt) ∧ W.cell? ⟨bb, o + su * 5 + 3, none⟩ = some (.int .i64 sx.srtt)))) _ := HS
            refine hK _ _ HS ?_
            clear hK K
            try simp only [Act.put, List.setIfInBounds_toArray, List.set_cons_zero, List.set_cons_succ]
            refine wpAnyT_take (i := 32) (v := ?vv41) rfl (by kernel_rfl) (fun _ _ _ h => h) (Or.inl ⟨by rfl, fun w hSw => ?yy41⟩) HS ?rr41
            case yy41 =>
              (try dsimp only at hSw); go_simp
              try with_reducible rfl
            try simp only [Act.put, List.setIfInBounds_toArray, List.set_cons_zero, List.set_cons_succ]
            refine ⟨by kernel_rfl, ?_⟩
            simp only [List.drop_succ_cons, List.drop_zero]
            have hx := HX3.out
            have hwv : waitB fx sx bytes false = true := by rw [HW.out]; exact decide_eq_true ⟨of_decide_eq_true HV1.out, by have := of_decide_eq_false HV2.out; omega⟩
            rw [if_pos hwv] at hx
            cases hx
            have bz := b4.trans (HS.1.mono z4)
            clear hwv HS
            go_wp2_with fail
            go_ret2
            exact ⟨rfl, bz⟩
          | true =>
            refine wp_region_tail 33 34 (fun (W : World) => Below w4.heap.size w4 W ∧ (W.cell? ⟨bb, o + fu * 5 + 3, none⟩ = some (.int .i64 fx.srtt) ∧ W.cell? ⟨bb, o + su * 5 + 3, none⟩ = some (.int .i64 sx.srtt))) (by kernel_rfl) (by rfl) (by decide) ?_
            have HS : ((fun (W : World) => Below w4.heap.size w4 W ∧ (W.cell? ⟨bb, o + fu * 5 + 3, none⟩ = some (.int .i64 fx.srtt) ∧ W.cell? ⟨bb, o + su * 5 + 3, none⟩ = some (.int .i64 sx.srtt)))) _ := ⟨(Below.refl _ _).drew, y3, t3⟩
            refine wpAnyT_take (i := 0) (v := ?vv42) rfl (by kernel_rfl) (fun _ _ _ h => h) (Or.inl ⟨by rfl, fun w hSw => ?yy42⟩) HS ?rr42
            case yy42 =>
              (try dsimp only at hSw); go_simp
              try with_reducible rfl
            try simp only [Act.put, List.setIfInBounds_toArray, List.set_cons_zero, List.set_cons_succ]
            refine wpAnyT_take (i := 1) (v := .int .i64 (4 * (1 + nq1))) rfl (by kernel_rfl) (fun _ _ _ h => h) (Or.inl ⟨by rfl, fun w hSw => ?_⟩) HS ?_
            · (try dsimp only at hSw); go_simp
            try simp only [Act.put, List.setIfInBounds_toArray, List.set_cons_zero, List.set_cons_succ]
            refine wpAnyT_take (i := 2) (v := ?vv43) rfl (by kernel_rfl) (fun _ _ _ h => h) (Or.inl ⟨by rfl, fun w hSw => ?yy43⟩) HS ?rr43
            case yy43 =>
              (try dsimp only at hSw); go_simp
              try with_reducible rfl
            try simp only [Act.put, List.setIfInBounds_toArray, List.set_cons_zero, List.set_cons_succ]
            refine wpAnyT_take (i := 3) (v := ?vv44) rfl (by kernel_rfl) (fun _ _ _ h => h) (Or.inl ⟨by rfl, fun w hSw => ?yy44⟩) HS ?rr44
            case yy44 =>
              (try dsimp only at hSw); go_simp
              try with_reducible rfl
            try simp only [Act.put, List.setIfInBounds_toArray, List.set_cons_zero, List.set_cons_succ]
            refine wpAnyT_take (i := 4) (v := ?vv45) rfl (by kernel_rfl) (fun _ _ _ h => h) (Or.inl ⟨by rfl, fun w hSw => ?yy45⟩) HS ?rr45
            case yy45 =>
              (try dsimp only at hSw); go_simp
              try with_reducible rfl
            try simp only [Act.put, List.setIfInBounds_toArray, List.set_cons_zero, List.set_cons_succ]
            refine wpAnyT_take (i := 5) (v := ?vv46) rfl (by kernel_rfl) (fun _ _ _ h => h) (Or.inl ⟨by rfl, fun w hSw => ?yy46⟩) HS ?rr46
            case yy46 =>
              (try dsimp only at hSw); go_simp
              try with_reducible rfl
            try simp only [Act.put, List.setIfInBounds_toArray, List.set_cons_zero, List.set_cons_succ]
            refine wpAnyT_take (i := 6) (v := ?vv47) rfl (by kernel_rfl) (fun _ _ _ h => h) (Or.inl ⟨by rfl, fun w hSw => ?yy47⟩) HS ?rr47
            case yy47 =>
              (try dsimp only at hSw); go_simp
              try with_reducible rfl
            try simp only [Act.put, List.setIfInBounds_toArray, List.set_cons_zero, List.set_cons_succ]
            refine wpAnyT_take (i := 7) (v := ?vv48) rfl (by kernel_rfl) (fun _ _ _ h => h) (Or.inl ⟨by rfl, fun w hSw => ?yy48⟩) HS ?rr48
            case yy48 =>
              (try dsimp only at hSw); go_simp
              try with_reducible rfl
            try simp only [Act.put, List.setIfInBounds_toArray, List.set_cons_zero, List.set_cons_succ]
            refine wpAnyT_take (i := 8) (v := ?vv49) rfl (by kernel_rfl) (fun _ _ _ h => h) (Or.inl ⟨by rfl, fun w hSw => ?yy49⟩) HS ?rr49
            case yy49 =>
              (try dsimp only at hSw); go_simp
              try with_reducible rfl
            try simp only [Act.put, List.setIfInBounds_toArray, List.set_cons_zero, List.set_cons_succ]
            refine wpAnyT_take (i := 9) (v := ?vv50) rfl (by kernel_rfl) (fun _ _ _ h => h) (Or.inl ⟨by rfl, fun w hSw => ?yy50⟩) HS ?rr50
            case yy50 =>
              (try dsimp only at hSw); go_simp
              try with_reducible rfl
            try simp only [Act.put, List.setIfInBounds_toArray, List.set_cons_zero, List.set_cons_succ]
            refine wpAnyT_take (i := 10) (v := ?vv51) rfl (by kernel_rfl) (fun _ _ _ h => h) (Or.inl ⟨by rfl, fun w hSw => ?yy51⟩) HS ?rr51
            case yy51 =>
              (try dsimp only at hSw); go_simp
              try with_reducible rfl
            try simp only [Act.put, List.setIfInBounds_toArray, List.set_cons_zero, List.set_cons_succ]
            refine wpAnyT_take (i := 11) (v := ?vv52) rfl (by kernel_rfl) (fun _ _ _ h => h) (Or.inl ⟨by rfl, fun w hSw => ?yy52⟩) HS ?rr52
            case yy52 =>
              (try dsimp only at hSw); go_simp
              try with_reducible rfl
            try simp only [Act.put, List.setIfInBounds_toArray, List.set_cons_zero, List.set_cons_succ]
            refine wpAnyT_take (i := 12) (v := ?vv53) rfl (by kernel_rfl) (fun _ _ _ h => h) (Or.inl ⟨by rfl, fun w hSw => ?yy53⟩) HS ?rr53
            case yy53 =>
              (try dsimp only at hSw); go_simp
              try with_reducible rfl
            try simp only [Act.put, List.setIfInBounds_toArray, List.set_cons_zero, List.set_cons_succ]
            refine wpAnyT_take (i := 13) (v := ?vv54) rfl (by kernel_rfl) (fun _ _ _ h => h) (Or.inl ⟨by rfl, fun w hSw => ?yy54⟩) HS ?rr54
            case yy54 =>
              (try dsimp only at hSw); go_simp
              try with_reducible rfl
            try simp only [Act.put, List.setIfInBounds_toArray, List.set_cons_zero, List.set_cons_succ]
            refine wpAnyT_take (i := 14) (v := .int .i64 (sx.srtt + D)) rfl (by kernel_rfl) (fun _ _ _ h => h) (Or.inl ⟨by rfl, fun w hSw => ?_⟩) HS ?_
            · (try dsimp only at hSw); go_simp
            try simp only [Act.put, List.setIfInBounds_toArray, List.set_cons_zero, List.set_cons_succ]
            refine wpAnyT_one (k := 15) rfl (by kernel_rfl) (by decide) (fun K hK => ?_)
            go_simp
            refine (p1 _).mono ?_
            rintro e y1w ⟨rfl, rfl⟩
            have HS : ((fun (W : World) => Below w4.heap.size w4 W ∧ (W.cell? ⟨bb, o + fu * 5 + 3, none⟩ = some (.int .i64 fx.srtt) ∧ W.cell? ⟨bb, o + su * 5 + 3, none⟩ = some (.int .i64 sx.srtt)))) _ := HS
            refine hK _ _ HS ?_
            clear hK K
            try simp only [Act.put, List.setIfInBounds_toArray, List.set_cons_zero, List.set_cons_succ]
            refine wpAnyT_take (i := 16) (v := ?vv55) rfl (by kernel_rfl) (fun _ _ _ h => h) (Or.inl ⟨by rfl, fun w hSw => ?yy55⟩) HS ?rr55
            case yy55 =>
              (try dsimp only at hSw); go_simp
              try with_reducible rfl
            try simp only [Act.put, List.setIfInBounds_toArray, List.set_cons_zero, List.set_cons_succ]
            refine wpAnyT_take (i := 17) (v := ?vv56) rfl (by kernel_rfl) (fun _ _ _ h => h) (Or.inl ⟨by rfl, fun w hSw => ?yy56⟩) HS ?rr56
            case yy56 =>
              (try dsimp only at hSw); go_simp
              try with_reducible rfl
            try simp only [Act.put, List.setIfInBounds_toArray, List.set_cons_zero, List.set_cons_succ]
            refine wpAnyT_take (i := 18) (v := ?vv57) rfl (by kernel_rfl) (fun _ _ _ h => h) (Or.inl ⟨by rfl, fun w hSw => ?yy57⟩) HS ?rr57
            case yy57 =>
              (try dsimp only at hSw); go_simp
              try with_reducible rfl
            try simp only [Act.put, List.setIfInBounds_toArray, List.set_cons_zero, List.set_cons_succ]
            refine wpAnyT_take (i := 19) (v := ?vv58) rfl (by kernel_rfl) (fun _ _ _ h => h) (Or.inl ⟨by rfl, fun w hSw => ?yy58⟩) HS ?rr58
            case yy58 =>
              (try dsimp only at hSw); go_simp
              try with_reducible rfl
            try simp only [Act.put, List.setIfInBounds_toArray, List.set_cons_zero, List.set_cons_succ]
            refine wpAnyT_take (i := 20) (v := ?vv59) rfl (by kernel_rfl) (fun _ _ _ h => h) (Or.inl ⟨by rfl, fun w hSw => ?yy59⟩) HS ?rr59
            case yy59 =>
              (try dsimp only at hSw); go_simp
              try with_reducible rfl
            try simp only [Act.put, List.setIfInBounds_toArray, List.set_cons_zero, List.set_cons_succ]
            refine wpAnyT_take (i := 21) (v := ?vv60) rfl (by kernel_rfl) (fun _ _ _ h => h) (Or.inl ⟨by rfl, fun w hSw => ?yy60⟩) HS ?rr60
            case yy60 =>
              (try dsimp only at hSw); go_simp
              try with_reducible rfl
            try simp only [Act.put, List.setIfInBounds_toArray, List.set_cons_zero, List.set_cons_succ]
            refine wpAnyT_take (i := 22) (v := ?vv61) rfl (by kernel_rfl) (fun _ _ _ h => h) (Or.inl ⟨by rfl, fun w hSw => ?yy61⟩) HS ?rr61
            case yy61 =>
              (try dsimp only at hSw); go_simp
              try with_reducible rfl
            try simp only [Act.put, List.setIfInBounds_toArray, List.set_cons_zero, List.set_cons_succ]
            refine wpAnyT_take (i := 23) (v := ?vv62) rfl (by kernel_rfl) (fun _ _ _ h => h) (Or.inl ⟨by rfl, fun w hSw => ?yy62⟩) HS ?rr62
            case yy62 =>
              (try dsimp only at hSw); go_simp
              try with_reducible rfl
            try simp only [Act.put, List.setIfInBounds_toArray, List.set_cons_zero, List.set_cons_succ]
            refine wpAnyT_take (i := 24) (v := ?vv63) rfl (by kernel_rfl) (fun _ _ _ h => h) (Or.inl ⟨by rfl, fun w hSw => ?yy63⟩) HS ?rr63
            case yy63 =>
              (try dsimp only at hSw); go_simp
              try with_reducible rfl
            try simp only [Act.put, List.setIfInBounds_toArray, List.set_cons_zero, List.set_cons_succ]
            refine wpAnyT_take (i := 25) (v := ?vv64) rfl (by kernel_rfl) (fun _ _ _ h => h) (Or.inl ⟨by rfl, fun w hSw => ?yy64⟩) HS ?rr64
            case yy64 =>
              (try dsimp only at hSw); go_simp
              try with_reducible rfl
            try simp only [Act.put, List.setIfInBounds_toArray, List.set_cons_zero, List.set_cons_succ]
            refine wpAnyT_take (i := 26) (v := ?vv65) rfl (by kernel_rfl) (fun _ _ _ h => h) (Or.inl ⟨by rfl, fun w hSw => ?yy65⟩) HS ?rr65
            case yy65 =>
              (try dsimp only at hSw); go_simp
              try with_reducible rfl
            try simp only [Act.put, List.setIfInBounds_toArray, List.set_cons_zero, List.set_cons_succ]
            refine wpAnyT_take (i := 27) (v := ?vv66) rfl (by kernel_rfl) (fun _ _ _ h => h) (Or.inl ⟨by rfl, fun w hSw => ?yy66⟩) HS ?rr66
            case yy66 =>
              (try dsimp only at hSw); go_simp
              try with_reducible rfl
            try simp only [Act.put, List.setIfInBounds_toArray, List.set_cons_zero, List.set_cons_succ]
            refine wpAnyT_take (i := 28) (v := .int .i64 (2 * fx.srtt)) rfl (by kernel_rfl) (fun _ _ _ h => h) (Or.inl ⟨by rfl, fun w hSw => ?_⟩) HS ?_
            · (try dsimp only at hSw); go_simp
            try simp only [Act.put, List.setIfInBounds_toArray, List.set_cons_zero, List.set_cons_succ]
            refine wpAnyT_take (i := 29) (v := ?vv67) rfl (by kernel_rfl) (fun _ _ _ h => h) (Or.inl ⟨by rfl, fun w hSw => ?yy67⟩) HS ?rr67
            case yy67 =>
              (try dsimp only at hSw); go_simp
              try with_reducible rfl
            try simp only [Act.put, List.setIfInBounds_toArray, List.set_cons_zero, List.set_cons_succ]
            refine wpAnyT_take (i := 30) (v := .int .i64 (2 * fx.srtt + D)) rfl (by kernel_rfl) (fun _ _ _ h => h) (Or.inl ⟨by rfl, fun w hSw => ?_⟩) HS ?_
            · (try dsimp only at hSw); go_simp
            try simp only [Act.put, List.setIfInBounds_toArray, List.set_cons_zero, List.set_cons_succ]
            refine wpAnyT_one (k := 31) rfl (by kernel_rfl) (by decide) (fun K hK => ?_)
            go_simp
            refine (p2 _).mono ?_
            rintro e y2w ⟨rfl, rfl⟩
            have HS : ((fun (W : World) => Below w4.heap.size w4 W ∧ (W.cell? ⟨bb, o + fu * 5 + 3, none⟩ = some (.int .i64 fx.srtt) ∧ W.cell? ⟨bb, o + su * 5 + 3, none⟩ = some (.int .i64 sx.srtt)))) _ := HS
            refine hK _ _ HS ?_
            clear hK K
            try simp only [Act.put, List.setIfInBounds_toArray, List.set_cons_zero, List.set_cons_succ]
            refine wpAnyT_take (i := 32) (v := ?vv68) rfl (by kernel_rfl) (fun _ _ _ h => h) (Or.inl ⟨by rfl, fun w hSw => ?yy68⟩) HS ?rr68
            case yy68 =>
              (try dsimp only at hSw); go_simp
              try with_reducible rfl
            try simp only [Act.put, List.setIfInBounds_toArray, List.set_cons_zero, List.set_cons_succ]
            refine ⟨by kernel_rfl, ?_⟩
            simp only [List.drop_succ_cons, List.drop_zero]
            have hx := HX3.out
            have hwv : waitB fx sx bytes false = false := by rw [HW.out]; exact decide_eq_false (fun h => by have h1 := of_decide_eq_true HV2.out; have h2 := h.2; omega)
            rw [if_neg (by rw [hwv]; simp)] at hx
            cases hx
            have bz := b4.trans (HS.1.mono z4)
            clear hwv HS
            go_wp2_with fail
            go_ret2
            exact ⟨rfl, bz⟩
        | true =>
          have HW' := HW.out
          rw [if_pos rfl] at HW'
          have HW := Lib.hid HW'
          clear HW'
          have p1 := fun w => rebelow_any (4 * (1 + nq1)) fx.srtt 5 (sx.srtt + D) w (by omega) (by omega) (by omega) (by omega)
          obtain ⟨v1, hv1⟩ : ∃ v, decide ((4 * (1 + nq1)) * fx.srtt < 5 * (sx.srtt + D)) = v := ⟨_, rfl⟩
          rw [hv1] at p1
          have HV1 := Lib.hid hv1
          clear hv1
          go_upto_region 27 with fail
          cases v1 with
          | false =>
            refine wp_region_tail 33 34 (fun (W : World) => Below w4.heap.size w4 W ∧ (W.cell? ⟨bb, o + fu * 5 + 3, none⟩ = some (.int .i64 fx.srtt) ∧ W.cell? ⟨bb, o + su * 5 + 3, none⟩ = some (.int .i64 sx.srtt))) (by kernel_rfl) (by rfl) (by decide) ?_
            have HS : ((fun (W : World) => Below w4.heap.size w4 W ∧ (W.cell? ⟨bb, o + fu * 5 + 3, none⟩ = some (.int .i64 fx.srtt) ∧ W.cell? ⟨bb, o + su * 5 + 3, none⟩ = some (.int .i64 sx.srtt)))) _ := ⟨(Below.refl _ _).drew, y3, t3⟩
            refine wpAnyT_take (i := 0) (v := ?vv69) rfl (by kernel_rfl) (fun _ _ _ h => h) (Or.inl ⟨by rfl, fun w hSw => ?yy69⟩) HS ?rr69
            case yy69 =>
              (try dsimp only at hSw); go_simp
              try with_reducible rfl
            try simp only [Act.put, List.setIfInBounds_toArray, List.set_cons_zero, List.set_cons_succ]
            refine wpAnyT_take (i := 1) (v := .int .i64 (4 * (1 + nq1))) rfl (by kernel_rfl) (fun _ _ _ h => h) (Or.inl ⟨by rfl, fun w hSw => ?_⟩) HS ?_
            · (try dsimp only at hSw); go_simp
            try simp only [Act.put, List.setIfInBounds_toArray, List.set_cons_zero, List.set_cons_succ]
            refine wpAnyT_take (i := 2) (v := ?vv70) rfl (by kernel_rfl) (fun _ _ _ h => h) (Or.inl ⟨by rfl, fun w hSw => ?yy70⟩) HS ?rr70
            case yy70 =>
              (try dsimp only at hSw); go_simp
              try with_reducible rfl
            try simp only [Act.put, List.setIfInBounds_toArray, List.set_cons_zero, List.set_cons_succ]
            refine wpAnyT_take (i := 3) (v := ?vv71) rfl (by kernel_rfl) (fun _ _ _ h => h) (Or.inl ⟨by rfl, fun w hSw => ?yy71⟩) HS ?rr71
            case yy71 =>
              (try dsimp only at hSw); go_simp
              try with_reducible rfl
            try simp only [Act.put, List.setIfInBounds_toArray, List.set_cons_zero, List.set_cons_succ]
            refine wpAnyT_take (i := 4) (v := ?vv72) rfl (by kernel_rfl) (fun _ _ _ h => h) (Or.inl ⟨by rfl, fun w hSw => ?yy72⟩) HS ?rr72
            case yy72 =>
              (try dsimp only at hSw); go_simp
              try with_reducible rfl
            try simp only [Act.put, List.setIfInBounds_toArray, List.set_cons_zero, List.set_cons_succ]
            refine wpAnyT_take (i := 5) (v := ?vv73) rfl (by kernel_rfl) (fun _ _ _ h => h) (Or.inl ⟨by rfl, fun w hSw => ?yy73⟩) HS ?rr73
            case yy73 =>
              (try dsimp only at hSw); go_simp
              try with_reducible rfl
            try simp only [Act.put, List.setIfInBounds_toArray, List.set_cons_zero, List.set_cons_succ]
            refine wpAnyT_take (i := 6) (v := ?vv74) rfl (by kernel_rfl) (fun _ _ _ h => h) (Or.inl ⟨by rfl, fun w hSw => ?yy74⟩) HS ?rr74
            case yy74 =>
              (try dsimp only at hSw); go_simp
              try with_reducible rfl
            try simp only [Act.put, List.setIfInBounds_toArray, List.set_cons_zero, List.set_cons_succ]
            refine wpAnyT_take (i := 7) (v := ?vv75) rfl (by kernel_rfl) (fun _ _ _ h => h) (Or.inl ⟨by rfl, fun w hSw => ?yy75⟩) HS ?rr75
            case yy75 =>
              (try dsimp only at hSw); go_simp
              try with_reducible rfl
            try simp only [Act.put, List.setIfInBounds_toArray, List.set_cons_zero, List.set_cons_succ]
            refine wpAnyT_take (i := 8) (v := ?vv76) rfl (by kernel_rfl) (fun _ _ _ h => h) (Or.inl ⟨by rfl, fun w hSw => ?yy76⟩) HS ?rr76
            case yy76 =>
              (try dsimp only at hSw); go_simp
              try with_reducible rfl
            try simp only [Act.put, List.setIfInBounds_toArray, List.set_cons_zero, List.set_cons_succ]
            refine wpAnyT_take (i := 9) (v := ?vv77) rfl (by kernel_rfl) (fun _ _ _ h => h) (Or.inl ⟨by rfl, fun w hSw => ?yy77⟩) HS ?rr77
            case yy77 =>
              (try dsimp only at hSw); go_simp
              try with_reducible rfl
            try simp only [Act.put, List.setIfInBounds_toArray, List.set_cons_zero, List.set_cons_succ]
            refine wpAnyT_take (i := 10) (v := ?vv78) rfl (by kernel_rfl) (fun _ _ _ h => h) (Or.inl ⟨by rfl, fun w hSw => ?yy78⟩) HS ?rr78
            case yy78 =>
              (try dsimp only at hSw); go_simp
              try with_reducible rfl
            try simp only [Act.put, List.setIfInBounds_toArray, List.set_cons_zero, List.set_cons_succ]
            refine wpAnyT_take (i := 11) (v := ?vv79) rfl (by kernel_rfl) (fun _ _ _ h => h) (Or.inl ⟨by rfl, fun w hSw => ?yy79⟩) HS ?rr79
            case yy79 =>
              (try dsimp only at hSw); go_simp
              try with_reducible rfl
            try simp only [Act.put, List.setIfInBounds_toArray, List.set_cons_zero, List.set_cons_succ]
            refine wpAnyT_take (i := 12) (v := ?vv80) rfl (by kernel_rfl) (fun _ _ _ h => h) (Or.inl ⟨by rfl, fun w hSw => ?yy80⟩) HS ?rr80
            case yy80 =>
              (try dsimp only at hSw); go_simp
              try with_reducible rfl
            try simp only [Act.put, List.setIfInBounds_toArray, List.set_cons_zero, List.set_cons_succ]
            refine wpAnyT_take (i := 13) (v := ?vv81) rfl (by kernel_rfl) (fun _ _ _ h => h) (Or.inl ⟨by rfl, fun w hSw => ?yy81⟩) HS ?rr81
            case yy81 =>
              (try dsimp only at hSw); go_simp
              try with_reducible rfl
            try simp only [Act.put, List.setIfInBounds_toArray, List.set_cons_zero, List.set_cons_succ]
            refine wpAnyT_take (i := 14) (v := .int .i64 (sx.srtt + D)) rfl (by kernel_rfl) (fun _ _ _ h => h) (Or.inl ⟨by rfl, fun w hSw => ?_⟩) HS ?_
            · (try dsimp only at hSw); go_simp
            try simp only [Act.put, List.setIfInBounds_toArray, List.set_cons_zero, List.set_cons_succ]
            refine wpAnyT_one (k := 15) rfl (by kernel_rfl) (by decide) (fun K hK => ?_)
            go_simp
            refine (p1 _).mono ?_
            rintro e y1w ⟨rfl, rfl⟩
            have HS : ((fun (W : World) => Below w4.heap.size w4 W ∧ (W.cell? ⟨bb, o + fu * 5 + 3, none⟩ = some (.int .i64 fx.srtt) ∧ W.cell? ⟨bb, o + su * 5 + 3, none⟩ = some (.int .i64 sx.srtt)))) _ := HS
            refine hK _ _ HS ?_
            clear hK K
            try simp only [Act.put, List.setIfInBounds_toArray, List.set_cons_zero, List.set_cons_succ]
            refine wpAnyT_take (i := 16) (v := ?vv82) rfl (by kernel_rfl) (fun _ _ _ h => h) (Or.inl ⟨by rfl, fun w hSw => ?yy82⟩) HS ?rr82
            case yy82 =>
              (try dsimp only at hSw); go_simp
              try with_reducible rfl
            try simp only [Act.put, List.setIfInBounds_toArray, List.set_cons_zero, List.set_cons_succ]
            refine wpAnyT_take (i := 17) (v := undef) rfl (by kernel_rfl) (fun _ _ _ h => h) (Or.inr ⟨by kernel_rfl, rfl⟩) HS ?_
            try simp only [Act.put, List.setIfInBounds_toArray, List.set_cons_zero, List.set_cons_succ]
            refine wpAnyT_take (i := 18) (v := undef) rfl (by kernel_rfl) (fun _ _ _ h => h) (Or.inr ⟨by kernel_rfl, rfl⟩) HS ?_
            try simp only [Act.put, List.setIfInBounds_toArray, List.set_cons_zero, List.set_cons_succ]
            refine wpAnyT_take (i := 19) (v := undef) rfl (by kernel_rfl) (fun _ _ _ h => h) (Or.inr ⟨by kernel_rfl, rfl⟩) HS ?_
            try simp only [Act.put, List.setIfInBounds_toArray, List.set_cons_zero, List.set_cons_succ]
            refine wpAnyT_take (i := 20) (v := undef) rfl (by kernel_rfl) (fun _ _ _ h => h) (Or.inr ⟨by kernel_rfl, rfl⟩) HS ?_
            try simp only [Act.put, List.setIfInBounds_toArray, List.set_cons_zero, List.set_cons_succ]
            refine wpAnyT_take (i := 21) (v := undef) rfl (by kernel_rfl) (fun _ _ _ h => h) (Or.inr ⟨by kernel_rfl, rfl⟩) HS ?_
            try simp only [Act.put, List.setIfInBounds_toArray, List.set_cons_zero, List.set_cons_succ]
            refine wpAnyT_take (i := 22) (v := undef) rfl (by kernel_rfl) (fun _ _ _ h => h) (Or.inr ⟨by kernel_rfl, rfl⟩) HS ?_
            try simp only [Act.put, List.setIfInBounds_toArray, List.set_cons_zero, List.set_cons_succ]
            refine wpAnyT_take (i := 23) (v := undef) rfl (by kernel_rfl) (fun _ _ _ h => h) (Or.inr ⟨by kernel_rfl, rfl⟩) HS ?_
            try simp only [Act.put, List.setIfInBounds_toArray, List.set_cons_zero, List.set_cons_succ]
            refine wpAnyT_take (i := 24) (v := undef) rfl (by kernel_rfl) (fun _ _ _ h => h) (Or.inr ⟨by kernel_rfl, rfl⟩) HS ?_
            try simp only [Act.put, List.setIfInBounds_toArray, List.set_cons_zero, List.set_cons_succ]
            refine wpAnyT_take (i := 25) (v := undef) rfl (by kernel_rfl) (fun _ _ _ h => h) (Or.inr ⟨by kernel_rfl, rfl⟩) HS ?_
            try simp only [Act.put, List.setIfInBounds_toArray, List.set_cons_zero, List.set_cons_succ]
            refine wpAnyT_take (i := 26) (v := undef) rfl (by kernel_rfl) (fun _ _ _ h => h) (Or.inr ⟨by kernel_rfl, rfl⟩) HS ?_
            try simp only [Act.put, List.setIfInBounds_toArray, List.set_cons_zero, List.set_cons_succ]
            refine wpAnyT_take (i := 27) (v := undef) rfl (by kernel_rfl) (fun _ _ _ h => h) (Or.inr ⟨by kernel_rfl, rfl⟩) HS ?_
            try simp only [Act.put, List.setIfInBounds_toArray, List.set_cons_zero, List.set_cons_succ]
            refine wpAnyT_take (i := 28) (v := undef) rfl (by kernel_rfl) (fun _ _ _ h => h) (Or.inr ⟨by kernel_rfl, rfl⟩) HS ?_
            try simp only [Act.put, List.setIfInBounds_toArray, List.set_cons_zero, List.set_cons_succ]
            refine wpAnyT_take (i := 29) (v := undef) rfl (by kernel_rfl) (fun _ _ _ h => h) (Or.inr ⟨by kernel_rfl, rfl⟩) HS ?_
            try simp only [Act.put, List.setIfInBounds_toArray, List.set_cons_zero, List.set_cons_succ]
            refine wpAnyT_take (i := 30) (v := undef) rfl (by kernel_rfl) (fun _ _ _ h => h) (Or.inr ⟨by kernel_rfl, rfl⟩) HS ?_
            try simp only [Act.put, List.setIfInBounds_toArray, List.set_cons_zero, List.set_cons_succ]
            refine wpAnyT_take (i := 31) (v := undef) rfl (by kernel_rfl) (fun _ _ _ h => h) (Or.inr ⟨by kernel_rfl, rfl⟩) HS ?_
            try simp only [Act.put, List.setIfInBounds_toArray, List.set_cons_zero, List.set_cons_succ]
            refine wpAnyT_take (i := 32) (v := undef) rfl (by kernel_rfl) (fun _ _ _ h => h) (Or.inr ⟨by kernel_rfl, rfl⟩) HS ?_
            try simp only [Act.put, List.setIfInBounds_toArray, List.set_cons_zero, List.set_cons_succ]
            refine ⟨by kernel_rfl, ?_⟩
            simp only [List.drop_succ_cons, List.drop_zero]
            have hx := HX3.out
            have hwv : waitB fx sx bytes true = false := by rw [HW.out]; exact decide_eq_false (fun h => by have h1 := of_decide_eq_false HV1.out; have h2 := h.1; omega)
            rw [if_neg (by rw [hwv]; simp)] at hx
            cases hx
            have bz := b4.trans (HS.1.mono z4)
            clear hwv HS
            go_wp2_with fail
            go_ret2
            exact ⟨rfl, bz⟩
          | true =>
          cases v2 with
          | false =>
            refine wp_region_tail 33 34 (fun (W : World) => Below w4.heap.size w4 W ∧ (W.cell? ⟨bb, o + fu * 5 + 3, none⟩ = some (.int .i64 fx.srtt) ∧ W.cell? ⟨bb, o + su * 5 + 3, none⟩ = some (.int .i64 sx.srtt))) (by kernel_rfl) (by rfl) (by decide) ?_
            have HS : ((fun (W : World) => Below w4.heap.size w4 W ∧ (W.cell? ⟨bb, o + fu * 5 + 3, none⟩ = some (.int .i64 fx.srtt) ∧ W.cell? ⟨bb, o + su * 5 + 3, none⟩ = some (.int .i64 sx.srtt)))) _ := ⟨(Below.refl _ _).drew, y3, t3⟩
            refine wpAnyT_take (i := 0) (v := ?vv83) rfl (by kernel_rfl) (fun _ _ _ h => h) (Or.inl ⟨by rfl, fun w hSw => ?yy83⟩) HS ?rr83
            case yy83 =>
              (try dsimp only at hSw); go_simp
              try with_reducible rfl
            try simp only [Act.put, List.setIfInBounds_toArray, List.set_cons_zero, List.set_cons_succ]
            refine wpAnyT_take (i := 1) (v := .int .i64 (4 * (1 + nq1))) rfl (by kernel_rfl) (fun _ _ _ h => h) (Or.inl ⟨by rfl, fun w hSw => ?_⟩) HS ?_
            · (try dsimp only at hSw); go_simp
            try simp only [Act.put, List.setIfInBounds_toArray, List.set_cons_zero, List.set_cons_succ]
            refine wpAnyT_take (i := 2) (v := ?vv84) rfl (by kernel_rfl) (fun _ _ _ h => h) (Or.inl ⟨by rfl, fun w hSw => ?yy84⟩) HS ?rr84
            case yy84 =>
              (try dsimp only at hSw); go_simp
              try with_reducible rfl
            try simp only [Act.put, List.setIfInBounds_toArray, List.set_cons_zero, List.set_cons_succ]
            refine wpAnyT_take (i := 3) (v := ?vv85) rfl (by kernel_rfl) (fun _ _ _ h => h) (Or.inl ⟨by rfl, fun w hSw => ?yy85⟩) HS ?rr85
            case yy85 =>
              (try dsimp only at hSw); go_simp
              try with_reducible rfl
            try simp only [Act.put, List.setIfInBounds_toArray, List.set_cons_zero, List.set_cons_succ]
            refine wpAnyT_take (i := 4) (v := ?vv86) rfl (by kernel_rfl) (fun _ _ _ h => h) (Or.inl ⟨by rfl, fun w hSw => ?yy86⟩) HS ?rr86
            case yy86 =>
              (try dsimp only at hSw); go_simp
              try with_reducible rfl
            try simp only [Act.put, List.setIfInBounds_toArray, List.set_cons_zero, List.set_cons_succ]
            refine wpAnyT_take (i := 5) (v := ?vv87) rfl (by kernel_rfl) (fun _ _ _ h => h) (Or.inl ⟨by rfl, fun w hSw => ?yy87⟩) HS ?rr87
            case yy87 =>
              (try dsimp only at hSw); go_simp
              try with_reducible rfl
            try simp only [Act.put, List.setIfInBounds_toArray, List.set_cons_zero, List.set_cons_succ]
            refine wpAnyT_take (i := 6) (v := ?vv88) rfl (by kernel_rfl) (fun _ _ _ h => h) (Or.inl ⟨by rfl, fun w hSw => ?yy88⟩) HS ?rr88
            case yy88 =>
              (try dsimp only at hSw); go_simp
              try with_reducible rfl
            try simp only [Act.put, List.setIfInBounds_toArray, List.set_cons_zero, List.set_cons_succ]
            refine wpAnyT_take (i := 7) (v := ?vv89) rfl (by kernel_rfl) (fun _ _ _ h => h) (Or.inl ⟨by rfl, fun w hSw => ?yy89⟩) HS ?rr89
            case yy89 =>
              (try dsimp only at hSw); go_simp
              try with_reducible rfl
            try simp only [Act.put, List.setIfInBounds_toArray, List.set_cons_zero, List.set_cons_succ]
            refine wpAnyT_take (i := 8) (v := ?vv90) rfl (by kernel_rfl) (fun _ _ _ h => h) (Or.inl ⟨by rfl, fun w hSw => ?yy90⟩) HS ?rr90
            case yy90 =>
              (try dsimp only at hSw); go_simp
              try with_reducible rfl
            try simp only [Act.put, List.setIfInBounds_toArray, List.set_cons_zero, List.set_cons_succ]
            refine wpAnyT_take (i := 9) (v := ?vv91) rfl (by kernel_rfl) (fun _ _ _ h => h) (Or.inl ⟨by rfl, fun w hSw => ?yy91⟩) HS ?rr91
            case yy91 =>
              (try dsimp only at hSw); go_simp
              try with_reducible rfl
            try simp only [Act.put, List.setIfInBounds_toArray, List.set_cons_zero, List.set_cons_succ]
            refine wpAnyT_take (i := 10) (v := ?vv92) rfl (by kernel_rfl) (fun _ _ _ h => h) (Or.inl ⟨by rfl, fun w hSw => ?yy92⟩) HS ?rr92
            case yy92 =>
              (try dsimp only at hSw); go_simp
              try with_reducible rfl
            try simp only [Act.put, List.setIfInBounds_toArray, List.set_cons_zero, List.set_cons_succ]
            refine wpAnyT_take (i := 11) (v := ?vv93) rfl (by kernel_rfl) (fun _ _ _ h => h) (Or.inl ⟨by rfl, fun w hSw => ?yy93⟩) HS ?rr93
            case yy93 =>
              (try dsimp only at hSw); go_simp
              try with_reducible rfl
            try simp only [Act.put, List.setIfInBounds_toArray, List.set_cons_zero, List.set_cons_succ]
            refine wpAnyT_take (i := 12) (v := ?vv94) rfl (by kernel_rfl) (fun _ _ _ h => h) (Or.inl ⟨by rfl, fun w hSw => ?yy94⟩) HS ?rr94
            case yy94 =>
              (try dsimp only at hSw); go_simp
              try with_reducible rfl
            try simp only [Act.put, List.setIfInBounds_toArray, List.set_cons_zero, List.set_cons_succ]
            refine wpAnyT_take (i := 13) (v := ?vv95) rfl (by kernel_rfl) (fun _ _ _ h => h) (Or.inl ⟨by rfl, fun w hSw => ?yy95⟩) HS ?rr95
            case yy95 =>
              (try dsimp only at hSw); go_simp
              try with_reducible rfl
            try simp only [Act.put, List.setIfInBounds_toArray, List.set_cons_zero, List.set_cons_succ]
            refine wpAnyT_take (i := 14) (v := .int .i64 (sx.srtt + D)) rfl (by kernel_rfl) (fun _ _ _ h => h) (Or.inl ⟨by rfl, fun w hSw => ?_⟩) HS ?_
            · (try dsimp only at hSw); go_simp
            try simp only [Act.put, List.setIfInBounds_toArray, List.set_cons_zero, List.set_cons_succ]
            refine wpAnyT_one (k := 15) rfl (by kernel_rfl) (by decide) (fun K hK => ?_)
            go_simp
            refine (p1 _).mono ?_
            rintro e y1w ⟨rfl, rfl⟩
            have HS : ((fun (W : World) => Below w4.heap.size w4 W ∧ (W.cell? ⟨bb, o + fu * 5 + 3, none⟩ = some (.int .i64 fx.srtt) ∧ W.cell? ⟨bb, o + su * 5 + 3, none⟩ = some (.int .i64 sx.srtt)))) _ := HS
            refine hK _ _ HS ?_
            clear hK K
            try simp only [Act.put, List.setIfInBounds_toArray, List.set_cons_zero, List.set_cons_succ]
            refine wpAnyT_take (i := 16) (v := ?vv96) rfl (by kernel_rfl) (fun _ _ _ h => h) (Or.inl ⟨by rfl, fun w hSw => ?yy96⟩) HS ?rr96
            case yy96 =>
              (try dsimp only at hSw); go_simp
              try with_reducible rfl
            try simp only [Act.put, List.setIfInBounds_toArray, List.set_cons_zero, List.set_cons_succ]
            refine wpAnyT_take (i := 17) (v := ?vv97) rfl (by kernel_rfl) (fun _ _ _ h => h) (Or.inl ⟨by rfl, fun w hSw => ?yy97⟩) HS ?rr97
            case yy97 =>
              (try dsimp only at hSw); go_simp
              try with_reducible rfl
            try simp only [Act.put, List.setIfInBounds_toArray, List.set_cons_zero, List.set_cons_succ]
            refine wpAnyT_take (i := 18) (v := ?vv98) rfl (by kernel_rfl) (fun _ _ _ h => h) (Or.inl ⟨by rfl, fun w hSw => ?yy98⟩) HS ?rr98
            case yy98 =>
              (try dsimp only at hSw); go_simp
              try with_reducible rfl
            try simp only [Act.put, List.setIfInBounds_toArray, List.set_cons_zero, List.set_cons_succ]
            refine wpAnyT_take (i := 19) (v := ?vv99) rfl (by kernel_rfl) (fun _ _ _ h => h) (Or.inl ⟨by rfl, fun w hSw => ?yy99⟩) HS ?rr99
            case yy99 =>
              (try dsimp only at hSw); go_simp
              try with_reducible rfl
            try simp only [Act.put, List.setIfInBounds_toArray, List.set_cons_zero, List.set_cons_succ]
            refine wpAnyT_take (i := 20) (v := ?vv100) rfl (by kernel_rfl) (fun _ _ _ h => h) (Or.inl ⟨by rfl, fun w hSw => ?yy100⟩) HS ?rr100
            case yy100 =>
              (try dsimp only at hSw); go_simp
              try with_reducible rfl
            try simp only [Act.put, List.setIfInBounds_toArray, List.set_cons_zero, List.set_cons_succ]
            refine wpAnyT_take (i := 21) (v := ?vv101) rfl (by kernel_rfl) (fun _ _ _ h => h) (Or.inl ⟨by rfl, fun w hSw => ?yy101⟩) HS ?rr101
            case yy101 =>
              (try dsimp only at hSw); go_simp
              try with_reducible rfl
            try simp only [Act.put, List.setIfInBounds_toArray, List.set_cons_zero, List.set_cons_succ]
            refine wpAnyT_take (i := 22) (v := ?vv102) rfl (by kernel_rfl) (fun _ _ _ h => h) (Or.inl ⟨by rfl, fun w hSw => ?yy102⟩) HS ?rr102
            case yy102 =>
              (try dsimp only at hSw); go_simp
              try with_reducible rfl
            try simp only [Act.put, List.setIfInBounds_toArray, List.set_cons_zero, List.set_cons_succ]
            refine wpAnyT_take (i := 23) (v := ?vv103) rfl (by kernel_rfl) (fun _ _ _ h => h) (Or.inl ⟨by rfl, fun w hSw => ?yy103⟩) HS ?rr103
            case yy103 =>
              (try dsimp only at hSw); go_simp
              try with_reducible rfl
            try simp only [Act.put, List.setIfInBounds_toArray, List.set_cons_zero, List.set_cons_succ]
            refine wpAnyT_take (i := 24) (v := ?vv104) rfl (by kernel_rfl) (fun _ _ _ h => h) (Or.inl ⟨by rfl, fun w hSw => ?yy104⟩) HS ?rr104
            case yy104 =>
              (try dsimp only at hSw); go_simp
              try with_reducible rfl
            try simp only [Act.put, List.setIfInBounds_toArray, List.set_cons_zero, List.set_cons_succ]
            refine wpAnyT_take (i := 25) (v := ?vv105) rfl (by kernel_rfl) (fun _ _ _ h => h) (Or.inl ⟨by rfl, fun w hSw => ?yy105⟩) HS ?rr105
            case yy105 =>
              (try dsimp only at hSw); go_simp
              try with_reducible rfl
            try simp only [Act.put, List.setIfInBounds_toArray, List.set_cons_zero, List.set_cons_succ]
            refine wpAnyT_take (i := 26) (v := ?vv106) rfl (by kernel_rfl) (fun _ _ _ h => h) (Or.inl ⟨by rfl, fun w hSw => ?yy106⟩) HS ?rr106
            case yy106 =>
              (try dsimp only at hSw); go_simp
              try with_reducible rfl
            try simp only [Act.put, List.setIfInBounds_toArray, List.set_cons_zero, List.set_cons_succ]
            refine wpAnyT_take (i := 27) (v := ?vv107) rfl (by kernel_rfl) (fun _ _ _ h => h) (Or.inl ⟨by rfl, fun w hSw => ?yy107⟩) HS ?rr107
            case yy107 =>
              (try dsimp only at hSw); go_simp
              try with_reducible rfl
            try simp only [Act.put, List.setIfInBounds_toArray, List.set_cons_zero, List.set_cons_succ]
            refine wpAnyT_take (i := 28) (v := .int .i64 (2 * fx.srtt)) rfl (by kernel_rfl) (fun _ _ _ h => h) (Or.inl ⟨by rfl, fun w hSw => ?_⟩) HS ?_
            · (try dsimp only at hSw); go_simp
            try simp only [Act.put, List.setIfInBounds_toArray, List.set_cons_zero, List.set_cons_succ]
            refine wpAnyT_take (i := 29) (v := ?vv108) rfl (by kernel_rfl) (fun _ _ _ h => h) (Or.inl ⟨by rfl, fun w hSw => ?yy108⟩) HS ?rr108
            case yy108 =>
              (try dsimp only at hSw); go_simp
              try with_reducible rfl
            try simp only [Act.put, List.setIfInBounds_toArray, List.set_cons_zero, List.set_cons_succ]
            refine wpAnyT_take (i := 30) (v := .int .i64 (2 * fx.srtt + D)) rfl (by kernel_rfl) (fun _ _ _ h => h) (Or.inl ⟨by rfl, fun w hSw => ?_⟩) HS ?_
            · (try dsimp only at hSw); go_simp
            try simp only [Act.put, List.setIfInBounds_toArray, List.set_cons_zero, List.set_cons_succ]
            refine wpAnyT_one (k := 31) rfl (by kernel_rfl) (by decide) (fun K hK => ?_)
            go_simp
            refine (p2 _).mono ?_
            rintro e y2w ⟨rfl, rfl⟩
            have HS : ((fun (W : World) => Below w4.heap.size w4 W ∧ (W.cell? ⟨bb, o + fu * 5 + 3, none⟩ = some (.int .i64 fx.srtt) ∧ W.cell? ⟨bb, o + su * 5 + 3, none⟩ = some (.int .i64 sx.srtt)))) _ := HS
            refine hK _ _ HS ?_
            clear hK K
            try simp only [Act.put, List.setIfInBounds_toArray, List.set_cons_zero, List.set_cons_succ]
            refine wpAnyT_take (i := 32) (v := ?vv109) rfl (by kernel_rfl) (fun _ _ _ h => h) (Or.inl ⟨by rfl, fun w hSw => ?yy109⟩) HS ?rr109
            case yy109 =>
              (try dsimp only at hSw); go_simp
              try with_reducible rfl
            try simp only [Act.put, List.setIfInBounds_toArray, List.set_cons_zero, List.set_cons_succ]
            refine ⟨by kernel_rfl, ?_⟩
            simp only [List.drop_succ_cons, List.drop_zero]
            have hx := HX3.out
            have hwv : waitB fx sx bytes true = true := by rw [HW.out]; exact decide_eq_true ⟨of_decide_eq_true HV1.out, by have := of_decide_eq_false HV2.out; omega⟩
            rw [if_pos hwv] at hx
            cases hx
            have bz := b4.trans (HS.1.mono z4)
            clear hwv HS
            go_wp2_with fail
            go_ret2
            exact ⟨rfl, bz⟩
          | true =>
            refine wp_region_tail 33 34 (fun (W : World) => Below w4.heap.size w4 W ∧ (W.cell? ⟨bb, o + fu * 5 + 3, none⟩ = some (.int .i64 fx.srtt) ∧ W.cell? ⟨bb, o + su * 5 + 3, none⟩ = some (.int .i64 sx.srtt))) (by kernel_rfl) (by rfl) (by decide) ?_
            have HS : ((fun (W : World) => Below w4.heap.size w4 W ∧ (W.cell? ⟨bb, o + fu * 5 + 3, none⟩ = some (.int .i64 fx.srtt) ∧ W.cell? ⟨bb, o + su * 5 + 3, none⟩ = some (.int .i64 sx.srtt)))) _ := ⟨(Below.refl _ _).drew, y3, t3⟩
            refine wpAnyT_take (i := 0) (v := ?vv110) rfl (by kernel_rfl) (fun _ _ _ h => h) (Or.inl ⟨by rfl, fun w hSw => ?yy110⟩) HS ?rr110
            case yy110 =>
              (try dsimp only at hSw); go_simp
              try with_reducible rfl
            try simp only [Act.put, List.setIfInBounds_toArray, List.set_cons_zero, List.set_cons_succ]
            refine wpAnyT_take (i := 1) (v := .int .i64 (4 * (1 + nq1))) rfl (by kernel_rfl) (fun _ _ _ h => h) (Or.inl ⟨by rfl, fun w hSw => ?_⟩) HS ?_
            · (try dsimp only at hSw); go_simp
            try simp only [Act.put, List.setIfInBounds_toArray, List.set_cons_zero, List.set_cons_succ]
            refine wpAnyT_take (i := 2) (v := ?vv111) rfl (by kernel_rfl) (fun _ _ _ h => h) (Or.inl ⟨by rfl, fun w hSw => ?yy111⟩) HS ?rr111
            case yy111 =>
              (try dsimp only at hSw); go_simp
              try with_reducible rfl
            try simp only [Act.put, List.setIfInBounds_toArray, List.set_cons_zero, List.set_cons_succ]
            refine wpAnyT_take (i := 3) (v := ?vv112) rfl (by kernel_rfl) (fun _ _ _ h => h) (Or.inl ⟨by rfl, fun w hSw => ?yy112⟩) HS ?rr112
            case yy112 =>
              (try dsimp only at hSw); go_simp
              try with_reducible rfl
            try simp only [Act.put, List.setIfInBounds_toArray, List.set_cons_zero, List.set_cons_succ]
            refine wpAnyT_take (i := 4) (v := ?vv113) rfl (by kernel_rfl) (fun _ _ _ h => h) (Or.inl ⟨by rfl, fun w hSw => ?yy113⟩) HS ?rr113
            case yy113 =>
              (try dsimp only at hSw); go_simp
              try with_reducible rfl
            try simp only [Act.put, List.setIfInBounds_toArray, List.set_cons_zero, List.set_cons_succ]
            refine wpAnyT_take (i := 5) (v := ?vv114) rfl (by kernel_rfl) (fun _ _ _ h => h) (Or.inl ⟨by rfl, fun w hSw => ?yy114⟩) HS ?rr114
            case yy114 =>
              (try dsimp only at hSw); go_simp
              try with_reducible rfl
            try simp only [Act.put, List.setIfInBounds_toArray, List.set_cons_zero, List.set_cons_succ]
            refine wpAnyT_take (i := 6) (v := ?vv115) rfl (by kernel_rfl) (fun _ _ _ h => h) (Or.inl ⟨by rfl, fun w hSw => ?yy115⟩) HS ?rr115
            case yy115 =>
              (try dsimp only at hSw); go_simp
              try with_reducible rfl
            try simp only [Act.put, List.setIfInBounds_toArray, List.set_cons_zero, List.set_cons_succ]
            refine wpAnyT_take (i := 7) (v := ?vv116) rfl (by kernel_rfl) (fun _ _ _ h => h) (Or.inl ⟨by rfl, fun w hSw => ?yy116⟩) HS ?rr116
            case yy116 =>
              (try dsimp only at hSw); go_simp
              try with_reducible rfl
            try simp only [Act.put, List.setIfInBounds_toArray, List.set_cons_zero, List.set_cons_succ]
            refine wpAnyT_take (i := 8) (v := ?vv117) rfl (by kernel_rfl) (fun _ _ _ h => h) (Or.inl ⟨by rfl, fun w hSw => ?yy117⟩) HS ?rr117
            case yy117 =>
              (try dsimp only at hSw); go_simp
              try with_reducible rfl
            try simp only [Act.put, List.setIfInBounds_toArray, List.set_cons_zero, List.set_cons_succ]
            refine wpAnyT_take (i := 9) (v := ?vv118) rfl (by kernel_rfl) (fun _ _ _ h => h) (Or.inl ⟨by rfl, fun w hSw => ?yy118⟩) HS ?rr118
            case yy118 =>
              (try dsimp only at hSw); go_simp
              try with_reducible rfl
            try simp only [Act.put, List.setIfInBounds_toArray, List.set_cons_zero, List.set_cons_succ]
            refine wpAnyT_take (i := 10) (v := ?vv119) rfl (by kernel_rfl) (fun _ _ _ h => h) (Or.inl ⟨by rfl, fun w hSw => ?yy119⟩) HS ?rr119
            case yy119 =>
              (try dsimp only at hSw); go_simp
              try with_reducible rfl
            try simp only [Act.put, List.setIfInBounds_toArray, List.set_cons_zero, List.set_cons_succ]
            refine wpAnyT_take (i := 11) (v := ?vv120) rfl (by kernel_rfl) (fun _ _ _ h => h) (Or.inl ⟨by rfl, fun w hSw => ?yy120⟩) HS ?rr120
            case yy120 =>
              (try dsimp only at hSw); go_simp
              try with_reducible rfl
            try simp only [Act.put, List.setIfInBounds_toArray, List.set_cons_zero, List.set_cons_succ]
            refine wpAnyT_take (i := 12) (v := ?vv121) rfl (by kernel_rfl) (fun _ _ _ h => h) (Or.inl ⟨by rfl, fun w hSw => ?yy121⟩) HS ?rr121
            case yy121 =>
              (try dsimp only at hSw); go_simp
              try with_reducible rfl
            try simp only [Act.put, List.setIfInBounds_toArray, List.set_cons_zero, List.set_cons_succ]
            refine wpAnyT_take (i := 13) (v := ?vv122) rfl (by kernel_rfl) (fun _ _ _ h => h) (Or.inl ⟨by rfl, fun w hSw => ?yy122⟩) HS ?rr122
            case yy122 =>
              (try dsimp only at hSw); go_simp
              try with_reducible rfl
            try simp only [Act.put, List.setIfInBounds_toArray, List.set_cons_zero, List.set_cons_succ]
            refine wpAnyT_take (i := 14) (v := .int .i64 (sx.srtt + D)) rfl (by kernel_rfl) (fun _ _ _ h => h) (Or.inl ⟨by rfl, fun w hSw => ?_⟩) HS ?_
            · (try dsimp only at hSw); go_simp
            try simp only [Act.put, List.setIfInBounds_toArray, List.set_cons_zero, List.set_cons_succ]
            refine wpAnyT_one (k := 15) rfl (by kernel_rfl) (by decide) (fun K hK => ?_)
            go_simp
            refine (p1 _).mono ?_
            rintro e y1w ⟨rfl, rfl⟩
            have HS : ((fun (W : World) => Below w4.heap.size w4 W ∧ (W.cell? ⟨bb, o + fu * 5 + 3, none⟩ = some (.int .i64 fx.srtt) ∧ W.cell? ⟨bb, o + su * 5 + 3, none⟩ = some (.int .i64 sx.srtt)))) _ := HS
            refine hK _ _ HS ?_
            clear hK K
            try simp only [Act.put, List.setIfInBounds_toArray, List.set_cons_zero, List.set_cons_succ]
            refine wpAnyT_take (i := 16) (v := ?vv123) rfl (by kernel_rfl) (fun _ _ _ h => h) (Or.inl ⟨by rfl, fun w hSw => ?yy123⟩) HS ?rr123
            case yy123 =>
              (try dsimp only at hSw); go_simp
              try with_reducible rfl
            try simp only [Act.put, List.setIfInBounds_toArray, List.set_cons_zero, List.set_cons_succ]
            refine wpAnyT_take (i := 17) (v := ?vv124) rfl (by kernel_rfl) (fun _ _ _ h => h) (Or.inl ⟨by rfl, fun w hSw => ?yy124⟩) HS ?rr124
            case yy124 =>
              (try dsimp only at hSw); go_simp
              try with_reducible rfl
            try simp only [Act.put, List.setIfInBounds_toArray, List.set_cons_zero, List.set_cons_succ]
            refine wpAnyT_take (i := 18) (v := ?vv125) rfl (by kernel_rfl) (fun _ _ _ h => h) (Or.inl ⟨by rfl, fun w hSw => ?yy125⟩) HS ?rr125
            case yy125 =>
              (try dsimp only at hSw); go_simp
              try with_reducible rfl
            try simp only [Act.put, List.setIfInBounds_toArray, List.set_cons_zero, List.set_cons_succ]
            refine wpAnyT_take (i := 19) (v := ?vv126) rfl (by kernel_rfl) (fun _ _ _ h => h) (Or.inl ⟨by rfl, fun w hSw => ?yy126⟩) HS ?rr126
            case yy126 =>
              (try dsimp only at hSw); go_simp
              try with_reducible rfl
            try simp only [Act.put, List.setIfInBounds_toArray, List.set_cons_zero, List.set_cons_succ]
            refine wpAnyT_take (i := 20) (v := ?vv127) rfl (by kernel_rfl) (fun _ _ _ h => h) (Or.inl ⟨by rfl, fun w hSw => ?yy127⟩) HS ?rr127
            case yy127 =>
              (try dsimp only at hSw); go_simp
              try with_reducible rfl
            try simp only [Act.put, List.setIfInBounds_toArray, List.set_cons_zero, List.set_cons_succ]
            refine wpAnyT_take (i := 21) (v := ?vv128) rfl (by kernel_rfl) (fun _ _ _ h => h) (Or.inl ⟨by rfl, fun w hSw => ?yy128⟩) HS ?rr128
            case yy128 =>
              (try dsimp only at hSw); go_simp
              try with_reducible rfl
            try simp only [Act.put, List.setIfInBounds_toArray, List.set_cons_zero, List.set_cons_succ]
            refine wpAnyT_take (i := 22) (v := ?vv129) rfl (by kernel_rfl) (fun _ _ _ h => h) (Or.inl ⟨by rfl, fun w hSw => ?yy129⟩) HS ?rr129
            case yy129 =>
              (try dsimp only at hSw); go_simp
              try with_reducible rfl
            try simp only [Act.put, List.setIfInBounds_toArray, List.set_cons_zero, List.set_cons_succ]
            refine wpAnyT_take (i := 23) (v := ?vv130) rfl (by kernel_rfl) (fun _ _ _ h => h) (Or.inl ⟨by rfl, fun w hSw => ?yy130⟩) HS ?rr130
            case yy130 =>
              (try dsimp only at hSw); go_simp
              try with_reducible rfl
            try simp only [Act.put, List.setIfInBounds_toArray, List.set_cons_zero, List.set_cons_succ]
            refine wpAnyT_take (i := 24) (v := ?vv131) rfl (by kernel_rfl) (fun _ _ _ h => h) (Or.inl ⟨by rfl, fun w hSw => ?yy131⟩) HS ?rr131
            case yy131 =>
              (try dsimp only at hSw); go_simp
              try with_reducible rfl
            try simp only [Act.put, List.setIfInBounds_toArray, List.set_cons_zero, List.set_cons_succ]
            refine wpAnyT_take (i := 25) (v := ?vv132) rfl (by kernel_rfl) (fun _ _ _ h => h) (Or.inl ⟨by rfl, fun w hSw => ?yy132⟩) HS ?rr132
            case yy132 =>
              (try dsimp only at hSw); go_simp
              try with_reducible rfl
            try simp only [Act.put, List.setIfInBounds_toArray, List.set_cons_zero, List.set_cons_succ]
            refine wpAnyT_take (i := 26) (v := ?vv133) rfl (by kernel_rfl) (fun _ _ _ h => h) (Or.inl ⟨by rfl, fun w hSw => ?yy133⟩) HS ?rr133
            case yy133 =>
              (try dsimp only at hSw); go_simp
              try with_reducible rfl
            try simp only [Act.put, List.setIfInBounds_toArray, List.set_cons_zero, List.set_cons_succ]
            refine wpAnyT_take (i := 27) (v := ?vv134) rfl (by kernel_rfl) (fun _ _ _ h => h) (Or.inl ⟨by rfl, fun w hSw => ?yy134⟩) HS ?rr134
            case yy134 =>
              (try dsimp only at hSw); go_simp
              try with_reducible rfl
            try simp only [Act.put, List.setIfInBounds_toArray, List.set_cons_zero, List.set_cons_succ]
            refine wpAnyT_take (i := 28) (v := .int .i64 (2 * fx.srtt)) rfl (by kernel_rfl) (fun _ _ _ h => h) (Or.inl ⟨by rfl, fun w hSw => ?_⟩) HS ?_
            · (try dsimp only at hSw); go_simp
            try simp only [Act.put, List.setIfInBounds_toArray, List.set_cons_zero, List.set_cons_succ]
            refine wpAnyT_take (i := 29) (v := ?vv135) rfl (by kernel_rfl) (fun _ _ _ h => h) (Or.inl ⟨by rfl, fun w hSw => ?yy135⟩) HS ?rr135
            case yy135 =>
              (try dsimp only at hSw); go_simp
              try with_reducible rfl
            try simp only [Act.put, List.setIfInBounds_toArray, List.set_cons_zero, List.set_cons_succ]
            refine wpAnyT_take (i := 30) (v := .int .i64 (2 * fx.srtt + D)) rfl (by kernel_rfl) (fun _ _ _ h => h) (Or.inl ⟨by rfl, fun w hSw => ?_⟩) HS ?_
            · (try dsimp only at hSw); go_simp
            try simp only [Act.put, List.setIfInBounds_toArray, List.set_cons_zero, List.set_cons_succ]
            refine wpAnyT_one (k := 31) rfl (by kernel_rfl) (by decide) (fun K hK => ?_)
            go_simp
            refine (p2 _).mono ?_
            rintro e y2w ⟨rfl, rfl⟩
            have HS : ((fun (W : World) => Below w4.heap.size w4 W ∧ (W.cell? ⟨bb, o + fu * 5 + 3, none⟩ = some (.int .i64 fx.srtt) ∧ W.cell? ⟨bb, o + su * 5 + 3, none⟩ = some (.int .i64 sx.srtt)))) _ := HS
            refine hK _ _ HS ?_
            clear hK K
            try simp only [Act.put, List.setIfInBounds_toArray, List.set_cons_zero, List.set_cons_succ]
            refine wpAnyT_take (i := 32) (v := ?vv136) rfl (by kernel_rfl) (fun _ _ _ h => h) (Or.inl ⟨by rfl, fun w hSw => ?yy136⟩) HS ?rr136
            case yy136 =>
              (try dsimp only at hSw); go_simp
              try with_reducible rfl
            try simp only [Act.put, List.setIfInBounds_toArray, List.set_cons_zero, List.set_cons_succ]
            refine ⟨by kernel_rfl, ?_⟩
            simp only [List.drop_succ_cons, List.drop_zero]
            have hx := HX3.out
            have hwv : waitB fx sx bytes true = false := by rw [HW.out]; exact decide_eq_false (fun h => by have h1 := of_decide_eq_true HV2.out; have h2 := h.2; omega)
            rw [if_neg (by rw [hwv]; simp)] at hx
            cases hx
            have bz := b4.trans (HS.1.mono z4)
            clear hwv HS
            go_wp2_with fail
            go_ret2
            exact ⟨rfl, bz⟩
      case neg =>
        have de : decide (fx.vr < sx.vr) = false := decide_eq_false e
        have eD : fx.vr = D := by omega
        have k6 : IntKind.i64.wrap (sx.srtt + fx.vr) = sx.srtt + D := by rw [eD]; exact r6
        have k8 : IntKind.i64.wrap (2 * fx.srtt + fx.vr) = 2 * fx.srtt + D := by rw [eD]; exact r8
        clear hD e eD
        cases waits with
        | false =>
          have HW' := HW.out
          rw [if_neg (by simp)] at HW'
          have HW := Lib.hid HW'
          clear HW'
          have p1 := fun w => rebelow_any (4 * (1 + nq1)) fx.srtt 4 (sx.srtt + D) w (by omega) (by omega) (by omega) (by omega)
          obtain ⟨v1, hv1⟩ : ∃ v, decide ((4 * (1 + nq1)) * fx.srtt < 4 * (sx.srtt + D)) = v := ⟨_, rfl⟩
          rw [hv1] at p1
          have HV1 := Lib.hid hv1
          clear hv1
          go_upto_region 27 with fail
          cases v1 with
          | false =>
            refine wp_region_tail 33 34 (fun (W : World) => Below w4.heap.size w4 W ∧ (W.cell? ⟨bb, o + fu * 5 + 3, none⟩ = some (.int .i64 fx.srtt) ∧ W.cell? ⟨bb, o + su * 5 + 3, none⟩ = some (.int .i64 sx.srtt))) (by kernel_rfl) (by rfl) (by decide) ?_
            have HS : ((fun (W : World) => Below w4.heap.size w4 W ∧ (W.cell? ⟨bb, o + fu * 5 + 3, none⟩ = some (.int .i64 fx.srtt) ∧ W.cell? ⟨bb, o + su * 5 + 3, none⟩ = some (.int .i64 sx.srtt)))) _ := ⟨(Below.refl _ _).drew, y3, t3⟩
            refine wpAnyT_take (i := 0) (v := ?vv137) rfl (by kernel_rfl) (fun _ _ _ h => h) (Or.inl ⟨by rfl, fun w hSw => ?yy137⟩) HS ?rr137
            case yy137 =>
              (try dsimp only at hSw); go_simp
              try with_reducible rfl
            try simp only [Act.put, List.setIfInBounds_toArray, List.set_cons_zero, List.set_cons_succ]
            refine wpAnyT_take (i := 1) (v := .int .i64 (4 * (1 + nq1))) rfl (by kernel_rfl) (fun _ _ _ h => h) (Or.inl ⟨by rfl, fun w hSw => ?_⟩) HS ?_
            · (try dsimp only at hSw); go_simp
            try simp only [Act.put, List.setIfInBounds_toArray, List.set_cons_zero, List.set_cons_succ]
            refine wpAnyT_take (i := 2) (v := ?vv138) rfl (by kernel_rfl) (fun _ _ _ h => h) (Or.inl ⟨by rfl, fun w hSw => ?yy138⟩) HS ?rr138
            case yy138 =>
              (try dsimp only at hSw); go_simp
              try with_reducible rfl
            try simp only [Act.put, List.setIfInBounds_toArray, List.set_cons_zero, List.set_cons_succ]
            refine wpAnyT_take (i := 3) (v := ?vv139) rfl (by kernel_rfl) (fun _ _ _ h => h) (Or.inl ⟨by rfl, fun w hSw => ?yy139⟩) HS ?rr139
            case yy139 =>
              (try dsimp only at hSw); go_simp
              try with_reducible rfl
            try simp only [Act.put, List.setIfInBounds_toArray, List.set_cons_zero, List.set_cons_succ]
            refine wpAnyT_take (i := 4) (v := ?vv140) rfl (by kernel_rfl) (fun _ _ _ h => h) (Or.inl ⟨by rfl, fun w hSw => ?yy140⟩) HS ?rr140
            case yy140 =>
              (try dsimp only at hSw); go_simp
              try with_reducible rfl
            try simp only [Act.put, List.setIfInBounds_toArray, List.set_cons_zero, List.set_cons_succ]
            refine wpAnyT_take (i := 5) (v := ?vv141) rfl (by kernel_rfl) (fun _ _ _ h => h) (Or.inl ⟨by rfl, fun w hSw => ?yy141⟩) HS ?rr141
            case yy141 =>
              (try dsimp only at hSw); go_simp
              try with_reducible rfl
            try simp only [Act.put, List.setIfInBounds_toArray, List.set_cons_zero, List.set_cons_succ]
            refine wpAnyT_take (i := 6) (v := ?vv142) rfl (by kernel_rfl) (fun _ _ _ h => h) (Or.inl ⟨by rfl, fun w hSw => ?yy142⟩) HS ?rr142
            case yy142 =>
              (try dsimp only at hSw); go_simp
              try with_reducible rfl
            try simp only [Act.put, List.setIfInBounds_toArray, List.set_cons_zero, List.set_cons_succ]
            refine wpAnyT_take (i := 7) (v := ?vv143) rfl (by kernel_rfl) (fun _ _ _ h => h) (Or.inl ⟨by rfl, fun w hSw => ?yy143⟩) HS ?rr143
            case yy143 =>
              (try dsimp only at hSw); go_simp
              try with_reducible rfl
            try simp only [Act.put, List.setIfInBounds_toArray, List.set_cons_zero, List.set_cons_succ]
            refine wpAnyT_take (i := 8) (v := ?vv144) rfl (by kernel_rfl) (fun _ _ _ h => h) (Or.inl ⟨by rfl, fun w hSw => ?yy144⟩) HS ?rr144
            case yy144 =>
              (try dsimp only at hSw); go_simp
              try with_reducible rfl
            try simp only [Act.put, List.setIfInBounds_toArray, List.set_cons_zero, List.set_cons_succ]
            refine wpAnyT_take (i := 9) (v := ?vv145) rfl (by kernel_rfl) (fun _ _ _ h => h) (Or.inl ⟨by rfl, fun w hSw => ?yy145⟩) HS ?rr145
            case yy145 =>
              (try dsimp only at hSw); go_simp
              try with_reducible rfl
            try simp only [Act.put, List.setIfInBounds_toArray, List.set_cons_zero, List.set_cons_succ]
            refine wpAnyT_take (i := 10) (v := ?vv146) rfl (by kernel_rfl) (fun _ _ _ h => h) (Or.inl ⟨by rfl, fun w hSw => ?yy146⟩) HS ?rr146
            case yy146 =>
              (try dsimp only at hSw); go_simp
              try with_reducible rfl
            try simp only [Act.put, List.setIfInBounds_toArray, List.set_cons_zero, List.set_cons_succ]
            refine wpAnyT_take (i := 11) (v := ?vv147) rfl (by kernel_rfl) (fun _ _ _ h => h) (Or.inl ⟨by rfl, fun w hSw => ?yy147⟩) HS ?rr147
            case yy147 =>
              (try dsimp only at hSw); go_simp
              try with_reducible rfl
            try simp only [Act.put, List.setIfInBounds_toArray, List.set_cons_zero, List.set_cons_succ]
            refine wpAnyT_take (i := 12) (v := ?vv148) rfl (by kernel_rfl) (fun _ _ _ h => h) (Or.inl ⟨by rfl, fun w hSw => ?yy148⟩) HS ?rr148
            case yy148 =>
              (try dsimp only at hSw); go_simp
              try with_reducible rfl
            try simp only [Act.put, List.setIfInBounds_toArray, List.set_cons_zero, List.set_cons_succ]
            refine wpAnyT_take (i := 13) (v := ?vv149) rfl (by kernel_rfl) (fun _ _ _ h => h) (Or.inl ⟨by rfl, fun w hSw => ?yy149⟩) HS ?rr149
            case yy149 =>
              (try dsimp only at hSw); go_simp
              try with_reducible rfl
            try simp only [Act.put, List.setIfInBounds_toArray, List.set_cons_zero, List.set_cons_succ]
            refine wpAnyT_take (i := 14) (v := .int .i64 (sx.srtt + D)) rfl (by kernel_rfl) (fun _ _ _ h => h) (Or.inl ⟨by rfl, fun w hSw => ?_⟩) HS ?_
            · (try dsimp only at hSw); go_simp
            try simp only [Act.put, List.setIfInBounds_toArray, List.set_cons_zero, List.set_cons_succ]
            refine wpAnyT_one (k := 15) rfl (by kernel_rfl) (by decide) (fun K hK => ?_)
            go_simp
            refine (p1 _).mono ?_
            rintro e y1w ⟨rfl, rfl⟩
            have HS : ((fun (W : World) => Below w4.heap.size w4 W ∧ (W.cell? ⟨bb, o + fu * 5 + 3, none⟩ = some (.int .i64 fx.srtt) ∧ W.cell? ⟨bb, o + su * 5 + 3, none⟩ = some (.int .i64 sx.srtt)))) _ := HS
            refine hK _ _ HS ?_
            clear hK K
            try simp only [Act.put, List.setIfInBounds_toArray, List.set_cons_zero, List.set_cons_succ]
            refine wpAnyT_take (i := 16) (v := ?vv150) rfl (by kernel_rfl) (fun _ _ _ h => h) (Or.inl ⟨by rfl, fun w hSw => ?yy150⟩) HS ?rr150
            case yy150 =>
              (try dsimp only at hSw); go_simp
              try with_reducible rfl
            try simp only [Act.put, List.setIfInBounds_toArray, List.set_cons_zero, List.set_cons_succ]
            refine wpAnyT_take (i := 17) (v := undef) rfl (by kernel_rfl) (fun _ _ _ h => h) (Or.inr ⟨by kernel_rfl, rfl⟩) HS ?_
            try simp only [Act.put, List.setIfInBounds_toArray, List.set_cons_zero, List.set_cons_succ]
            refine wpAnyT_take (i := 18) (v := undef) rfl (by kernel_rfl) (fun _ _ _ h => h) (Or.inr ⟨by kernel_rfl, rfl⟩) HS ?_
            try simp only [Act.put, List.setIfInBounds_toArray, List.set_cons_zero, List.set_cons_succ]
            refine wpAnyT_take (i := 19) (v := undef) rfl (by kernel_rfl) (fun _ _ _ h => h) (Or.inr ⟨by kernel_rfl, rfl⟩) HS ?_
            try simp only [Act.put, List.setIfInBounds_toArray, List.set_cons_zero, List.set_cons_succ]
            refine wpAnyT_take (i := 20) (v := undef) rfl (by kernel_rfl) (fun _ _ _ h => h) (Or.inr ⟨by kernel_rfl, rfl⟩) HS ?_
            try simp only [Act.put, List.setIfInBounds_toArray, List.set_cons_zero, List.set_cons_succ]
            refine wpAnyT_take (i := 21) (v := undef) rfl (by kernel_rfl) (fun _ _ _ h => h) (Or.inr ⟨by kernel_rfl, rfl⟩) HS ?_
            try simp only [Act.put, List.setIfInBounds_toArray, List.set_cons_zero, List.set_cons_succ]
            refine wpAnyT_take (i := 22) (v := undef) rfl (by kernel_rfl) (fun _ _ _ h => h) (Or.inr ⟨by kernel_rfl, rfl⟩) HS ?_
            try simp only [Act.put, List.setIfInBounds_toArray, List.set_cons_zero, List.set_cons_succ]
            refine wpAnyT_take (i := 23) (v := undef) rfl (by kernel_rfl) (fun _ _ _ h => h) (Or.inr ⟨by kernel_rfl, rfl⟩) HS ?_
            try simp only [Act.put, List.setIfInBounds_toArray, List.set_cons_zero, List.set_cons_succ]
            refine wpAnyT_take (i := 24) (v := undef) rfl (by kernel_rfl) (fun _ _ _ h => h) (Or.inr ⟨by kernel_rfl, rfl⟩) HS ?_
            try simp only [Act.put, List.setIfInBounds_toArray, List.set_cons_zero, List.set_cons_succ]
            refine wpAnyT_take (i := 25) (v := undef) rfl (by kernel_rfl) (fun _ _ _ h => h) (Or.inr ⟨by kernel_rfl, rfl⟩) HS ?_
            try simp only [Act.put, List.setIfInBounds_toArray, List.set_cons_zero, List.set_cons_succ]
            refine wpAnyT_take (i := 26) (v := undef) rfl (by kernel_rfl) (fun _ _ _ h => h) (Or.inr ⟨by kernel_rfl, rfl⟩) HS ?_
            try simp only [Act.put, List.setIfInBounds_toArray, List.set_cons_zero, List.set_cons_succ]
            refine wpAnyT_take (i := 27) (v := undef) rfl (by kernel_rfl) (fun _ _ _ h => h) (Or.inr ⟨by kernel_rfl, rfl⟩) HS ?_
            try simp only [Act.put, List.setIfInBounds_toArray, List.set_cons_zero, List.set_cons_succ]
            refine wpAnyT_take (i := 28) (v := undef) rfl (by kernel_rfl) (fun _ _ _ h => h) (Or.inr ⟨by kernel_rfl, rfl⟩) HS ?_
            try simp only [Act.put, List.setIfInBounds_toArray, List.set_cons_zero, List.set_cons_succ]
            refine wpAnyT_take (i := 29) (v := undef) rfl (by kernel_rfl) (fun _ _ _ h => h) (Or.inr ⟨by kernel_rfl, rfl⟩) HS ?_
            try simp only [Act.put, List.setIfInBounds_toArray, List.set_cons_zero, List.set_cons_succ]
            refine wpAnyT_take (i := 30) (v := undef) rfl (by kernel_rfl) (fun _ _ _ h => h) (Or.inr ⟨by kernel_rfl, rfl⟩) HS ?_
            try simp only [Act.put, List.setIfInBounds_toArray, List.set_cons_zero, List.set_cons_succ]
            refine wpAnyT_take (i := 31) (v := undef) rfl (by kernel_rfl) (fun _ _ _ h => h) (Or.inr ⟨by kernel_rfl, rfl⟩) HS ?_
            try simp only [Act.put, List.setIfInBounds_toArray, List.set_cons_zero, List.set_cons_succ]
            refine wpAnyT_take (i := 32) (v := undef) rfl (by kernel_rfl) (fun _ _ _ h => h) (Or.inr ⟨by kernel_rfl, rfl⟩) HS ?_
            try simp only [Act.put, List.setIfInBounds_toArray, List.set_cons_zero, List.set_cons_succ]
            refine ⟨by kernel_rfl, ?_⟩
            simp only [List.drop_succ_cons, List.drop_zero]
            have hx := HX3.out
            have hwv : waitB fx sx bytes false = false := by rw [HW.out]; exact decide_eq_false (fun h => by have h1 := of_decide_eq_false HV1.out; have h2 := h.1; omega)
            rw [if_neg (by rw [hwv]; simp)] at hx
            cases hx
            have bz := b4.trans (HS.1.mono z4)
            clear hwv HS
            go_wp2_with fail
            go_ret2
            exact ⟨rfl, bz⟩
          | true =>
          cases v2 with
          | false =>
            refine wp_region_tail 33 34 (fun (W : World) => Below w4.heap.size w4 W ∧ (W.cell? ⟨bb, o + fu * 5 + 3, none⟩ = some (.int .i64 fx.srtt) ∧ W.cell? ⟨bb, o + su * 5 + 3, none⟩ = some (.int .i64 sx.srtt))) (by kernel_rfl) (by rfl) (by decide) ?_
            have HS : ((fun (W : World) => Below w4.heap.size w4 W ∧ (W.cell? ⟨bb, o + fu * 5 + 3, none⟩ = some (.int .i64 fx.srtt) ∧ W.cell? ⟨bb, o + su * 5 + 3, none⟩ = some (.int .i64 sx.srtt)))) _ := ⟨(Below.refl _ _).drew, y3, t3⟩
            refine wpAnyT_take (i := 0) (v := ?vv151) rfl (by kernel_rfl) (fun _ _ _ h => h) (Or.inl ⟨by rfl, fun w hSw => ?yy151⟩) HS ?rr151
            case yy151 =>
              (try dsimp only at hSw); go_simp
              try with_reducible rfl
            try simp only [Act.put, List.setIfInBounds_toArray, List.set_cons_zero, List.set_cons_succ]
            refine wpAnyT_take (i := 1) (v := .int .i64 (4 * (1 + nq1))) rfl (by kernel_rfl) (fun _ _ _ h => h) (Or.inl ⟨by rfl, fun w hSw => ?_⟩) HS ?_
            · (try dsimp only at hSw); go_simp
            try simp only [Act.put, List.setIfInBounds_toArray, List.set_cons_zero, List.set_cons_succ]
            refine wpAnyT_take (i := 2) (v := ?vv152) rfl (by kernel_rfl) (fun _ _ _ h => h) (Or.inl ⟨by rfl, fun w hSw => ?yy152⟩) HS ?rr152
            case yy152 =>
              (try dsimp only at hSw); go_simp
              try with_reducible rfl
            try simp only [Act.put, List.setIfInBounds_toArray, List.set_cons_zero, List.set_cons_succ]
            refine wpAnyT_take (i := 3) (v := ?vv153) rfl (by kernel_rfl) (fun _ _ _ h => h) (Or.inl ⟨by rfl, fun w hSw => ?yy153⟩) HS ?rr153
            case yy153 =>
              (try dsimp only at hSw); go_simp
              try with_reducible rfl
            try simp only [Act.put, List.setIfInBounds_toArray, List.set_cons_zero, List.set_cons_succ]
            refine wpAnyT_take (i := 4) (v := ?vv154) rfl (by kernel_rfl) (fun _ _ _ h => h) (Or.inl ⟨by rfl, fun w hSw => ?yy154⟩) HS ?rr154
            case yy154 =>
              (try dsimp only at hSw); go_simp
              try with_reducible rfl
            try simp only [Act.put, List.setIfInBounds_toArray, List.set_cons_zero, List.set_cons_succ]
            refine wpAnyT_take (i := 5) (v := ?vv155) rfl (by kernel_rfl) (fun _ _ _ h => h) (Or.inl ⟨by rfl, fun w hSw => ?yy155⟩) HS ?rr155
            case yy155 =>
              (try dsimp only at hSw); go_simp
              try with_reducible rfl
            try simp only [Act.put, List.setIfInBounds_toArray, List.set_cons_zero, List.set_cons_succ]
            refine wpAnyT_take (i := 6) (v := ?vv156) rfl (by kernel_rfl) (fun _ _ _ h => h) (Or.inl ⟨by rfl, fun w hSw => ?yy156⟩) HS ?rr156
            case yy156 =>
              (try dsimp only at hSw); go_simp
              try with_reducible rfl
            try simp only [Act.put, List.setIfInBounds_toArray, List.set_cons_zero, List.set_cons_succ]
            refine wpAnyT_take (i := 7) (v := ?vv157) rfl (by kernel_rfl) (fun _ _ _ h => h) (Or.inl ⟨by rfl, fun w hSw => ?yy157⟩) HS ?rr157
            case yy157 =>
              (try dsimp only at hSw); go_simp
              try with_reducible rfl
            try simp only [Act.put, List.setIfInBounds_toArray, List.set_cons_zero, List.set_cons_succ]
            refine wpAnyT_take (i := 8) (v := ?vv158) rfl (by kernel_rfl) (fun _ _ _ h => h) (Or.inl ⟨by rfl, fun w hSw => ?yy158⟩) HS ?rr158
            case yy158 =>
              (try dsimp only at hSw); go_simp
              try with_reducible rfl
            try simp only [Act.put, List.setIfInBounds_toArray, List.set_cons_zero, List.set_cons_succ]
            refine wpAnyT_take (i := 9) (v := ?vv159) rfl (by kernel_rfl) (fun _ _ _ h => h) (Or.inl ⟨by rfl, fun w hSw => ?yy159⟩) HS ?rr159
            case yy159 =>
              (try dsimp only at hSw); go_simp
              try with_reducible rfl
            try simp only [Act.put, List.setIfInBounds_toArray, List.set_cons_zero, List.set_cons_succ]
            refine wpAnyT_take (i := 10) (v := ?vv160) rfl (by kernel_rfl) (fun _ _ _ h => h) (Or.inl ⟨by rfl, fun w hSw => ?yy160⟩) HS ?rr160
            case yy160 =>
              (try dsimp only at hSw); go_simp
              try with_reducible rfl
            try simp only [Act.put, List.setIfInBounds_toArray, List.set_cons_zero, List.set_cons_succ]
            refine wpAnyT_take (i := 11) (v := ?vv161) rfl (by kernel_rfl) (fun _ _ _ h => h) (Or.inl ⟨by rfl, fun w hSw => ?yy161⟩) HS ?rr161
            case yy161 =>
              (try dsimp only at hSw); go_simp
              try with_reducible rfl
            try simp only [Act.put, List.setIfInBounds_toArray, List.set_cons_zero, List.set_cons_succ]
            refine wpAnyT_take (i := 12) (v := ?vv162) rfl (by kernel_rfl) (fun _ _ _ h => h) (Or.inl ⟨by rfl, fun w hSw => ?yy162⟩) HS ?rr162
            case yy162 =>
              (try dsimp only at hSw); go_simp
              try with_reducible rfl
            try simp only [Act.put, List.setIfInBounds_toArray, List.set_cons_zero, List.set_cons_succ]
            refine wpAnyT_take (i := 13) (v := ?vv163) rfl (by kernel_rfl) (fun _ _ _ h => h) (Or.inl ⟨by rfl, fun w hSw => ?yy163⟩) HS ?rr163
            case yy163 =>
              (try dsimp only at hSw); go_simp
              try with_reducible rfl
            try simp only [Act.put, List.setIfInBounds_toArray, List.set_cons_zero, List.set_cons_succ]
            refine wpAnyT_take (i := 14) (v := .int .i64 (sx.srtt + D)) rfl (by kernel_rfl) (fun _ _ _ h => h) (Or.inl ⟨by rfl, fun w hSw => ?_⟩) HS ?_
            · (try dsimp only at hSw); go_simp
            try simp only [Act.put, List.setIfInBounds_toArray, List.set_cons_zero, List.set_cons_succ]
            refine wpAnyT_one (k := 15) rfl (by kernel_rfl) (by decide) (fun K hK => ?_)
            go_simp
            refine (p1 _).mono ?_
            rintro e y1w ⟨rfl, rfl⟩
            have HS : ((fun (W : World) => Below w4.heap.size w4 W ∧ (W.cell? ⟨bb, o + fu * 5 + 3, none⟩ = some (.int .i64 fx.srtt) ∧ W.cell? ⟨bb, o + su * 5 + 3, none⟩ = some (.int .i64 sx.srtt)))) _ := HS
            refine hK _ _ HS ?_
            clear hK K
            try simp only [Act.put, List.setIfInBounds_toArray, List.set_cons_zero, List.set_cons_succ]
            refine wpAnyT_take (i := 16) (v := ?vv164) rfl (by kernel_rfl) (fun _ _ _ h => h) (Or.inl ⟨by rfl, fun w hSw => ?yy164⟩) HS ?rr164
            case yy164 =>
              (try dsimp only at hSw); go_simp
              try with_reducible rfl
            try simp only [Act.put, List.setIfInBounds_toArray, List.set_cons_zero, List.set_cons_succ]
            refine wpAnyT_take (i := 17) (v := ?vv165) rfl (by kernel_rfl) (fun _ _ _ h => h) (Or.inl ⟨by rfl, fun w hSw => ?yy165⟩) HS ?rr165
            case yy165 =>
              (try dsimp only at hSw); go_simp
              try with_reducible rfl
            try simp only [Act.put, List.setIfInBounds_toArray, List.set_cons_zero, List.set_cons_succ]
            refine wpAnyT_take (i := 18) (v := ?vv166) rfl (by kernel_rfl) (fun _ _ _ h => h) (Or.inl ⟨by rfl, fun w hSw => ?yy166⟩) HS ?rr166
            case yy166 =>
              (try dsimp only at hSw); go_simp
              try with_reducible rfl
            try simp only [Act.put, List.setIfInBounds_toArray, List.set_cons_zero, List.set_cons_succ]
            refine wpAnyT_take (i := 19) (v := ?vv167) rfl (by kernel_rfl) (fun _ _ _ h => h) (Or.inl ⟨by rfl, fun w hSw => ?yy167⟩) HS ?rr167
            case yy167 =>
              (try dsimp only at hSw); go_simp
              try with_reducible rfl
            try simp only [Act.put, List.setIfInBounds_toArray, List.set_cons_zero, List.set_cons_succ]
            refine wpAnyT_take (i := 20) (v := ?vv168) rfl (by kernel_rfl) (fun _ _ _ h => h) (Or.inl ⟨by rfl, fun w hSw => ?yy168⟩) HS ?rr168
            case yy168 =>
              (try dsimp only at hSw); go_simp
              try with_reducible rfl
            try simp only [Act.put, List.setIfInBounds_toArray, List.set_cons_zero, List.set_cons_succ]
            refine wpAnyT_take (i := 21) (v := ?vv169) rfl (by kernel_rfl) (fun _ _ _ h => h) (Or.inl ⟨by rfl, fun w hSw => ?yy169⟩) HS ?rr169
            case yy169 =>
              (try dsimp only at hSw); go_simp
              try with_reducible rfl
            try simp only [Act.put, List.setIfInBounds_toArray, List.set_cons_zero, List.set_cons_succ]
            refine wpAnyT_take (i := 22) (v := ?vv170) rfl (by kernel_rfl) (fun _ _ _ h => h) (Or.inl ⟨by rfl, fun w hSw => ?yy170⟩) HS ?rr170
            case yy170 =>
              (try dsimp only at hSw); go_simp
              try with_reducible rfl
            try simp only [Act.put, List.setIfInBounds_toArray, List.set_cons_zero, List.set_cons_succ]
            refine wpAnyT_take (i := 23) (v := ?vv171) rfl (by kernel_rfl) (fun _ _ _ h => h) (Or.inl ⟨by rfl, fun w hSw => ?yy171⟩) HS ?rr171
            case yy171 =>
              (try dsimp only at hSw); go_simp
              try with_reducible rfl
            try simp only [Act.put, List.setIfInBounds_toArray, List.set_cons_zero, List.set_cons_succ]
            refine wpAnyT_take (i := 24) (v := ?vv172) rfl (by kernel_rfl) (fun _ _ _ h => h) (Or.inl ⟨by rfl, fun w hSw => ?yy172⟩) HS ?rr172
            case yy172 =>
              (try dsimp only at hSw); go_simp
              try with_reducible rfl
            try simp only [Act.put, List.setIfInBounds_toArray, List.set_cons_zero, List.set_cons_succ]
            refine wpAnyT_take (i := 25) (v := ?vv173) rfl (by kernel_rfl) (fun _ _ _ h => h) (Or.inl ⟨by rfl, fun w hSw => ?yy173⟩) HS ?rr173
            case yy173 =>
              (try dsimp only at hSw); go_simp
              try with_reducible rfl
            try simp only [Act.put, List.setIfInBounds_toArray, List.set_cons_zero, List.set_cons_succ]
            refine wpAnyT_take (i := 26) (v := ?vv174) rfl (by kernel_rfl) (fun _ _ _ h => h) (Or.inl ⟨by rfl, fun w hSw => ?yy174⟩) HS ?rr174
            case yy174 =>
              (try dsimp only at hSw); go_simp
              try with_reducible rfl
            try simp only [Act.put, List.setIfInBounds_toArray, List.set_cons_zero, List.set_cons_succ]
            refine wpAnyT_take (i := 27) (v := ?vv175) rfl (by kernel_rfl) (fun _ _ _ h => h) (Or.inl ⟨by rfl, fun w hSw => ?yy175⟩) HS ?rr175
            case yy175 =>
              (try dsimp only at hSw); go_simp
              try with_reducible rfl
            try simp only [Act.put, List.setIfInBounds_toArray, List.set_cons_zero, List.set_cons_succ]
            refine wpAnyT_take (i := 28) (v := .int .i64 (2 * fx.srtt)) rfl (by kernel_rfl) (fun _ _ _ h => h) (Or.inl ⟨by rfl, fun w hSw => ?_⟩) HS ?_
            · (try dsimp only at hSw); go_simp
            try simp only [Act.put, List.setIfInBounds_toArray, List.set_cons_zero, List.set_cons_succ]
            refine wpAnyT_take (i := 29) (v := ?vv176) rfl (by kernel_rfl) (fun _ _ _ h => h) (Or.inl ⟨by rfl, fun w hSw => ?yy176⟩) HS ?rr176
            case yy176 =>
              (try dsimp only at hSw); go_simp
              try with_reducible rfl
            try simp only [Act.put, List.setIfInBounds_toArray, List.set_cons_zero, List.set_cons_succ]
            refine wpAnyT_take (i := 30) (v := .int .i64 (2 * fx.srtt + D)) rfl (by kernel_rfl) (fun _ _ _ h => h) (Or.inl ⟨by rfl, fun w hSw => ?_⟩) HS ?_
            · (try dsimp only at hSw); go_simp
            try simp only [Act.put, List.setIfInBounds_toArray, List.set_cons_zero, List.set_cons_succ]
            refine wpAnyT_one (k := 31) rfl (by kernel_rfl) (by decide) (fun K hK => ?_)
            go_simp
            refine (p2 _).mono ?_
            rintro e y2w ⟨rfl, rfl⟩
            have HS : ((fun (W : World) => Below w4.heap.size w4 W ∧ (W.cell? ⟨bb, o + fu * 5 + 3, none⟩ = some (.int .i64 fx.srtt) ∧ W.cell? ⟨bb, o + su * 5 + 3, none⟩ = some (.int .i64 sx.srtt)))) _ := HS
            refine hK _ _ HS ?_
            clear hK K
            try simp only [Act.put, List.setIfInBounds_toArray, List.set_cons_zero, List.set_cons_succ]
            refine wpAnyT_take (i := 32) (v := ?vv177) rfl (by kernel_rfl) (fun _ _ _ h => h) (Or.inl ⟨by rfl, fun w hSw => ?yy177⟩) HS ?rr177
            case yy177 =>
              (try dsimp only at hSw); go_simp
              try with_reducible rfl
            try simp only [Act.put, List.setIfInBounds_toArray, List.set_cons_zero, List.set_cons_succ]
            refine ⟨by kernel_rfl, ?_⟩
            simp only [List.drop_succ_cons, List.drop_zero]
            have hx := HX3.out
            have hwv : waitB fx sx bytes false = true := by rw [HW.out]; exact decide_eq_true ⟨of_decide_eq_true HV1.out, by have := of_decide_eq_false HV2.out; omega⟩
            rw [if_pos hwv] at hx
            cases hx
            have bz := b4.trans (HS.1.mono z4)
            clear hwv HS
            go_wp2_with fail
            go_ret2
            exact ⟨rfl, bz⟩
          | true =>
            refine wp_region_tail 33 34 (fun (W : World) => Below w4.heap.size w4 W ∧ (W.cell? ⟨bb, o + fu * 5 + 3, none⟩ = some (.int .i64 fx.srtt) ∧ W.cell? ⟨bb, o + su * 5 + 3, none⟩ = some (.int .i64 sx.srtt))) (by kernel_rfl) (by rfl) (by decide) ?_
            have HS : ((fun (W : World) => Below w4.heap.size w4 W ∧ (W.cell? ⟨bb, o + fu * 5 + 3, none⟩ = some (.int .i64 fx.srtt) ∧ W.cell? ⟨bb, o + su * 5 + 3, none⟩ = some (.int .i64 sx.srtt)))) _ := ⟨(Below.refl _ _).drew, y3, t3⟩
            refine wpAnyT_take (i := 0) (v := ?vv178) rfl (by kernel_rfl) (fun _ _ _ h => h) (Or.inl ⟨by rfl, fun w hSw => ?yy178⟩) HS ?rr178
            case yy178 =>
              (try dsimp only at hSw); go_simp
              try with_reducible rfl
            try simp only [Act.put, List.setIfInBounds_toArray, List.set_cons_zero, List.set_cons_succ]
            refine wpAnyT_take (i := 1) (v := .int .i64 (4 * (1 + nq1))) rfl (by kernel_rfl) (fun _ _ _ h => h) (Or.inl ⟨by rfl, fun w hSw => ?_⟩) HS ?_
            · (try dsimp only at hSw); go_simp
            try simp only [Act.put, List.setIfInBounds_toArray, List.set_cons_zero, List.set_cons_succ]
            refine wpAnyT_take (i := 2) (v := ?vv179) rfl (by kernel_rfl) (fun _ _ _ h => h) (Or.inl ⟨by rfl, fun w hSw => ?yy179⟩) HS ?rr179
            case yy179 =>
              (try dsimp only at hSw); go_simp
              try with_reducible rfl
            try simp only [Act.put, List.setIfInBounds_toArray, List.set_cons_zero, List.set_cons_succ]
            refine wpAnyT_take (i := 3) (v := ?vv180) rfl (by kernel_rfl) (fun _ _ _ h => h) (Or.inl ⟨by rfl, fun w hSw => ?yy180⟩) HS ?rr180
            case yy180 =>
              (try dsimp only at hSw); go_simp
              try with_reducible rfl
            try simp only [Act.put, List.setIfInBounds_toArray, List.set_cons_zero, List.set_cons_succ]
            refine wpAnyT_take (i := 4) (v := ?vv181) rfl (by kernel_rfl) (fun _ _ _ h => h) (Or.inl ⟨by rfl, fun w hSw => ?yy181⟩) HS ?rr181
            case yy181 =>
              (try dsimp only at hSw); go_simp
              try with_reducible rfl
            try simp only [Act.put, List.setIfInBounds_toArray, List.set_cons_zero, List.set_cons_succ]
            refine wpAnyT_take (i := 5) (v := ?vv182) rfl (by kernel_rfl) (fun _ _ _ h => h) (Or.inl ⟨by rfl, fun w hSw => ?yy182⟩) HS ?rr182
            case yy182 =>
              (try dsimp only at hSw); go_simp
              try with_reducible rfl
            try simp only [Act.put, List.setIfInBounds_toArray, List.set_cons_zero, List.set_cons_succ]
            refine wpAnyT_take (i := 6) (v := ?vv183) rfl (by kernel_rfl) (fun _ _ _ h => h) (Or.inl ⟨by rfl, fun w hSw => ?yy183⟩) HS ?rr183
            case yy183 =>
              (try dsimp only at hSw); go_simp
              try with_reducible rfl
            try simp only [Act.put, List.setIfInBounds_toArray, List.set_cons_zero, List.set_cons_succ]
            refine wpAnyT_take (i := 7) (v := ?vv184) rfl (by kernel_rfl) (fun _ _ _ h => h) (Or.inl ⟨by rfl, fun w hSw => ?yy184⟩) HS ?rr184
            case yy184 =>
              (try dsimp only at hSw); go_simp
              try with_reducible rfl
            try simp only [Act.put, List.setIfInBounds_toArray, List.set_cons_zero, List.set_cons_succ]
            refine wpAnyT_take (i := 8) (v := ?vv185) rfl (by kernel_rfl) (fun _ _ _ h => h) (Or.inl ⟨by rfl, fun w hSw => ?yy185⟩) HS ?rr185
            case yy185 =>
              (try dsimp only at hSw); go_simp
              try with_reducible rfl
            try simp only [Act.put, List.setIfInBounds_toArray, List.set_cons_zero, List.set_cons_succ]
            refine wpAnyT_take (i := 9) (v := ?vv186) rfl (by kernel_rfl) (fun _ _ _ h => h) (Or.inl ⟨by rfl, fun w hSw => ?yy186⟩) HS ?rr186
            case yy186 =>
              (try dsimp only at hSw); go_simp
              try with_reducible rfl
            try simp only [Act.put, List.setIfInBounds_toArray, List.set_cons_zero, List.set_cons_succ]
            refine wpAnyT_take (i := 10) (v := ?vv187) rfl (by kernel_rfl) (fun _ _ _ h => h) (Or.inl ⟨by rfl, fun w hSw => ?yy187⟩) HS ?rr187
            case yy187 =>
              (try dsimp only at hSw); go_simp
              try with_reducible rfl
            try simp only [Act.put, List.setIfInBounds_toArray, List.set_cons_zero, List.set_cons_succ]
            refine wpAnyT_take (i := 11) (v := ?vv188) rfl (by kernel_rfl) (fun _ _ _ h => h) (Or.inl ⟨by rfl, fun w hSw => ?yy188⟩) HS ?rr188
            case yy188 =>
              (try dsimp only at hSw); go_simp
              try with_reducible rfl
            try simp only [Act.put, List.setIfInBounds_toArray, List.set_cons_zero, List.set_cons_succ]
            refine wpAnyT_take (i := 12) (v := ?vv189) rfl (by kernel_rfl) (fun _ _ _ h => h) (Or.inl ⟨by rfl, fun w hSw => ?yy189⟩) HS ?rr189
            case yy189 =>
              (try dsimp only at hSw); go_simp
              try with_reducible rfl
            try simp only [Act.put, List.setIfInBounds_toArray, List.set_cons_zero, List.set_cons_succ]
            refine wpAnyT_take (i := 13) (v := ?vv190) rfl (by kernel_rfl) (fun _ _ _ h => h) (Or.inl ⟨by rfl, fun w hSw => ?yy190⟩) HS ?rr190
            case yy190 =>
              (try dsimp only at hSw); go_simp
              try with_reducible rfl
            try simp only [Act.put, List.setIfInBounds_toArray, List.set_cons_zero, List.set_cons_succ]
            refine wpAnyT_take (i := 14) (v := .int .i64 (sx.srtt + D)) rfl (by kernel_rfl) (fun _ _ _ h => h) (Or.inl ⟨by rfl, fun w hSw => ?_⟩) HS ?_
            · (try dsimp only at hSw); go_simp
            try simp only [Act.put, List.setIfInBounds_toArray, List.set_cons_zero, List.set_cons_succ]
            refine wpAnyT_one (k := 15) rfl (by kernel_rfl) (by decide) (fun K hK => ?_)
            go_simp
            refine (p1 _).mono ?_
            rintro e y1w ⟨rfl, rfl⟩
            have HS : ((fun (W : World) => Below w4.heap.size w4 W ∧ (W.cell? ⟨bb, o + fu * 5 + 3, none⟩ = some (.int .i64 fx.srtt) ∧ W.cell? ⟨bb, o + su * 5 + 3, none⟩ = some (.int .i64 sx.srtt)))) _ := HS
            refine hK _ _ HS ?_
            clear hK K
            try simp only [Act.put, List.setIfInBounds_toArray, List.set_cons_zero, List.set_cons_succ]
            refine wpAnyT_take (i := 16) (v := ?vv191) rfl (by kernel_rfl) (fun _ _ _ h => h) (Or.inl ⟨by rfl, fun w hSw => ?yy191⟩) HS ?rr191
            case yy191 =>
              (try dsimp only at hSw); go_simp
              try with_reducible rfl
            try simp only [Act.put, List.setIfInBounds_toArray, List.set_cons_zero, List.set_cons_succ]
            refine wpAnyT_take (i := 17) (v := ?vv192) rfl (by kernel_rfl) (fun _ _ _ h => h) (Or.inl ⟨by rfl, fun w hSw => ?yy192⟩) HS ?rr192
            case yy192 =>
              (try dsimp only at hSw); go_simp
              try with_reducible rfl
            try simp only [Act.put, List.setIfInBounds_toArray, List.set_cons_zero, List.set_cons_succ]
            refine wpAnyT_take (i := 18) (v := ?vv193) rfl (by kernel_rfl) (fun _ _ _ h => h) (Or.inl ⟨by rfl, fun w hSw => ?yy193⟩) HS ?rr193
            case yy193 =>
              (try dsimp only at hSw); go_simp
              try with_reducible rfl
            try simp only [Act.put, List.setIfInBounds_toArray, List.set_cons_zero, List.set_cons_succ]
            refine wpAnyT_take (i := 19) (v := ?vv194) rfl (by kernel_rfl) (fun _ _ _ h => h) (Or.inl ⟨by rfl, fun w hSw => ?yy194⟩) HS ?rr194
            case yy194 =>
              (try dsimp only at hSw); go_simp
              try with_reducible rfl
            try simp only [Act.put, List.setIfInBounds_toArray, List.set_cons_zero, List.set_cons_succ]
            refine wpAnyT_take (i := 20) (v := ?vv195) rfl (by kernel_rfl) (fun _ _ _ h => h) (Or.inl ⟨by rfl, fun w hSw => ?yy195⟩) HS ?rr195
            case yy195 =>
              (try dsimp only at hSw); go_simp
              try with_reducible rfl
            try simp only [Act.put, List.setIfInBounds_toArray, List.set_cons_zero, List.set_cons_succ]
            refine wpAnyT_take (i := 21) (v := ?vv196) rfl (by kernel_rfl) (fun _ _ _ h => h) (Or.inl ⟨by rfl, fun w hSw => ?yy196⟩) HS ?rr196
            case yy196 =>
              (try dsimp only at hSw); go_simp
              try with_reducible rfl
            try simp only [Act.put, List.setIfInBounds_toArray, List.set_cons_zero, List.set_cons_succ]
            refine wpAnyT_take (i := 22) (v := ?vv197) rfl (by kernel_rfl) (fun _ _ _ h => h) (Or.inl ⟨by rfl, fun w hSw => ?yy197⟩) HS ?rr197
            case yy197 =>
              (try dsimp only at hSw); go_simp
              try with_reducible rfl
            try simp only [Act.put, List.setIfInBounds_toArray, List.set_cons_zero, List.set_cons_succ]
            refine wpAnyT_take (i := 23) (v := ?vv198) rfl (by kernel_rfl) (fun _ _ _ h => h) (Or.inl ⟨by rfl, fun w hSw => ?yy198⟩) HS ?rr198
            case yy198 =>
              (try dsimp only at hSw); go_simp
              try with_reducible rfl
            try simp only [Act.put, List.setIfInBounds_toArray, List.set_cons_zero, List.set_cons_succ]
            refine wpAnyT_take (i := 24) (v := ?vv199) rfl (by kernel_rfl) (fun _ _ _ h => h) (Or.inl ⟨by rfl, fun w hSw => ?yy199⟩) HS ?rr199
            case yy199 =>
              (try dsimp only at hSw); go_simp
              try with_reducible rfl
            try simp only [Act.put, List.setIfInBounds_toArray, List.set_cons_zero, List.set_cons_succ]
            refine wpAnyT_take (i := 25) (v := ?vv200) rfl (by kernel_rfl) (fun _ _ _ h => h) (Or.inl ⟨by rfl, fun w hSw => ?yy200⟩) HS ?rr200
            case yy200 =>
              (try dsimp only at hSw); go_simp
              try with_reducible rfl
            try simp only [Act.put, List.setIfInBounds_toArray, List.set_cons_zero, List.set_cons_succ]
            refine wpAnyT_take (i := 26) (v := ?vv201) rfl (by kernel_rfl) (fun _ _ _ h => h) (Or.inl ⟨by rfl, fun w hSw => ?yy201⟩) HS ?rr201
            case yy201 =>
              (try dsimp only at hSw); go_simp
              try with_reducible rfl
            try simp only [Act.put, List.setIfInBounds_toArray, List.set_cons_zero, List.set_cons_succ]
            refine wpAnyT_take (i := 27) (v := ?vv202) rfl (by kernel_rfl) (fun _ _ _ h => h) (Or.inl ⟨by rfl, fun w hSw => ?yy202⟩) HS ?rr202
            case yy202 =>
              (try dsimp only at hSw); go_simp
              try with_reducible rfl
            try simp only [Act.put, List.setIfInBounds_toArray, List.set_cons_zero, List.set_cons_succ]
            refine wpAnyT_take (i := 28) (v := .int .i64 (2 * fx.srtt)) rfl (by kernel_rfl) (fun _ _ _ h => h) (Or.inl ⟨by rfl, fun w hSw => ?_⟩) HS ?_
            · (try dsimp only at hSw); go_simp
            try simp only [Act.put, List.setIfInBounds_toArray, List.set_cons_zero, List.set_cons_succ]
            refine wpAnyT_take (i := 29) (v := ?vv203) rfl (by kernel_rfl) (fun _ _ _ h => h) (Or.inl ⟨by rfl, fun w hSw => ?yy203⟩) HS ?rr203
            case yy203 =>
              (try dsimp only at hSw); go_simp
              try with_reducible rfl
            try simp only [Act.put, List.setIfInBounds_toArray, List.set_cons_zero, List.set_cons_succ]
            refine wpAnyT_take (i := 30) (v := .int .i64 (2 * fx.srtt + D)) rfl (by kernel_rfl) (fun _ _ _ h => h) (Or.inl ⟨by rfl, fun w hSw => ?_⟩) HS ?_
            · (try dsimp only at hSw); go_simp
            try simp only [Act.put, List.setIfInBounds_toArray, List.set_cons_zero, List.set_cons_succ]
            refine wpAnyT_one (k := 31) rfl (by kernel_rfl) (by decide) (fun K hK => ?_)
            go_simp
            refine (p2 _).mono ?_
            rintro e y2w ⟨rfl, rfl⟩
            have HS : ((fun (W : World) => Below w4.heap.size w4 W ∧ (W.cell? ⟨bb, o + fu * 5 + 3, none⟩ = some (.int .i64 fx.srtt) ∧ W.cell? ⟨bb, o + su * 5 + 3, none⟩ = some (.int .i64 sx.srtt)))) _ := HS
            refine hK _ _ HS ?_
            clear hK K
            try simp only [Act.put, List.setIfInBounds_toArray, List.set_cons_zero, List.set_cons_succ]
            refine wpAnyT_take (i := 32) (v := ?vv204) rfl (by kernel_rfl) (fun _ _ _ h => h) (Or.inl ⟨by rfl, fun w hSw => ?yy204⟩) HS ?rr204
            case yy204 =>
              (try dsimp only at hSw); go_simp
              try with_reducible rfl
            try simp only [Act.put, List.setIfInBounds_toArray, List.set_cons_zero, List.set_cons_succ]
            refine ⟨by kernel_rfl, ?_⟩
            simp only [List.drop_succ_cons, List.drop_zero]
            have hx := HX3.out
            have hwv : waitB fx sx bytes false = false := by rw [HW.out]; exact decide_eq_false (fun h => by have h1 := of_decide_eq_true HV2.out; have h2 := h.2; omega)
            rw [if_neg (by rw [hwv]; simp)] at hx
            cases hx
            have bz := b4.trans (HS.1.mono z4)
            clear hwv HS
            go_wp2_with fail
            go_ret2
            exact ⟨rfl, bz⟩
        | true =>
          have HW' := HW.out
          rw [if_pos rfl] at HW'
          have HW := Lib.hid HW'
          clear HW'
          have p1 := fun w => rebelow_any (4 * (1 + nq1)) fx.srtt 5 (sx.srtt + D) w (by omega) (by omega) (by omega) (by omega)
          obtain ⟨v1, hv1⟩ : ∃ v, decide ((4 * (1 + nq1)) * fx.srtt < 5 * (sx.srtt + D)) = v := ⟨_, rfl⟩
          rw [hv1] at p1
          have HV1 := Lib.hid hv1
          clear hv1
          go_upto_region 27 with fail
          cases v1 with
          | false =>
            refine wp_region_tail 33 34 (fun (W : World) => Below w4.heap.size w4 W ∧ (W.cell? ⟨bb, o + fu * 5 + 3, none⟩ = some (.int .i64 fx.srtt) ∧ W.cell? ⟨bb, o + su * 5 + 3, none⟩ = some (.int .i64 sx.srtt))) (by kernel_rfl) (by rfl) (by decide) ?_
            have HS : ((fun (W : World) => Below w4.heap.size w4 W ∧ (W.cell? ⟨bb, o + fu * 5 + 3, none⟩ = some (.int .i64 fx.srtt) ∧ W.cell? ⟨bb, o + su * 5 + 3, none⟩ = some (.int .i64 sx.srtt)))) _ := ⟨(Below.refl _ _).drew, y3, t3⟩
            refine wpAnyT_take (i := 0) (v := ?vv205) rfl (by kernel_rfl) (fun _ _ _ h => h) (Or.inl ⟨by rfl, fun w hSw => ?yy205⟩) HS ?rr205
            case yy205 =>
              (try dsimp only at hSw); go_simp
              try with_reducible rfl
            try simp only [Act.put, List.setIfInBounds_toArray, List.set_cons_zero, List.set_cons_succ]
            refine wpAnyT_take (i := 1) (v := .int .i64 (4 * (1 + nq1))) rfl (by kernel_rfl) (fun _ _ _ h => h) (Or.inl ⟨by rfl, fun w hSw => ?_⟩) HS ?_
            · (try dsimp only at hSw); go_simp
            try simp only [Act.put, List.setIfInBounds_toArray, List.set_cons_zero, List.set_cons_succ]
            refine wpAnyT_take (i := 2) (v := ?vv206) rfl (by kernel_rfl) (fun _ _ _ h => h) (Or.inl ⟨by rfl, fun w hSw => ?yy206⟩) HS ?rr206
            case yy206 =>
              (try dsimp only at hSw); go_simp
              try with_reducible rfl
            try simp only [Act.put, List.setIfInBounds_toArray, List.set_cons_zero, List.set_cons_succ]
            refine wpAnyT_take (i := 3) (v := ?vv207) rfl (by kernel_rfl) (fun _ _ _ h => h) (Or.inl ⟨by rfl, fun w hSw => ?yy207⟩) HS ?rr207
            case yy207 =>
              (try dsimp only at hSw); go_simp
              try with_reducible rfl
            try simp only [Act.put, List.setIfInBounds_toArray, List.set_cons_zero, List.set_cons_succ]
            refine wpAnyT_take (i := 4) (v := ?vv208) rfl (by kernel_rfl) (fun _ _ _ h => h) (Or.inl ⟨by rfl, fun w hSw => ?yy208⟩) HS ?rr208
            case yy208 =>
              (try dsimp only at hSw); go_simp
              try with_reducible rfl
            try simp only [Act.put, List.setIfInBounds_toArray, List.set_cons_zero, List.set_cons_succ]
            refine wpAnyT_take (i := 5) (v := ?vv209) rfl (by kernel_rfl) (fun _ _ _ h => h) (Or.inl ⟨by rfl, fun w hSw => ?yy209⟩) HS ?rr209
            case yy209 =>
              (try dsimp only at hSw); go_simp
              try with_reducible rfl
            try simp only [Act.put, List.setIfInBounds_toArray, List.set_cons_zero, List.set_cons_succ]
            refine wpAnyT_take (i := 6) (v := ?vv210) rfl (by kernel_rfl) (fun _ _ _ h => h) (Or.inl ⟨by rfl, fun w hSw => ?yy210⟩) HS ?rr210
            case yy210 =>
              (try dsimp only at hSw); go_simp
              try with_reducible rfl
            try simp only [Act.put, List.setIfInBounds_toArray, List.set_cons_zero, List.set_cons_succ]
            refine wpAnyT_take (i := 7) (v := ?vv211) rfl (by kernel_rfl) (fun _ _ _ h => h) (Or.inl ⟨by rfl, fun w hSw => ?yy211⟩) HS ?rr211
            case yy211 =>
              (try dsimp only at hSw); go_simp
              try with_reducible rfl
            try simp only [Act.put, List.setIfInBounds_toArray, List.set_cons_zero, List.set_cons_succ]
            refine wpAnyT_take (i := 8) (v := ?vv212) rfl (by kernel_rfl) (fun _ _ _ h => h) (Or.inl ⟨by rfl, fun w hSw => ?yy212⟩) HS ?rr212
            case yy212 =>
              (try dsimp only at hSw); go_simp
              try with_reducible rfl
            try simp only [Act.put, List.setIfInBounds_toArray, List.set_cons_zero, List.set_cons_succ]
            refine wpAnyT_take (i := 9) (v := ?vv213) rfl (by kernel_rfl) (fun _ _ _ h => h) (Or.inl ⟨by rfl, fun w hSw => ?yy213⟩) HS ?rr213
            case yy213 =>
              (try dsimp only at hSw); go_simp
              try with_reducible rfl
            try simp only [Act.put, List.setIfInBounds_toArray, List.set_cons_zero, List.set_cons_succ]
            refine wpAnyT_take (i := 10) (v := ?vv214) rfl (by kernel_rfl) (fun _ _ _ h => h) (Or.inl ⟨by rfl, fun w hSw => ?yy214⟩) HS ?rr214
            case yy214 =>
              (try dsimp only at hSw); go_simp
              try with_reducible rfl
            try simp only [Act.put, List.setIfInBounds_toArray, List.set_cons_zero, List.set_cons_succ]
            refine wpAnyT_take (i := 11) (v := ?vv215) rfl (by kernel_rfl) (fun _ _ _ h => h) (Or.inl ⟨by rfl, fun w hSw => ?yy215⟩) HS ?rr215
            case yy215 =>
              (try dsimp only at hSw); go_simp
              try with_reducible rfl
            try simp only [Act.put, List.setIfInBounds_toArray, List.set_cons_zero, List.set_cons_succ]
            refine wpAnyT_take (i := 12) (v := ?vv216) rfl (by kernel_rfl) (fun _ _ _ h => h) (Or.inl ⟨by rfl, fun w hSw => ?yy216⟩) HS ?rr216
            case yy216 =>
              (try dsimp only at hSw); go_simp
              try with_reducible rfl
            try simp only [Act.put, List.setIfInBounds_toArray, List.set_cons_zero, List.set_cons_succ]
            refine wpAnyT_take (i := 13) (v := ?vv217) rfl (by kernel_rfl) (fun _ _ _ h => h) (Or.inl ⟨by rfl, fun w hSw => ?yy217⟩) HS ?rr217
            case yy217 =>
              (try dsimp only at hSw); go_simp
              try with_reducible rfl
            try simp only [Act.put, List.setIfInBounds_toArray, List.set_cons_zero, List.set_cons_succ]
            refine wpAnyT_take (i := 14) (v := .int .i64 (sx.srtt + D)) rfl (by kernel_rfl) (fun _ _ _ h => h) (Or.inl ⟨by rfl, fun w hSw => ?_⟩) HS ?_
            · (try dsimp only at hSw); go_simp
            try simp only [Act.put, List.setIfInBounds_toArray, List.set_cons_zero, List.set_cons_succ]
            refine wpAnyT_one (k := 15) rfl (by kernel_rfl) (by decide) (fun K hK => ?_)
            go_simp
            refine (p1 _).mono ?_
            rintro e y1w ⟨rfl, rfl⟩
            have HS : ((fun (W : World) => Below w4.heap.size w4 W ∧ (W.cell? ⟨bb, o + fu * 5 + 3, none⟩ = some (.int .i64 fx.srtt) ∧ W.cell? ⟨bb, o + su * 5 + 3, none⟩ = some (.int .i64 sx.srtt)))) _ := HS
            refine hK _ _ HS ?_
            clear hK K
            try simp only [Act.put, List.setIfInBounds_toArray, List.set_cons_zero, List.set_cons_succ]
            refine wpAnyT_take (i := 16) (v := ?vv218) rfl (by kernel_rfl) (fun _ _ _ h => h) (Or.inl ⟨by rfl, fun w hSw => ?yy218⟩) HS ?rr218
            case yy218 =>
              (try dsimp only at hSw); go_simp
              try with_reducible rfl
            try simp only [Act.put, List.setIfInBounds_toArray, List.set_cons_zero, List.set_cons_succ]
            refine wpAnyT_take (i := 17) (v := undef) rfl (by kernel_rfl) (fun _ _ _ h => h) (Or.inr ⟨by kernel_rfl, rfl⟩) HS ?_
            try simp only [Act.put, List.setIfInBounds_toArray, List.set_cons_zero, List.set_cons_succ]
            refine wpAnyT_take (i := 18) (v := undef) rfl (by kernel_rfl) (fun _ _ _ h => h) (Or.inr ⟨by kernel_rfl, rfl⟩) HS ?_
            try simp only [Act.put, List.setIfInBounds_toArray, List.set_cons_zero, List.set_cons_succ]
            refine wpAnyT_take (i := 19) (v := undef) rfl (by kernel_rfl) (fun _ _ _ h => h) (Or.inr ⟨by kernel_rfl, rfl⟩) HS ?_
            try simp only [Act.put, List.setIfInBounds_toArray, List.set_cons_zero, List.set_cons_succ]
            refine wpAnyT_take (i := 20) (v := undef) rfl (by kernel_rfl) (fun _ _ _ h => h) (Or.inr ⟨by kernel_rfl, rfl⟩) HS ?_
            try simp only [Act.put, List.setIfInBounds_toArray, List.set_cons_zero, List.set_cons_succ]
            refine wpAnyT_take (i := 21) (v := undef) rfl (by kernel_rfl) (fun _ _ _ h => h) (Or.inr ⟨by kernel_rfl, rfl⟩) HS ?_
            try simp only [Act.put, List.setIfInBounds_toArray, List.set_cons_zero, List.set_cons_succ]
            refine wpAnyT_take (i := 22) (v := undef) rfl (by kernel_rfl) (fun _ _ _ h => h) (Or.inr ⟨by kernel_rfl, rfl⟩) HS ?_
            try simp only [Act.put, List.setIfInBounds_toArray, List.set_cons_zero, List.set_cons_succ]
            refine wpAnyT_take (i := 23) (v := undef) rfl (by kernel_rfl) (fun _ _ _ h => h) (Or.inr ⟨by kernel_rfl, rfl⟩) HS ?_
            try simp only [Act.put, List.setIfInBounds_toArray, List.set_cons_zero, List.set_cons_succ]
            refine wpAnyT_take (i := 24) (v := undef) rfl (by kernel_rfl) (fun _ _ _ h => h) (Or.inr ⟨by kernel_rfl, rfl⟩) HS ?_
            try simp only [Act.put, List.setIfInBounds_toArray, List.set_cons_zero, List.set_cons_succ]
            refine wpAnyT_take (i := 25) (v := undef) rfl (by kernel_rfl) (fun _ _ _ h => h) (Or.inr ⟨by kernel_rfl, rfl⟩) HS ?_
            try simp only [Act.put, List.setIfInBounds_toArray, List.set_cons_zero, List.set_cons_succ]
            refine wpAnyT_take (i := 26) (v := undef) rfl (by kernel_rfl) (fun _ _ _ h => h) (Or.inr ⟨by kernel_rfl, rfl⟩) HS ?_
            try simp only [Act.put, List.setIfInBounds_toArray, List.set_cons_zero, List.set_cons_succ]
            refine wpAnyT_take (i := 27) (v := undef) rfl (by kernel_rfl) (fun _ _ _ h => h) (Or.inr ⟨by kernel_rfl, rfl⟩) HS ?_
            try simp only [Act.put, List.setIfInBounds_toArray, List.set_cons_zero, List.set_cons_succ]
            refine wpAnyT_take (i := 28) (v := undef) rfl (by kernel_rfl) (fun _ _ _ h => h) (Or.inr ⟨by kernel_rfl, rfl⟩) HS ?_
            try simp only [Act.put, List.setIfInBounds_toArray, List.set_cons_zero, List.set_cons_succ]
            refine wpAnyT_take (i := 29) (v := undef) rfl (by kernel_rfl) (fun _ _ _ h => h) (Or.inr ⟨by kernel_rfl, rfl⟩) HS ?_
            try simp only [Act.put, List.setIfInBounds_toArray, List.set_cons_zero, List.set_cons_succ]
            refine wpAnyT_take (i := 30) (v := undef) rfl (by kernel_rfl) (fun _ _ _ h => h) (Or.inr ⟨by kernel_rfl, rfl⟩) HS ?_
            try simp only [Act.put, List.setIfInBounds_toArray, List.set_cons_zero, List.set_cons_succ]
            refine wpAnyT_take (i := 31) (v := undef) rfl (by kernel_rfl) (fun _ _ _ h => h) (Or.inr ⟨by kernel_rfl, rfl⟩) HS ?_
            try simp only [Act.put, List.setIfInBounds_toArray, List.set_cons_zero, List.set_cons_succ]
            refine wpAnyT_take (i := 32) (v := undef) rfl (by kernel_rfl) (fun _ _ _ h => h) (Or.inr ⟨by kernel_rfl, rfl⟩) HS ?_
            try simp only [Act.put, List.setIfInBounds_toArray, List.set_cons_zero, List.set_cons_succ]
            refine ⟨by kernel_rfl, ?_⟩
            simp only [List.drop_succ_cons, List.drop_zero]
            have hx := HX3.out
            have hwv : waitB fx sx bytes true = false := by rw [HW.out]; exact decide_eq_false (fun h => by have h1 := of_decide_eq_false HV1.out; have h2 := h.1; omega)
            rw [if_neg (by rw [hwv]; simp)] at hx
            cases hx
            have bz := b4.trans (HS.1.mono z4)
            clear hwv HS
            go_wp2_with fail
            go_ret2
            exact ⟨rfl, bz⟩
          | true =>
          cases v2 with
          | false =>
            refine wp_region_tail 33 34 (fun (W : World) => Below w4.heap.size w4 W ∧ (W.cell? ⟨bb, o + fu * 5 + 3, none⟩ = some (.int .i64 fx.srtt) ∧ W.cell? ⟨bb, o + su * 5 + 3, none⟩ = some (.int .i64 sx.srtt))) (by kernel_rfl) (by rfl) (by decide) ?_
            have HS : ((fun (W : World) => Below w4.heap.size w4 W ∧ (W.cell? ⟨bb, o + fu * 5 + 3, none⟩ = some (.int .i64 fx.srtt) ∧ W.cell? ⟨bb, o + su * 5 + 3, none⟩ = some (.int .i64 sx.srtt)))) _ := ⟨(Below.refl _ _).drew, y3, t3⟩
            refine wpAnyT_take (i := 0) (v := ?vv219) rfl (by kernel_rfl) (fun _ _ _ h => h) (Or.inl ⟨by rfl, fun w hSw => ?yy219⟩) HS ?rr219
            case yy219 =>
              (try dsimp only at hSw); go_simp
              try with_reducible rfl
            try simp only [Act.put, List.setIfInBounds_toArray, List.set_cons_zero, List.set_cons_succ]
            refine wpAnyT_take (i := 1) (v := .int .i64 (4 * (1 + nq1))) rfl (by kernel_rfl) (fun _ _ _ h => h) (Or.inl ⟨by rfl, fun w hSw => ?_⟩) HS ?_
            · (try dsimp only at hSw); go_simp
            try simp only [Act.put, List.setIfInBounds_toArray, List.set_cons_zero, List.set_cons_succ]
            refine wpAnyT_take (i := 2) (v := ?vv220) rfl (by kernel_rfl) (fun _ _ _ h => h) (Or.inl ⟨by rfl, fun w hSw => ?yy220⟩) HS ?rr220
            case yy220 =>
              (try dsimp only at hSw); go_simp
              try with_reducible rfl
            try simp only [Act.put, List.setIfInBounds_toArray, List.set_cons_zero, List.set_cons_succ]
            refine wpAnyT_take (i := 3) (v := ?vv221) rfl (by kernel_rfl) (fun _ _ _ h => h) (Or.inl ⟨by rfl, fun w hSw => ?yy221⟩) HS ?rr221
            case yy221 =>
              (try dsimp only at hSw); go_simp
              try with_reducible rfl
            try simp only [Act.put, List.setIfInBounds_toArray, List.set_cons_zero, List.set_cons_succ]
            refine wpAnyT_take (i := 4) (v := ?vv222) rfl (by kernel_rfl) (fun _ _ _ h => h) (Or.inl ⟨by rfl, fun w hSw => ?yy222⟩) HS ?rr222
            case yy222 =>
              (try dsimp only at hSw); go_simp
              try with_reducible rfl
            try simp only [Act.put, List.setIfInBounds_toArray, List.set_cons_zero, List.set_cons_succ]
            refine wpAnyT_take (i := 5) (v := ?vv223) rfl (by kernel_rfl) (fun _ _ _ h => h) (Or.inl ⟨by rfl, fun w hSw => ?yy223⟩) HS ?rr223
            case yy223 =>
              (try dsimp only at hSw); go_simp
              try with_reducible rfl
            try simp only [Act.put, List.setIfInBounds_toArray, List.set_cons_zero, List.set_cons_succ]
            refine wpAnyT_take (i := 6) (v := ?vv224) rfl (by kernel_rfl) (fun _ _ _ h => h) (Or.inl ⟨by rfl, fun w hSw => ?yy224⟩) HS ?rr224
            case yy224 =>
              (try dsimp only at hSw); go_simp
              try with_reducible rfl
            try simp only [Act.put, List.setIfInBounds_toArray, List.set_cons_zero, List.set_cons_succ]
            refine wpAnyT_take (i := 7) (v := ?vv225) rfl (by kernel_rfl) (fun _ _ _ h => h) (Or.inl ⟨by rfl, fun w hSw => ?yy225⟩) HS ?rr225
            case yy225 =>
              (try dsimp only at hSw); go_simp
              try with_reducible rfl
            try simp only [Act.put, List.setIfInBounds_toArray, List.set_cons_zero, List.set_cons_succ]
            refine wpAnyT_take (i := 8) (v := ?vv226) rfl (by kernel_rfl) (fun _ _ _ h => h) (Or.inl ⟨by rfl, fun w hSw => ?yy226⟩) HS ?rr226
            case yy226 =>
              (try dsimp only at hSw); go_simp
              try with_reducible rfl
            try simp only [Act.put, List.setIfInBounds_toArray, List.set_cons_zero, List.set_cons_succ]
            refine wpAnyT_take (i := 9) (v := ?vv227) rfl (by kernel_rfl) (fun _ _ _ h => h) (Or.inl ⟨by rfl, fun w hSw => ?yy227⟩) HS ?rr227
            case yy227 =>
              (try dsimp only at hSw); go_simp
              try with_reducible rfl
            try simp only [Act.put, List.setIfInBounds_toArray, List.set_cons_zero, List.set_cons_succ]
            refine wpAnyT_take (i := 10) (v := ?vv228) rfl (by kernel_rfl) (fun _ _ _ h => h) (Or.inl ⟨by rfl, fun w hSw => ?yy228⟩) HS ?rr228
            case yy228 =>
              (try dsimp only at hSw); go_simp
              try with_reducible rfl
            try simp only [Act.put, List.setIfInBounds_toArray, List.set_cons_zero, List.set_cons_succ]
            refine wpAnyT_take (i := 11) (v := ?vv229) rfl (by kernel_rfl) (fun _ _ _ h => h) (Or.inl ⟨by rfl, fun w hSw => ?yy229⟩) HS ?rr229
            case yy229 =>
              (try dsimp only at hSw); go_simp
              try with_reducible rfl
            try simp only [Act.put, List.setIfInBounds_toArray, List.set_cons_zero, List.set_cons_succ]
            refine wpAnyT_take (i := 12) (v := ?vv230) rfl (by kernel_rfl) (fun _ _ _ h => h) (Or.inl ⟨by rfl, fun w hSw => ?yy230⟩) HS ?rr230
            case yy230 =>
              (try dsimp only at hSw); go_simp
              try with_reducible rfl
            try simp only [Act.put, List.setIfInBounds_toArray, List.set_cons_zero, List.set_cons_succ]
            refine wpAnyT_take (i := 13) (v := ?vv231) rfl (by kernel_rfl) (fun _ _ _ h => h) (Or.inl ⟨by rfl, fun w hSw => ?yy231⟩) HS ?rr231
            case yy231 =>
              (try dsimp only at hSw); go_simp
              try with_reducible rfl
            try simp only [Act.put, List.setIfInBounds_toArray, List.set_cons_zero, List.set_cons_succ]
            refine wpAnyT_take (i := 14) (v := .int .i64 (sx.srtt + D)) rfl (by kernel_rfl) (fun _ _ _ h => h) (Or.inl ⟨by rfl, fun w hSw => ?_⟩) HS ?_
            · (try dsimp only at hSw); go_simp
            try simp only [Act.put, List.setIfInBounds_toArray, List.set_cons_zero, List.set_cons_succ]
            refine wpAnyT_one (k := 15) rfl (by kernel_rfl) (by decide) (fun K hK => ?_)
            go_simp
            refine (p1 _).mono ?_
            rintro e y1w ⟨rfl, rfl⟩
            have HS : ((fun (W : World) => Below w4.heap.size w4 W ∧ (W.cell? ⟨bb, o + fu * 5 + 3, none⟩ = some (.int .i64 fx.srtt) ∧ W.cell? ⟨bb, o + su * 5 + 3, none⟩ = some (.int .i64 sx.srtt)))) _ := HS
            refine hK _ _ HS ?_
            clear hK K
            try simp only [Act.put, List.setIfInBounds_toArray, List.set_cons_zero, List.set_cons_succ]
            refine wpAnyT_take (i := 16) (v := ?vv232) rfl (by kernel_rfl) (fun _ _ _ h => h) (Or.inl ⟨by rfl, fun w hSw => ?yy232⟩) HS ?rr232
            case yy232 =>
              (try dsimp only at hSw); go_simp
              try with_reducible rfl
            try simp only [Act.put, List.setIfInBounds_toArray, List.set_cons_zero, List.set_cons_succ]
            refine wpAnyT_take (i := 17) (v := ?vv233) rfl (by kernel_rfl) (fun _ _ _ h => h) (Or.inl ⟨by rfl, fun w hSw => ?yy233⟩) HS ?rr233
            case yy233 =>
              (try dsimp only at hSw); go_simp
              try with_reducible rfl
            try simp only [Act.put, List.setIfInBounds_toArray, List.set_cons_zero, List.set_cons_succ]
            refine wpAnyT_take (i := 18) (v := ?vv234) rfl (by kernel_rfl) (fun _ _ _ h => h) (Or.inl ⟨by rfl, fun w hSw => ?yy234⟩) HS ?rr234
            case yy234 =>
              (try dsimp only at hSw); go_simp
              try with_reducible rfl
            try simp only [Act.put, List.setIfInBounds_toArray, List.set_cons_zero, List.set_cons_succ]
            refine wpAnyT_take (i := 19) (v := ?vv235) rfl (by kernel_rfl) (fun _ _ _ h => h) (Or.inl ⟨by rfl, fun w hSw => ?yy235⟩) HS ?rr235
            case yy235 =>
              (try dsimp only at hSw); go_simp
              try with_reducible rfl
            try simp only [Act.put, List.setIfInBounds_toArray, List.set_cons_zero, List.set_cons_succ]
            refine wpAnyT_take (i := 20) (v := ?vv236) rfl (by kernel_rfl) (fun _ _ _ h => h) (Or.inl ⟨by rfl, fun w hSw => ?yy236⟩) HS ?rr236
            case yy236 =>
              (try dsimp only at hSw); go_simp
              try with_reducible rfl
            try simp only [Act.put, List.setIfInBounds_toArray, List.set_cons_zero, List.set_cons_succ]
            refine wpAnyT_take (i := 21) (v := ?vv237) rfl (by kernel_rfl) (fun _ _ _ h => h) (Or.inl ⟨by rfl, fun w hSw => ?yy237⟩) HS ?rr237
            case yy237 =>
              (try dsimp only at hSw); go_simp
              try with_reducible rfl
            try simp only [Act.put, List.setIfInBounds_toArray, List.set_cons_zero, List.set_cons_succ]
            refine wpAnyT_take (i := 22) (v := ?vv238) rfl (by kernel_rfl) (fun _ _ _ h => h) (Or.inl ⟨by rfl, fun w hSw => ?yy238⟩) HS ?rr238
            case yy238 =>
              (try dsimp only at hSw); go_simp
              try with_reducible rfl
            try simp only [Act.put, List.setIfInBounds_toArray, List.set_cons_zero, List.set_cons_succ]
            refine wpAnyT_take (i := 23) (v := ?vv239) rfl (by kernel_rfl) (fun _ _ _ h => h) (Or.inl ⟨by rfl, fun w hSw => ?yy239⟩) HS ?rr239
            case yy239 =>
              (try dsimp only at hSw); go_simp
              try with_reducible rfl
            try simp only [Act.put, List.setIfInBounds_toArray, List.set_cons_zero, List.set_cons_succ]
            refine wpAnyT_take (i := 24) (v := ?vv240) rfl (by kernel_rfl) (fun _ _ _ h => h) (Or.inl ⟨by rfl, fun w hSw => ?yy240⟩) HS ?rr240
            case yy240 =>
              (try dsimp only at hSw); go_simp
              try with_reducible rfl
            try simp only [Act.put, List.setIfInBounds_toArray, List.set_cons_zero, List.set_cons_succ]
            refine wpAnyT_take (i := 25) (v := ?vv241) rfl (by kernel_rfl) (fun _ _ _ h => h) (Or.inl ⟨by rfl, fun w hSw => ?yy241⟩) HS ?rr241
            case yy241 =>
              (try dsimp only at hSw); go_simp
              try with_reducible rfl
            try simp only [Act.put, List.setIfInBounds_toArray, List.set_cons_zero, List.set_cons_succ]
            refine wpAnyT_take (i := 26) (v := ?vv242) rfl (by kernel_rfl) (fun _ _ _ h => h) (Or.inl ⟨by rfl, fun w hSw => ?yy242⟩) HS ?rr242
            case yy242 =>
              (try dsimp only at hSw); go_simp
              try with_reducible rfl
            try simp only [Act.put, List.setIfInBounds_toArray, List.set_cons_zero, List.set_cons_succ]
            refine wpAnyT_take (i := 27) (v := ?vv243) rfl (by kernel_rfl) (fun _ _ _ h => h) (Or.inl ⟨by rfl, fun w hSw => ?yy243⟩) HS ?rr243
            case yy243 =>
              (try dsimp only at hSw); go_simp
              try with_reducible rfl
            try simp only [Act.put, List.setIfInBounds_toArray, List.set_cons_zero, List.set_cons_succ]
            refine wpAnyT_take (i := 28) (v := .int .i64 (2 * fx.srtt)) rfl (by kernel_rfl) (fun _ _ _ h => h) (Or.inl ⟨by rfl, fun w hSw => ?_⟩) HS ?_
            · (try dsimp only at hSw); go_simp
            try simp only [Act.put, List.setIfInBounds_toArray, List.set_cons_zero, List.set_cons_succ]
            refine wpAnyT_take (i := 29) (v := ?vv244) rfl (by kernel_rfl) (fun _ _ _ h => h) (Or.inl ⟨by rfl, fun w hSw => ?yy244⟩) HS ?rr244
            case yy244 =>
              (try dsimp only at hSw); go_simp
              try with_reducible rfl
            try simp only [Act.put, List.setIfInBounds_toArray, List.set_cons_zero, List.set_cons_succ]
            refine wpAnyT_take (i := 30) (v := .int .i64 (2 * fx.srtt + D)) rfl (by kernel_rfl) (fun _ _ _ h => h) (Or.inl ⟨by rfl, fun w hSw => ?_⟩) HS ?_
            · (try dsimp only at hSw); go_simp
            try simp only [Act.put, List.setIfInBounds_toArray, List.set_cons_zero, List.set_cons_succ]
            refine wpAnyT_one (k := 31) rfl (by kernel_rfl) (by decide) (fun K hK => ?_)
            go_simp
            refine (p2 _).mono ?_
            rintro e y2w ⟨rfl, rfl⟩
            have HS : ((fun (W : World) => Below w4.heap.size w4 W ∧ (W.cell? ⟨bb, o + fu * 5 + 3, none⟩ = some (.int .i64 fx.srtt) ∧ W.cell? ⟨bb, o + su * 5 + 3, none⟩ = some (.int .i64 sx.srtt)))) _ := HS
            refine hK _ _ HS ?_
            clear hK K
            try simp only [Act.put, List.setIfInBounds_toArray, List.set_cons_zero, List.set_cons_succ]
            refine wpAnyT_take (i := 32) (v := ?vv245) rfl (by kernel_rfl) (fun _ _ _ h => h) (Or.inl ⟨by rfl, fun w hSw => ?yy245⟩) HS ?rr245
            case yy245 =>
              (try dsimp only at hSw); go_simp
              try with_reducible rfl
            try simp only [Act.put, List.setIfInBounds_toArray, List.set_cons_zero, List.set_cons_succ]
            refine ⟨by kernel_rfl, ?_⟩
            simp only [List.drop_succ_cons, List.drop_zero]
            have hx := HX3.out
            have hwv : waitB fx sx bytes true = true := by rw [HW.out]; exact decide_eq_true ⟨of_decide_eq_true HV1.out, by have := of_decide_eq_false HV2.out; omega⟩
            rw [if_pos hwv] at hx
            cases hx
            have bz := b4.trans (HS.1.mono z4)
            clear hwv HS
            go_wp2_with fail
            go_ret2
            exact ⟨rfl, bz⟩
          | true =>
            refine wp_region_tail 33 34 (fun (W : World) => Below w4.heap.size w4 W ∧ (W.cell? ⟨bb, o + fu * 5 + 3, none⟩ = some (.int .i64 fx.srtt) ∧ W.cell? ⟨bb, o + su * 5 + 3, none⟩ = some (.int .i64 sx.srtt))) (by kernel_rfl) (by rfl) (by decide) ?_
            have HS : ((fun (W : World) => Below w4.heap.size w4 W ∧ (W.cell? ⟨bb, o + fu * 5 + 3, none⟩ = some (.int .i64 fx.srtt) ∧ W.cell? ⟨bb, o + su * 5 + 3, none⟩ = some (.int .i64 sx.srtt)))) _ := ⟨(Below.refl _ _).drew, y3, t3⟩
            refine wpAnyT_take (i := 0) (v := ?vv246) rfl (by kernel_rfl) (fun _ _ _ h => h) (Or.inl ⟨by rfl, fun w hSw => ?yy246⟩) HS ?rr246
            case yy246 =>
              (try dsimp only at hSw); go_simp
              try with_reducible rfl
            try simp only [Act.put, List.setIfInBounds_toArray, List.set_cons_zero, List.set_cons_succ]
            refine wpAnyT_take (i := 1) (v := .int .i64 (4 * (1 + nq1))) rfl (by kernel_rfl) (fun _ _ _ h => h) (Or.inl ⟨by rfl, fun w hSw => ?_⟩) HS ?_
            · (try dsimp only at hSw); go_simp
            try simp only [Act.put, List.setIfInBounds_toArray, List.set_cons_zero, List.set_cons_succ]
            refine wpAnyT_take (i := 2) (v := ?vv247) rfl (by kernel_rfl) (fun _ _ _ h => h) (Or.inl ⟨by rfl, fun w hSw => ?yy247⟩) HS ?rr247
            case yy247 =>
              (try dsimp only at hSw); go_simp
              try with_reducible rfl
            try simp only [Act.put, List.setIfInBounds_toArray, List.set_cons_zero, List.set_cons_succ]
            refine wpAnyT_take (i := 3) (v := ?vv248) rfl (by kernel_rfl) (fun _ _ _ h => h) (Or.inl ⟨by rfl, fun w hSw => ?yy248⟩) HS ?rr248
            case yy248 =>
              (try dsimp only at hSw); go_simp
              try with_reducible rfl
            try simp only [Act.put, List.setIfInBounds_toArray, List.set_cons_zero, List.set_cons_succ]
            refine wpAnyT_take (i := 4) (v := ?vv249) rfl (by kernel_rfl) (fun _ _ _ h => h) (Or.inl ⟨by rfl, fun w hSw => ?yy249⟩) HS ?rr249
            case yy249 =>
              (try dsimp only at hSw); go_simp
              try with_reducible rfl
            try simp only [Act.put, List.setIfInBounds_toArray, List.set_cons_zero, List.set_cons_succ]
            refine wpAnyT_take (i := 5) (v := ?vv250) rfl (by kernel_rfl) (fun _ _ _ h => h) (Or.inl ⟨by rfl, fun w hSw => ?yy250⟩) HS ?rr250
            case yy250 =>
              (try dsimp only at hSw); go_simp
              try with_reducible rfl
            try simp only [Act.put, List.setIfInBounds_toArray, List.set_cons_zero, List.set_cons_succ]
            refine wpAnyT_take (i := 6) (v := ?vv251) rfl (by kernel_rfl) (fun _ _ _ h => h) (Or.inl ⟨by rfl, fun w hSw => ?yy251⟩) HS ?rr251
            case yy251 =>
              (try dsimp only at hSw); go_simp
              try with_reducible rfl
            try simp only [Act.put, List.setIfInBounds_toArray, List.set_cons_zero, List.set_cons_succ]
            refine wpAnyT_take (i := 7) (v := ?vv252) rfl (by kernel_rfl) (fun _ _ _ h => h) (Or.inl ⟨by rfl, fun w hSw => ?yy252⟩) HS ?rr252
            case yy252 =>
              (try dsimp only at hSw); go_simp
              try with_reducible rfl
            try simp only [Act.put, List.setIfInBounds_toArray, List.set_cons_zero, List.set_cons_succ]
            refine wpAnyT_take (i := 8) (v := ?vv253) rfl (by kernel_rfl) (fun _ _ _ h => h) (Or.inl ⟨by rfl, fun w hSw => ?yy253⟩) HS ?rr253
            case yy253 =>
              (try dsimp only at hSw); go_simp
              try with_reducible rfl
            try simp only [Act.put, List.setIfInBounds_toArray, List.set_cons_zero, List.set_cons_succ]
            refine wpAnyT_take (i := 9) (v := ?vv254) rfl (by kernel_rfl) (fun _ _ _ h => h) (Or.inl ⟨by rfl, fun w hSw => ?yy254⟩) HS ?rr254
            case yy254 =>
              (try dsimp only at hSw); go_simp
              try with_reducible rfl
            try simp only [Act.put, List.setIfInBounds_toArray, List.set_cons_zero, List.set_cons_succ]
            refine wpAnyT_take (i := 10) (v := ?vv255) rfl (by kernel_rfl) (fun _ _ _ h => h) (Or.inl ⟨by rfl, fun w hSw => ?yy255⟩) HS ?rr255
            case yy255 =>
              (try dsimp only at hSw); go_simp
              try with_reducible rfl
            try simp only [Act.put, List.setIfInBounds_toArray, List.set_cons_zero, List.set_cons_succ]
            refine wpAnyT_take (i := 11) (v := ?vv256) rfl (by kernel_rfl) (fun _ _ _ h => h) (Or.inl ⟨by rfl, fun w hSw => ?yy256⟩) HS ?rr256
            case yy256 =>
              (try dsimp only at hSw); go_simp
              try with_reducible rfl
            try simp only [Act.put, List.setIfInBounds_toArray, List.set_cons_zero, List.set_cons_succ]
            refine wpAnyT_take (i := 12) (v := ?vv257) rfl (by kernel_rfl) (fun _ _ _ h => h) (Or.inl ⟨by rfl, fun w hSw => ?yy257⟩) HS ?rr257
            case yy257 =>
              (try dsimp only at hSw); go_simp
              try with_reducible rfl
            try simp only [Act.put, List.setIfInBounds_toArray, List.set_cons_zero, List.set_cons_succ]
            refine wpAnyT_take (i := 13) (v := ?vv258) rfl (by kernel_rfl) (fun _ _ _ h => h) (Or.inl ⟨by rfl, fun w hSw => ?yy258⟩) HS ?rr258
            case yy258 =>
              (try dsimp only at hSw); go_simp
              try with_reducible rfl
            try simp only [Act.put, List.setIfInBounds_toArray, List.set_cons_zero, List.set_cons_succ]
            refine wpAnyT_take (i := 14) (v := .int .i64 (sx.srtt + D)) rfl (by kernel_rfl) (fun _ _ _ h => h) (Or.inl ⟨by rfl, fun w hSw => ?_⟩) HS ?_
            · (try dsimp only at hSw); go_simp
            try simp only [Act.put, List.setIfInBounds_toArray, List.set_cons_zero, List.set_cons_succ]
            refine wpAnyT_one (k := 15) rfl (by kernel_rfl) (by decide) (fun K hK => ?_)
            go_simp
            refine (p1 _).mono ?_
            rintro e y1w ⟨rfl, rfl⟩
            have HS : ((fun (W : World) => Below w4.heap.size w4 W ∧ (W.cell? ⟨bb, o + fu * 5 + 3, none⟩ = some (.int .i64 fx.srtt) ∧ W.cell? ⟨bb, o + su * 5 + 3, none⟩ = some (.int .i64 sx.srtt)))) _ := HS
            refine hK _ _ HS ?_
            clear hK K
            try simp only [Act.put, List.setIfInBounds_toArray, List.set_cons_zero, List.set_cons_succ]
            refine wpAnyT_take (i := 16) (v := ?vv259) rfl (by kernel_rfl) (fun _ _ _ h => h) (Or.inl ⟨by rfl, fun w hSw => ?yy259⟩) HS ?rr259
            case yy259 =>
              (try dsimp only at hSw); go_simp
              try with_reducible rfl
            try simp only [Act.put, List.setIfInBounds_toArray, List.set_cons_zero, List.set_cons_succ]
            refine wpAnyT_take (i := 17) (v := ?vv260) rfl (by kernel_rfl) (fun _ _ _ h => h) (Or.inl ⟨by rfl, fun w hSw => ?yy260⟩) HS ?rr260
            case yy260 =>
              (try dsimp only at hSw); go_simp
              try with_reducible rfl
            try simp only [Act.put, List.setIfInBounds_toArray, List.set_cons_zero, List.set_cons_succ]
            refine wpAnyT_take (i := 18) (v := ?vv261) rfl (by kernel_rfl) (fun _ _ _ h => h) (Or.inl ⟨by rfl, fun w hSw => ?yy261⟩) HS ?rr261
            case yy261 =>
              (try dsimp only at hSw); go_simp
              try with_reducible rfl
            try simp only [Act.put, List.setIfInBounds_toArray, List.set_cons_zero, List.set_cons_succ]
            refine wpAnyT_take (i := 19) (v := ?vv262) rfl (by kernel_rfl) (fun _ _ _ h => h) (Or.inl ⟨by rfl, fun w hSw => ?yy262⟩) HS ?rr262
            case yy262 =>
              (try dsimp only at hSw); go_simp
              try with_reducible rfl
            try simp only [Act.put, List.setIfInBounds_toArray, List.set_cons_zero, List.set_cons_succ]
            refine wpAnyT_take (i := 20) (v := ?vv263) rfl (by kernel_rfl) (fun _ _ _ h => h) (Or.inl ⟨by rfl, fun w hSw => ?yy263⟩) HS ?rr263
            case yy263 =>
              (try dsimp only at hSw); go_simp
              try with_reducible rfl
            try simp only [Act.put, List.setIfInBounds_toArray, List.set_cons_zero, List.set_cons_succ]
            refine wpAnyT_take (i := 21) (v := ?vv264) rfl (by kernel_rfl) (fun _ _ _ h => h) (Or.inl ⟨by rfl, fun w hSw => ?yy264⟩) HS ?rr264
            case yy264 =>
              (try dsimp only at hSw); go_simp
              try with_reducible rfl
            try simp only [Act.put, List.setIfInBounds_toArray, List.set_cons_zero, List.set_cons_succ]
            refine wpAnyT_take (i := 22) (v := ?vv265) rfl (by kernel_rfl) (fun _ _ _ h => h) (Or.inl ⟨by rfl, fun w hSw => ?yy265⟩) HS ?rr265
            case yy265 =>
              (try dsimp only at hSw); go_simp
              try with_reducible rfl
            try simp only [Act.put, List.setIfInBounds_toArray, List.set_cons_zero, List.set_cons_succ]
            refine wpAnyT_take (i := 23) (v := ?vv266) rfl (by kernel_rfl) (fun _ _ _ h => h) (Or.inl ⟨by rfl, fun w hSw => ?yy266⟩) HS ?rr266
            case yy266 =>
              (try dsimp only at hSw); go_simp
              try with_reducible rfl
            try simp only [Act.put, List.setIfInBounds_toArray, List.set_cons_zero, List.set_cons_succ]
            refine wpAnyT_take (i := 24) (v := ?vv267) rfl (by kernel_rfl) (fun _ _ _ h => h) (Or.inl ⟨by rfl, fun w hSw => ?yy267⟩) HS ?rr267
            case yy267 =>
              (try dsimp only at hSw); go_simp
              try with_reducible rfl
            try simp only [Act.put, List.setIfInBounds_toArray, List.set_cons_zero, List.set_cons_succ]
            refine wpAnyT_take (i := 25) (v := ?vv268) rfl (by kernel_rfl) (fun _ _ _ h => h) (Or.inl ⟨by rfl, fun w hSw => ?yy268⟩) HS ?rr268
            case yy268 =>
              (try dsimp only at hSw); go_simp
              try with_reducible rfl
            try simp only [Act.put, List.setIfInBounds_toArray, List.set_cons_zero, List.set_cons_succ]
            refine wpAnyT_take (i := 26) (v := ?vv269) rfl (by kernel_rfl) (fun _ _ _ h => h) (Or.inl ⟨by rfl, fun w hSw => ?yy269⟩) HS ?rr269
            case yy269 =>
              (try dsimp only at hSw); go_simp
              try with_reducible rfl
            try simp only [Act.put, List.setIfInBounds_toArray, List.set_cons_zero, List.set_cons_succ]
            refine wpAnyT_take (i := 27) (v := ?vv270) rfl (by kernel_rfl) (fun _ _ _ h => h) (Or.inl ⟨by rfl, fun w hSw => ?yy270⟩) HS ?rr270
            case yy270 =>
              (try dsimp only at hSw); go_simp
              try with_reducible rfl
            try simp only [Act.put, List.setIfInBounds_toArray, List.set_cons_zero, List.set_cons_succ]
            refine wpAnyT_take (i := 28) (v := .int .i64 (2 * fx.srtt)) rfl (by kernel_rfl) (fun _ _ _ h => h) (Or.inl ⟨by rfl, fun w hSw => ?_⟩) HS ?_
            · (try dsimp only at hSw); go_simp
            try simp only [Act.put, List.setIfInBounds_toArray, List.set_cons_zero, List.set_cons_succ]
            refine wpAnyT_take (i := 29) (v := ?vv271) rfl (by kernel_rfl) (fun _ _ _ h => h) (Or.inl ⟨by rfl, fun w hSw => ?yy271⟩) HS ?rr271
            case yy271 =>
              (try dsimp only at hSw); go_simp
              try with_reducible rfl
            try simp only [Act.put, List.setIfInBounds_toArray, List.set_cons_zero, List.set_cons_succ]
            refine wpAnyT_take (i := 30) (v := .int .i64 (2 * fx.srtt + D)) rfl (by kernel_rfl) (fun _ _ _ h => h) (Or.inl ⟨by rfl, fun w hSw => ?_⟩) HS ?_
            · (try dsimp only at hSw); go_simp
            try simp only [Act.put, List.setIfInBounds_toArray, List.set_cons_zero, List.set_cons_succ]
            refine wpAnyT_one (k := 31) rfl (by kernel_rfl) (by decide) (fun K hK => ?_)
            go_simp
            refine (p2 _).mono ?_
            rintro e y2w ⟨rfl, rfl⟩
            have HS : ((fun (W : World) => Below w4.heap.size w4 W ∧ (W.cell? ⟨bb, o + fu * 5 + 3, none⟩ = some (.int .i64 fx.srtt) ∧ W.cell? ⟨bb, o + su * 5 + 3, none⟩ = some (.int .i64 sx.srtt)))) _ := HS
            refine hK _ _ HS ?_
            clear hK K
            try simp only [Act.put, List.setIfInBounds_toArray, List.set_cons_zero, List.set_cons_succ]
            refine wpAnyT_take (i := 32) (v := ?vv272) rfl (by kernel_rfl) (fun _ _ _ h => h) (Or.inl ⟨by rfl, fun w hSw => ?yy272⟩) HS ?rr272
            case yy272 =>
              (try dsimp only at hSw); go_simp
              try with_reducible rfl
            try simp only [Act.put, List.setIfInBounds_toArray, List.set_cons_zero, List.set_cons_succ]
            refine ⟨by kernel_rfl, ?_⟩
            simp only [List.drop_succ_cons, List.drop_zero]
            have hx := HX3.out
            have hwv : waitB fx sx bytes true = false := by rw [HW.out]; exact decide_eq_false (fun h => by have h1 := of_decide_eq_true HV2.out; have h2 := h.2; omega)
            rw [if_neg (by rw [hwv]; simp)] at hx
            cases hx
            have bz := b4.trans (HS.1.mono z4)
            clear hwv HS
            go_wp2_with fail
            go_ret2
            exact ⟨rfl, bz⟩
end Go.Proofs.Ytmclffbjdkoneaa
