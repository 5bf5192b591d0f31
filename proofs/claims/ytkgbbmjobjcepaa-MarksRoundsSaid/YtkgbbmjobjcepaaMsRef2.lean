/- The reference of package marks: Heard and Round as contracts of the calls. -/
import Derived.Test.YtkgbbmjobjcepaaMsRef1
import Derived.Test.YtkgbbmjobjcepaaRew
import Derived.WalkKit
import Derived.WalkSpells
import Derived.WalkSmall
import Derived.Lib.Hide
import Derived.Below
import Derived.Outline
import Derived.Deep.DeepCutAuto
namespace Go.Proofs.Ytkgbbmjobjcepaa
open Go.RowKit
set_option linter.unusedVariables false
set_option linter.unusedSimpArgs false

def fm (m : Ms) : Value := .agg #[.int .i64 m.pk, .int .i64 m.bt, .int .i64 m.ca, .int .i64 m.md, .int .i64 m.pt]
/-- marks, how many packets had some, and an error; marks and an error -/
def TellH (w w' : World) (e : Ending) (x : Ms × Int × Int) : Prop := e = .returned (.tuple #[.agg #[.int .i64 x.1.pk, .int .i64 x.1.bt, .int .i64 x.1.ca, .int .i64 x.1.md, .int .i64 x.1.pt], .int .i64 x.2.1, .int .i64 x.2.2]) ∧ Below w.heap.size w w'
def TellN (w w' : World) (e : Ending) (x : Ms × Int) : Prop := e = .returned (.tuple #[.agg #[.int .i64 x.1.pk, .int .i64 x.1.bt, .int .i64 x.1.ca, .int .i64 x.1.md, .int .i64 x.1.pt], .int .i64 x.2]) ∧ Below w.heap.size w w'
theorem n0_hit {pk ace k : Int} (h0 : 0 ≤ k) (h1 : k ≤ (ace - pk) % 8) (p : 0 ≤ pk) (a0 : 0 ≤ ace) (a1 : ace ≤ 7) : (pk % 8 + k) % 8 = ace ↔ k = (ace - pk) % 8 := by omega

set_option maxRecDepth 100000 in
set_option maxHeartbeats 8000000 in
theorem rmsheard_any (pk bt ca md pt : Int) (ace ce packets bytes : Int) (w : World) (hce0 : 0 ≤ ce) (hce1 : ce < 4294967296) :
    Calls Try.prog 10 #[.agg #[.int .i64 pk, .int .i64 bt, .int .i64 ca, .int .i64 md, .int .i64 pt], .int .i64 ace, .int .u32 ce, .int .i64 packets, .int .i64 bytes] w fun e w' => TellH w w' e (heardR ⟨pk, bt, ca, md, pt⟩ ace ce packets bytes) := by
  unfold TellH
  obtain ⟨B, hB⟩ : ∃ B, w.heap.size = B := ⟨_, rfl⟩
  rw [hB]
  have e0 := (Bx.new w 23 [.int .i64 pk, .int .i64 bt, .int .i64 ca, .int .i64 md, .int .i64 pt]).alloc (.cells #[.int .i64 0, .int .i64 0, .int .i64 0, .int .i64 0, .int .i64 0] 23)
  have y0 := Bx.new (w.alloc (.cells #[.int .i64 pk, .int .i64 bt, .int .i64 ca, .int .i64 md, .int .i64 pt] 23)) 23 [.int .i64 0, .int .i64 0, .int .i64 0, .int .i64 0, .int .i64 0]
  rw [World.size_alloc] at y0
  rw [hB] at e0 y0
  have b0 : Below B w ((w.alloc (.cells #[.int .i64 pk, .int .i64 bt, .int .i64 ca, .int .i64 md, .int .i64 pt] 23)).alloc (.cells #[.int .i64 0, .int .i64 0, .int .i64 0, .int .i64 0, .int .i64 0] 23)) := by rw [← hB]; exact ((Below.refl _ _).alloc (Nat.le_refl _) _).alloc (by simp) _
  obtain ⟨x, hx⟩ : ∃ x, heardR ⟨pk, bt, ca, md, pt⟩ ace ce packets bytes = x := ⟨_, rfl⟩
  rw [hx]
  have HX := Lib.hid hx; clear hx
  go_enter Try.func10, Try.ntmps10
  go_wp2_with (refine ms_load rfl (.tmp 5) rfl rfl e0 rfl ?_)
  generalize (w.alloc (.cells #[.int .i64 pk, .int .i64 bt, .int .i64 ca, .int .i64 md, .int .i64 pt] 23)).alloc (.cells #[.int .i64 0, .int .i64 0, .int .i64 0, .int .i64 0, .int .i64 0] 23) = w1 at e0 y0 b0 ⊢
  refine (rmsmay_any pk bt ca md pt _).mono ?_
  rintro e w2 ⟨rfl, hb2⟩
  have e2 := e0.kept hb2; have y2 := y0.kept hb2; have b2 := b0.trans (hb2.mono (Nat.le_of_lt e0.lt))
  have hBs : B ≤ w2.heap.size := Nat.le_of_lt e2.lt
  clear e0 y0 b0 hb2
  cases hk : mmay ⟨pk, bt, ca, md, pt⟩ with
  | false =>
    have hx := HX.out
    rw [heard_no (fun h => by rw [hk] at h; exact absurd h.1 (by simp))] at hx
    subst hx
    clear HX hk
    go_wp2_with (refine ms_store rfl (.tmp 10) (.tmp 49) rfl rfl [.int .i64 0, .int .i64 0, .int .i64 0, .int .i64 0, .int .i64 0] rfl y2 rfl rfl rfl ?_)
    refine ms_end3 (by rfl) (by rfl) (by rfl) (by rfl) (ms_put y2 [.int .i64 0, .int .i64 0, .int .i64 0, .int .i64 0, .int .i64 0]) rfl rfl ?_
    exact ⟨rfl, b2.grown (ms_grown _ (B + 1) #[.int .i64 0, .int .i64 0, .int .i64 0, .int .i64 0, .int .i64 0]) hBs (fun k hk => by cases hk; omega)⟩
  | true =>
  by_cases c0 : ace < 0
  case pos =>
    have d0 : decide (ace < 0) = true := decide_eq_true c0
    have hx := HX.out
    rw [heard_no (fun h => by have := h.2.1; omega)] at hx
    subst hx
    clear HX hk
    go_wp2_with (refine ms_store rfl (.tmp 10) (.tmp 49) rfl rfl [.int .i64 0, .int .i64 0, .int .i64 0, .int .i64 0, .int .i64 0] rfl y2 rfl rfl rfl ?_)
    refine ms_end3 (by rfl) (by rfl) (by rfl) (by rfl) (ms_put y2 [.int .i64 0, .int .i64 0, .int .i64 0, .int .i64 0, .int .i64 0]) rfl rfl ?_
    exact ⟨rfl, b2.grown (ms_grown _ (B + 1) #[.int .i64 0, .int .i64 0, .int .i64 0, .int .i64 0, .int .i64 0]) hBs (fun k hk => by cases hk; omega)⟩
  case neg =>
  have d0 : decide (ace < 0) = false := decide_eq_false c0
  by_cases c1 : 7 < ace
  case pos =>
    have d1 : decide (7 < ace) = true := decide_eq_true c1
    have hx := HX.out
    rw [heard_no (fun h => by have := h.2.2.1; omega)] at hx
    subst hx
    clear HX hk
    go_wp2_with (refine ms_store rfl (.tmp 10) (.tmp 49) rfl rfl [.int .i64 0, .int .i64 0, .int .i64 0, .int .i64 0, .int .i64 0] rfl y2 rfl rfl rfl ?_)
    refine ms_end3 (by rfl) (by rfl) (by rfl) (by rfl) (ms_put y2 [.int .i64 0, .int .i64 0, .int .i64 0, .int .i64 0, .int .i64 0]) rfl rfl ?_
    exact ⟨rfl, b2.grown (ms_grown _ (B + 1) #[.int .i64 0, .int .i64 0, .int .i64 0, .int .i64 0, .int .i64 0]) hBs (fun k hk => by cases hk; omega)⟩
  case neg =>
  have d1 : decide (7 < ace) = false := decide_eq_false c1
  by_cases c2 : 16777216 ≤ ce
  case pos =>
    have d2 : decide (16777216 ≤ ce) = true := decide_eq_true c2
    have hx := HX.out
    rw [heard_no (fun h => by have := h.2.2.2.1; omega)] at hx
    subst hx
    clear HX hk
    go_wp2_with (refine ms_store rfl (.tmp 10) (.tmp 49) rfl rfl [.int .i64 0, .int .i64 0, .int .i64 0, .int .i64 0, .int .i64 0] rfl y2 rfl rfl rfl ?_)
    refine ms_end3 (by rfl) (by rfl) (by rfl) (by rfl) (ms_put y2 [.int .i64 0, .int .i64 0, .int .i64 0, .int .i64 0, .int .i64 0]) rfl rfl ?_
    exact ⟨rfl, b2.grown (ms_grown _ (B + 1) #[.int .i64 0, .int .i64 0, .int .i64 0, .int .i64 0, .int .i64 0]) hBs (fun k hk => by cases hk; omega)⟩
  case neg =>
  have d2 : decide (16777216 ≤ ce) = false := decide_eq_false c2
  by_cases c3 : packets < 0
  case pos =>
    have d3 : decide (packets < 0) = true := decide_eq_true c3
    have hx := HX.out
    rw [heard_no (fun h => by have := h.2.2.2.2.1; omega)] at hx
    subst hx
    clear HX hk
    go_wp2_with (refine ms_store rfl (.tmp 10) (.tmp 49) rfl rfl [.int .i64 0, .int .i64 0, .int .i64 0, .int .i64 0, .int .i64 0] rfl y2 rfl rfl rfl ?_)
    refine ms_end3 (by rfl) (by rfl) (by rfl) (by rfl) (ms_put y2 [.int .i64 0, .int .i64 0, .int .i64 0, .int .i64 0, .int .i64 0]) rfl rfl ?_
    exact ⟨rfl, b2.grown (ms_grown _ (B + 1) #[.int .i64 0, .int .i64 0, .int .i64 0, .int .i64 0, .int .i64 0]) hBs (fun k hk => by cases hk; omega)⟩
  case neg =>
  have d3 : decide (packets < 0) = false := decide_eq_false c3
  by_cases c4 : 1099511627776 < packets
  case pos =>
    have d4 : decide (1099511627776 < packets) = true := decide_eq_true c4
    have hx := HX.out
    rw [heard_no (fun h => by have := h.2.2.2.2.2.1; omega)] at hx
    subst hx
    clear HX hk
    go_wp2_with (refine ms_store rfl (.tmp 10) (.tmp 49) rfl rfl [.int .i64 0, .int .i64 0, .int .i64 0, .int .i64 0, .int .i64 0] rfl y2 rfl rfl rfl ?_)
    refine ms_end3 (by rfl) (by rfl) (by rfl) (by rfl) (ms_put y2 [.int .i64 0, .int .i64 0, .int .i64 0, .int .i64 0, .int .i64 0]) rfl rfl ?_
    exact ⟨rfl, b2.grown (ms_grown _ (B + 1) #[.int .i64 0, .int .i64 0, .int .i64 0, .int .i64 0, .int .i64 0]) hBs (fun k hk => by cases hk; omega)⟩
  case neg =>
  have d4 : decide (1099511627776 < packets) = false := decide_eq_false c4
  by_cases c5 : bytes < 0
  case pos =>
    have d5 : decide (bytes < 0) = true := decide_eq_true c5
    have hx := HX.out
    rw [heard_no (fun h => by have := h.2.2.2.2.2.2.1; omega)] at hx
    subst hx
    clear HX hk
    go_wp2_with (refine ms_store rfl (.tmp 10) (.tmp 49) rfl rfl [.int .i64 0, .int .i64 0, .int .i64 0, .int .i64 0, .int .i64 0] rfl y2 rfl rfl rfl ?_)
    refine ms_end3 (by rfl) (by rfl) (by rfl) (by rfl) (ms_put y2 [.int .i64 0, .int .i64 0, .int .i64 0, .int .i64 0, .int .i64 0]) rfl rfl ?_
    exact ⟨rfl, b2.grown (ms_grown _ (B + 1) #[.int .i64 0, .int .i64 0, .int .i64 0, .int .i64 0, .int .i64 0]) hBs (fun k hk => by cases hk; omega)⟩
  case neg =>
  have d5 : decide (bytes < 0) = false := decide_eq_false c5
  by_cases c6 : 1099511627776 < bytes
  case pos =>
    have d6 : decide (1099511627776 < bytes) = true := decide_eq_true c6
    have hx := HX.out
    rw [heard_no (fun h => by have := h.2.2.2.2.2.2.2; omega)] at hx
    subst hx
    clear HX hk
    go_wp2_with (refine ms_store rfl (.tmp 10) (.tmp 49) rfl rfl [.int .i64 0, .int .i64 0, .int .i64 0, .int .i64 0, .int .i64 0] rfl y2 rfl rfl rfl ?_)
    refine ms_end3 (by rfl) (by rfl) (by rfl) (by rfl) (ms_put y2 [.int .i64 0, .int .i64 0, .int .i64 0, .int .i64 0, .int .i64 0]) rfl rfl ?_
    exact ⟨rfl, b2.grown (ms_grown _ (B + 1) #[.int .i64 0, .int .i64 0, .int .i64 0, .int .i64 0, .int .i64 0]) hBs (fun k hk => by cases hk; omega)⟩
  case neg =>
  have d6 : decide (1099511627776 < bytes) = false := decide_eq_false c6
  have hv := (mmay_iff _).1 hk
  have hok : mmay ⟨pk, bt, ca, md, pt⟩ = true ∧ HeardOk ace ce packets bytes := ⟨hk, by omega, by omega, by omega, by omega, by omega, by omega, by omega⟩
  have p0 : 0 ≤ pk := hv.p0; have p1 : pk ≤ 1152921504606846976 := hv.p1; have q0 : 0 ≤ bt := hv.b0; have q1 : bt ≤ 1152921504606846976 := hv.b1; have r0 : 0 ≤ ca := hv.c0; have r1 : ca ≤ 1152921504606846976 := hv.c1; have s0 : 0 ≤ md := hv.m0; have s1 : md ≤ ca := hv.m1
  have HOK := Lib.hid hok
  clear hk hv hok
  obtain ⟨N0, hN0⟩ : ∃ N : Nat, n0R ⟨pk, bt, ca, md, pt⟩ ace = (N : Int) := ⟨(n0R ⟨pk, bt, ca, md, pt⟩ ace).toNat, by have := n0_bd ⟨pk, bt, ca, md, pt⟩ ace; omega⟩
  have hN7 : N0 ≤ 7 := by have := n0_bd ⟨pk, bt, ca, md, pt⟩ ace; omega
  have HN0 := Lib.hid hN0
  have x0 := e2.cell 0 rfl; have x1 := e2.cell 1 rfl; have x2 := e2.cell 2 rfl; have x3 := e2.cell 3 rfl; have x4 := e2.cell 4 rfl
  clear hN0
  go_wp2_with fail
  go_loop [14] (fun i => ∃ k : Nat, k ≤ N0 ∧ i = .int .i64 (k : Int)) (fun i => N0 - (intOf i).toNat)
  case atStart => exact ⟨0, Nat.zero_le _, rfl⟩
  case round =>
    obtain ⟨k, hkN, rfl⟩ := hrel
    have hit := n0_hit (pk := pk) (ace := ace) (k := (k : Int)) (by omega) (by have := HN0.out; unfold n0R at this; dsimp only at this; omega) p0 (by omega) (by omega)
    have hn0e : (ace - pk) % 8 = (N0 : Int) := HN0.out
    rw [hn0e] at hit
    have a0 : 0 ≤ pk % 8 := by omega
    have a1 : pk % 8 < 8 := by omega
    obtain ⟨z, hz⟩ : ∃ z, pk % 8 = z := ⟨_, rfl⟩
    have ht1 : pk.tmod 8 = z := by rw [← hz]; exact Int.tmod_eq_emod_of_nonneg p0
    rw [hz] at hit a0 a1
    have HZ := Lib.hid hz
    clear hz hn0e
    by_cases hk : k = N0
    case neg =>
      have hne : ((z + (k : Int)) % 8 != ace) = true := by
        have : ¬ ((z + (k : Int)) % 8 = ace) := fun h => hk (by have := hit.1 h; omega)
        simpa using this
      have hne2 : ((z + (k : Int)) % 8 == ace) = false := by simpa using hne
      have HIT := Lib.hid hit
      clear hit
      go_wp2_with fail
      go_round
      case rel => exact ⟨k + 1, by omega, by go_num⟩
      case measure => simp [intOf]; omega
    case pos =>
    obtain rfl : k = N0 := hk
    have heq : ((z + (k : Int)) % 8 != ace) = false := by
      have : (z + (k : Int)) % 8 = ace := hit.2 rfl
      simp [this]
    have heq2 : ((z + (k : Int)) % 8 == ace) = true := by simpa using heq
    clear hit
    obtain ⟨y, hy⟩ : ∃ y, bt % 16777216 = y := ⟨_, rfl⟩
    have hy0 : 0 ≤ y := by omega
    have hy1 : y < 16777216 := by omega
    have ht2 : bt.tmod 16777216 = y := by rw [← hy]; exact Int.tmod_eq_emod_of_nonneg q0
    obtain ⟨bb, hbb⟩ : ∃ b, bR ⟨pk, bt, ca, md, pt⟩ ce = b := ⟨_, rfl⟩
    have hbb0 : 0 ≤ bb ∧ bb < 16777216 := by rw [← hbb]; exact b_bd _ _
    obtain ⟨bb0, bb1⟩ := hbb0
    have hbe : bb = ce - y ∨ bb = ce - y + 16777216 := by rw [← hbb, ← hy]; unfold bR; dsimp only; omega
    obtain ⟨nn, hnn⟩ : ∃ n, nR ⟨pk, bt, ca, md, pt⟩ ace ce packets = n := ⟨_, rfl⟩
    have hne : nn = if 8 ≤ packets ∧ 0 < bb then (k : Int) + (packets - (k : Int)) / 8 * 8 else (k : Int) := by rw [← hnn]; unfold nR; rw [hbb, HN0.out]
    have HY := Lib.hid hy; have HBB := Lib.hid hbb; have HNN := Lib.hid hnn
    clear hy hbb hnn
    obtain ⟨c1, hc1⟩ : ∃ c, ce - y = c := ⟨_, rfl⟩
    rw [hc1] at hbe
    have HNE := Lib.hid hne; clear hne
    by_cases cb : c1 < 0
    case pos =>
      have dcb : decide (c1 < 0) = true := decide_eq_true cb
      have hb2 : c1 + 16777216 = bb := by omega
      clear hbe
      by_cases k8 : 8 ≤ packets
      case neg =>
        have d8 : decide (8 ≤ packets) = false := decide_eq_false k8
        obtain rfl : (k : Int) = nn := by rw [HNE.out, if_neg (fun h => k8 h.1)]
        by_cases f1 : pk + (k : Int) ≤ 1152921504606846976
        case neg =>
          have tf1 : t60 (pk + (k : Int)) = false := t60_no (fun h => f1 h.2)
          try (exfalso; omega)
          all_goals (
            have hx := HX.out
            rw [heard_over HOK.out (fun h => by unfold Fits at h; rw [HNN.out, HBB.out] at h; exact f1 (h.1))] at hx
            subst hx
            clear HX
            go_upto_region 13 with (go_at_call 20; refine (rmsin_any _ _).mono ?_; rintro e wx ⟨rfl, rfl⟩)
            go_wp2_with (refine ms_store rfl (.tmp 10) (.tmp 105) rfl rfl [.int .i64 0, .int .i64 0, .int .i64 0, .int .i64 0, .int .i64 0] rfl y2 rfl rfl rfl ?_)
            refine ms_end3 (by rfl) (by rfl) (by rfl) (by rfl) (ms_put y2 [.int .i64 0, .int .i64 0, .int .i64 0, .int .i64 0, .int .i64 0]) rfl rfl ?_
            exact ⟨rfl, b2.grown (ms_grown _ (B + 1) #[.int .i64 0, .int .i64 0, .int .i64 0, .int .i64 0, .int .i64 0]) hBs (fun k hk => by cases hk; omega)⟩)
        case pos =>
        have tf1 : t60 (pk + (k : Int)) = true := (t60_iff _).2 ⟨by omega, f1⟩
        by_cases f2 : bt + bb ≤ 1152921504606846976
        case neg =>
          have tf2 : t60 (bt + bb) = false := t60_no (fun h => f2 h.2)
          try (exfalso; omega)
          all_goals (
            have hx := HX.out
            rw [heard_over HOK.out (fun h => by unfold Fits at h; rw [HNN.out, HBB.out] at h; exact f2 (h.2.1))] at hx
            subst hx
            clear HX
            go_upto_region 13 with (go_at_call 20; refine (rmsin_any _ _).mono ?_; rintro e wx ⟨rfl, rfl⟩)
            go_wp2_with (refine ms_store rfl (.tmp 10) (.tmp 105) rfl rfl [.int .i64 0, .int .i64 0, .int .i64 0, .int .i64 0, .int .i64 0] rfl y2 rfl rfl rfl ?_)
            refine ms_end3 (by rfl) (by rfl) (by rfl) (by rfl) (ms_put y2 [.int .i64 0, .int .i64 0, .int .i64 0, .int .i64 0, .int .i64 0]) rfl rfl ?_
            exact ⟨rfl, b2.grown (ms_grown _ (B + 1) #[.int .i64 0, .int .i64 0, .int .i64 0, .int .i64 0, .int .i64 0]) hBs (fun k hk => by cases hk; omega)⟩)
        case pos =>
        have tf2 : t60 (bt + bb) = true := (t60_iff _).2 ⟨by omega, f2⟩
        by_cases f3 : ca + bytes ≤ 1152921504606846976
        case neg =>
          have tf3 : t60 (ca + bytes) = false := t60_no (fun h => f3 h.2)
          try (exfalso; omega)
          all_goals (
            have hx := HX.out
            rw [heard_over HOK.out (fun h => by unfold Fits at h; rw [HNN.out, HBB.out] at h; exact f3 (h.2.2))] at hx
            subst hx
            clear HX
            go_upto_region 13 with (go_at_call 20; refine (rmsin_any _ _).mono ?_; rintro e wx ⟨rfl, rfl⟩)
            go_wp2_with (refine ms_store rfl (.tmp 10) (.tmp 105) rfl rfl [.int .i64 0, .int .i64 0, .int .i64 0, .int .i64 0, .int .i64 0] rfl y2 rfl rfl rfl ?_)
            refine ms_end3 (by rfl) (by rfl) (by rfl) (by rfl) (ms_put y2 [.int .i64 0, .int .i64 0, .int .i64 0, .int .i64 0, .int .i64 0]) rfl rfl ?_
            exact ⟨rfl, b2.grown (ms_grown _ (B + 1) #[.int .i64 0, .int .i64 0, .int .i64 0, .int .i64 0, .int .i64 0]) hBs (fun k hk => by cases hk; omega)⟩)
        case pos =>
        have tf3 : t60 (ca + bytes) = true := (t60_iff _).2 ⟨by omega, f3⟩
        by_cases cm : bytes < bb
        case pos =>
          have dcm : decide (bytes < bb) = true := decide_eq_true cm
          try (exfalso; omega)
          all_goals (
            have hx := HX.out
            rw [heard_ok HOK.out (by unfold Fits; rw [HNN.out, HBB.out]; exact ⟨f1, f2, f3⟩), HNN.out, HBB.out] at hx
            unfold minM at hx
            rw [if_pos cm] at hx
            subst hx
            clear HX
            go_upto_region 17 with (go_at_call 20; refine (rmsin_any _ _).mono ?_; rintro e wx ⟨rfl, rfl⟩)
            go_wp2_with (refine ms_store rfl (.tmp 10) (.tmp 129) rfl rfl [.int .i64 (pk + (k : Int)), .int .i64 (bt + bb), .int .i64 (ca + bytes), .int .i64 (md + bytes), .int .i64 pt] rfl y2 rfl rfl rfl ?_)
            refine ms_end3 (by rfl) (by rfl) (by rfl) (by rfl) (ms_put y2 [.int .i64 (pk + (k : Int)), .int .i64 (bt + bb), .int .i64 (ca + bytes), .int .i64 (md + bytes), .int .i64 pt]) rfl rfl ?_
            exact ⟨rfl, b2.grown (ms_grown _ (B + 1) #[.int .i64 (pk + (k : Int)), .int .i64 (bt + bb), .int .i64 (ca + bytes), .int .i64 (md + bytes), .int .i64 pt]) hBs (fun k hk => by cases hk; omega)⟩)
        case neg =>
        have dcm : decide (bytes < bb) = false := decide_eq_false cm
        try (exfalso; omega)
        all_goals (
          have hx := HX.out
          rw [heard_ok HOK.out (by unfold Fits; rw [HNN.out, HBB.out]; exact ⟨f1, f2, f3⟩), HNN.out, HBB.out] at hx
          unfold minM at hx
          rw [if_neg cm] at hx
          subst hx
          clear HX
          go_upto_region 17 with (go_at_call 20; refine (rmsin_any _ _).mono ?_; rintro e wx ⟨rfl, rfl⟩)
          go_wp2_with (refine ms_store rfl (.tmp 10) (.tmp 129) rfl rfl [.int .i64 (pk + (k : Int)), .int .i64 (bt + bb), .int .i64 (ca + bytes), .int .i64 (md + bb), .int .i64 pt] rfl y2 rfl rfl rfl ?_)
          refine ms_end3 (by rfl) (by rfl) (by rfl) (by rfl) (ms_put y2 [.int .i64 (pk + (k : Int)), .int .i64 (bt + bb), .int .i64 (ca + bytes), .int .i64 (md + bb), .int .i64 pt]) rfl rfl ?_
          exact ⟨rfl, b2.grown (ms_grown _ (B + 1) #[.int .i64 (pk + (k : Int)), .int .i64 (bt + bb), .int .i64 (ca + bytes), .int .i64 (md + bb), .int .i64 pt]) hBs (fun k hk => by cases hk; omega)⟩)
      case pos =>
      have d8 : decide (8 ≤ packets) = true := decide_eq_true k8
      by_cases kb : 0 < bb
      case neg =>
        have db : decide (0 < bb) = false := decide_eq_false kb
        obtain rfl : (k : Int) = nn := by rw [HNE.out, if_neg (fun h => kb h.2)]
        by_cases f1 : pk + (k : Int) ≤ 1152921504606846976
        case neg =>
          have tf1 : t60 (pk + (k : Int)) = false := t60_no (fun h => f1 h.2)
          try (exfalso; omega)
          all_goals (
            have hx := HX.out
            rw [heard_over HOK.out (fun h => by unfold Fits at h; rw [HNN.out, HBB.out] at h; exact f1 (h.1))] at hx
            subst hx
            clear HX
            go_upto_region 13 with (go_at_call 20; refine (rmsin_any _ _).mono ?_; rintro e wx ⟨rfl, rfl⟩)
            go_wp2_with (refine ms_store rfl (.tmp 10) (.tmp 105) rfl rfl [.int .i64 0, .int .i64 0, .int .i64 0, .int .i64 0, .int .i64 0] rfl y2 rfl rfl rfl ?_)
            refine ms_end3 (by rfl) (by rfl) (by rfl) (by rfl) (ms_put y2 [.int .i64 0, .int .i64 0, .int .i64 0, .int .i64 0, .int .i64 0]) rfl rfl ?_
            exact ⟨rfl, b2.grown (ms_grown _ (B + 1) #[.int .i64 0, .int .i64 0, .int .i64 0, .int .i64 0, .int .i64 0]) hBs (fun k hk => by cases hk; omega)⟩)
        case pos =>
        have tf1 : t60 (pk + (k : Int)) = true := (t60_iff _).2 ⟨by omega, f1⟩
        by_cases f2 : bt + bb ≤ 1152921504606846976
        case neg =>
          have tf2 : t60 (bt + bb) = false := t60_no (fun h => f2 h.2)
          try (exfalso; omega)
          all_goals (
            have hx := HX.out
            rw [heard_over HOK.out (fun h => by unfold Fits at h; rw [HNN.out, HBB.out] at h; exact f2 (h.2.1))] at hx
            subst hx
            clear HX
            go_upto_region 13 with (go_at_call 20; refine (rmsin_any _ _).mono ?_; rintro e wx ⟨rfl, rfl⟩)
            go_wp2_with (refine ms_store rfl (.tmp 10) (.tmp 105) rfl rfl [.int .i64 0, .int .i64 0, .int .i64 0, .int .i64 0, .int .i64 0] rfl y2 rfl rfl rfl ?_)
            refine ms_end3 (by rfl) (by rfl) (by rfl) (by rfl) (ms_put y2 [.int .i64 0, .int .i64 0, .int .i64 0, .int .i64 0, .int .i64 0]) rfl rfl ?_
            exact ⟨rfl, b2.grown (ms_grown _ (B + 1) #[.int .i64 0, .int .i64 0, .int .i64 0, .int .i64 0, .int .i64 0]) hBs (fun k hk => by cases hk; omega)⟩)
        case pos =>
        have tf2 : t60 (bt + bb) = true := (t60_iff _).2 ⟨by omega, f2⟩
        by_cases f3 : ca + bytes ≤ 1152921504606846976
        case neg =>
          have tf3 : t60 (ca + bytes) = false := t60_no (fun h => f3 h.2)
          try (exfalso; omega)
          all_goals (
            have hx := HX.out
            rw [heard_over HOK.out (fun h => by unfold Fits at h; rw [HNN.out, HBB.out] at h; exact f3 (h.2.2))] at hx
            subst hx
            clear HX
            go_upto_region 13 with (go_at_call 20; refine (rmsin_any _ _).mono ?_; rintro e wx ⟨rfl, rfl⟩)
            go_wp2_with (refine ms_store rfl (.tmp 10) (.tmp 105) rfl rfl [.int .i64 0, .int .i64 0, .int .i64 0, .int .i64 0, .int .i64 0] rfl y2 rfl rfl rfl ?_)
            refine ms_end3 (by rfl) (by rfl) (by rfl) (by rfl) (ms_put y2 [.int .i64 0, .int .i64 0, .int .i64 0, .int .i64 0, .int .i64 0]) rfl rfl ?_
            exact ⟨rfl, b2.grown (ms_grown _ (B + 1) #[.int .i64 0, .int .i64 0, .int .i64 0, .int .i64 0, .int .i64 0]) hBs (fun k hk => by cases hk; omega)⟩)
        case pos =>
        have tf3 : t60 (ca + bytes) = true := (t60_iff _).2 ⟨by omega, f3⟩
        by_cases cm : bytes < bb
        case pos =>
          have dcm : decide (bytes < bb) = true := decide_eq_true cm
          try (exfalso; omega)
          all_goals (
            have hx := HX.out
            rw [heard_ok HOK.out (by unfold Fits; rw [HNN.out, HBB.out]; exact ⟨f1, f2, f3⟩), HNN.out, HBB.out] at hx
            unfold minM at hx
            rw [if_pos cm] at hx
            subst hx
            clear HX
            go_upto_region 17 with (go_at_call 20; refine (rmsin_any _ _).mono ?_; rintro e wx ⟨rfl, rfl⟩)
            go_wp2_with (refine ms_store rfl (.tmp 10) (.tmp 129) rfl rfl [.int .i64 (pk + (k : Int)), .int .i64 (bt + bb), .int .i64 (ca + bytes), .int .i64 (md + bytes), .int .i64 pt] rfl y2 rfl rfl rfl ?_)
            refine ms_end3 (by rfl) (by rfl) (by rfl) (by rfl) (ms_put y2 [.int .i64 (pk + (k : Int)), .int .i64 (bt + bb), .int .i64 (ca + bytes), .int .i64 (md + bytes), .int .i64 pt]) rfl rfl ?_
            exact ⟨rfl, b2.grown (ms_grown _ (B + 1) #[.int .i64 (pk + (k : Int)), .int .i64 (bt + bb), .int .i64 (ca + bytes), .int .i64 (md + bytes), .int .i64 pt]) hBs (fun k hk => by cases hk; omega)⟩)
        case neg =>
        have dcm : decide (bytes < bb) = false := decide_eq_false cm
        try (exfalso; omega)
        all_goals (
          have hx := HX.out
          rw [heard_ok HOK.out (by unfold Fits; rw [HNN.out, HBB.out]; exact ⟨f1, f2, f3⟩), HNN.out, HBB.out] at hx
          unfold minM at hx
          rw [if_neg cm] at hx
          subst hx
          clear HX
          go_upto_region 17 with (go_at_call 20; refine (rmsin_any _ _).mono ?_; rintro e wx ⟨rfl, rfl⟩)
          go_wp2_with (refine ms_store rfl (.tmp 10) (.tmp 129) rfl rfl [.int .i64 (pk + (k : Int)), .int .i64 (bt + bb), .int .i64 (ca + bytes), .int .i64 (md + bb), .int .i64 pt] rfl y2 rfl rfl rfl ?_)
          refine ms_end3 (by rfl) (by rfl) (by rfl) (by rfl) (ms_put y2 [.int .i64 (pk + (k : Int)), .int .i64 (bt + bb), .int .i64 (ca + bytes), .int .i64 (md + bb), .int .i64 pt]) rfl rfl ?_
          exact ⟨rfl, b2.grown (ms_grown _ (B + 1) #[.int .i64 (pk + (k : Int)), .int .i64 (bt + bb), .int .i64 (ca + bytes), .int .i64 (md + bb), .int .i64 pt]) hBs (fun k hk => by cases hk; omega)⟩)
      case pos =>
      have db : decide (0 < bb) = true := decide_eq_true kb
      obtain ⟨d1, hd1⟩ : ∃ d, packets - (k : Int) = d := ⟨_, rfl⟩
      have hd10 : 0 ≤ d1 := by omega
      have hd11 : d1 ≤ 1099511627776 := by omega
      obtain ⟨d2, hd2⟩ : ∃ d, d1 / 8 = d := ⟨_, rfl⟩
      have hd20 : 0 ≤ d2 := by omega
      have hd21 : d2 * 8 ≤ 1099511627776 := by omega
      have hd3 : d1.tdiv 8 = d2 := by rw [← hd2]; exact Int.tdiv_eq_ediv_of_nonneg hd10
      obtain ⟨d4, hd4⟩ : ∃ d, d2 * 8 = d := ⟨_, rfl⟩
      have hnn2 : (k : Int) + d4 = nn := by rw [HNE.out, if_pos ⟨k8, kb⟩, hd1, hd2, hd4]
      have hnn0 : 0 ≤ nn := by omega
      have hnn1 : nn ≤ 1099511627776 + 7 := by omega

      by_cases f1 : pk + nn ≤ 1152921504606846976
      case neg =>
        have tf1 : t60 (pk + nn) = false := t60_no (fun h => f1 h.2)
        try (exfalso; omega)
        all_goals (
          have hx := HX.out
          rw [heard_over HOK.out (fun h => by unfold Fits at h; rw [HNN.out, HBB.out] at h; exact f1 (h.1))] at hx
          subst hx
          clear HX
          go_upto_region 13 with (go_at_call 20; refine (rmsin_any _ _).mono ?_; rintro e wx ⟨rfl, rfl⟩)
          go_wp2_with (refine ms_store rfl (.tmp 10) (.tmp 105) rfl rfl [.int .i64 0, .int .i64 0, .int .i64 0, .int .i64 0, .int .i64 0] rfl y2 rfl rfl rfl ?_)
          refine ms_end3 (by rfl) (by rfl) (by rfl) (by rfl) (ms_put y2 [.int .i64 0, .int .i64 0, .int .i64 0, .int .i64 0, .int .i64 0]) rfl rfl ?_
          exact ⟨rfl, b2.grown (ms_grown _ (B + 1) #[.int .i64 0, .int .i64 0, .int .i64 0, .int .i64 0, .int .i64 0]) hBs (fun k hk => by cases hk; omega)⟩)
      case pos =>
      have tf1 : t60 (pk + nn) = true := (t60_iff _).2 ⟨by omega, f1⟩
      by_cases f2 : bt + bb ≤ 1152921504606846976
      case neg =>
        have tf2 : t60 (bt + bb) = false := t60_no (fun h => f2 h.2)
        try (exfalso; omega)
        all_goals (
          have hx := HX.out
          rw [heard_over HOK.out (fun h => by unfold Fits at h; rw [HNN.out, HBB.out] at h; exact f2 (h.2.1))] at hx
          subst hx
          clear HX
          go_upto_region 13 with (go_at_call 20; refine (rmsin_any _ _).mono ?_; rintro e wx ⟨rfl, rfl⟩)
          go_wp2_with (refine ms_store rfl (.tmp 10) (.tmp 105) rfl rfl [.int .i64 0, .int .i64 0, .int .i64 0, .int .i64 0, .int .i64 0] rfl y2 rfl rfl rfl ?_)
          refine ms_end3 (by rfl) (by rfl) (by rfl) (by rfl) (ms_put y2 [.int .i64 0, .int .i64 0, .int .i64 0, .int .i64 0, .int .i64 0]) rfl rfl ?_
          exact ⟨rfl, b2.grown (ms_grown _ (B + 1) #[.int .i64 0, .int .i64 0, .int .i64 0, .int .i64 0, .int .i64 0]) hBs (fun k hk => by cases hk; omega)⟩)
      case pos =>
      have tf2 : t60 (bt + bb) = true := (t60_iff _).2 ⟨by omega, f2⟩
      by_cases f3 : ca + bytes ≤ 1152921504606846976
      case neg =>
        have tf3 : t60 (ca + bytes) = false := t60_no (fun h => f3 h.2)
        try (exfalso; omega)
        all_goals (
          have hx := HX.out
          rw [heard_over HOK.out (fun h => by unfold Fits at h; rw [HNN.out, HBB.out] at h; exact f3 (h.2.2))] at hx
          subst hx
          clear HX
          go_upto_region 13 with (go_at_call 20; refine (rmsin_any _ _).mono ?_; rintro e wx ⟨rfl, rfl⟩)
          go_wp2_with (refine ms_store rfl (.tmp 10) (.tmp 105) rfl rfl [.int .i64 0, .int .i64 0, .int .i64 0, .int .i64 0, .int .i64 0] rfl y2 rfl rfl rfl ?_)
          refine ms_end3 (by rfl) (by rfl) (by rfl) (by rfl) (ms_put y2 [.int .i64 0, .int .i64 0, .int .i64 0, .int .i64 0, .int .i64 0]) rfl rfl ?_
          exact ⟨rfl, b2.grown (ms_grown _ (B + 1) #[.int .i64 0, .int .i64 0, .int .i64 0, .int .i64 0, .int .i64 0]) hBs (fun k hk => by cases hk; omega)⟩)
      case pos =>
      have tf3 : t60 (ca + bytes) = true := (t60_iff _).2 ⟨by omega, f3⟩
      by_cases cm : bytes < bb
      case pos =>
        have dcm : decide (bytes < bb) = true := decide_eq_true cm
        try (exfalso; omega)
        all_goals (
          have hx := HX.out
          rw [heard_ok HOK.out (by unfold Fits; rw [HNN.out, HBB.out]; exact ⟨f1, f2, f3⟩), HNN.out, HBB.out] at hx
          unfold minM at hx
          rw [if_pos cm] at hx
          subst hx
          clear HX
          go_upto_region 17 with (go_at_call 20; refine (rmsin_any _ _).mono ?_; rintro e wx ⟨rfl, rfl⟩)
          go_wp2_with (refine ms_store rfl (.tmp 10) (.tmp 129) rfl rfl [.int .i64 (pk + nn), .int .i64 (bt + bb), .int .i64 (ca + bytes), .int .i64 (md + bytes), .int .i64 pt] rfl y2 rfl rfl rfl ?_)
          refine ms_end3 (by rfl) (by rfl) (by rfl) (by rfl) (ms_put y2 [.int .i64 (pk + nn), .int .i64 (bt + bb), .int .i64 (ca + bytes), .int .i64 (md + bytes), .int .i64 pt]) rfl rfl ?_
          exact ⟨rfl, b2.grown (ms_grown _ (B + 1) #[.int .i64 (pk + nn), .int .i64 (bt + bb), .int .i64 (ca + bytes), .int .i64 (md + bytes), .int .i64 pt]) hBs (fun k hk => by cases hk; omega)⟩)
      case neg =>
      have dcm : decide (bytes < bb) = false := decide_eq_false cm
      try (exfalso; omega)
      all_goals (
        have hx := HX.out
        rw [heard_ok HOK.out (by unfold Fits; rw [HNN.out, HBB.out]; exact ⟨f1, f2, f3⟩), HNN.out, HBB.out] at hx
        unfold minM at hx
        rw [if_neg cm] at hx
        subst hx
        clear HX
        go_upto_region 17 with (go_at_call 20; refine (rmsin_any _ _).mono ?_; rintro e wx ⟨rfl, rfl⟩)
        go_wp2_with (refine ms_store rfl (.tmp 10) (.tmp 129) rfl rfl [.int .i64 (pk + nn), .int .i64 (bt + bb), .int .i64 (ca + bytes), .int .i64 (md + bb), .int .i64 pt] rfl y2 rfl rfl rfl ?_)
        refine ms_end3 (by rfl) (by rfl) (by rfl) (by rfl) (ms_put y2 [.int .i64 (pk + nn), .int .i64 (bt + bb), .int .i64 (ca + bytes), .int .i64 (md + bb), .int .i64 pt]) rfl rfl ?_
        exact ⟨rfl, b2.grown (ms_grown _ (B + 1) #[.int .i64 (pk + nn), .int .i64 (bt + bb), .int .i64 (ca + bytes), .int .i64 (md + bb), .int .i64 pt]) hBs (fun k hk => by cases hk; omega)⟩)
    case neg =>
      have dcb : decide (c1 < 0) = false := decide_eq_false cb
      obtain rfl : c1 = bb := by omega
      clear hbe
      by_cases k8 : 8 ≤ packets
      case neg =>
        have d8 : decide (8 ≤ packets) = false := decide_eq_false k8
        obtain rfl : (k : Int) = nn := by rw [HNE.out, if_neg (fun h => k8 h.1)]
        by_cases f1 : pk + (k : Int) ≤ 1152921504606846976
        case neg =>
          have tf1 : t60 (pk + (k : Int)) = false := t60_no (fun h => f1 h.2)
          try (exfalso; omega)
          all_goals (
            have hx := HX.out
            rw [heard_over HOK.out (fun h => by unfold Fits at h; rw [HNN.out, HBB.out] at h; exact f1 (h.1))] at hx
            subst hx
            clear HX
            go_upto_region 13 with (go_at_call 20; refine (rmsin_any _ _).mono ?_; rintro e wx ⟨rfl, rfl⟩)
            go_wp2_with (refine ms_store rfl (.tmp 10) (.tmp 105) rfl rfl [.int .i64 0, .int .i64 0, .int .i64 0, .int .i64 0, .int .i64 0] rfl y2 rfl rfl rfl ?_)
            refine ms_end3 (by rfl) (by rfl) (by rfl) (by rfl) (ms_put y2 [.int .i64 0, .int .i64 0, .int .i64 0, .int .i64 0, .int .i64 0]) rfl rfl ?_
            exact ⟨rfl, b2.grown (ms_grown _ (B + 1) #[.int .i64 0, .int .i64 0, .int .i64 0, .int .i64 0, .int .i64 0]) hBs (fun k hk => by cases hk; omega)⟩)
        case pos =>
        have tf1 : t60 (pk + (k : Int)) = true := (t60_iff _).2 ⟨by omega, f1⟩
        by_cases f2 : bt + c1 ≤ 1152921504606846976
        case neg =>
          have tf2 : t60 (bt + c1) = false := t60_no (fun h => f2 h.2)
          try (exfalso; omega)
          all_goals (
            have hx := HX.out
            rw [heard_over HOK.out (fun h => by unfold Fits at h; rw [HNN.out, HBB.out] at h; exact f2 (h.2.1))] at hx
            subst hx
            clear HX
            go_upto_region 13 with (go_at_call 20; refine (rmsin_any _ _).mono ?_; rintro e wx ⟨rfl, rfl⟩)
            go_wp2_with (refine ms_store rfl (.tmp 10) (.tmp 105) rfl rfl [.int .i64 0, .int .i64 0, .int .i64 0, .int .i64 0, .int .i64 0] rfl y2 rfl rfl rfl ?_)
            refine ms_end3 (by rfl) (by rfl) (by rfl) (by rfl) (ms_put y2 [.int .i64 0, .int .i64 0, .int .i64 0, .int .i64 0, .int .i64 0]) rfl rfl ?_
            exact ⟨rfl, b2.grown (ms_grown _ (B + 1) #[.int .i64 0, .int .i64 0, .int .i64 0, .int .i64 0, .int .i64 0]) hBs (fun k hk => by cases hk; omega)⟩)
        case pos =>
        have tf2 : t60 (bt + c1) = true := (t60_iff _).2 ⟨by omega, f2⟩
        by_cases f3 : ca + bytes ≤ 1152921504606846976
        case neg =>
          have tf3 : t60 (ca + bytes) = false := t60_no (fun h => f3 h.2)
          try (exfalso; omega)
          all_goals (
            have hx := HX.out
            rw [heard_over HOK.out (fun h => by unfold Fits at h; rw [HNN.out, HBB.out] at h; exact f3 (h.2.2))] at hx
            subst hx
            clear HX
            go_upto_region 13 with (go_at_call 20; refine (rmsin_any _ _).mono ?_; rintro e wx ⟨rfl, rfl⟩)
            go_wp2_with (refine ms_store rfl (.tmp 10) (.tmp 105) rfl rfl [.int .i64 0, .int .i64 0, .int .i64 0, .int .i64 0, .int .i64 0] rfl y2 rfl rfl rfl ?_)
            refine ms_end3 (by rfl) (by rfl) (by rfl) (by rfl) (ms_put y2 [.int .i64 0, .int .i64 0, .int .i64 0, .int .i64 0, .int .i64 0]) rfl rfl ?_
            exact ⟨rfl, b2.grown (ms_grown _ (B + 1) #[.int .i64 0, .int .i64 0, .int .i64 0, .int .i64 0, .int .i64 0]) hBs (fun k hk => by cases hk; omega)⟩)
        case pos =>
        have tf3 : t60 (ca + bytes) = true := (t60_iff _).2 ⟨by omega, f3⟩
        by_cases cm : bytes < c1
        case pos =>
          have dcm : decide (bytes < c1) = true := decide_eq_true cm
          try (exfalso; omega)
          all_goals (
            have hx := HX.out
            rw [heard_ok HOK.out (by unfold Fits; rw [HNN.out, HBB.out]; exact ⟨f1, f2, f3⟩), HNN.out, HBB.out] at hx
            unfold minM at hx
            rw [if_pos cm] at hx
            subst hx
            clear HX
            go_upto_region 17 with (go_at_call 20; refine (rmsin_any _ _).mono ?_; rintro e wx ⟨rfl, rfl⟩)
            go_wp2_with (refine ms_store rfl (.tmp 10) (.tmp 129) rfl rfl [.int .i64 (pk + (k : Int)), .int .i64 (bt + c1), .int .i64 (ca + bytes), .int .i64 (md + bytes), .int .i64 pt] rfl y2 rfl rfl rfl ?_)
            refine ms_end3 (by rfl) (by rfl) (by rfl) (by rfl) (ms_put y2 [.int .i64 (pk + (k : Int)), .int .i64 (bt + c1), .int .i64 (ca + bytes), .int .i64 (md + bytes), .int .i64 pt]) rfl rfl ?_
            exact ⟨rfl, b2.grown (ms_grown _ (B + 1) #[.int .i64 (pk + (k : Int)), .int .i64 (bt + c1), .int .i64 (ca + bytes), .int .i64 (md + bytes), .int .i64 pt]) hBs (fun k hk => by cases hk; omega)⟩)
        case neg =>
        have dcm : decide (bytes < c1) = false := decide_eq_false cm
        try (exfalso; omega)
        all_goals (
          have hx := HX.out
          rw [heard_ok HOK.out (by unfold Fits; rw [HNN.out, HBB.out]; exact ⟨f1, f2, f3⟩), HNN.out, HBB.out] at hx
          unfold minM at hx
          rw [if_neg cm] at hx
          subst hx
          clear HX
          go_upto_region 17 with (go_at_call 20; refine (rmsin_any _ _).mono ?_; rintro e wx ⟨rfl, rfl⟩)
          go_wp2_with (refine ms_store rfl (.tmp 10) (.tmp 129) rfl rfl [.int .i64 (pk + (k : Int)), .int .i64 (bt + c1), .int .i64 (ca + bytes), .int .i64 (md + c1), .int .i64 pt] rfl y2 rfl rfl rfl ?_)
          refine ms_end3 (by rfl) (by rfl) (by rfl) (by rfl) (ms_put y2 [.int .i64 (pk + (k : Int)), .int .i64 (bt + c1), .int .i64 (ca + bytes), .int .i64 (md + c1), .int .i64 pt]) rfl rfl ?_
          exact ⟨rfl, b2.grown (ms_grown _ (B + 1) #[.int .i64 (pk + (k : Int)), .int .i64 (bt + c1), .int .i64 (ca + bytes), .int .i64 (md + c1), .int .i64 pt]) hBs (fun k hk => by cases hk; omega)⟩)
      case pos =>
      have d8 : decide (8 ≤ packets) = true := decide_eq_true k8
      by_cases kb : 0 < c1
      case neg =>
        have db : decide (0 < c1) = false := decide_eq_false kb
        obtain rfl : (k : Int) = nn := by rw [HNE.out, if_neg (fun h => kb h.2)]
        by_cases f1 : pk + (k : Int) ≤ 1152921504606846976
        case neg =>
          have tf1 : t60 (pk + (k : Int)) = false := t60_no (fun h => f1 h.2)
          try (exfalso; omega)
          all_goals (
            have hx := HX.out
            rw [heard_over HOK.out (fun h => by unfold Fits at h; rw [HNN.out, HBB.out] at h; exact f1 (h.1))] at hx
            subst hx
            clear HX
            go_upto_region 13 with (go_at_call 20; refine (rmsin_any _ _).mono ?_; rintro e wx ⟨rfl, rfl⟩)
            go_wp2_with (refine ms_store rfl (.tmp 10) (.tmp 105) rfl rfl [.int .i64 0, .int .i64 0, .int .i64 0, .int .i64 0, .int .i64 0] rfl y2 rfl rfl rfl ?_)
            refine ms_end3 (by rfl) (by rfl) (by rfl) (by rfl) (ms_put y2 [.int .i64 0, .int .i64 0, .int .i64 0, .int .i64 0, .int .i64 0]) rfl rfl ?_
            exact ⟨rfl, b2.grown (ms_grown _ (B + 1) #[.int .i64 0, .int .i64 0, .int .i64 0, .int .i64 0, .int .i64 0]) hBs (fun k hk => by cases hk; omega)⟩)
        case pos =>
        have tf1 : t60 (pk + (k : Int)) = true := (t60_iff _).2 ⟨by omega, f1⟩
        by_cases f2 : bt + c1 ≤ 1152921504606846976
        case neg =>
          have tf2 : t60 (bt + c1) = false := t60_no (fun h => f2 h.2)
          try (exfalso; omega)
          all_goals (
            have hx := HX.out
            rw [heard_over HOK.out (fun h => by unfold Fits at h; rw [HNN.out, HBB.out] at h; exact f2 (h.2.1))] at hx
            subst hx
            clear HX
            go_upto_region 13 with (go_at_call 20; refine (rmsin_any _ _).mono ?_; rintro e wx ⟨rfl, rfl⟩)
            go_wp2_with (refine ms_store rfl (.tmp 10) (.tmp 105) rfl rfl [.int .i64 0, .int .i64 0, .int .i64 0, .int .i64 0, .int .i64 0] rfl y2 rfl rfl rfl ?_)
            refine ms_end3 (by rfl) (by rfl) (by rfl) (by rfl) (ms_put y2 [.int .i64 0, .int .i64 0, .int .i64 0, .int .i64 0, .int .i64 0]) rfl rfl ?_
            exact ⟨rfl, b2.grown (ms_grown _ (B + 1) #[.int .i64 0, .int .i64 0, .int .i64 0, .int .i64 0, .int .i64 0]) hBs (fun k hk => by cases hk; omega)⟩)
        case pos =>
        have tf2 : t60 (bt + c1) = true := (t60_iff _).2 ⟨by omega, f2⟩
        by_cases f3 : ca + bytes ≤ 1152921504606846976
        case neg =>
          have tf3 : t60 (ca + bytes) = false := t60_no (fun h => f3 h.2)
          try (exfalso; omega)
          all_goals (
            have hx := HX.out
            rw [heard_over HOK.out (fun h => by unfold Fits at h; rw [HNN.out, HBB.out] at h; exact f3 (h.2.2))] at hx
            subst hx
            clear HX
            go_upto_region 13 with (go_at_call 20; refine (rmsin_any _ _).mono ?_; rintro e wx ⟨rfl, rfl⟩)
            go_wp2_with (refine ms_store rfl (.tmp 10) (.tmp 105) rfl rfl [.int .i64 0, .int .i64 0, .int .i64 0, .int .i64 0, .int .i64 0] rfl y2 rfl rfl rfl ?_)
            refine ms_end3 (by rfl) (by rfl) (by rfl) (by rfl) (ms_put y2 [.int .i64 0, .int .i64 0, .int .i64 0, .int .i64 0, .int .i64 0]) rfl rfl ?_
            exact ⟨rfl, b2.grown (ms_grown _ (B + 1) #[.int .i64 0, .int .i64 0, .int .i64 0, .int .i64 0, .int .i64 0]) hBs (fun k hk => by cases hk; omega)⟩)
        case pos =>
        have tf3 : t60 (ca + bytes) = true := (t60_iff _).2 ⟨by omega, f3⟩
        by_cases cm : bytes < c1
        case pos =>
          have dcm : decide (bytes < c1) = true := decide_eq_true cm
          try (exfalso; omega)
          all_goals (
            have hx := HX.out
            rw [heard_ok HOK.out (by unfold Fits; rw [HNN.out, HBB.out]; exact ⟨f1, f2, f3⟩), HNN.out, HBB.out] at hx
            unfold minM at hx
            rw [if_pos cm] at hx
            subst hx
            clear HX
            go_upto_region 17 with (go_at_call 20; refine (rmsin_any _ _).mono ?_; rintro e wx ⟨rfl, rfl⟩)
            go_wp2_with (refine ms_store rfl (.tmp 10) (.tmp 129) rfl rfl [.int .i64 (pk + (k : Int)), .int .i64 (bt + c1), .int .i64 (ca + bytes), .int .i64 (md + bytes), .int .i64 pt] rfl y2 rfl rfl rfl ?_)
            refine ms_end3 (by rfl) (by rfl) (by rfl) (by rfl) (ms_put y2 [.int .i64 (pk + (k : Int)), .int .i64 (bt + c1), .int .i64 (ca + bytes), .int .i64 (md + bytes), .int .i64 pt]) rfl rfl ?_
            exact ⟨rfl, b2.grown (ms_grown _ (B + 1) #[.int .i64 (pk + (k : Int)), .int .i64 (bt + c1), .int .i64 (ca + bytes), .int .i64 (md + bytes), .int .i64 pt]) hBs (fun k hk => by cases hk; omega)⟩)
        case neg =>
        have dcm : decide (bytes < c1) = false := decide_eq_false cm
        try (exfalso; omega)
        all_goals (
          have hx := HX.out
          rw [heard_ok HOK.out (by unfold Fits; rw [HNN.out, HBB.out]; exact ⟨f1, f2, f3⟩), HNN.out, HBB.out] at hx
          unfold minM at hx
          rw [if_neg cm] at hx
          subst hx
          clear HX
          go_upto_region 17 with (go_at_call 20; refine (rmsin_any _ _).mono ?_; rintro e wx ⟨rfl, rfl⟩)
          go_wp2_with (refine ms_store rfl (.tmp 10) (.tmp 129) rfl rfl [.int .i64 (pk + (k : Int)), .int .i64 (bt + c1), .int .i64 (ca + bytes), .int .i64 (md + c1), .int .i64 pt] rfl y2 rfl rfl rfl ?_)
          refine ms_end3 (by rfl) (by rfl) (by rfl) (by rfl) (ms_put y2 [.int .i64 (pk + (k : Int)), .int .i64 (bt + c1), .int .i64 (ca + bytes), .int .i64 (md + c1), .int .i64 pt]) rfl rfl ?_
          exact ⟨rfl, b2.grown (ms_grown _ (B + 1) #[.int .i64 (pk + (k : Int)), .int .i64 (bt + c1), .int .i64 (ca + bytes), .int .i64 (md + c1), .int .i64 pt]) hBs (fun k hk => by cases hk; omega)⟩)
      case pos =>
      have db : decide (0 < c1) = true := decide_eq_true kb
      obtain ⟨d1, hd1⟩ : ∃ d, packets - (k : Int) = d := ⟨_, rfl⟩
      have hd10 : 0 ≤ d1 := by omega
      have hd11 : d1 ≤ 1099511627776 := by omega
      obtain ⟨d2, hd2⟩ : ∃ d, d1 / 8 = d := ⟨_, rfl⟩
      have hd20 : 0 ≤ d2 := by omega
      have hd21 : d2 * 8 ≤ 1099511627776 := by omega
      have hd3 : d1.tdiv 8 = d2 := by rw [← hd2]; exact Int.tdiv_eq_ediv_of_nonneg hd10
      obtain ⟨d4, hd4⟩ : ∃ d, d2 * 8 = d := ⟨_, rfl⟩
      have hnn2 : (k : Int) + d4 = nn := by rw [HNE.out, if_pos ⟨k8, kb⟩, hd1, hd2, hd4]
      have hnn0 : 0 ≤ nn := by omega
      have hnn1 : nn ≤ 1099511627776 + 7 := by omega

      by_cases f1 : pk + nn ≤ 1152921504606846976
      case neg =>
        have tf1 : t60 (pk + nn) = false := t60_no (fun h => f1 h.2)
        try (exfalso; omega)
        all_goals (
          have hx := HX.out
          rw [heard_over HOK.out (fun h => by unfold Fits at h; rw [HNN.out, HBB.out] at h; exact f1 (h.1))] at hx
          subst hx
          clear HX
          go_upto_region 13 with (go_at_call 20; refine (rmsin_any _ _).mono ?_; rintro e wx ⟨rfl, rfl⟩)
          go_wp2_with (refine ms_store rfl (.tmp 10) (.tmp 105) rfl rfl [.int .i64 0, .int .i64 0, .int .i64 0, .int .i64 0, .int .i64 0] rfl y2 rfl rfl rfl ?_)
          refine ms_end3 (by rfl) (by rfl) (by rfl) (by rfl) (ms_put y2 [.int .i64 0, .int .i64 0, .int .i64 0, .int .i64 0, .int .i64 0]) rfl rfl ?_
          exact ⟨rfl, b2.grown (ms_grown _ (B + 1) #[.int .i64 0, .int .i64 0, .int .i64 0, .int .i64 0, .int .i64 0]) hBs (fun k hk => by cases hk; omega)⟩)
      case pos =>
      have tf1 : t60 (pk + nn) = true := (t60_iff _).2 ⟨by omega, f1⟩
      by_cases f2 : bt + c1 ≤ 1152921504606846976
      case neg =>
        have tf2 : t60 (bt + c1) = false := t60_no (fun h => f2 h.2)
        try (exfalso; omega)
        all_goals (
          have hx := HX.out
          rw [heard_over HOK.out (fun h => by unfold Fits at h; rw [HNN.out, HBB.out] at h; exact f2 (h.2.1))] at hx
          subst hx
          clear HX
          go_upto_region 13 with (go_at_call 20; refine (rmsin_any _ _).mono ?_; rintro e wx ⟨rfl, rfl⟩)
          go_wp2_with (refine ms_store rfl (.tmp 10) (.tmp 105) rfl rfl [.int .i64 0, .int .i64 0, .int .i64 0, .int .i64 0, .int .i64 0] rfl y2 rfl rfl rfl ?_)
          refine ms_end3 (by rfl) (by rfl) (by rfl) (by rfl) (ms_put y2 [.int .i64 0, .int .i64 0, .int .i64 0, .int .i64 0, .int .i64 0]) rfl rfl ?_
          exact ⟨rfl, b2.grown (ms_grown _ (B + 1) #[.int .i64 0, .int .i64 0, .int .i64 0, .int .i64 0, .int .i64 0]) hBs (fun k hk => by cases hk; omega)⟩)
      case pos =>
      have tf2 : t60 (bt + c1) = true := (t60_iff _).2 ⟨by omega, f2⟩
      by_cases f3 : ca + bytes ≤ 1152921504606846976
      case neg =>
        have tf3 : t60 (ca + bytes) = false := t60_no (fun h => f3 h.2)
        try (exfalso; omega)
        all_goals (
          have hx := HX.out
          rw [heard_over HOK.out (fun h => by unfold Fits at h; rw [HNN.out, HBB.out] at h; exact f3 (h.2.2))] at hx
          subst hx
          clear HX
          go_upto_region 13 with (go_at_call 20; refine (rmsin_any _ _).mono ?_; rintro e wx ⟨rfl, rfl⟩)
          go_wp2_with (refine ms_store rfl (.tmp 10) (.tmp 105) rfl rfl [.int .i64 0, .int .i64 0, .int .i64 0, .int .i64 0, .int .i64 0] rfl y2 rfl rfl rfl ?_)
          refine ms_end3 (by rfl) (by rfl) (by rfl) (by rfl) (ms_put y2 [.int .i64 0, .int .i64 0, .int .i64 0, .int .i64 0, .int .i64 0]) rfl rfl ?_
          exact ⟨rfl, b2.grown (ms_grown _ (B + 1) #[.int .i64 0, .int .i64 0, .int .i64 0, .int .i64 0, .int .i64 0]) hBs (fun k hk => by cases hk; omega)⟩)
      case pos =>
      have tf3 : t60 (ca + bytes) = true := (t60_iff _).2 ⟨by omega, f3⟩
      by_cases cm : bytes < c1
      case pos =>
        have dcm : decide (bytes < c1) = true := decide_eq_true cm
        try (exfalso; omega)
        all_goals (
          have hx := HX.out
          rw [heard_ok HOK.out (by unfold Fits; rw [HNN.out, HBB.out]; exact ⟨f1, f2, f3⟩), HNN.out, HBB.out] at hx
          unfold minM at hx
          rw [if_pos cm] at hx
          subst hx
          clear HX
          go_upto_region 17 with (go_at_call 20; refine (rmsin_any _ _).mono ?_; rintro e wx ⟨rfl, rfl⟩)
          go_wp2_with (refine ms_store rfl (.tmp 10) (.tmp 129) rfl rfl [.int .i64 (pk + nn), .int .i64 (bt + c1), .int .i64 (ca + bytes), .int .i64 (md + bytes), .int .i64 pt] rfl y2 rfl rfl rfl ?_)
          refine ms_end3 (by rfl) (by rfl) (by rfl) (by rfl) (ms_put y2 [.int .i64 (pk + nn), .int .i64 (bt + c1), .int .i64 (ca + bytes), .int .i64 (md + bytes), .int .i64 pt]) rfl rfl ?_
          exact ⟨rfl, b2.grown (ms_grown _ (B + 1) #[.int .i64 (pk + nn), .int .i64 (bt + c1), .int .i64 (ca + bytes), .int .i64 (md + bytes), .int .i64 pt]) hBs (fun k hk => by cases hk; omega)⟩)
      case neg =>
      have dcm : decide (bytes < c1) = false := decide_eq_false cm
      try (exfalso; omega)
      all_goals (
        have hx := HX.out
        rw [heard_ok HOK.out (by unfold Fits; rw [HNN.out, HBB.out]; exact ⟨f1, f2, f3⟩), HNN.out, HBB.out] at hx
        unfold minM at hx
        rw [if_neg cm] at hx
        subst hx
        clear HX
        go_upto_region 17 with (go_at_call 20; refine (rmsin_any _ _).mono ?_; rintro e wx ⟨rfl, rfl⟩)
        go_wp2_with (refine ms_store rfl (.tmp 10) (.tmp 129) rfl rfl [.int .i64 (pk + nn), .int .i64 (bt + c1), .int .i64 (ca + bytes), .int .i64 (md + c1), .int .i64 pt] rfl y2 rfl rfl rfl ?_)
        refine ms_end3 (by rfl) (by rfl) (by rfl) (by rfl) (ms_put y2 [.int .i64 (pk + nn), .int .i64 (bt + c1), .int .i64 (ca + bytes), .int .i64 (md + c1), .int .i64 pt]) rfl rfl ?_
        exact ⟨rfl, b2.grown (ms_grown _ (B + 1) #[.int .i64 (pk + nn), .int .i64 (bt + c1), .int .i64 (ca + bytes), .int .i64 (md + c1), .int .i64 pt]) hBs (fun k hk => by cases hk; omega)⟩)
end Go.Proofs.Ytkgbbmjobjcepaa
