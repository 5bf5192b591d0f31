/- Package marks as landed: Heard, as a contract of the call. -/
import Derived.Test.YtkgbbmjobjcepaaMsL2
import Derived.WalkKit
import Derived.WalkSpells
import Derived.WalkSmall
import Derived.Lib.Hide
import Derived.Below
import Derived.Outline
import Derived.Deep.QuietTactic
import Derived.BigQuiet
import Derived.IntWalk
import Derived.OrdersHeld
import Derived.Deep.DeepCutAuto
namespace Go.Proofs.Ytkgbbmjobjcepaa
open Go.RowKit
set_option linter.unusedVariables false
set_option linter.unusedSimpArgs false

/-- one cell of a block of the call's own is stored: what that leaves of old memory -/
theorem Below.own {N B i : Nat} {w W : World} (h : Below N w W) (hl : N ≤ W.heap.size) (hB : N ≤ B) (u : Value) : Below N w (W.setCell ⟨B, i, none⟩ u) :=
  h.grown (ms_gset W ⟨B, i, none⟩ u) hl (fun k hk => by cases hk; exact hB)

theorem fits_may {m : Ms} {a c p b : Int} (h : mmay m = true ∧ HeardOk a c p b) : mmay ⟨m.pk + nR m a c p, m.bt + bR m c, m.ca + b, m.md + minM b (bR m c), m.pt⟩ = true ↔ Fits m a c p b := by
  constructor
  · intro k
    have k := (mmay_iff _).1 k
    have k1 := k.p1; have k2 := k.b1; have k3 := k.c1
    exact ⟨k1, k2, k3⟩
  · intro k
    have := heard_valid h k
    rw [heard_ok h k] at this
    exact (mmay_iff _).2 this
theorem ack_of {n : Int} (h : ackB n = true) : 0 ≤ n ∧ n ≤ 1099511627776 := by unfold ackB at h; simpa using h
theorem ack_no {n : Int} (h : ackB n = false) : ¬ (0 ≤ n ∧ n ≤ 1099511627776) := by
  intro k
  unfold ackB at h
  rw [decide_eq_true k.1, decide_eq_true k.2] at h
  exact absurd h (by simp)

set_option maxRecDepth 100000 in
set_option maxHeartbeats 8000000 in
theorem mkheard_any (pk bt ca md pt : Int) (ace ce packets bytes : Int) (w : World) (hce0 : 0 ≤ ce) (hce1 : ce < 4294967296) :
    Calls Try.prog 9 #[.agg #[.int .i64 pk, .int .i64 bt, .int .i64 ca, .int .i64 md, .int .i64 pt], .int .i64 ace, .int .u32 ce, .int .i64 packets, .int .i64 bytes] w fun e w' => TellH w w' e (heardR ⟨pk, bt, ca, md, pt⟩ ace ce packets bytes) := by
  unfold TellH
  obtain ⟨B, hB⟩ : ∃ B, w.heap.size = B := ⟨_, rfl⟩
  rw [hB]
  have e0 := (Bx.new w 23 [.int .i64 pk, .int .i64 bt, .int .i64 ca, .int .i64 md, .int .i64 pt]).alloc (.cells #[.int .i64 0, .int .i64 0, .int .i64 0, .int .i64 0, .int .i64 0] 23)
  have y0 := two_new w (.cells #[.int .i64 pk, .int .i64 bt, .int .i64 ca, .int .i64 md, .int .i64 pt] 23) 23 [.int .i64 0, .int .i64 0, .int .i64 0, .int .i64 0, .int .i64 0]
  rw [hB] at e0 y0
  have b0 : Below B w ((w.alloc (.cells #[.int .i64 pk, .int .i64 bt, .int .i64 ca, .int .i64 md, .int .i64 pt] 23)).alloc (.cells #[.int .i64 0, .int .i64 0, .int .i64 0, .int .i64 0, .int .i64 0] 23)) := by rw [← hB]; exact two_below _ _ _
  obtain ⟨x, hx⟩ : ∃ x, heardR ⟨pk, bt, ca, md, pt⟩ ace ce packets bytes = x := ⟨_, rfl⟩
  rw [hx]
  have HX := Lib.hid hx; clear hx
  go_enter Try.func9, Try.ntmps9
  go_wp2_with (refine ms_load rfl (.tmp 5) rfl rfl e0 rfl ?_)
  generalize (w.alloc (.cells #[.int .i64 pk, .int .i64 bt, .int .i64 ca, .int .i64 md, .int .i64 pt] 23)).alloc (.cells #[.int .i64 0, .int .i64 0, .int .i64 0, .int .i64 0, .int .i64 0] 23) = w1 at e0 y0 b0 ⊢
  refine (mkmay_any pk bt ca md pt _).mono ?_
  rintro e w2 ⟨rfl, hb2⟩
  have e2 := e0.kept hb2; have y2 := y0.kept hb2; have b2 := b0.trans (hb2.mono (Nat.le_of_lt e0.lt))
  have hBs : B ≤ w2.heap.size := Nat.le_of_lt e2.lt
  clear e0 y0 b0 hb2
  cases hk : mmay ⟨pk, bt, ca, md, pt⟩ with
  | false =>
    have hx := HX.out
    rw [heard_no (fun h => by rw [hk] at h; exact absurd h.1 (by simp))] at hx
    subst hx
    clear HX hk
    go_wp2_with (first | (refine ms_store rfl (.tmp 10) (.tmp 40) rfl rfl [.int .i64 0, .int .i64 0, .int .i64 0, .int .i64 0, .int .i64 0] rfl y2 rfl rfl rfl ?_) | (go_at_call 17; refine (ack_any _ _).mono ?_; rintro e wx ⟨rfl, rfl⟩))
    refine ms_end3 (by rfl) (by rfl) (by rfl) (by rfl) (ms_put y2 [.int .i64 0, .int .i64 0, .int .i64 0, .int .i64 0, .int .i64 0]) rfl rfl ?_
    exact ⟨rfl, b2.grown (ms_grown _ (B + 1) #[.int .i64 0, .int .i64 0, .int .i64 0, .int .i64 0, .int .i64 0]) hBs (fun k hk => by cases hk; omega)⟩
  | true =>
  by_cases c0 : ace < 0
  case pos =>
    have d0 : decide (ace < 0) = true := decide_eq_true c0
    have hx := HX.out
    rw [heard_no (fun h => by have := h.2.1; omega)] at hx
    subst hx
    clear HX hk
    go_wp2_with (first | (refine ms_store rfl (.tmp 10) (.tmp 40) rfl rfl [.int .i64 0, .int .i64 0, .int .i64 0, .int .i64 0, .int .i64 0] rfl y2 rfl rfl rfl ?_) | (go_at_call 17; refine (ack_any _ _).mono ?_; rintro e wx ⟨rfl, rfl⟩))
    refine ms_end3 (by rfl) (by rfl) (by rfl) (by rfl) (ms_put y2 [.int .i64 0, .int .i64 0, .int .i64 0, .int .i64 0, .int .i64 0]) rfl rfl ?_
    exact ⟨rfl, b2.grown (ms_grown _ (B + 1) #[.int .i64 0, .int .i64 0, .int .i64 0, .int .i64 0, .int .i64 0]) hBs (fun k hk => by cases hk; omega)⟩
  case neg =>
  have d0 : decide (ace < 0) = false := decide_eq_false c0
  by_cases c1 : 8 ≤ ace
  case pos =>
    have d1 : decide (8 ≤ ace) = true := decide_eq_true c1
    have hx := HX.out
    rw [heard_no (fun h => by have := h.2.2.1; omega)] at hx
    subst hx
    clear HX hk
    go_wp2_with (first | (refine ms_store rfl (.tmp 10) (.tmp 40) rfl rfl [.int .i64 0, .int .i64 0, .int .i64 0, .int .i64 0, .int .i64 0] rfl y2 rfl rfl rfl ?_) | (go_at_call 17; refine (ack_any _ _).mono ?_; rintro e wx ⟨rfl, rfl⟩))
    refine ms_end3 (by rfl) (by rfl) (by rfl) (by rfl) (ms_put y2 [.int .i64 0, .int .i64 0, .int .i64 0, .int .i64 0, .int .i64 0]) rfl rfl ?_
    exact ⟨rfl, b2.grown (ms_grown _ (B + 1) #[.int .i64 0, .int .i64 0, .int .i64 0, .int .i64 0, .int .i64 0]) hBs (fun k hk => by cases hk; omega)⟩
  case neg =>
  have d1 : decide (8 ≤ ace) = false := decide_eq_false c1
  by_cases c2 : 16777216 ≤ ce
  case pos =>
    have d2 : decide (16777216 ≤ ce) = true := decide_eq_true c2
    have hx := HX.out
    rw [heard_no (fun h => by have := h.2.2.2.1; omega)] at hx
    subst hx
    clear HX hk
    go_wp2_with (first | (refine ms_store rfl (.tmp 10) (.tmp 40) rfl rfl [.int .i64 0, .int .i64 0, .int .i64 0, .int .i64 0, .int .i64 0] rfl y2 rfl rfl rfl ?_) | (go_at_call 17; refine (ack_any _ _).mono ?_; rintro e wx ⟨rfl, rfl⟩))
    refine ms_end3 (by rfl) (by rfl) (by rfl) (by rfl) (ms_put y2 [.int .i64 0, .int .i64 0, .int .i64 0, .int .i64 0, .int .i64 0]) rfl rfl ?_
    exact ⟨rfl, b2.grown (ms_grown _ (B + 1) #[.int .i64 0, .int .i64 0, .int .i64 0, .int .i64 0, .int .i64 0]) hBs (fun k hk => by cases hk; omega)⟩
  case neg =>
  have d2 : decide (16777216 ≤ ce) = false := decide_eq_false c2
  cases hA0 : ackB packets with
  | false =>
    have hx := HX.out
    rw [heard_no (fun h => ack_no hA0 ⟨h.2.2.2.2.1, h.2.2.2.2.2.1⟩)] at hx
    subst hx
    clear HX hk
    go_wp2_with (first | (refine ms_store rfl (.tmp 10) (.tmp 40) rfl rfl [.int .i64 0, .int .i64 0, .int .i64 0, .int .i64 0, .int .i64 0] rfl y2 rfl rfl rfl ?_) | (go_at_call 17; refine (ack_any _ _).mono ?_; rintro e wx ⟨rfl, rfl⟩))
    refine ms_end3 (by rfl) (by rfl) (by rfl) (by rfl) (ms_put y2 [.int .i64 0, .int .i64 0, .int .i64 0, .int .i64 0, .int .i64 0]) rfl rfl ?_
    exact ⟨rfl, b2.grown (ms_grown _ (B + 1) #[.int .i64 0, .int .i64 0, .int .i64 0, .int .i64 0, .int .i64 0]) hBs (fun k hk => by cases hk; omega)⟩
  | true =>
  cases hA1 : ackB bytes with
  | false =>
    have hx := HX.out
    rw [heard_no (fun h => ack_no hA1 ⟨h.2.2.2.2.2.2.1, h.2.2.2.2.2.2.2⟩)] at hx
    subst hx
    clear HX hk
    go_wp2_with (first | (refine ms_store rfl (.tmp 10) (.tmp 40) rfl rfl [.int .i64 0, .int .i64 0, .int .i64 0, .int .i64 0, .int .i64 0] rfl y2 rfl rfl rfl ?_) | (go_at_call 17; refine (ack_any _ _).mono ?_; rintro e wx ⟨rfl, rfl⟩))
    refine ms_end3 (by rfl) (by rfl) (by rfl) (by rfl) (ms_put y2 [.int .i64 0, .int .i64 0, .int .i64 0, .int .i64 0, .int .i64 0]) rfl rfl ?_
    exact ⟨rfl, b2.grown (ms_grown _ (B + 1) #[.int .i64 0, .int .i64 0, .int .i64 0, .int .i64 0, .int .i64 0]) hBs (fun k hk => by cases hk; omega)⟩
  | true =>
  obtain ⟨a0, a1⟩ := ack_of hA0
  obtain ⟨a2, a3⟩ := ack_of hA1
  have hv := (mmay_iff _).1 hk
  have hok : mmay ⟨pk, bt, ca, md, pt⟩ = true ∧ HeardOk ace ce packets bytes := ⟨hk, by omega, by omega, by omega, by omega, by omega, by omega, by omega⟩
  have p0 : 0 ≤ pk := hv.p0; have p1 : pk ≤ 1152921504606846976 := hv.p1; have q0 : 0 ≤ bt := hv.b0; have q1 : bt ≤ 1152921504606846976 := hv.b1; have r0 : 0 ≤ ca := hv.c0; have r1 : ca ≤ 1152921504606846976 := hv.c1; have s0 : 0 ≤ md := hv.m0; have s1 : md ≤ ca := hv.m1
  obtain ⟨bm, hbm⟩ : ∃ y, bR ⟨pk, bt, ca, md, pt⟩ ce = y := ⟨_, rfl⟩
  obtain ⟨n0, hn0⟩ : ∃ y, n0R ⟨pk, bt, ca, md, pt⟩ ace = y := ⟨_, rfl⟩
  obtain ⟨bm0, bm1⟩ := b_bd ⟨pk, bt, ca, md, pt⟩ ce
  obtain ⟨n00, n01⟩ := n0_bd ⟨pk, bt, ca, md, pt⟩ ace
  rw [hbm] at bm0 bm1
  rw [hn0] at n00 n01
  have hbe : (ce - bt) % 16777216 = bm := hbm
  have hne : (ace - pk) % 8 = n0 := hn0
  have hw1 : IntKind.i64.wrap ce = ce := IntWalk.i64_in _ (by omega)
  have hw2 : IntKind.i64.wrap (ce - bt) = ce - bt := IntWalk.i64_in _ (by omega)
  have hw3 : IntKind.i64.wrap (ace - pk) = ace - pk := IntWalk.i64_in _ (by omega)
  have HBE := Lib.hid hbe; have HNE := Lib.hid hne
  have hfit := fits_may hok
  have hxo := fun k => heard_over hok k
  have hxk := fun k => heard_ok hok k
  dsimp only at hfit hxk
  rw [hbm] at hfit hxk
  obtain ⟨mn, hmn⟩ : ∃ y, min bm bytes = y := ⟨_, rfl⟩
  have hmm : minM bytes bm = mn := by unfold minM; split <;> omega
  rw [hmm] at hfit hxk
  have mn0 : 0 ≤ mn := by omega
  have mn1 : mn ≤ bytes := by omega
  have hNN : nR ⟨pk, bt, ca, md, pt⟩ ace ce packets = if 0 < bm then likR n0 packets else n0 := by
    unfold nR likR
    rw [hbm, hn0]
    by_cases h1 : 8 ≤ packets
    · by_cases h2 : 0 < bm
      · rw [if_pos ⟨h1, h2⟩, if_pos h2, if_pos h1]
      · rw [if_neg (fun h => h2 h.2), if_neg h2]
    · rw [if_neg (fun h => h1 h.1)]
      simp [h1]
  rw [hNN] at hfit hxk
  have HOK := Lib.hid hok; have HF := Lib.hid hfit; have HXO := Lib.hid hxo; have HXK := Lib.hid hxk
  clear hk hv hok hfit hxo hxk hbe hne hmm hNN hbm hn0
  go_upto_region 3 with (go_at_call 17; refine (ack_any _ _).mono ?_; rintro e wx ⟨rfl, rfl⟩)
  refine wp_region_tail 6 8 (fun (W : World) => Bx W B 23 [.int .i64 pk, .int .i64 bt, .int .i64 ca, .int .i64 md, .int .i64 pt] ∧ Bx W (B + 1) 23 [.int .i64 0, .int .i64 0, .int .i64 0, .int .i64 0, .int .i64 0] ∧ Below B w W) (by kernel_rfl) (by rfl) (by decide) ?_
  have HS : (fun (W : World) => Bx W B 23 [.int .i64 pk, .int .i64 bt, .int .i64 ca, .int .i64 md, .int .i64 pt] ∧ Bx W (B + 1) 23 [.int .i64 0, .int .i64 0, .int .i64 0, .int .i64 0, .int .i64 0] ∧ Below B w W) _ := ⟨e2.drew, y2.drew, b2.drew⟩
  refine wpAnyT_take (i := 1) (v := .int .u32 ce) rfl (by kernel_rfl) (fun _ _ _ h => h) (Or.inl ⟨by rfl, fun w hSw => ?_⟩) HS ?_
  · (try dsimp only at hSw); go_simp
  try simp only [Act.put, List.setIfInBounds_toArray, List.set_cons_zero, List.set_cons_succ]
  refine wpAnyT_take (i := 2) (v := .int .i64 ce) rfl (by kernel_rfl) (fun _ _ _ h => h) (Or.inl ⟨by rfl, fun w hSw => ?_⟩) HS ?_
  · (try dsimp only at hSw); go_simp
  try simp only [Act.put, List.setIfInBounds_toArray, List.set_cons_zero, List.set_cons_succ]
  refine wpAnyT_take (i := 3) (v := .pointer (some ⟨B, 1, none⟩)) rfl (by kernel_rfl) (fun _ _ _ h => h) (Or.inl ⟨by rfl, fun w hSw => ?_⟩) HS ?_
  · (try dsimp only at hSw); go_simp
  try simp only [Act.put, List.setIfInBounds_toArray, List.set_cons_zero, List.set_cons_succ]
  refine wpAnyT_take (i := 4) (v := .int .i64 bt) rfl (by kernel_rfl) (fun _ _ _ h => h) (Or.inl ⟨by rfl, fun w hSw => ?_⟩) HS ?_
  · have hc := hSw.1.cell 1 rfl; (try dsimp only at hSw); go_simp
  try simp only [Act.put, List.setIfInBounds_toArray, List.set_cons_zero, List.set_cons_succ]
  refine wpAnyT_take (i := 5) (v := .int .i64 (ce - bt)) rfl (by kernel_rfl) (fun _ _ _ h => h) (Or.inl ⟨by rfl, fun w hSw => ?_⟩) HS ?_
  · (try dsimp only at hSw); go_simp
  try simp only [Act.put, List.setIfInBounds_toArray, List.set_cons_zero, List.set_cons_succ]
  refine wpAnyT_one (k := 0) rfl (by kernel_rfl) (by decide) (fun K hK => ?_)
  go_simp
  refine (modulo_ex 16777216 _).mono ?_
  rintro e w3 ⟨V3, rfl, hx3, hb3⟩
  have e3 := HS.1.kept hb3; have y3 := HS.2.1.kept hb3; have b3 := HS.2.2.trans (hb3.mono (Nat.le_of_lt HS.1.lt))
  have HS : (fun (W : World) => Bx W B 23 [.int .i64 pk, .int .i64 bt, .int .i64 ca, .int .i64 md, .int .i64 pt] ∧ Bx W (B + 1) 23 [.int .i64 0, .int .i64 0, .int .i64 0, .int .i64 0, .int .i64 0] ∧ Below B w W) _ := ⟨e3, y3, b3⟩
  refine hK _ _ HS ?_
  clear hK K
  try simp only [Act.put, List.setIfInBounds_toArray, List.set_cons_zero, List.set_cons_succ]
  refine ⟨by kernel_rfl, ?_⟩
  simp only [List.drop_succ_cons, List.drop_zero]
  go_wp2_with fail
  refine (res24_any (ce - bt) _ _ (hx3.cell 0 rfl) (by omega) (by omega)).mono ?_
  rintro e w4 ⟨rfl, hb4⟩
  rw [HBE.out]
  have e4 := e3.kept hb4; have y4 := y3.kept hb4; have b4 := b3.trans (hb4.mono (Nat.le_of_lt e3.lt))
  clear HS hx3 hb3 e3 y3 b3 hb4
  go_upto_region 4 with fail
  refine wp_region_tail 5 7 (fun (W : World) => Bx W B 23 [.int .i64 pk, .int .i64 bt, .int .i64 ca, .int .i64 md, .int .i64 pt] ∧ Bx W (B + 1) 23 [.int .i64 0, .int .i64 0, .int .i64 0, .int .i64 0, .int .i64 0] ∧ Below B w W) (by kernel_rfl) (by rfl) (by decide) ?_
  have HS : (fun (W : World) => Bx W B 23 [.int .i64 pk, .int .i64 bt, .int .i64 ca, .int .i64 md, .int .i64 pt] ∧ Bx W (B + 1) 23 [.int .i64 0, .int .i64 0, .int .i64 0, .int .i64 0, .int .i64 0] ∧ Below B w W) _ := ⟨e4.drew, y4.drew, b4.drew⟩
  refine wpAnyT_take (i := 1) (v := .int .i64 ace) rfl (by kernel_rfl) (fun _ _ _ h => h) (Or.inl ⟨by rfl, fun w hSw => ?_⟩) HS ?_
  · (try dsimp only at hSw); go_simp
  try simp only [Act.put, List.setIfInBounds_toArray, List.set_cons_zero, List.set_cons_succ]
  refine wpAnyT_take (i := 2) (v := .pointer (some ⟨B, 0, none⟩)) rfl (by kernel_rfl) (fun _ _ _ h => h) (Or.inl ⟨by rfl, fun w hSw => ?_⟩) HS ?_
  · (try dsimp only at hSw); go_simp
  try simp only [Act.put, List.setIfInBounds_toArray, List.set_cons_zero, List.set_cons_succ]
  refine wpAnyT_take (i := 3) (v := .int .i64 pk) rfl (by kernel_rfl) (fun _ _ _ h => h) (Or.inl ⟨by rfl, fun w hSw => ?_⟩) HS ?_
  · have hc := hSw.1.cell 0 rfl; (try dsimp only at hSw); go_simp
  try simp only [Act.put, List.setIfInBounds_toArray, List.set_cons_zero, List.set_cons_succ]
  refine wpAnyT_take (i := 4) (v := .int .i64 (ace - pk)) rfl (by kernel_rfl) (fun _ _ _ h => h) (Or.inl ⟨by rfl, fun w hSw => ?_⟩) HS ?_
  · (try dsimp only at hSw); go_simp
  try simp only [Act.put, List.setIfInBounds_toArray, List.set_cons_zero, List.set_cons_succ]
  refine wpAnyT_one (k := 0) rfl (by kernel_rfl) (by decide) (fun K hK => ?_)
  go_simp
  refine (modulo_ex 8 _).mono ?_
  rintro e w5 ⟨V5, rfl, hx5, hb5⟩
  have e5 := HS.1.kept hb5; have y5 := HS.2.1.kept hb5; have b5 := HS.2.2.trans (hb5.mono (Nat.le_of_lt HS.1.lt))
  have HS : (fun (W : World) => Bx W B 23 [.int .i64 pk, .int .i64 bt, .int .i64 ca, .int .i64 md, .int .i64 pt] ∧ Bx W (B + 1) 23 [.int .i64 0, .int .i64 0, .int .i64 0, .int .i64 0, .int .i64 0] ∧ Below B w W) _ := ⟨e5, y5, b5⟩
  refine hK _ _ HS ?_
  clear hK K
  try simp only [Act.put, List.setIfInBounds_toArray, List.set_cons_zero, List.set_cons_succ]
  refine ⟨by kernel_rfl, ?_⟩
  simp only [List.drop_succ_cons, List.drop_zero]
  go_wp2_with fail
  refine (res8_any (ace - pk) _ _ (hx5.cell 0 rfl) (by omega) (by omega)).mono ?_
  rintro e w6 ⟨rfl, hb6⟩
  rw [HNE.out]
  have e6 := e5.kept hb6; have y6 := y5.kept hb6; have b6 := b5.trans (hb6.mono (Nat.le_of_lt e5.lt))
  clear HS hx5 hb5 e5 y5 b5 hb6
  by_cases cb : 0 < bm
  · have db : decide (0 < bm) = true := decide_eq_true cb
    have hN1 := HF.out; have hN2 := HXK.out
    rw [if_pos cb] at hN1 hN2
    clear HF HXK
    obtain ⟨N, hN⟩ : ∃ y, likR n0 packets = y := ⟨_, rfl⟩
    rw [hN] at hN1 hN2
    have N0 : 0 ≤ N := by rw [← hN]; unfold likR; split <;> omega
    have N1 : N ≤ 1099511627783 := by rw [← hN]; unfold likR; split <;> omega
    have HF := Lib.hid hN1; have HXK := Lib.hid hN2; have HN := Lib.hid hN
    clear hN1 hN2 hN
    go_wp2_with fail
    refine (likely_any n0 packets _ n00 n01 a0 a1).mono ?_
    rintro e w7 ⟨rfl, hb7⟩
    rw [HN.out]
    have e7 := e6.kept hb7; have y7 := y6.kept hb7; have b7 := b6.trans (hb7.mono (Nat.le_of_lt e6.lt))
    clear HN e6 y6 b6 hb7
    have x0 := e7.cell 0 rfl; have f0 := e7.free 0
    have ea := e7.set 0 (.int .i64 (pk + N)); have ya := y7.far (p := ⟨B, 0, none⟩) (by simp) (.int .i64 (pk + N)); have ba := Below.own (i := 0) b7 (Nat.le_of_lt e7.lt) (Nat.le_refl _) (.int .i64 (pk + N))
    simp only [List.set_cons_zero, List.set_cons_succ] at ea
    clear e7 y7 b7
    go_upto_region 8 with fail
    generalize w7.setCell ⟨B, 0, none⟩ (.int .i64 (pk + N)) = wa at ea ya ba ⊢
    clear x0 f0
    have x0 := ea.cell 1 rfl; have f0 := ea.free 1
    have eb := ea.set 1 (.int .i64 (bt + bm)); have yb := ya.far (p := ⟨B, 1, none⟩) (by simp) (.int .i64 (bt + bm)); have bb := Below.own (i := 1) ba (Nat.le_of_lt ea.lt) (Nat.le_refl _) (.int .i64 (bt + bm))
    simp only [List.set_cons_zero, List.set_cons_succ] at eb
    clear ea ya ba
    go_upto_region 9 with fail
    generalize wa.setCell ⟨B, 1, none⟩ (.int .i64 (bt + bm)) = wb at eb yb bb ⊢
    clear x0 f0
    have x0 := eb.cell 2 rfl; have f0 := eb.free 2
    have ec := eb.set 2 (.int .i64 (ca + bytes)); have yc := yb.far (p := ⟨B, 2, none⟩) (by simp) (.int .i64 (ca + bytes)); have bc := Below.own (i := 2) bb (Nat.le_of_lt eb.lt) (Nat.le_refl _) (.int .i64 (ca + bytes))
    simp only [List.set_cons_zero, List.set_cons_succ] at ec
    clear eb yb bb
    go_upto_region 10 with fail
    generalize wb.setCell ⟨B, 2, none⟩ (.int .i64 (ca + bytes)) = wc at ec yc bc ⊢
    clear x0 f0
    have x0 := ec.cell 3 rfl; have f0 := ec.free 3
    have ed := ec.set 3 (.int .i64 (md + mn)); have yd := yc.far (p := ⟨B, 3, none⟩) (by simp) (.int .i64 (md + mn)); have bd := Below.own (i := 3) bc (Nat.le_of_lt ec.lt) (Nat.le_refl _) (.int .i64 (md + mn))
    simp only [List.set_cons_zero, List.set_cons_succ] at ed
    clear ec yc bc
    go_upto_region 11 with fail
    generalize wc.setCell ⟨B, 3, none⟩ (.int .i64 (md + mn)) = wd at ed yd bd ⊢
    clear x0 f0
    go_wp2_with (refine ms_load rfl (.tmp 5) rfl rfl ed rfl ?_)
    refine (mkmay_any (pk + N) (bt + bm) (ca + bytes) (md + mn) pt _).mono ?_
    rintro e wb ⟨rfl, hb9⟩
    have e9 := ed.kept hb9; have y9 := yd.kept hb9; have b9 := bd.trans (hb9.mono (Nat.le_of_lt ed.lt))
    have hB9 : B ≤ wb.heap.size := Nat.le_of_lt e9.lt
    clear ed yd bd hb9
    cases hk : mmay ⟨pk + N, bt + bm, ca + bytes, md + mn, pt⟩ with
    | false =>
      have hx := HX.out
      rw [HXO.out (fun k => by rw [HF.out.2 k] at hk; exact absurd hk (by simp))] at hx
      subst hx
      clear HX HF HXO HXK HOK hk
      go_wp2_with (first | (refine ms_store rfl (.tmp 10) (.tmp 84) rfl rfl [.int .i64 0, .int .i64 0, .int .i64 0, .int .i64 0, .int .i64 0] rfl y9 rfl rfl rfl ?_))
      refine ms_end3 (by rfl) (by rfl) (by rfl) (by rfl) (ms_put y9 [.int .i64 0, .int .i64 0, .int .i64 0, .int .i64 0, .int .i64 0]) rfl rfl ?_
      exact ⟨rfl, b9.grown (ms_grown _ (B + 1) #[.int .i64 0, .int .i64 0, .int .i64 0, .int .i64 0, .int .i64 0]) hB9 (fun k hk => by cases hk; omega)⟩
    | true =>
      have hx := HX.out
      rw [HXK.out (HF.out.1 hk)] at hx
      subst hx
      clear HX HF HXO HXK HOK hk
      go_wp2_with (first | (refine ms_load rfl (.tmp 5) rfl rfl e9 rfl ?_) | (refine ms_store rfl (.tmp 10) (.tmp 85) rfl rfl [.int .i64 (pk + N), .int .i64 (bt + bm), .int .i64 (ca + bytes), .int .i64 (md + mn), .int .i64 pt] rfl y9 rfl rfl rfl ?_))
      refine ms_end3 (by rfl) (by rfl) (by rfl) (by rfl) (ms_put y9 [.int .i64 (pk + N), .int .i64 (bt + bm), .int .i64 (ca + bytes), .int .i64 (md + mn), .int .i64 pt]) rfl rfl ?_
      exact ⟨rfl, b9.grown (ms_grown _ (B + 1) #[.int .i64 (pk + N), .int .i64 (bt + bm), .int .i64 (ca + bytes), .int .i64 (md + mn), .int .i64 pt]) hB9 (fun k hk => by cases hk; omega)⟩
  · have db : decide (0 < bm) = false := decide_eq_false cb
    have hN1 := HF.out; have hN2 := HXK.out
    rw [if_neg cb] at hN1 hN2
    clear HF HXK
    obtain ⟨N, rfl⟩ : ∃ y, n0 = y := ⟨_, rfl⟩
    have HF := Lib.hid hN1; have HXK := Lib.hid hN2
    clear hN1 hN2
    have x0 := e6.cell 0 rfl; have f0 := e6.free 0
    have ea := e6.set 0 (.int .i64 (pk + n0)); have ya := y6.far (p := ⟨B, 0, none⟩) (by simp) (.int .i64 (pk + n0)); have ba := Below.own (i := 0) b6 (Nat.le_of_lt e6.lt) (Nat.le_refl _) (.int .i64 (pk + n0))
    simp only [List.set_cons_zero, List.set_cons_succ] at ea
    clear e6 y6 b6
    go_upto_region 8 with fail
    generalize w6.setCell ⟨B, 0, none⟩ (.int .i64 (pk + n0)) = wa at ea ya ba ⊢
    clear x0 f0
    have x0 := ea.cell 1 rfl; have f0 := ea.free 1
    have eb := ea.set 1 (.int .i64 (bt + bm)); have yb := ya.far (p := ⟨B, 1, none⟩) (by simp) (.int .i64 (bt + bm)); have bb := Below.own (i := 1) ba (Nat.le_of_lt ea.lt) (Nat.le_refl _) (.int .i64 (bt + bm))
    simp only [List.set_cons_zero, List.set_cons_succ] at eb
    clear ea ya ba
    go_upto_region 9 with fail
    generalize wa.setCell ⟨B, 1, none⟩ (.int .i64 (bt + bm)) = wb at eb yb bb ⊢
    clear x0 f0
    have x0 := eb.cell 2 rfl; have f0 := eb.free 2
    have ec := eb.set 2 (.int .i64 (ca + bytes)); have yc := yb.far (p := ⟨B, 2, none⟩) (by simp) (.int .i64 (ca + bytes)); have bc := Below.own (i := 2) bb (Nat.le_of_lt eb.lt) (Nat.le_refl _) (.int .i64 (ca + bytes))
    simp only [List.set_cons_zero, List.set_cons_succ] at ec
    clear eb yb bb
    go_upto_region 10 with fail
    generalize wb.setCell ⟨B, 2, none⟩ (.int .i64 (ca + bytes)) = wc at ec yc bc ⊢
    clear x0 f0
    have x0 := ec.cell 3 rfl; have f0 := ec.free 3
    have ed := ec.set 3 (.int .i64 (md + mn)); have yd := yc.far (p := ⟨B, 3, none⟩) (by simp) (.int .i64 (md + mn)); have bd := Below.own (i := 3) bc (Nat.le_of_lt ec.lt) (Nat.le_refl _) (.int .i64 (md + mn))
    simp only [List.set_cons_zero, List.set_cons_succ] at ed
    clear ec yc bc
    go_upto_region 11 with fail
    generalize wc.setCell ⟨B, 3, none⟩ (.int .i64 (md + mn)) = wd at ed yd bd ⊢
    clear x0 f0
    go_wp2_with (refine ms_load rfl (.tmp 5) rfl rfl ed rfl ?_)
    refine (mkmay_any (pk + n0) (bt + bm) (ca + bytes) (md + mn) pt _).mono ?_
    rintro e wb ⟨rfl, hb9⟩
    have e9 := ed.kept hb9; have y9 := yd.kept hb9; have b9 := bd.trans (hb9.mono (Nat.le_of_lt ed.lt))
    have hB9 : B ≤ wb.heap.size := Nat.le_of_lt e9.lt
    clear ed yd bd hb9
    cases hk : mmay ⟨pk + n0, bt + bm, ca + bytes, md + mn, pt⟩ with
    | false =>
      have hx := HX.out
      rw [HXO.out (fun k => by rw [HF.out.2 k] at hk; exact absurd hk (by simp))] at hx
      subst hx
      clear HX HF HXO HXK HOK hk
      go_wp2_with (first | (refine ms_store rfl (.tmp 10) (.tmp 84) rfl rfl [.int .i64 0, .int .i64 0, .int .i64 0, .int .i64 0, .int .i64 0] rfl y9 rfl rfl rfl ?_))
      refine ms_end3 (by rfl) (by rfl) (by rfl) (by rfl) (ms_put y9 [.int .i64 0, .int .i64 0, .int .i64 0, .int .i64 0, .int .i64 0]) rfl rfl ?_
      exact ⟨rfl, b9.grown (ms_grown _ (B + 1) #[.int .i64 0, .int .i64 0, .int .i64 0, .int .i64 0, .int .i64 0]) hB9 (fun k hk => by cases hk; omega)⟩
    | true =>
      have hx := HX.out
      rw [HXK.out (HF.out.1 hk)] at hx
      subst hx
      clear HX HF HXO HXK HOK hk
      go_wp2_with (first | (refine ms_load rfl (.tmp 5) rfl rfl e9 rfl ?_) | (refine ms_store rfl (.tmp 10) (.tmp 85) rfl rfl [.int .i64 (pk + n0), .int .i64 (bt + bm), .int .i64 (ca + bytes), .int .i64 (md + mn), .int .i64 pt] rfl y9 rfl rfl rfl ?_))
      refine ms_end3 (by rfl) (by rfl) (by rfl) (by rfl) (ms_put y9 [.int .i64 (pk + n0), .int .i64 (bt + bm), .int .i64 (ca + bytes), .int .i64 (md + mn), .int .i64 pt]) rfl rfl ?_
      exact ⟨rfl, b9.grown (ms_grown _ (B + 1) #[.int .i64 (pk + n0), .int .i64 (bt + bm), .int .i64 (ca + bytes), .int .i64 (md + mn), .int .i64 pt]) hB9 (fun k hk => by cases hk; omega)⟩
end Go.Proofs.Ytkgbbmjobjcepaa
