/- The reference of package marks: Round as a contract of the call. -/
import Derived.Test.YtkgbbmjobjcepaaMsRef2
import Derived.WalkKit
import Derived.WalkSpells
import Derived.WalkSmall
import Derived.Lib.Hide
import Derived.Below
import Derived.Outline
namespace Go.Proofs.Ytkgbbmjobjcepaa
open Go.RowKit
set_option linter.unusedVariables false
set_option linter.unusedSimpArgs false

theorem round_md {m : Ms} (h : MsOk m) (hc : 0 < m.ca) : tell (1024 * m.md / m.ca) (mdOk 1024 m.md m.ca) = 1024 * m.md / m.ca := by
  have hq := quo_bd h hc
  have h0 := h.m0; have h1 := h.m1; have h2 := h.c1
  have ho : mdOk 1024 m.md m.ca = true := by
    unfold mdOk
    rw [(inB_iff 1024).2 (by omega), (inB_iff m.md).2 (by omega), (inB_iff m.ca).2 (by omega), (inB_iff (1024 * m.md / m.ca)).2 (by omega), decide_eq_true (by omega : 1 ≤ m.ca)]
    rfl
  rw [ho]; rfl
theorem round_ew {p q : Int} (h0 : 0 ≤ p) (h1 : p ≤ 1024) (h2 : 0 ≤ q) (h3 : q ≤ 1024) : tell (ewR p q 4) (ewOk p q 4) = p + (q - p) / 16 := by
  have he : ewR p q 4 = p + (q - p) / 16 := rfl
  have ho : ewOk p q 4 = true := by
    unfold ewOk
    have e : p + (q - p) / 2 ^ (4 : Int).toNat = p + (q - p) / 16 := rfl
    rw [(inB_iff p).2 (by omega), (inB_iff q).2 (by omega), (inB_iff (q - p)).2 (by omega)]
    simp
  rw [ho, he]; rfl

set_option maxRecDepth 100000 in
set_option maxHeartbeats 8000000 in
theorem rmsround_any (pk bt ca md pt : Int) (w : World) :
    Calls Try.prog 12 #[.agg #[.int .i64 pk, .int .i64 bt, .int .i64 ca, .int .i64 md, .int .i64 pt]] w fun e w' => TellN w w' e (roundR ⟨pk, bt, ca, md, pt⟩) := by
  unfold TellN
  obtain ⟨B, hB⟩ : ∃ B, w.heap.size = B := ⟨_, rfl⟩
  rw [hB]
  have e0 := (Bx.new w 23 [.int .i64 pk, .int .i64 bt, .int .i64 ca, .int .i64 md, .int .i64 pt]).alloc (.cells #[.int .i64 0, .int .i64 0, .int .i64 0, .int .i64 0, .int .i64 0] 23)
  have y0 := Bx.new (w.alloc (.cells #[.int .i64 pk, .int .i64 bt, .int .i64 ca, .int .i64 md, .int .i64 pt] 23)) 23 [.int .i64 0, .int .i64 0, .int .i64 0, .int .i64 0, .int .i64 0]
  rw [World.size_alloc] at y0
  rw [hB] at e0 y0
  have b0 : Below B w ((w.alloc (.cells #[.int .i64 pk, .int .i64 bt, .int .i64 ca, .int .i64 md, .int .i64 pt] 23)).alloc (.cells #[.int .i64 0, .int .i64 0, .int .i64 0, .int .i64 0, .int .i64 0] 23)) := by rw [← hB]; exact ((Below.refl _ _).alloc (Nat.le_refl _) _).alloc (by simp) _
  obtain ⟨x, hx⟩ : ∃ x, roundR ⟨pk, bt, ca, md, pt⟩ = x := ⟨_, rfl⟩
  rw [hx]
  have HX := Lib.hid hx; clear hx
  go_enter Try.func12, Try.ntmps12
  go_wp2_with (refine ms_load rfl (.tmp 1) rfl rfl e0 rfl ?_)
  generalize (w.alloc (.cells #[.int .i64 pk, .int .i64 bt, .int .i64 ca, .int .i64 md, .int .i64 pt] 23)).alloc (.cells #[.int .i64 0, .int .i64 0, .int .i64 0, .int .i64 0, .int .i64 0] 23) = w1 at e0 y0 b0 ⊢
  refine (rmsmay_any pk bt ca md pt _).mono ?_
  rintro e w2 ⟨rfl, hb2⟩
  have e2 := e0.kept hb2; have y2 := y0.kept hb2; have b2 := b0.trans (hb2.mono (Nat.le_of_lt e0.lt))
  have hBs : B ≤ w2.heap.size := Nat.le_of_lt e2.lt
  clear e0 y0 b0 hb2
  cases hk : mmay ⟨pk, bt, ca, md, pt⟩ with
  | false =>
    have hx := HX.out
    unfold roundR at hx
    rw [if_neg (by rw [hk]; simp)] at hx
    subst hx
    clear HX hk
    go_wp2_with (refine ms_store rfl (.tmp 2) (.tmp 12) rfl rfl [.int .i64 0, .int .i64 0, .int .i64 0, .int .i64 0, .int .i64 0] rfl y2 rfl rfl rfl ?_)
    refine ms_end2 (by rfl) (by rfl) (by rfl) (ms_put y2 [.int .i64 0, .int .i64 0, .int .i64 0, .int .i64 0, .int .i64 0]) rfl rfl ?_
    exact ⟨rfl, b2.grown (ms_grown _ (B + 1) #[.int .i64 0, .int .i64 0, .int .i64 0, .int .i64 0, .int .i64 0]) hBs (fun k hk => by cases hk; omega)⟩
  | true =>
  have hv := (mmay_iff _).1 hk
  have hx := HX.out
  unfold roundR at hx
  rw [if_pos hk] at hx
  have hpb := part_bd hv
  have c0 : 0 ≤ ca := hv.c0
  have t0 : 0 ≤ pt := hv.t0; have t1 : pt ≤ 1024 := hv.t1
  have x0 := e2.cell 0 rfl; have x1 := e2.cell 1 rfl; have x2 := e2.cell 2 rfl; have x3 := e2.cell 3 rfl; have x4 := e2.cell 4 rfl
  by_cases hc : 0 < ca
  · have dc : decide (0 < ca) = true := decide_eq_true hc
    have hmd := round_md hv hc
    have hqb := quo_bd hv hc
    dsimp only at hmd hqb
    obtain ⟨q, hq⟩ : ∃ q, 1024 * md / ca = q := ⟨_, rfl⟩
    have hpe : partR ⟨pk, bt, ca, md, pt⟩ = pt + (q - pt) / 16 := by unfold partR; rw [if_pos hc]; dsimp only; rw [hq]
    rw [hpe] at hx
    rw [hq] at hmd hqb
    obtain ⟨q0, q1⟩ := hqb
    have hew := round_ew t0 t1 q0 q1
    obtain ⟨r, hr⟩ : ∃ r, pt + (q - pt) / 16 = r := ⟨_, rfl⟩
    rw [hr] at hx hew
    subst hx
    have HMD := Lib.hid hmd; have HEW := Lib.hid hew; have HQ := Lib.hid hq
    clear HX hk hv hmd hew hpe hr hpb hq
    go_wp2_with fail
    refine (rmd_any 1024 md ca _).mono ?_
    rintro e w3 ⟨rfl, rfl⟩
    rw [HQ.out, HMD.out]
    go_wp2_with fail
    refine (rewma_any pt q 4 _).mono ?_
    rintro e w4 ⟨rfl, rfl⟩
    rw [HEW.out]
    go_wp2_with (refine ms_store rfl (.tmp 2) (.tmp 38) rfl rfl [.int .i64 pk, .int .i64 bt, .int .i64 0, .int .i64 0, .int .i64 r] rfl y2 rfl rfl rfl ?_)
    refine ms_end2 (by rfl) (by rfl) (by rfl) (ms_put y2 [.int .i64 pk, .int .i64 bt, .int .i64 0, .int .i64 0, .int .i64 r]) rfl rfl ?_
    exact ⟨rfl, b2.grown (ms_grown _ (B + 1) #[.int .i64 pk, .int .i64 bt, .int .i64 0, .int .i64 0, .int .i64 r]) hBs (fun k hk => by cases hk; omega)⟩
  · have dc : decide (0 < ca) = false := decide_eq_false hc
    have hpe : partR ⟨pk, bt, ca, md, pt⟩ = pt := by unfold partR; rw [if_neg hc]
    rw [hpe] at hx
    subst hx
    clear HX hk hv hpe hpb
    go_wp2_with (refine ms_store rfl (.tmp 2) (.tmp 38) rfl rfl [.int .i64 pk, .int .i64 bt, .int .i64 0, .int .i64 0, .int .i64 pt] rfl y2 rfl rfl rfl ?_)
    refine ms_end2 (by rfl) (by rfl) (by rfl) (ms_put y2 [.int .i64 pk, .int .i64 bt, .int .i64 0, .int .i64 0, .int .i64 pt]) rfl rfl ?_
    exact ⟨rfl, b2.grown (ms_grown _ (B + 1) #[.int .i64 pk, .int .i64 bt, .int .i64 0, .int .i64 0, .int .i64 pt]) hBs (fun k hk => by cases hk; omega)⟩
end Go.Proofs.Ytkgbbmjobjcepaa
