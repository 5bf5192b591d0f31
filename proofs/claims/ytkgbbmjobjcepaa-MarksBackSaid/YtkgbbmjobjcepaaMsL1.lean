/- Package marks as landed: residues by a function value, acknowledged, likely, nearest, May, as contracts of the calls. -/
import Derived.Test.YtkgbbmjobjcepaaMsRef3
import Derived.Test.YtkgbbmjobjcepaaMore
import Derived.Test.YtkgbbmjobjcepaaTail
import Derived.WalkKit
import Derived.WalkSpells
import Derived.WalkSmall
import Derived.Lib.Hide
import Derived.Below
import Derived.Outline
import Derived.Deep.QuietTactic
import Derived.BigQuiet
import Derived.IntWalk
import Derived.OrdersHeld
import Derived.Deep.DeepCutAuto
namespace Go.Proofs.Ytkgbbmjobjcepaa
open Go.RowKit
set_option linter.unusedVariables false
set_option linter.unusedSimpArgs false

theorem res8_of (n : Int) : ((n.tmod 8 + 8).tmod 8 = n % 8) ∧ -8 < n.tmod 8 ∧ n.tmod 8 < 8 := by
  rcases Int.le_total 0 n with h | h
  · have a := Int.tmod_eq_emod_of_nonneg (b := 8) h
    rw [a, Int.tmod_eq_emod_of_nonneg (by omega)]
    omega
  · have a : n.tmod 8 = -((-n) % 8) := by
      have b := Int.neg_tmod (-n) 8
      rw [Int.neg_neg] at b
      rw [b, Int.tmod_eq_emod_of_nonneg (by omega)]
    rw [a, Int.tmod_eq_emod_of_nonneg (by omega)]
    omega

set_option maxRecDepth 100000 in
set_option maxHeartbeats 4000000 in
/-- the residue by 8, of a number of which it may be told -/
theorem res8_any (n : Int) (B : Nat) (w : World) (hx : w.cell? ⟨B, 0, none⟩ = some (.int .i64 8)) (h0 : -4611686018427387904 ≤ n) (h1 : n ≤ 4611686018427387904) :
    Calls Try.prog 26 #[.int .i64 n, .pointer (some ⟨B, 0, none⟩)] w fun e w' => e = .returned (.int .i64 (n % 8)) ∧ Below w.heap.size w w' := by
  obtain ⟨k1, k2, k3⟩ := res8_of n
  obtain ⟨q, hq⟩ : ∃ q, n % 8 = q := ⟨_, rfl⟩
  obtain ⟨r, hr⟩ : ∃ r, n.tmod 8 = r := ⟨_, rfl⟩
  rw [hq, hr] at k1
  rw [hr] at k2 k3
  rw [hq]
  have HQ := Lib.hid hq; clear hq
  go_enter Try.func26, Try.ntmps26
  go_upto_region 8 with fail
  go_quiet (fail)
  go_wp2_with fail
  go_ret
  exact ⟨rfl, below_drewN (Below.refl _ _) _⟩

theorem res24_of (n : Int) : ((n.tmod 16777216 + 16777216).tmod 16777216 = n % 16777216) ∧ -16777216 < n.tmod 16777216 ∧ n.tmod 16777216 < 16777216 := by
  rcases Int.le_total 0 n with h | h
  · have a := Int.tmod_eq_emod_of_nonneg (b := 16777216) h
    rw [a, Int.tmod_eq_emod_of_nonneg (by omega)]
    omega
  · have a : n.tmod 16777216 = -((-n) % 16777216) := by
      have b := Int.neg_tmod (-n) 16777216
      rw [Int.neg_neg] at b
      rw [b, Int.tmod_eq_emod_of_nonneg (by omega)]
    rw [a, Int.tmod_eq_emod_of_nonneg (by omega)]
    omega

set_option maxRecDepth 100000 in
set_option maxHeartbeats 4000000 in
/-- the residue by 16777216, of a number of which it may be told -/
theorem res24_any (n : Int) (B : Nat) (w : World) (hx : w.cell? ⟨B, 0, none⟩ = some (.int .i64 16777216)) (h0 : -4611686018427387904 ≤ n) (h1 : n ≤ 4611686018427387904) :
    Calls Try.prog 26 #[.int .i64 n, .pointer (some ⟨B, 0, none⟩)] w fun e w' => e = .returned (.int .i64 (n % 16777216)) ∧ Below w.heap.size w w' := by
  obtain ⟨k1, k2, k3⟩ := res24_of n
  obtain ⟨q, hq⟩ : ∃ q, n % 16777216 = q := ⟨_, rfl⟩
  obtain ⟨r, hr⟩ : ∃ r, n.tmod 16777216 = r := ⟨_, rfl⟩
  rw [hq, hr] at k1
  rw [hr] at k2 k3
  rw [hq]
  have HQ := Lib.hid hq; clear hq
  go_enter Try.func26, Try.ntmps26
  go_upto_region 8 with fail
  go_quiet (fail)
  go_wp2_with fail
  go_ret
  exact ⟨rfl, below_drewN (Below.refl _ _) _⟩

/-- the function value that tells the residue by m; it is bound to a block of its own -/
theorem modulo_any (m : Int) (w : World) :
    Calls Try.prog 18 #[.int .i64 m] w fun e w' => e = .returned (.func (.func 26) #[] #[.pointer (some ⟨w.heap.size, 0, none⟩)]) ∧ Bx w' w.heap.size 3 [.int .i64 m] ∧ Below w.heap.size w w' := by
  have hmf : ∀ (fn : Fn) (first cap : Array Value) (w : World), (Instr.makeFunc fn first cap).run Try.prog w = .ok (.func fn first cap) w := fun _ _ _ _ => rfl
  go_enter Try.func18, Try.ntmps18
  go_wp2
  go_ret
  exact ⟨rfl, Bx.new w 3 [.int .i64 m], (Below.refl _ _).alloc (Nat.le_refl _) _⟩

def ackB (n : Int) : Bool := decide (0 ≤ n) && decide (n ≤ 1099511627776)
theorem ack_any (x : Int) (w : World) :
    Calls Try.prog 17 #[.int .i64 x] w fun e w' => e = .returned (.bool (ackB x)) ∧ w = w' := by
  unfold ackB
  by_cases h1 : 0 ≤ x
  · by_cases h2 : x ≤ 1099511627776
    · rw [decide_eq_true h1, decide_eq_true h2]
      go_enter Try.func17, Try.ntmps17
      go_wp2
      go_ret
      exact ⟨rfl, rfl⟩
    · rw [decide_eq_true h1, decide_eq_false h2]
      go_enter Try.func17, Try.ntmps17
      go_wp2
      go_ret
      exact ⟨rfl, rfl⟩
  · rw [decide_eq_false h1]
    have h1' : x < 0 := by omega
    go_enter Try.func17, Try.ntmps17
    go_wp2
    go_ret
    exact ⟨rfl, rfl⟩

def likR (n p : Int) : Int := if 8 ≤ p then n + (p - n) / 8 * 8 else n
set_option maxRecDepth 100000 in
set_option maxHeartbeats 4000000 in
theorem likely_any (n p : Int) (w : World) (h0 : 0 ≤ n) (h1 : n ≤ 7) (h2 : 0 ≤ p) (h3 : p ≤ 1099511627776) :
    Calls Try.prog 19 #[.int .i64 n, .int .i64 p] w fun e w' => e = .returned (.int .i64 (likR n p)) ∧ Below w.heap.size w w' := by
  by_cases c : 8 ≤ p
  · have hr : likR n p = p - (p - n) % 8 := by unfold likR; rw [if_pos c]; omega
    obtain ⟨q, hq⟩ : ∃ q, (p - n) % 8 = q := ⟨_, rfl⟩
    have q0 : 0 ≤ q := by omega
    have q1 : q < 8 := by omega
    rw [hr, hq]
    have HQ := Lib.hid hq; clear hq hr
    have c' : ¬ (p < 8) := by omega
    have d : decide (p < 8) = false := decide_eq_false c'
    go_enter Try.func19, Try.ntmps19
    go_wp2_with (go_at_call 18; refine (modulo_any 8 _).mono ?_; rintro e w1 ⟨rfl, hx1, hb1⟩)
    refine (res8_any (p - n) _ _ (hx1.cell 0 rfl) (by omega) (by omega)).mono ?_
    rintro e w2 ⟨rfl, hb2⟩
    rw [HQ.out]
    go_wp2_with fail
    go_ret
    exact ⟨rfl, hb1.trans (hb2.mono (Nat.le_of_lt hx1.lt))⟩
  · have hr : likR n p = n := by unfold likR; rw [if_neg c]
    rw [hr]
    clear hr
    have c' : p < 8 := by omega
    have d : decide (p < 8) = true := decide_eq_true c'
    go_enter Try.func19, Try.ntmps19
    go_wp2_with fail
    go_ret
    exact ⟨rfl, Below.refl _ _⟩

/-- a number that is moved to the nearest one of a range -/
def clM (n low high : Int) : Int := if n < low ∨ high < low then low else if high < n then high else n
theorem cl_any (n low high : Int) (w : World) :
    Calls Try.prog 39 #[.int .i64 n, .int .i64 low, .int .i64 high] w fun e w' => e = .returned (.int .i64 (clM n low high)) ∧ w = w' := clamp_any n low high w
theorem clm_id (n low high : Int) (h : low ≤ high) : n = clM n low high ↔ low ≤ n ∧ n ≤ high := by
  unfold clM
  by_cases a : n < low ∨ high < low
  · rw [if_pos a]; omega
  · rw [if_neg a]; split <;> omega
theorem clm_ge (n low high : Int) (h : low ≤ high) : low ≤ clM n low high := by
  unfold clM
  by_cases a : n < low ∨ high < low
  · rw [if_pos a]; omega
  · rw [if_neg a]; split <;> omega
theorem two_new (W : World) (o : Obj) (t : TypeId) (cs : List Value) : Bx ((W.alloc o).alloc (.cells cs.toArray t)) (W.heap.size + 1) t cs := by
  have := Bx.new (W.alloc o) t cs
  have hsz : (W.alloc o).heap.size = W.heap.size + 1 := by simp
  rw [hsz] at this; exact this
theorem two_below (W : World) (o o' : Obj) : Below W.heap.size W ((W.alloc o).alloc o') := ((Below.refl _ _).alloc (Nat.le_refl _) _).alloc (by simp) _

set_option maxRecDepth 100000 in
set_option maxHeartbeats 4000000 in
theorem near_any (pk bt ca md pt : Int) (w : World) :
    Calls Try.prog 25 #[.agg #[.int .i64 pk, .int .i64 bt, .int .i64 ca, .int .i64 md, .int .i64 pt]] w fun e w' => e = .returned (.agg #[.int .i64 (clM pk 0 1152921504606846976), .int .i64 (clM bt 0 1152921504606846976), .int .i64 (clM ca 0 1152921504606846976), .int .i64 (clM md 0 (clM ca 0 1152921504606846976)), .int .i64 (clM pt 0 1024)]) ∧ Below w.heap.size w w' := by
  go_enter Try.func25, Try.ntmps25
  go_wp2_with (go_at_call 39; refine (cl_any _ _ _ _).mono ?_; rintro e w1 ⟨rfl, rfl⟩)
  exact ms_end1 (by rfl) (by rfl) (two_new w _ _ [.int .i64 (clM pk 0 1152921504606846976), .int .i64 (clM bt 0 1152921504606846976), .int .i64 (clM ca 0 1152921504606846976), .int .i64 (clM md 0 (clM ca 0 1152921504606846976)), .int .i64 (clM pt 0 1024)]) rfl rfl ⟨rfl, two_below _ _ _⟩

theorem near_iff (pk bt ca md pt : Int) : mmay ⟨pk, bt, ca, md, pt⟩ = true ↔ pk = clM pk 0 1152921504606846976 ∧ bt = clM bt 0 1152921504606846976 ∧ ca = clM ca 0 1152921504606846976 ∧ md = clM md 0 (clM ca 0 1152921504606846976) ∧ pt = clM pt 0 1024 := by
  rw [clm_id pk _ _ (by decide), clm_id bt _ _ (by decide), clm_id pt _ _ (by decide), clm_id md _ _ (clm_ge ca 0 _ (by decide)), mmay_iff]
  constructor
  · intro ⟨a, b, c, d, e, f, g, h, i, j⟩
    dsimp only at *
    have hc := (clm_id ca 0 1152921504606846976 (by decide)).2 ⟨e, f⟩
    exact ⟨⟨a, b⟩, ⟨c, d⟩, hc, ⟨g, by rw [← hc]; exact h⟩, i, j⟩
  · intro ⟨⟨a, b⟩, ⟨c, d⟩, hc, ⟨g, h⟩, i, j⟩
    have he := (clm_id ca 0 1152921504606846976 (by decide)).1 hc
    rw [← hc] at h
    exact ⟨a, b, c, d, he.1, he.2, g, h, i, j⟩

set_option maxRecDepth 100000 in
set_option maxHeartbeats 4000000 in
theorem mkmay_any (pk bt ca md pt : Int) (w : World) :
    Calls Try.prog 15 #[.agg #[.int .i64 pk, .int .i64 bt, .int .i64 ca, .int .i64 md, .int .i64 pt]] w fun e w' => e = .returned (.bool (mmay ⟨pk, bt, ca, md, pt⟩)) ∧ Below w.heap.size w w' := by
  obtain ⟨B, hB⟩ : ∃ B, w.heap.size = B := ⟨_, rfl⟩
  rw [hB]
  have e0 : Bx (w.alloc (.cells #[.int .i64 pk, .int .i64 bt, .int .i64 ca, .int .i64 md, .int .i64 pt] 23)) B 23 [.int .i64 pk, .int .i64 bt, .int .i64 ca, .int .i64 md, .int .i64 pt] := by rw [← hB]; exact Bx.new w _ _
  have b0 : Below B w (w.alloc (.cells #[.int .i64 pk, .int .i64 bt, .int .i64 ca, .int .i64 md, .int .i64 pt] 23)) := (Below.refl _ _).alloc (by omega) _
  obtain ⟨y1, H1⟩ : ∃ y, clM pk 0 1152921504606846976 = y := ⟨_, rfl⟩
  obtain ⟨y2, H2⟩ : ∃ y, clM bt 0 1152921504606846976 = y := ⟨_, rfl⟩
  obtain ⟨y3, H3⟩ : ∃ y, clM ca 0 1152921504606846976 = y := ⟨_, rfl⟩
  obtain ⟨y4, H4⟩ : ∃ y, clM md 0 y3 = y := ⟨_, rfl⟩
  obtain ⟨y5, H5⟩ : ∃ y, clM pt 0 1024 = y := ⟨_, rfl⟩
  have hq := near_iff pk bt ca md pt
  rw [H1, H2, H3, H4, H5] at hq
  obtain ⟨q, hq2⟩ : ∃ q, mmay ⟨pk, bt, ca, md, pt⟩ = q := ⟨_, rfl⟩
  rw [hq2] at hq ⊢
  have HQ := Lib.hid hq; clear hq hq2
  go_enter Try.func15, Try.ntmps15
  go_upto_region 1 with fail
  refine wp_region_tail 3 5 (fun (W : World) => Bx W B 23 [.int .i64 pk, .int .i64 bt, .int .i64 ca, .int .i64 md, .int .i64 pt] ∧ Below B w W) (by kernel_rfl) (by rfl) (by decide) ?_
  have HS : ((fun (W : World) => Bx W B 23 [.int .i64 pk, .int .i64 bt, .int .i64 ca, .int .i64 md, .int .i64 pt] ∧ Below B w W)) _ := ⟨e0.drew, b0.drew⟩
  refine wpAnyT_take (i := 0) (v := .agg #[.int .i64 pk, .int .i64 bt, .int .i64 ca, .int .i64 md, .int .i64 pt]) rfl (by kernel_rfl) (fun _ _ _ h => h) (ms_yields (by rfl) (.tmp 1) rfl rfl [.int .i64 pk, .int .i64 bt, .int .i64 ca, .int .i64 md, .int .i64 pt] rfl 23 (fun W hW => hW.1)) HS ?_
  try simp only [Act.put, List.setIfInBounds_toArray, List.set_cons_zero, List.set_cons_succ]
  refine wpAnyT_take (i := 1) (v := .agg #[.int .i64 pk, .int .i64 bt, .int .i64 ca, .int .i64 md, .int .i64 pt]) rfl (by kernel_rfl) (fun _ _ _ h => h) (ms_yields (by rfl) (.tmp 1) rfl rfl [.int .i64 pk, .int .i64 bt, .int .i64 ca, .int .i64 md, .int .i64 pt] rfl 23 (fun W hW => hW.1)) HS ?_
  try simp only [Act.put, List.setIfInBounds_toArray, List.set_cons_zero, List.set_cons_succ]
  refine wpAnyT_one (k := 2) rfl (by kernel_rfl) (by decide) (fun K hK => ?_)
  go_simp
  refine (near_any pk bt ca md pt _).mono ?_
  rintro e w2 ⟨rfl, hb2⟩
  rw [H1, H2, H3, H4, H5]
  have HS : (fun (W : World) => Bx W B 23 [.int .i64 pk, .int .i64 bt, .int .i64 ca, .int .i64 md, .int .i64 pt] ∧ Below B w W) _ := ⟨(e0.drew).kept hb2, b0.drew.trans (hb2.mono (Nat.le_of_lt e0.drew.lt))⟩
  refine hK _ _ HS ?_
  clear hK K
  try simp only [Act.put, List.setIfInBounds_toArray, List.set_cons_zero, List.set_cons_succ]
  refine ⟨by kernel_rfl, ?_⟩
  simp only [List.drop_succ_cons, List.drop_zero]
  have K1 := Lib.hid H1; have K2 := Lib.hid H2; have K3 := Lib.hid H3; have K4 := Lib.hid H4; have K5 := Lib.hid H5; clear H1 H2 H3 H4 H5
  go_wp2_with fail
  all_goals (go_ret; refine ⟨?_, HS.2⟩; have hq := HQ.out; cases q <;> simp_all)
end Go.Proofs.Ytkgbbmjobjcepaa
