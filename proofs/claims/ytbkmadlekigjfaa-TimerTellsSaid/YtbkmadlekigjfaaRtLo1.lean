/- Package rtt as landed: the nearest valid estimate, and May, as contracts of the calls. -/
import Derived.Test.YtbkmadlekigjfaaRtRef3
import Derived.Test.YtbkmadlekigjfaaMore
import Derived.Test.YtbkmadlekigjfaaTail
import Derived.OrdersHeld
import Derived.Deep.DeepCutAuto
import Derived.WalkKit
import Derived.WalkSpells
import Derived.WalkSmall
import Derived.Lib.Hide
import Derived.Below
import Derived.Outline
namespace Go.Proofs.Ytbkmadlekigjfaa
open Go.RowKit
set_option linter.unusedVariables false
set_option linter.unusedSimpArgs false

theorem cl_any (n low high : Int) (w : World) :
    Calls Try.prog 28 #[.int .i64 n, .int .i64 low, .int .i64 high] w fun e w' => e = .returned (.int .i64 (clI n low high)) ∧ w = w' := clamp_any n low high w

/-- a box alone: what the call hands back -/
theorem rt_end1 {W : World} {B : Nat} {t : TypeId} {cs : List Value} {fn : Func} {tmps : Array Value} {R : Ending → World → Prop} {ds : List Deferred} {p : Tmp} (hr : fn.results = #[.cell p 23]) (h2 : tmps.getD p undef = .pointer (some ⟨B, 0, none⟩))
    (e : Bx W B t cs) (hl : cs.length = 5) (hd : ds = []) (h : R (.returned (.agg cs.toArray)) W) : bodyPost Try.prog fn R .ret { tmps := tmps, defers := ds } W := by
  have l2 := rt_var e hl
  have h2a : tmps[p]?.getD undef = .pointer (some ⟨B, 0, none⟩) := by simpa using h2
  refine bodyPost_ret (v := .agg cs.toArray) ?_ hd h
  simp [results, hr, h2a, asAddr, l2]
theorem two_new (W : World) (o : Obj) (t : TypeId) (cs : List Value) : Bx ((W.alloc o).alloc (.cells cs.toArray t)) (W.heap.size + 1) t cs := by
  have := Bx.new (W.alloc o) t cs
  have hsz : (W.alloc o).heap.size = W.heap.size + 1 := by simp
  rw [hsz] at this; exact this
theorem two_below (W : World) (o o' : Obj) : Below W.heap.size W ((W.alloc o).alloc o') := ((Below.refl _ _).alloc (Nat.le_refl _) _).alloc (by simp) _

/-- a whole estimate is loaded, in a region that draws its order -/
theorem rt_yields {ops : Array Oper} {S : World → Prop} {op : Oper} {a : Act} {B : Nat} (hw : Region.wanted op (yielded ops a.tmps) = true) (x : Operand) (ho : op.op = .load 23 x)
    (hx : a.eval x = .pointer (some ⟨B, 0, none⟩)) (cs : List Value) (hl : cs.length = 5) (t : TypeId) (hS : ∀ W, S W → Bx W B t cs) : YieldsIf Try.prog ops S op (.agg cs.toArray) a := by
  obtain ⟨fs, hu⟩ := rtt_struct
  exact .inl ⟨hw, fun w hw' => by
    unfold execOp
    simp only [ho, hx, Instr.loadAt, Instr.sureAddr, Sem.run_bind, Sem.run_pure, Result.andThen_ok, run_loadVar_row w B t 23 cs.toArray (0, 0) _ (hS w hw') hu rfl (by rw [info_rtt]; simp [hl])]⟩

def known (has : Bool) : Int := if has = true then 1152921504606846976 else 0

set_option maxRecDepth 100000 in
set_option maxHeartbeats 2000000 in
theorem near_any (has : Bool) (srtt vr rto shift : Int) (w : World) :
    Calls Try.prog 25 #[.agg #[.bool has, .int .i64 srtt, .int .i64 vr, .int .i64 rto, .int .i64 shift]] w fun e w' => e = .returned (.agg #[.bool has, .int .i64 (clI srtt 0 (known has)), .int .i64 (clI vr 0 (known has)), .int .i64 (clI rto 0 1152921504606846976), .int .i64 (clI shift 0 16)]) ∧ Below w.heap.size w w' := by
  cases has with
  | true =>
    have hk : known true = 1152921504606846976 := rfl
    rw [hk]
    clear hk
    go_enter Try.func25, Try.ntmps25
    go_wp2_with (go_at_call 28; refine (cl_any _ _ _ _).mono ?_; rintro e w1 ⟨rfl, rfl⟩)
    exact rt_end1 (by rfl) (by rfl) (two_new w _ _ [.bool true, .int .i64 (clI srtt 0 1152921504606846976), .int .i64 (clI vr 0 1152921504606846976), .int .i64 (clI rto 0 1152921504606846976), .int .i64 (clI shift 0 16)]) rfl rfl ⟨rfl, two_below _ _ _⟩
  | false =>
    have hk : known false = 0 := rfl
    rw [hk]
    clear hk
    go_enter Try.func25, Try.ntmps25
    go_wp2_with (go_at_call 28; refine (cl_any _ _ _ _).mono ?_; rintro e w1 ⟨rfl, rfl⟩)
    exact rt_end1 (by rfl) (by rfl) (two_new w _ _ [.bool false, .int .i64 (clI srtt 0 0), .int .i64 (clI vr 0 0), .int .i64 (clI rto 0 1152921504606846976), .int .i64 (clI shift 0 16)]) rfl rfl ⟨rfl, two_below _ _ _⟩

theorem cl_id (n low high : Int) (h : low ≤ high) : n = clI n low high ↔ low ≤ n ∧ n ≤ high := by
  unfold clI
  by_cases a : n < low ∨ high < low
  · rw [if_pos a]; omega
  · rw [if_neg a]; split <;> omega
theorem near_iff (has : Bool) (srtt vr rto shift : Int) : rtB ⟨has, srtt, vr, rto, shift⟩ = true ↔ srtt = clI srtt 0 (known has) ∧ vr = clI vr 0 (known has) ∧ rto = clI rto 0 1152921504606846976 ∧ shift = clI shift 0 16 := by
  have k0 : 0 ≤ known has := by unfold known; split <;> omega
  rw [cl_id _ _ _ k0, cl_id _ _ _ k0, cl_id _ _ _ (by decide), cl_id _ _ _ (by decide), rtB_iff]
  constructor
  · intro ⟨a, b, c, d, e, f, g, h, i⟩
    dsimp only at *
    unfold known
    cases has with
    | true => rw [if_pos rfl]; omega
    | false => rw [if_neg (by decide)]; simp at i; omega
  · intro ⟨⟨a, b⟩, ⟨c, d⟩, ⟨e, f⟩, g, h⟩
    unfold known at b d
    cases has with
    | true => rw [if_pos rfl] at b d; exact ⟨a, b, c, d, e, f, g, h, Or.inl rfl⟩
    | false => rw [if_neg (by decide)] at b d; exact ⟨a, by dsimp only; omega, c, by dsimp only; omega, e, f, g, h, Or.inr ⟨by dsimp only; omega, by dsimp only; omega⟩⟩

set_option maxRecDepth 100000 in
set_option maxHeartbeats 2000000 in
theorem rtmay_any (has : Bool) (srtt vr rto shift : Int) (w : World) :
    Calls Try.prog 17 #[.agg #[.bool has, .int .i64 srtt, .int .i64 vr, .int .i64 rto, .int .i64 shift]] w fun e w' => e = .returned (.bool (rtB ⟨has, srtt, vr, rto, shift⟩)) ∧ Below w.heap.size w w' := by
  obtain ⟨B, hB⟩ : ∃ B, w.heap.size = B := ⟨_, rfl⟩
  rw [hB]
  have e0 : Bx (w.alloc (.cells #[.bool has, .int .i64 srtt, .int .i64 vr, .int .i64 rto, .int .i64 shift] 23)) B 23 [.bool has, .int .i64 srtt, .int .i64 vr, .int .i64 rto, .int .i64 shift] := by rw [← hB]; exact Bx.new w _ _
  have b0 : Below B w (w.alloc (.cells #[.bool has, .int .i64 srtt, .int .i64 vr, .int .i64 rto, .int .i64 shift] 23)) := (Below.refl _ _).alloc (by omega) _
  obtain ⟨y1, H1⟩ : ∃ y, clI srtt 0 (known has) = y := ⟨_, rfl⟩
  obtain ⟨y2, H2⟩ : ∃ y, clI vr 0 (known has) = y := ⟨_, rfl⟩
  obtain ⟨y3, H3⟩ : ∃ y, clI rto 0 1152921504606846976 = y := ⟨_, rfl⟩
  obtain ⟨y4, H4⟩ : ∃ y, clI shift 0 16 = y := ⟨_, rfl⟩
  have hq := near_iff has srtt vr rto shift
  rw [H1, H2, H3, H4] at hq
  obtain ⟨q, hq2⟩ : ∃ q, rtB ⟨has, srtt, vr, rto, shift⟩ = q := ⟨_, rfl⟩
  rw [hq2] at hq ⊢
  have HQ := Lib.hid hq; clear hq hq2
  go_enter Try.func17, Try.ntmps17
  go_upto_region 1 with fail
  refine wp_region_tail 3 5 (fun (W : World) => Bx W B 23 [.bool has, .int .i64 srtt, .int .i64 vr, .int .i64 rto, .int .i64 shift] ∧ Below B w W) (by kernel_rfl) (by rfl) (by decide) ?_
  have HS : ((fun (W : World) => Bx W B 23 [.bool has, .int .i64 srtt, .int .i64 vr, .int .i64 rto, .int .i64 shift] ∧ Below B w W)) _ := ⟨e0.drew, b0.drew⟩
  refine wpAnyT_take (i := 0) (v := .agg #[.bool has, .int .i64 srtt, .int .i64 vr, .int .i64 rto, .int .i64 shift]) rfl (by kernel_rfl) (fun _ _ _ h => h) (rt_yields (by rfl) (.tmp 1) rfl rfl [.bool has, .int .i64 srtt, .int .i64 vr, .int .i64 rto, .int .i64 shift] rfl 23 (fun W hW => hW.1)) HS ?_
  try simp only [Act.put, List.setIfInBounds_toArray, List.set_cons_zero, List.set_cons_succ]
  refine wpAnyT_take (i := 1) (v := .agg #[.bool has, .int .i64 srtt, .int .i64 vr, .int .i64 rto, .int .i64 shift]) rfl (by kernel_rfl) (fun _ _ _ h => h) (rt_yields (by rfl) (.tmp 1) rfl rfl [.bool has, .int .i64 srtt, .int .i64 vr, .int .i64 rto, .int .i64 shift] rfl 23 (fun W hW => hW.1)) HS ?_
  try simp only [Act.put, List.setIfInBounds_toArray, List.set_cons_zero, List.set_cons_succ]
  refine wpAnyT_one (k := 2) rfl (by kernel_rfl) (by decide) (fun K hK => ?_)
  go_simp
  refine (near_any has srtt vr rto shift _).mono ?_
  rintro e w2 ⟨rfl, hb2⟩
  rw [H1, H2, H3, H4]
  have HS : (fun (W : World) => Bx W B 23 [.bool has, .int .i64 srtt, .int .i64 vr, .int .i64 rto, .int .i64 shift] ∧ Below B w W) _ := ⟨(e0.drew).kept hb2, b0.drew.trans (hb2.mono (Nat.le_of_lt e0.drew.lt))⟩
  refine hK _ _ HS ?_
  clear hK K
  try simp only [Act.put, List.setIfInBounds_toArray, List.set_cons_zero, List.set_cons_succ]
  refine ⟨by kernel_rfl, ?_⟩
  simp only [List.drop_succ_cons, List.drop_zero]
  have K1 := Lib.hid H1; have K2 := Lib.hid H2; have K3 := Lib.hid H3; have K4 := Lib.hid H4; clear H1 H2 H3 H4
  go_wp2_with fail
  all_goals (go_ret; refine ⟨?_, HS.2⟩; have hq := HQ.out; cases q <;> simp_all)
end Go.Proofs.Ytbkmadlekigjfaa
