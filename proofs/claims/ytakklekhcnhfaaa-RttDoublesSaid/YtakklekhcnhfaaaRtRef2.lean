/- The reference of package rtt: Double, Wait, Sample as contracts of the calls. -/
import Derived.Test.YtakklekhcnhfaaaRtRef1
import Derived.Test.YtakklekhcnhfaaaRew
import Derived.WalkKit
import Derived.WalkSpells
import Derived.WalkSmall
import Derived.Lib.Hide
import Derived.Below
import Derived.Outline
import Derived.Laws.Tables
import Derived.Laws.Rows
namespace Go.Proofs.Ytakklekhcnhfaaa
open Go.RowKit
set_option linter.unusedVariables false
set_option linter.unusedSimpArgs false

theorem info_rtt : (Try.prog.info? 23).map (·.size) = some 5 := by kernel_rfl
theorem rtt_struct : ∃ fs, Try.prog.underlying 23 = some (.struct fs) := ⟨_, Try.underlying23⟩
section
variable {W : World} {B : Nat} {t : TypeId} {cs : List Value}
theorem rt_put (h : Bx W B t cs) (vs : List Value) : Bx (W.setRow B vs.toArray) B t vs := setRow_heap W B _ vs.toArray t (0, 0) h
theorem rt_grown (W : World) (B : Nat) (vs : Array Value) : W.grownBy (W.setRow B vs) (some B) :=
  ⟨rfl, rfl, rfl, by simp [World.setRow], fun i _ hne => setRow_other W B i vs (fun e => hne (by rw [e]))⟩
/-- a whole estimate is loaded, in a plain region -/
theorem rt_load {ops : Array Oper} {rest : List Oper} {o : Oper} {a : Act} {Q : Exit → Act → World → Prop} (hgd : o.guard = none) (x : Operand) (ho : o.op = .load 23 x) (hx : a.eval x = .pointer (some ⟨B, 0, none⟩))
    (h : Bx W B t cs) (hl : cs.length = 5) (k : wpList Try.prog ops Q rest (a.put o.dst (.agg cs.toArray)) W) : wpList Try.prog ops Q (o :: rest) a W := by
  obtain ⟨fs, hu⟩ := rtt_struct
  exact wpList_load_row hgd _ x ho B hx t cs.toArray (0, 0) _ h hu rfl (by rw [info_rtt]; simp [hl]) k
/-- a whole estimate is stored -/
theorem rt_store {ops : Array Oper} {rest : List Oper} {o : Oper} {a : Act} {Q : Exit → Act → World → Prop} (hgd : o.guard = none) (x y : Operand) (ho : o.op = .store 23 x y) (hx : a.eval x = .pointer (some ⟨B, 0, none⟩))
    (vs : List Value) (hy : a.eval y = .agg vs.toArray) (h : Bx W B t cs) (hl : cs.length = 5) (hv : vs.length = 5) (h1 : vs.all (·.oneCell') = true) (k : wpList Try.prog ops Q rest (a.put o.dst undef) (W.setRow B vs.toArray)) : wpList Try.prog ops Q (o :: rest) a W :=
  wpList_store_row hgd _ x y ho B vs.toArray hx hy t cs.toArray h (by rw [info_rtt]; simp [hv]) (by simp [hl, hv]) (by simpa using h1) k
theorem rt_var (h : Bx W B t cs) (hl : cs.length = 5) : (Go.loadVar 23 ⟨B, 0, none⟩).run Try.prog W = .ok (.agg cs.toArray) W := by
  obtain ⟨fs, hu⟩ := rtt_struct
  exact run_loadVar_row W B t 23 cs.toArray (0, 0) _ h hu rfl (by rw [info_rtt]; simp [hl])
/-- a box, and a number: what the call hands back -/
theorem rt_end {fn : Func} {tmps : Array Value} {R : Ending → World → Prop} {v : Value} {ds : List Deferred} {p q : Tmp} (hr : fn.results = #[.cell p 23, .tmp q]) (h2 : tmps.getD p undef = .pointer (some ⟨B, 0, none⟩)) (h3 : tmps.getD q undef = v)
    (e : Bx W B t cs) (hl : cs.length = 5) (hd : ds = []) (h : R (.returned (.tuple #[.agg cs.toArray, v])) W) : bodyPost Try.prog fn R .ret { tmps := tmps, defers := ds } W := by
  have l2 := rt_var e hl
  have h2a : tmps[p]?.getD undef = .pointer (some ⟨B, 0, none⟩) := by simpa using h2
  have h2b : tmps[q]?.getD undef = v := by simpa using h3
  refine bodyPost_ret (v := .tuple #[.agg cs.toArray, v]) ?_ hd h
  simp [results, hr, h2a, h2b, asAddr, l2]
end

/-- an estimate and an error -/
def TellE (w w' : World) (e : Ending) (x : Rt × Int) : Prop := e = .returned (.tuple #[.agg #[.bool x.1.has, .int .i64 x.1.srtt, .int .i64 x.1.vr, .int .i64 x.1.rto, .int .i64 x.1.shift], .int .i64 x.2]) ∧ Below w.heap.size w w'


set_option maxRecDepth 100000 in
set_option maxHeartbeats 4000000 in
theorem rrdouble_any (has : Bool) (srtt vr rto shift : Int) (w : World) :
    Calls Try.prog 13 #[.agg #[.bool has, .int .i64 srtt, .int .i64 vr, .int .i64 rto, .int .i64 shift]] w fun e w' => TellE w w' e (dbl ⟨has, srtt, vr, rto, shift⟩) := by
  unfold TellE
  obtain ⟨B, hB⟩ : ∃ B, w.heap.size = B := ⟨_, rfl⟩
  rw [hB]
  have e0 := Bx.new w 23 [.bool has, .int .i64 srtt, .int .i64 vr, .int .i64 rto, .int .i64 shift]
  have e1 := e0.alloc (.cells #[.bool false, .int .i64 0, .int .i64 0, .int .i64 0, .int .i64 0] 23)
  have y1 : Bx ((w.alloc (.cells #[.bool has, .int .i64 srtt, .int .i64 vr, .int .i64 rto, .int .i64 shift] 23)).alloc (.cells #[.bool false, .int .i64 0, .int .i64 0, .int .i64 0, .int .i64 0] 23)) (B + 1) 23 [.bool false, .int .i64 0, .int .i64 0, .int .i64 0, .int .i64 0] := by
    have := Bx.new (w.alloc (.cells #[.bool has, .int .i64 srtt, .int .i64 vr, .int .i64 rto, .int .i64 shift] 23)) 23 [.bool false, .int .i64 0, .int .i64 0, .int .i64 0, .int .i64 0]
    have hsz : (w.alloc (.cells #[.bool has, .int .i64 srtt, .int .i64 vr, .int .i64 rto, .int .i64 shift] 23)).heap.size = B + 1 := by simp [hB]
    rw [hsz] at this; exact this
  rw [hB] at e1
  have b1 : Below B w ((w.alloc (.cells #[.bool has, .int .i64 srtt, .int .i64 vr, .int .i64 rto, .int .i64 shift] 23)).alloc (.cells #[.bool false, .int .i64 0, .int .i64 0, .int .i64 0, .int .i64 0] 23)) := ((Below.refl _ _).alloc (by omega) _).alloc (by simp; omega) _
  have x0 := e1.cell 0 rfl; have x1 := e1.cell 1 rfl; have x2 := e1.cell 2 rfl; have x3 := e1.cell 3 rfl; have x4 := e1.cell 4 rfl
  clear e0
  go_enter Try.func13, Try.ntmps13
  go_wp2_with fail
  obtain ⟨w1, hw1⟩ : ∃ w1, (w.alloc (.cells #[.bool has, .int .i64 srtt, .int .i64 vr, .int .i64 rto, .int .i64 shift] 23)).alloc (.cells #[.bool false, .int .i64 0, .int .i64 0, .int .i64 0, .int .i64 0] 23) = w1 := ⟨_, rfl⟩
  rw [hw1] at e1 y1 b1 ⊢
  clear hw1 x0 x1 x2 x3 x4
  refine (rrmay_any has srtt vr rto shift _).mono ?_
  rintro e w2 ⟨he, hb2⟩
  have e2 := e1.kept hb2; have y2 := y1.kept hb2; have b2 := b1.trans (hb2.mono (Nat.le_of_lt e1.lt))
  have x0 := e2.cell 0 rfl; have x1 := e2.cell 1 rfl; have x2 := e2.cell 2 rfl; have x3 := e2.cell 3 rfl; have x4 := e2.cell 4 rfl
  have z0 := y2.cell 0 rfl; have z1 := y2.cell 1 rfl; have z2 := y2.cell 2 rfl; have z3 := y2.cell 3 rfl; have z4 := y2.cell 4 rfl
  have f0 := y2.free 0; have f1 := y2.free 1; have f2 := y2.free 2; have f3 := y2.free 3; have f4 := y2.free 4
  cases hk : rtB ⟨has, srtt, vr, rto, shift⟩ with
  | false =>
    rw [hk] at he; subst he
    have hx : dbl ⟨has, srtt, vr, rto, shift⟩ = (zrt, 1) := by unfold dbl; rw [if_neg (by rw [hk]; simp)]
    have HX := Lib.hid hx; clear hx
    go_wp2_with (refine rt_store rfl (.tmp 2) (.tmp 10) rfl rfl [.bool false, .int .i64 0, .int .i64 0, .int .i64 0, .int .i64 0] rfl y2 rfl rfl rfl ?_)
    refine rt_end (by rfl) (by rfl) (by rfl) (rt_put y2 [.bool false, .int .i64 0, .int .i64 0, .int .i64 0, .int .i64 0]) rfl rfl ?_
    rw [HX.out]
    exact ⟨rfl, b2.grown (rt_grown _ (B + 1) #[.bool false, .int .i64 0, .int .i64 0, .int .i64 0, .int .i64 0]) (Nat.le_of_lt e2.lt) (fun k hk => by cases hk; omega)⟩
  | true =>
    rw [hk] at he; subst he
    have hx : dbl ⟨has, srtt, vr, rto, shift⟩ = (⟨has, srtt, vr, rto, upS shift⟩, 0) := by unfold dbl; rw [if_pos hk]
    have hv := (rtB_iff _).1 hk
    have h0 : 0 ≤ shift := hv.h0
    have h1 : shift ≤ 16 := hv.h1
    have HX := Lib.hid hx; clear hx hk hv
    have hsz2 : B + 1 < w2.heap.size := y2.lt
    have hBs : B ≤ w2.heap.size := by omega
    have e3 := e2.alloc (.cells #[.bool has, .int .i64 srtt, .int .i64 vr, .int .i64 rto, .int .i64 shift] 23)
    have y3 := y2.alloc (.cells #[.bool has, .int .i64 srtt, .int .i64 vr, .int .i64 rto, .int .i64 shift] 23)
    have v3 := Bx.new w2 23 [.bool has, .int .i64 srtt, .int .i64 vr, .int .i64 rto, .int .i64 shift]
    have b3 := b2.alloc hBs (.cells #[.bool has, .int .i64 srtt, .int .i64 vr, .int .i64 rto, .int .i64 shift] 23)
    have k4 := e3.cell 4 rfl
    clear f0 f1 f2 f3 f4 z0 z1 z2 z3 z4 x0 x1 x2 x3 x4
    by_cases c : shift < 16
    · have hup : upS shift = shift + 1 := if_pos c
      rw [hup] at HX
      have g4 := v3.free 4; have q4 := v3.cell 4 rfl
      have v4 := Bx.new w2 23 [.bool has, .int .i64 srtt, .int .i64 vr, .int .i64 rto, .int .i64 (shift + 1)]
      have y4 := y2.alloc (.cells #[.bool has, .int .i64 srtt, .int .i64 vr, .int .i64 rto, .int .i64 (shift + 1)] 23)
      have b4 := b2.alloc hBs (.cells #[.bool has, .int .i64 srtt, .int .i64 vr, .int .i64 rto, .int .i64 (shift + 1)] 23)
      go_wp2_with (first | (refine rt_load rfl (.tmp 1) rfl rfl e2 rfl ?_) | (refine rt_load rfl (.tmp 5) rfl rfl v4 rfl ?_) | (refine rt_store rfl (.tmp 2) (.tmp 19) rfl rfl [.bool has, .int .i64 srtt, .int .i64 vr, .int .i64 rto, .int .i64 (shift + 1)] rfl y4 rfl rfl rfl ?_))
      refine rt_end (by rfl) (by rfl) (by rfl) (rt_put y4 [.bool has, .int .i64 srtt, .int .i64 vr, .int .i64 rto, .int .i64 (shift + 1)]) rfl rfl ?_
      rw [HX.out]
      exact ⟨rfl, b4.grown (rt_grown _ (B + 1) _) (by simp; omega) (fun k hk => by cases hk; omega)⟩
    · have hup : upS shift = shift := if_neg c
      rw [hup] at HX
      go_wp2_with (first | (refine rt_load rfl (.tmp 1) rfl rfl e2 rfl ?_) | (refine rt_load rfl (.tmp 5) rfl rfl v3 rfl ?_) | (refine rt_store rfl (.tmp 2) (.tmp 19) rfl rfl [.bool has, .int .i64 srtt, .int .i64 vr, .int .i64 rto, .int .i64 shift] rfl y3 rfl rfl rfl ?_))
      refine rt_end (by rfl) (by rfl) (by rfl) (rt_put y3 [.bool has, .int .i64 srtt, .int .i64 vr, .int .i64 rto, .int .i64 shift]) rfl rfl ?_
      rw [HX.out]
      exact ⟨rfl, b3.grown (rt_grown _ (B + 1) _) (by simp; omega) (fun k hk => by cases hk; omega)⟩
end Go.Proofs.Ytakklekhcnhfaaa
