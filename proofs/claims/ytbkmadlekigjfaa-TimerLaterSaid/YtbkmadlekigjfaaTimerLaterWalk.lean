/- TimerLater: the walk. -/
import Derived.Test.YtbkmadlekigjfaaProg
import Derived.Test.YtbkmadlekigjfaaTmAwake
import Derived.Test.YtbkmadlekigjfaaTmMath
import Derived.Deep.AppendLies
import Derived.Deep.LoopGhost
import Derived.WalkKit
import Derived.WalkSpells
import Derived.WalkSmall
import Derived.Lib.Hide
import Derived.Below
import Derived.Outline
import Derived.Deep.QuietTactic
import Derived.BigQuiet
import Derived.IntWalk
import Derived.Deep.DeepCutAuto
import Derived.OrdersHeld
import Derived.StillTail
import Derived.Test.YtbkmadlekigjfaaTail
import Derived.Laws.Rows
import Derived.Laws.Tables
namespace Go.Proofs.Ytbkmadlekigjfaa.timerLater
open Go.RowKit
set_option linter.unusedVariables false
set_option linter.unusedSimpArgs false

theorem info_sx : (Try.prog.info? 38).map (·.size) = some 9 := by kernel_rfl
theorem sx_struct : ∃ fs, Try.prog.underlying 38 = some (.struct fs) := ⟨_, Try.underlying38⟩
section
variable {W : World} {B : Nat} {t : TypeId} {cs : List Value}
theorem sx_put (h : Bx W B t cs) (vs : List Value) : Bx (W.setRow B vs.toArray) B t vs := setRow_heap W B _ vs.toArray t (0, 0) h
theorem sx_grown (W : World) (B : Nat) (vs : Array Value) : W.grownBy (W.setRow B vs) (some B) :=
  ⟨rfl, rfl, rfl, by simp [World.setRow], fun i _ hne => setRow_other W B i vs (fun e => hne (by rw [e]))⟩
theorem sx_gset (W : World) (q : Addr) (u : Value) : W.grownBy (W.setCell q u) (some q.block) :=
  ⟨rfl, rfl, rfl, by simp, fun i hi hne => Below.heap_setCell W q u i (fun e => hne (by rw [e]))⟩
/-- one is loaded whole, in a plain region -/
theorem sx_load {ops : Array Oper} {rest : List Oper} {o : Oper} {a : Act} {Q : Exit → Act → World → Prop} (hgd : o.guard = none) (x : Operand) (ho : o.op = .load 38 x) (hx : a.eval x = .pointer (some ⟨B, 0, none⟩))
    (h : Bx W B t cs) (hl : cs.length = 9) (k : wpList Try.prog ops Q rest (a.put o.dst (.agg cs.toArray)) W) : wpList Try.prog ops Q (o :: rest) a W := by
  obtain ⟨fs, hu⟩ := sx_struct
  exact wpList_load_row hgd _ x ho B hx t cs.toArray (0, 0) _ h hu rfl (by rw [info_sx]; simp [hl]) k
/-- one is stored whole -/
theorem sx_store {ops : Array Oper} {rest : List Oper} {o : Oper} {a : Act} {Q : Exit → Act → World → Prop} (hgd : o.guard = none) (x y : Operand) (ho : o.op = .store 38 x y) (hx : a.eval x = .pointer (some ⟨B, 0, none⟩))
    (vs : List Value) (hy : a.eval y = .agg vs.toArray) (h : Bx W B t cs) (hl : cs.length = 9) (hv : vs.length = 9) (h1 : vs.all (·.oneCell') = true) (k : wpList Try.prog ops Q rest (a.put o.dst undef) (W.setRow B vs.toArray)) : wpList Try.prog ops Q (o :: rest) a W :=
  wpList_store_row hgd _ x y ho B vs.toArray hx hy t cs.toArray h (by rw [info_sx]; simp [hv]) (by simp [hl, hv]) (by simpa using h1) k
theorem sx_var (h : Bx W B t cs) (hl : cs.length = 9) : (Go.loadVar 38 ⟨B, 0, none⟩).run Try.prog W = .ok (.agg cs.toArray) W := by
  obtain ⟨fs, hu⟩ := sx_struct
  exact run_loadVar_row W B t 38 cs.toArray (0, 0) _ h hu rfl (by rw [info_sx]; simp [hl])
/-- one is loaded whole, in a region that draws its order -/
theorem sx_yields {ops : Array Oper} {S : World → Prop} {op : Oper} {a : Act} (hw : Region.wanted op (yielded ops a.tmps) = true) (x : Operand) (ho : op.op = .load 38 x)
    (hx : a.eval x = .pointer (some ⟨B, 0, none⟩)) (cs : List Value) (hl : cs.length = 9) (t : TypeId) (hS : ∀ W, S W → Bx W B t cs) : YieldsIf Try.prog ops S op (.agg cs.toArray) a := by
  obtain ⟨fs, hu⟩ := sx_struct
  exact .inl ⟨hw, fun w hw' => by
    unfold execOp
    simp only [ho, hx, Instr.loadAt, Instr.sureAddr, Sem.run_bind, Sem.run_pure, Result.andThen_ok, run_loadVar_row w B t 38 cs.toArray (0, 0) _ (hS w hw') hu rfl (by rw [info_sx]; simp [hl])]⟩
variable {fn : Func} {tmps : Array Value} {R : Ending → World → Prop} {v u : Value} {ds : List Deferred} {p q r : Tmp}
/-- a box alone, a box and one or two slots: what a call hands back -/
theorem sx_end1 (hr : fn.results = #[.cell p 38]) (h2 : tmps.getD p undef = .pointer (some ⟨B, 0, none⟩))
    (e : Bx W B t cs) (hl : cs.length = 9) (hd : ds = []) (h : R (.returned (.agg cs.toArray)) W) : bodyPost Try.prog fn R .ret { tmps := tmps, defers := ds } W := by
  have l2 := sx_var e hl
  have h2a : tmps[p]?.getD undef = .pointer (some ⟨B, 0, none⟩) := by simpa using h2
  refine bodyPost_ret (v := .agg cs.toArray) ?_ hd h
  simp [results, hr, h2a, asAddr, l2]
theorem sx_end2 (hr : fn.results = #[.cell p 38, .tmp q]) (h2 : tmps.getD p undef = .pointer (some ⟨B, 0, none⟩)) (h3 : tmps.getD q undef = v)
    (e : Bx W B t cs) (hl : cs.length = 9) (hd : ds = []) (h : R (.returned (.tuple #[.agg cs.toArray, v])) W) : bodyPost Try.prog fn R .ret { tmps := tmps, defers := ds } W := by
  have l2 := sx_var e hl
  have h2a : tmps[p]?.getD undef = .pointer (some ⟨B, 0, none⟩) := by simpa using h2
  have h2b : tmps[q]?.getD undef = v := by simpa using h3
  refine bodyPost_ret (v := .tuple #[.agg cs.toArray, v]) ?_ hd h
  simp [results, hr, h2a, h2b, asAddr, l2]
theorem sx_end3 (hr : fn.results = #[.cell p 38, .tmp q, .tmp r]) (h2 : tmps.getD p undef = .pointer (some ⟨B, 0, none⟩)) (h3 : tmps.getD q undef = v) (h4 : tmps.getD r undef = u)
    (e : Bx W B t cs) (hl : cs.length = 9) (hd : ds = []) (h : R (.returned (.tuple #[.agg cs.toArray, v, u])) W) : bodyPost Try.prog fn R .ret { tmps := tmps, defers := ds } W := by
  have l2 := sx_var e hl
  have h2a : tmps[p]?.getD undef = .pointer (some ⟨B, 0, none⟩) := by simpa using h2
  have h2b : tmps[q]?.getD undef = v := by simpa using h3
  have h2c : tmps[r]?.getD undef = u := by simpa using h4
  refine bodyPost_ret (v := .tuple #[.agg cs.toArray, v, u]) ?_ hd h
  simp [results, hr, h2a, h2b, h2c, asAddr, l2]
end

theorem info_sent : (Try.prog.info? 38).map (fun i => (i.zero, i.size, i.bytes)) = some (some (.agg #[.int .i64 0, .int .i64 0, .int .i64 0, .int .i64 0, .int .i64 0, .bool false, .bool false, .int .i64 0, .int .i64 0]), 9, 64) := by kernel_rfl
theorem prt_belowL {w w' : World} {b o B : Nat} {x : Prt} (h : PrtAt w b o x) (hb : Below B w w') (hlt : b < B) : PrtAt w' b o x :=
  ⟨(hb.cell (p := ⟨b, o, none⟩) hlt).trans h.c0, (hb.cell (p := ⟨b, o + 1, none⟩) hlt).trans h.c1, (hb.cell (p := ⟨b, o + 2, none⟩) hlt).trans h.c2, (hb.cell (p := ⟨b, o + 3, none⟩) hlt).trans h.c3, (hb.cell (p := ⟨b, o + 4, none⟩) hlt).trans h.c4, (hb.cell (p := ⟨b, o + 5, none⟩) hlt).trans h.c5, (hb.cell (p := ⟨b, o + 6, none⟩) hlt).trans h.c6, (hb.cell (p := ⟨b, o + 7, none⟩) hlt).trans h.c7, (hb.cell (p := ⟨b, o + 8, none⟩) hlt).trans h.c8⟩
set_option maxRecDepth 100000 in
set_option maxHeartbeats 8000000 in
theorem walk (r : Rt) (A : Option Addr) (n c : Nat) (l : List Prt) (now most : Int) (w : World) (hs : Se w A n c l) :
    Calls Try.prog 6 #[.agg #[.bool r.has, .int .i64 r.srtt, .int .i64 r.vr, .int .i64 r.rto, .int .i64 r.shift], .slice A n c, .int .i64 now, .int .i64 most] w fun e w' => e = .returned (.bool true) ∧ Below w.heap.size w w' := by
  obtain ⟨B, hB⟩ : ∃ B, w.heap.size = B := ⟨_, rfl⟩
  rw [hB]
  have m1 := hs.le; have m2 := hs.max
  have m3 : n ≤ 9223372036854775807 := by unfold maxLen at m2; omega
  clear m1 m2
  have HL := Lib.hid hs.rd.len; have HOK := Lib.hid hs.rd.ok; have HS0 := Lib.hid hs; have HB := Lib.hid hB
  have e0 := Bx.new w 23 [.bool r.has, .int .i64 r.srtt, .int .i64 r.vr, .int .i64 r.rto, .int .i64 r.shift]
  rw [hB] at e0
  have b0 : Below B w (w.alloc (.cells #[.bool r.has, .int .i64 r.srtt, .int .i64 r.vr, .int .i64 r.rto, .int .i64 r.shift] 23)) := by rw [← hB]; exact (Below.refl _ _).alloc (Nat.le_refl _) _
  clear hs
  go_enter Try.func6, Try.ntmps6
  go_wp2_with fail
  generalize w.alloc (.cells #[.bool r.has, .int .i64 r.srtt, .int .i64 r.vr, .int .i64 r.rto, .int .i64 r.shift] 23) = w1 at e0 b0 ⊢
  refine (tiawake_any _).mono ?_
  rintro e w2 ⟨rfl, hb2⟩
  have e2 := e0.kept hb2; have b2 := b0.trans (hb2.mono (Nat.le_of_lt e0.lt))
  clear e0 b0 hb2 hB
  by_cases c0 : 500 < n
  case pos =>
    have d0 : decide ((500 : Int) < (n : Int)) = true := decide_eq_true (by omega)
    have d0' : decide (500 < n) = true := decide_eq_true c0
    go_wp2_with fail
    go_ret
    exact ⟨rfl, b2⟩
  have d0 : decide ((500 : Int) < (n : Int)) = false := decide_eq_false (by omega)
  have d0' : decide (500 < n) = false := decide_eq_false c0
  have s2 := HS0.out.keep (by rw [HB.out]; exact b2)
  by_cases hok : SetOk r l now most
  case neg =>
    have hx1 : setR r l true now most = (ztm, 1) := set_no hok
    have HX1 := Lib.hid hx1
    clear hx1 hok
    go_wp2_with (refine rt_load rfl (.tmp 4) rfl rfl e2 rfl ?_)
    refine (tiset_any r A n c l true now most _ s2).mono ?_
    rintro e u3 ⟨he, hb3⟩
    rw [HX1.out] at he
    dsimp only [ztm] at he
    subst he
    have hB2 : B ≤ w2.heap.size := Nat.le_of_lt e2.lt
    have e3 := (e2.kept hb3).alloc (.cells #[.int .i64 0, .int .i64 0] 28)
    have b3 := (b2.trans (hb3.mono hB2)).alloc (Nat.le_trans hB2 hb3.size) (.cells #[.int .i64 0, .int .i64 0] 28)
    have f3 := Bx.new u3 28 [.int .i64 0, .int .i64 0]
    have hBQ : B < u3.heap.size := (e2.kept hb3).lt
    clear e2 s2 b2 hb3 hB2
    go_upto_region 5 with fail
    obtain ⟨Q, hQ⟩ : ∃ Q, u3.heap.size = Q := ⟨_, rfl⟩
    rw [hQ] at f3 hBQ ⊢
    generalize u3.alloc (.cells #[.int .i64 0, .int .i64 0] 28) = w3 at e3 b3 f3 ⊢
    clear hQ
    have x0 := f3.cell 0 rfl; have x1 := f3.cell 1 rfl
    go_wp2_with fail
    go_ret
    exact ⟨rfl, b3⟩
  have hr := (rtB_iff r).1 hok.1
  have hr0 := hr.h0; have hr1 := hr.h1
  have hws : IntKind.i64.wrap (r.shift + 1) = r.shift + 1 := IntWalk.i64_in _ (by omega)
  have hparts := may_parts hok.2.1
  have hln : l.length ≤ 500 := by rw [HL.out]; omega
  obtain ⟨b, hx2, hxa, hxk⟩ := later_set hok
  have hx3 := waits_set (pb := true) hok hln HOK.out
  have hx1 : setR r l true now most = (setT r l true now most, 0) := set_ok hok
  rw [hx1] at hx3
  obtain ⟨a, ha⟩ : ∃ a, setT r l true now most = a := ⟨_, rfl⟩
  rw [ha] at hx1 hx3 hxa hxk
  have HX1 := Lib.hid hx1; have HX2 := Lib.hid hx2; have HX3 := Lib.hid hx3; have HXA := Lib.hid hxa; have HXK := Lib.hid hxk; have HP := Lib.hid hparts; have HLN := Lib.hid hln
  clear hx1 hx2 hx3 hxa hxk ha hok hparts hln hr
  go_wp2_with (refine rt_load rfl (.tmp 4) rfl rfl e2 rfl ?_)
  refine (tiset_any r A n c l true now most _ s2).mono ?_
  rintro e u3 ⟨he, hb3⟩
  rw [HX1.out] at he
  dsimp only at he
  subst he
  have hB2 : B ≤ w2.heap.size := Nat.le_of_lt e2.lt
  have e3 := (e2.kept hb3).alloc (.cells #[.int .i64 a.kd, .int .i64 a.at_] 28)
  have b3 := (b2.trans (hb3.mono hB2)).alloc (Nat.le_trans hB2 hb3.size) (.cells #[.int .i64 a.kd, .int .i64 a.at_] 28)
  have f3 := Bx.new u3 28 [.int .i64 a.kd, .int .i64 a.at_]
  have hBQ : B < u3.heap.size := (e2.kept hb3).lt
  clear e2 s2 b2 hb3 hB2
  go_upto_region 5 with fail
  obtain ⟨Q, hQ⟩ : ∃ Q, u3.heap.size = Q := ⟨_, rfl⟩
  rw [hQ] at f3 hBQ ⊢
  generalize u3.alloc (.cells #[.int .i64 a.kd, .int .i64 a.at_] 28) = w3 at e3 b3 f3 ⊢
  clear hQ
  go_upto_region 8 with (refine rt_load rfl (.tmp 4) rfl rfl e3 rfl ?_)
  have e4 := e3.alloc (.cells #[.bool r.has, .int .i64 r.srtt, .int .i64 r.vr, .int .i64 r.rto, .int .i64 r.shift] 23); have f4 := f3.alloc (.cells #[.bool r.has, .int .i64 r.srtt, .int .i64 r.vr, .int .i64 r.rto, .int .i64 r.shift] 23); have b4 := b3.alloc (Nat.le_of_lt e3.lt) (.cells #[.bool r.has, .int .i64 r.srtt, .int .i64 r.vr, .int .i64 r.rto, .int .i64 r.shift] 23)
  have g4 := Bx.new w3 23 [.bool r.has, .int .i64 r.srtt, .int .i64 r.vr, .int .i64 r.rto, .int .i64 r.shift]
  have hBP : B < w3.heap.size := e3.lt
  have hQP : Q < w3.heap.size := f3.lt
  clear e3 f3 b3
  obtain ⟨P, hP⟩ : ∃ P, w3.heap.size = P := ⟨_, rfl⟩
  rw [hP] at g4 hBP hQP ⊢
  generalize w3.alloc (.cells #[.bool r.has, .int .i64 r.srtt, .int .i64 r.vr, .int .i64 r.rto, .int .i64 r.shift] 23) = w4 at e4 f4 b4 g4 ⊢
  clear hP
  have x4 := g4.cell 4 rfl; have y4 := e4.cell 4 rfl; have z4 := g4.free 4
  by_cases c : r.shift < 16
  case pos =>
    have dc : decide (r.shift < 16) = true := decide_eq_true c
    have hup : upS r.shift = r.shift + 1 := if_pos c
    have g5 := g4.set 4 (.int .i64 (r.shift + 1))
    simp only [List.set_cons_zero, List.set_cons_succ] at g5
    rw [← hup] at g5
    have bs : Below P w4 (w4.setCell ⟨P, 4, none⟩ (.int .i64 (upS r.shift))) := (Below.refl _ _).setCell (p := ⟨P, 4, none⟩) (Nat.le_refl _) _
    have e5 := e4.below bs hBP; have f5 := f4.below bs hQP; have b5 := b4.trans (bs.mono (Nat.le_of_lt hBP))
    clear e4 f4 b4 g4 bs
    go_upto_region 10 with fail
    rw [← hup]
    generalize w4.setCell ⟨P, 4, none⟩ (.int .i64 (upS r.shift)) = w5 at e5 f5 b5 g5 ⊢
    clear x4 y4 z4 dc hup c
    have s5 := HS0.out.keep (by rw [HB.out]; exact b5)
    go_wp2_with (refine rt_load rfl (.tmp 12) rfl rfl g5 rfl ?_)
    refine (tiset_any (upR r) A n c l true now most _ s5).mono ?_
    rintro e u6 ⟨he, hb6⟩
    rw [HX2.out] at he
    dsimp only at he
    subst he
    have hB5 : B ≤ w5.heap.size := Nat.le_of_lt e5.lt
    have e6 := (e5.kept hb6).alloc (.cells #[.int .i64 b.kd, .int .i64 b.at_] 28); have f6 := (f5.kept hb6).alloc (.cells #[.int .i64 b.kd, .int .i64 b.at_] 28)
    have b6 := (b5.trans (hb6.mono hB5)).alloc (Nat.le_trans hB5 hb6.size) (.cells #[.int .i64 b.kd, .int .i64 b.at_] 28)
    have h6 := Bx.new u6 28 [.int .i64 b.kd, .int .i64 b.at_]
    clear e5 s5 b5 f5 g5 hb6 hB5
    go_upto_region 11 with fail
    obtain ⟨R, hR⟩ : ∃ R, u6.heap.size = R := ⟨_, rfl⟩
    rw [hR] at h6 ⊢
    generalize u6.alloc (.cells #[.int .i64 b.kd, .int .i64 b.at_] 28) = w6 at e6 b6 f6 h6 ⊢
    clear hR hws hr0 hr1
    have s6 := HS0.out.keep (by rw [HB.out]; exact b6)
    obtain ⟨M, hM⟩ : ∃ M, w6.heap.size = M := ⟨_, rfl⟩
    have hBM : B < M := by rw [← hM]; exact e6.lt
    have hQM : Q < M := by rw [← hM]; exact f6.lt
    have hRM : R < M := by rw [← hM]; exact h6.lt
    go_wp2_with fail
    go_loopw [15, 16, 17, 18] (fun s15 s16 s17 s18 wr => ∃ (k m : Nat), k ≤ n ∧ s17 = .int .i64 (k : Int) ∧ Goe wr M 38 s15 m (waitsR (l.take k)).1 ∧ s16 = .int .i64 (waitsR (l.take k)).2 ∧ Below M w6 wr) (fun _ _ i _ _ => n - (intOf i).toNat)
    case atStart => exact ⟨0, 0, Nat.zero_le _, rfl, Goe.none _ _ _, rfl, Below.refl _ _⟩
    case round =>
      obtain ⟨k, m, hkn, rfl, hg, rfl, hbr⟩ := hrel
      have er := e6.below hbr hBM
      have br := b6.trans (hbr.mono (Nat.le_of_lt hBM))
      have hMr : M ≤ wr.heap.size := by rw [← hM]; exact hbr.size
      by_cases hlt : k < n
      case neg =>
        obtain rfl : k = n := by omega
        have hd : decide (k < k) = false := decide_eq_false (by omega)
        rw [show l.take k = l by rw [← HL.out]; exact List.take_length] at hg ⊢
        have fr := f6.below hbr hQM; have hr := h6.below hbr hRM
        obtain ⟨G, d, rfl, gs⟩ := hg.se
        have hBr : B ≤ wr.heap.size := Nat.le_of_lt er.lt
        clear e6 f6 h6 b6 s6 hbr hg hM hMr hBM hQM hRM
        go_upto_region 21 with fail
        go_wp2_with (refine rt_load rfl (.tmp 4) rfl rfl er rfl ?_)
        refine (tiset_any r G m d (waitsR l).1 true now most _ gs).mono ?_
        rintro e u7 ⟨he, hb7⟩
        rw [HX3.out] at he
        dsimp only at he
        subst he
        have f7 := (fr.kept hb7).alloc (.cells #[.int .i64 a.kd, .int .i64 a.at_] 28); have h7 := (hr.kept hb7).alloc (.cells #[.int .i64 a.kd, .int .i64 a.at_] 28)
        have b7 := (br.trans (hb7.mono hBr)).alloc (Nat.le_trans hBr hb7.size) (.cells #[.int .i64 a.kd, .int .i64 a.at_] 28)
        have c7 := Bx.new u7 28 [.int .i64 a.kd, .int .i64 a.at_]
        clear er fr hr gs hb7 br
        go_upto_region 22 with fail
        obtain ⟨V, hV⟩ : ∃ V, u7.heap.size = V := ⟨_, rfl⟩
        rw [hV] at c7 ⊢
        generalize u7.alloc (.cells #[.int .i64 a.kd, .int .i64 a.at_] 28) = w7 at f7 h7 b7 c7 ⊢
        clear hV
        have x0 := f7.cell 0 rfl; have x1 := f7.cell 1 rfl; have y0 := h7.cell 0 rfl; have y1 := h7.cell 1 rfl; have v0 := c7.cell 0 rfl; have v1 := c7.cell 1 rfl
        rw [HXK.out] at y0
        have k1 : decide (a.at_ ≤ b.at_) = true := decide_eq_true HXA.out
        clear f7 h7 c7
        go_wp2_with fail
        go_ret
        exact ⟨rfl, b7⟩
      case pos =>
      have hd : decide (k < n) = true := decide_eq_true hlt
      have hkl : k < l.length := by rw [HL.out]; exact hlt
      have hst := waits_take hkl
      have hpo := HP.out _ (ge_mem hkl)
      have hpw := AllOk.ge HOK.out hkl
      have htl : (l.take k).length = k := by rw [List.length_take]; omega
      have hwo := waits_ok (l.take k).length (l.take k) rfl (fun x hx => HP.out x (List.mem_of_mem_take hx)) (by have := HLN.out; omega) (AllOk.take HOK.out k)
      obtain ⟨tb, tof, hA, hal, hc⟩ := s6.rd.at_ (by omega)
      subst hA
      rw [hM] at hal
      have X := prt_belowL (prt_at hc hlt) hbr hal
      obtain ⟨p, hp⟩ : ∃ p, ge l k = p := ⟨_, rfl⟩
      rw [hp] at X hst hpo hpw
      have hq := hwo.len; have hq0 := hwo.s0; have hq1 := hwo.s1
      rw [htl] at hq hq1
      obtain ⟨q, hqe⟩ : ∃ q, waitsR (l.take k) = q := ⟨_, rfl⟩
      rw [hqe] at hg hst hq hq0 hq1 ⊢
      obtain ⟨q1, q2⟩ := q
      dsimp only at hg hq hq0 hq1 ⊢
      have hml := hg.len
      have l1 := hpo.l1; have l2 := hpo.l2
      have hwq : IntKind.i64.wrap (q2 + p.len) = q2 + p.len := IntWalk.i64_in _ (by omega)
      have hm5 : m ≤ 500 := by omega
      have HST := Lib.hid hst; have HG := Lib.hid hg; have HX := Lib.hid X; have HPW := Lib.hid hpw; have HWQ := Lib.hid hwq; have HQ0 := Lib.hid (And.intro hq0 (show q2 ≤ 730000 by omega))
      have c5 := X.c5; have c6 := X.c6
      clear hc hp hwo hqe hst hg hpo hpw hml hq hq0 hq1 htl hkl hwq X l1 l2 e6 f6 h6 b6 s6 hal
      obtain ⟨ca, hca⟩ : ∃ ca, p.came = ca := ⟨_, rfl⟩
      obtain ⟨lo, hlo⟩ : ∃ lo, p.lost = lo := ⟨_, rfl⟩
      rw [hca] at c5
      rw [hlo] at c6
      cases ca with
      | true =>
        have hst := HST.out
        unfold putQ outB at hst
        rw [hca] at hst
        have HST2 := Lib.hid (show waitsR (l.take (k + 1)) = (q1, q2) from hst)
        clear hst hca hlo
        go_wp2_with fail
        go_roundw
        case rel => exact ⟨k + 1, m, by omega, by go_num, by rw [HST2.out]; exact HG.out, by rw [HST2.out], hbr⟩
        case measure => simp [intOf]; omega
      | false =>
      cases lo with
      | true =>
        have hst := HST.out
        unfold putQ outB at hst
        rw [hca, hlo] at hst
        have HST2 := Lib.hid (show waitsR (l.take (k + 1)) = (q1, q2) from hst)
        clear hst hca hlo
        go_wp2_with fail
        go_roundw
        case rel => exact ⟨k + 1, m, by omega, by go_num, by rw [HST2.out]; exact HG.out, by rw [HST2.out], hbr⟩
        case measure => simp [intOf]; omega
      | false =>
      have hst := HST.out
      unfold putQ outB at hst
      rw [hca, hlo] at hst
      have HST2 := Lib.hid (show waitsR (l.take (k + 1)) = (q1 ++ [(⟨q2, p.len, p.dsn, p.at_, p.tries, false, false, p.total, p.last⟩ : Prt)], q2 + p.len) from hst)
      have hpk : PrtW (⟨q2, p.len, p.dsn, p.at_, p.tries, false, false, p.total, p.last⟩ : Prt) := ⟨by have := HQ0.out; unfold i64; dsimp only; omega, HPW.out.len, HPW.out.dsn, HPW.out.at_, HPW.out.tries, HPW.out.total, HPW.out.last⟩
      have HPK := Lib.hid hpk
      clear hst hca hlo HST HPW hpk
      have c0 := HX.out.c0; have c1 := HX.out.c1; have c2 := HX.out.c2; have c3 := HX.out.c3; have c4 := HX.out.c4; have c7 := HX.out.c7; have c8 := HX.out.c8
      go_upto_region 18 with fail
      have n5 := Bx.new wr 38 [.int .i64 p.seq, .int .i64 p.len, .int .i64 p.dsn, .int .i64 p.at_, .int .i64 p.tries, .bool false, .bool false, .int .i64 p.total, .int .i64 p.last]
      have ba : Below wr.heap.size wr (wr.alloc (.cells #[.int .i64 p.seq, .int .i64 p.len, .int .i64 p.dsn, .int .i64 p.at_, .int .i64 p.tries, .bool false, .bool false, .int .i64 p.total, .int .i64 p.last] 38)) := (Below.refl _ _).alloc (Nat.le_refl _) _
      have b5 : Below M w6 (wr.alloc (.cells #[.int .i64 p.seq, .int .i64 p.len, .int .i64 p.dsn, .int .i64 p.at_, .int .i64 p.tries, .bool false, .bool false, .int .i64 p.total, .int .i64 p.last] 38)) := hbr.alloc hMr _
      have hg := HG.out
      obtain ⟨P1, hP1⟩ : ∃ Q, wr.heap.size = Q := ⟨_, rfl⟩
      rw [hP1] at n5 hMr ba ⊢
      generalize wr.alloc (.cells #[.int .i64 p.seq, .int .i64 p.len, .int .i64 p.dsn, .int .i64 p.at_, .int .i64 p.tries, .bool false, .bool false, .int .i64 p.total, .int .i64 p.last] 38) = wA at n5 b5 ba ⊢
      clear c0 c1 c2 c3 c4 c5 c6 c7 c8 er br hbr HG HX
      have x0 := n5.cell 0 rfl; have f0 := n5.free 0
      have n6 := n5.set 0 (.int .i64 q2)
      simp only [List.set_cons_zero] at n6
      have bs : Below P1 wA (wA.setCell ⟨P1, 0, none⟩ (.int .i64 q2)) := (Below.refl _ _).setCell (p := ⟨P1, 0, none⟩) (Nat.le_refl _) _
      have b6 := b5.trans (bs.mono hMr)
      have g6 := hg.below (by rw [hP1]; exact ba.trans bs)
      have hMB : M ≤ (wA.setCell ⟨P1, 0, none⟩ (.int .i64 q2)).heap.size := Nat.le_trans hMr (Nat.le_of_lt n6.lt)
      clear ba bs b5 n5 hg hP1
      go_upto_region 19 with fail
      generalize wA.setCell ⟨P1, 0, none⟩ (.int .i64 q2) = wB at n6 b6 g6 hMB ⊢
      clear x0 f0
      have x1 := n6.cell 1 rfl
      have hwq := HWQ.out
      go_upto_region 20 with fail
      clear x1 hwq
      have HLIT := Lib.hid (show Se (wB.alloc (.cells #[.int .i64 q2, .int .i64 p.len, .int .i64 p.dsn, .int .i64 p.at_, .int .i64 p.tries, .bool false, .bool false, .int .i64 p.total, .int .i64 p.last] 38)) (some ⟨wB.heap.size, 0, none⟩) 1 1 [(⟨q2, p.len, p.dsn, p.at_, p.tries, false, false, p.total, p.last⟩ : Prt)] from se_one wB (x := (⟨q2, p.len, p.dsn, p.at_, p.tries, false, false, p.total, p.last⟩ : Prt)) HPK.out 38)
      have HG6 := Lib.hid g6
      go_upto_region 15 with (first | (refine sx_load rfl (.tmp 18) rfl rfl n6 rfl ?_) | (at_builtin; refine wpList_appe _ rfl (.tmp 89) (.tmp 91) 24 rfl M 38 Try.underlying24 (.agg #[.int .i64 0, .int .i64 0, .int .i64 0, .int .i64 0, .int .i64 0, .bool false, .bool false, .int .i64 0, .int .i64 0]) 64 info_sent (by decide) _ m q1 rfl (HG6.out.alloc (.cells #[.int .i64 q2, .int .i64 p.len, .int .i64 p.dsn, .int .i64 p.at_, .int .i64 p.tries, .bool false, .bool false, .int .i64 p.total, .int .i64 p.last] 38)) rfl (fun h => by cases h) HLIT.out.rd (by unfold maxLen; omega) (by omega) (by simp; omega) ?_; intro v3 w9 hg3 hgr3 hv3; clear hv3))
      have b9 : Below M w6 w9 := (b6.alloc hMB (.cells #[.int .i64 q2, .int .i64 p.len, .int .i64 p.dsn, .int .i64 p.at_, .int .i64 p.tries, .bool false, .bool false, .int .i64 p.total, .int .i64 p.last] 38)).grown hgr3 (by simp; omega) (fun k hk => (HG6.out.row.lt k hk).1)
      clear n6 b6 g6 HG6 HLIT hgr3
      go_wp2_with fail
      go_roundw
      case rel => exact ⟨k + 1, m + 1, by omega, by go_num, by rw [HST2.out]; exact hg3, by rw [HST2.out], b9⟩
      case measure => simp [intOf]; omega
  case neg =>
    have dc : decide (r.shift < 16) = false := decide_eq_false c
    have hup : upS r.shift = r.shift := if_neg c
    have g5 := g4; have e5 := e4; have f5 := f4; have b5 := b4
    rw [← hup] at g5
    clear e4 f4 b4 g4
    go_upto_region 10 with fail
    obtain ⟨w5, hw5⟩ : ∃ W, w4 = W := ⟨_, rfl⟩
    rw [hw5] at e5 f5 b5 g5 ⊢
    clear x4 y4 z4 dc hup c hw5
    have s5 := HS0.out.keep (by rw [HB.out]; exact b5)
    go_wp2_with (refine rt_load rfl (.tmp 12) rfl rfl g5 rfl ?_)
    refine (tiset_any (upR r) A n c l true now most _ s5).mono ?_
    rintro e u6 ⟨he, hb6⟩
    rw [HX2.out] at he
    dsimp only at he
    subst he
    have hB5 : B ≤ w5.heap.size := Nat.le_of_lt e5.lt
    have e6 := (e5.kept hb6).alloc (.cells #[.int .i64 b.kd, .int .i64 b.at_] 28); have f6 := (f5.kept hb6).alloc (.cells #[.int .i64 b.kd, .int .i64 b.at_] 28)
    have b6 := (b5.trans (hb6.mono hB5)).alloc (Nat.le_trans hB5 hb6.size) (.cells #[.int .i64 b.kd, .int .i64 b.at_] 28)
    have h6 := Bx.new u6 28 [.int .i64 b.kd, .int .i64 b.at_]
    clear e5 s5 b5 f5 g5 hb6 hB5
    go_upto_region 11 with fail
    obtain ⟨R, hR⟩ : ∃ R, u6.heap.size = R := ⟨_, rfl⟩
    rw [hR] at h6 ⊢
    generalize u6.alloc (.cells #[.int .i64 b.kd, .int .i64 b.at_] 28) = w6 at e6 b6 f6 h6 ⊢
    clear hR hws hr0 hr1
    have s6 := HS0.out.keep (by rw [HB.out]; exact b6)
    obtain ⟨M, hM⟩ : ∃ M, w6.heap.size = M := ⟨_, rfl⟩
    have hBM : B < M := by rw [← hM]; exact e6.lt
    have hQM : Q < M := by rw [← hM]; exact f6.lt
    have hRM : R < M := by rw [← hM]; exact h6.lt
    go_wp2_with fail
    go_loopw [15, 16, 17, 18] (fun s15 s16 s17 s18 wr => ∃ (k m : Nat), k ≤ n ∧ s17 = .int .i64 (k : Int) ∧ Goe wr M 38 s15 m (waitsR (l.take k)).1 ∧ s16 = .int .i64 (waitsR (l.take k)).2 ∧ Below M w6 wr) (fun _ _ i _ _ => n - (intOf i).toNat)
    case atStart => exact ⟨0, 0, Nat.zero_le _, rfl, Goe.none _ _ _, rfl, Below.refl _ _⟩
    case round =>
      obtain ⟨k, m, hkn, rfl, hg, rfl, hbr⟩ := hrel
      have er := e6.below hbr hBM
      have br := b6.trans (hbr.mono (Nat.le_of_lt hBM))
      have hMr : M ≤ wr.heap.size := by rw [← hM]; exact hbr.size
      by_cases hlt : k < n
      case neg =>
        obtain rfl : k = n := by omega
        have hd : decide (k < k) = false := decide_eq_false (by omega)
        rw [show l.take k = l by rw [← HL.out]; exact List.take_length] at hg ⊢
        have fr := f6.below hbr hQM; have hr := h6.below hbr hRM
        obtain ⟨G, d, rfl, gs⟩ := hg.se
        have hBr : B ≤ wr.heap.size := Nat.le_of_lt er.lt
        clear e6 f6 h6 b6 s6 hbr hg hM hMr hBM hQM hRM
        go_upto_region 21 with fail
        go_wp2_with (refine rt_load rfl (.tmp 4) rfl rfl er rfl ?_)
        refine (tiset_any r G m d (waitsR l).1 true now most _ gs).mono ?_
        rintro e u7 ⟨he, hb7⟩
        rw [HX3.out] at he
        dsimp only at he
        subst he
        have f7 := (fr.kept hb7).alloc (.cells #[.int .i64 a.kd, .int .i64 a.at_] 28); have h7 := (hr.kept hb7).alloc (.cells #[.int .i64 a.kd, .int .i64 a.at_] 28)
        have b7 := (br.trans (hb7.mono hBr)).alloc (Nat.le_trans hBr hb7.size) (.cells #[.int .i64 a.kd, .int .i64 a.at_] 28)
        have c7 := Bx.new u7 28 [.int .i64 a.kd, .int .i64 a.at_]
        clear er fr hr gs hb7 br
        go_upto_region 22 with fail
        obtain ⟨V, hV⟩ : ∃ V, u7.heap.size = V := ⟨_, rfl⟩
        rw [hV] at c7 ⊢
        generalize u7.alloc (.cells #[.int .i64 a.kd, .int .i64 a.at_] 28) = w7 at f7 h7 b7 c7 ⊢
        clear hV
        have x0 := f7.cell 0 rfl; have x1 := f7.cell 1 rfl; have y0 := h7.cell 0 rfl; have y1 := h7.cell 1 rfl; have v0 := c7.cell 0 rfl; have v1 := c7.cell 1 rfl
        rw [HXK.out] at y0
        have k1 : decide (a.at_ ≤ b.at_) = true := decide_eq_true HXA.out
        clear f7 h7 c7
        go_wp2_with fail
        go_ret
        exact ⟨rfl, b7⟩
      case pos =>
      have hd : decide (k < n) = true := decide_eq_true hlt
      have hkl : k < l.length := by rw [HL.out]; exact hlt
      have hst := waits_take hkl
      have hpo := HP.out _ (ge_mem hkl)
      have hpw := AllOk.ge HOK.out hkl
      have htl : (l.take k).length = k := by rw [List.length_take]; omega
      have hwo := waits_ok (l.take k).length (l.take k) rfl (fun x hx => HP.out x (List.mem_of_mem_take hx)) (by have := HLN.out; omega) (AllOk.take HOK.out k)
      obtain ⟨tb, tof, hA, hal, hc⟩ := s6.rd.at_ (by omega)
      subst hA
      rw [hM] at hal
      have X := prt_belowL (prt_at hc hlt) hbr hal
      obtain ⟨p, hp⟩ : ∃ p, ge l k = p := ⟨_, rfl⟩
      rw [hp] at X hst hpo hpw
      have hq := hwo.len; have hq0 := hwo.s0; have hq1 := hwo.s1
      rw [htl] at hq hq1
      obtain ⟨q, hqe⟩ : ∃ q, waitsR (l.take k) = q := ⟨_, rfl⟩
      rw [hqe] at hg hst hq hq0 hq1 ⊢
      obtain ⟨q1, q2⟩ := q
      dsimp only at hg hq hq0 hq1 ⊢
      have hml := hg.len
      have l1 := hpo.l1; have l2 := hpo.l2
      have hwq : IntKind.i64.wrap (q2 + p.len) = q2 + p.len := IntWalk.i64_in _ (by omega)
      have hm5 : m ≤ 500 := by omega
      have HST := Lib.hid hst; have HG := Lib.hid hg; have HX := Lib.hid X; have HPW := Lib.hid hpw; have HWQ := Lib.hid hwq; have HQ0 := Lib.hid (And.intro hq0 (show q2 ≤ 730000 by omega))
      have c5 := X.c5; have c6 := X.c6
      clear hc hp hwo hqe hst hg hpo hpw hml hq hq0 hq1 htl hkl hwq X l1 l2 e6 f6 h6 b6 s6 hal
      obtain ⟨ca, hca⟩ : ∃ ca, p.came = ca := ⟨_, rfl⟩
      obtain ⟨lo, hlo⟩ : ∃ lo, p.lost = lo := ⟨_, rfl⟩
      rw [hca] at c5
      rw [hlo] at c6
      cases ca with
      | true =>
        have hst := HST.out
        unfold putQ outB at hst
        rw [hca] at hst
        have HST2 := Lib.hid (show waitsR (l.take (k + 1)) = (q1, q2) from hst)
        clear hst hca hlo
        go_wp2_with fail
        go_roundw
        case rel => exact ⟨k + 1, m, by omega, by go_num, by rw [HST2.out]; exact HG.out, by rw [HST2.out], hbr⟩
        case measure => simp [intOf]; omega
      | false =>
      cases lo with
      | true =>
        have hst := HST.out
        unfold putQ outB at hst
        rw [hca, hlo] at hst
        have HST2 := Lib.hid (show waitsR (l.take (k + 1)) = (q1, q2) from hst)
        clear hst hca hlo
        go_wp2_with fail
        go_roundw
        case rel => exact ⟨k + 1, m, by omega, by go_num, by rw [HST2.out]; exact HG.out, by rw [HST2.out], hbr⟩
        case measure => simp [intOf]; omega
      | false =>
      have hst := HST.out
      unfold putQ outB at hst
      rw [hca, hlo] at hst
      have HST2 := Lib.hid (show waitsR (l.take (k + 1)) = (q1 ++ [(⟨q2, p.len, p.dsn, p.at_, p.tries, false, false, p.total, p.last⟩ : Prt)], q2 + p.len) from hst)
      have hpk : PrtW (⟨q2, p.len, p.dsn, p.at_, p.tries, false, false, p.total, p.last⟩ : Prt) := ⟨by have := HQ0.out; unfold i64; dsimp only; omega, HPW.out.len, HPW.out.dsn, HPW.out.at_, HPW.out.tries, HPW.out.total, HPW.out.last⟩
      have HPK := Lib.hid hpk
      clear hst hca hlo HST HPW hpk
      have c0 := HX.out.c0; have c1 := HX.out.c1; have c2 := HX.out.c2; have c3 := HX.out.c3; have c4 := HX.out.c4; have c7 := HX.out.c7; have c8 := HX.out.c8
      go_upto_region 18 with fail
      have n5 := Bx.new wr 38 [.int .i64 p.seq, .int .i64 p.len, .int .i64 p.dsn, .int .i64 p.at_, .int .i64 p.tries, .bool false, .bool false, .int .i64 p.total, .int .i64 p.last]
      have ba : Below wr.heap.size wr (wr.alloc (.cells #[.int .i64 p.seq, .int .i64 p.len, .int .i64 p.dsn, .int .i64 p.at_, .int .i64 p.tries, .bool false, .bool false, .int .i64 p.total, .int .i64 p.last] 38)) := (Below.refl _ _).alloc (Nat.le_refl _) _
      have b5 : Below M w6 (wr.alloc (.cells #[.int .i64 p.seq, .int .i64 p.len, .int .i64 p.dsn, .int .i64 p.at_, .int .i64 p.tries, .bool false, .bool false, .int .i64 p.total, .int .i64 p.last] 38)) := hbr.alloc hMr _
      have hg := HG.out
      obtain ⟨P1, hP1⟩ : ∃ Q, wr.heap.size = Q := ⟨_, rfl⟩
      rw [hP1] at n5 hMr ba ⊢
      generalize wr.alloc (.cells #[.int .i64 p.seq, .int .i64 p.len, .int .i64 p.dsn, .int .i64 p.at_, .int .i64 p.tries, .bool false, .bool false, .int .i64 p.total, .int .i64 p.last] 38) = wA at n5 b5 ba ⊢
      clear c0 c1 c2 c3 c4 c5 c6 c7 c8 er br hbr HG HX
      have x0 := n5.cell 0 rfl; have f0 := n5.free 0
      have n6 := n5.set 0 (.int .i64 q2)
      simp only [List.set_cons_zero] at n6
      have bs : Below P1 wA (wA.setCell ⟨P1, 0, none⟩ (.int .i64 q2)) := (Below.refl _ _).setCell (p := ⟨P1, 0, none⟩) (Nat.le_refl _) _
      have b6 := b5.trans (bs.mono hMr)
      have g6 := hg.below (by rw [hP1]; exact ba.trans bs)
      have hMB : M ≤ (wA.setCell ⟨P1, 0, none⟩ (.int .i64 q2)).heap.size := Nat.le_trans hMr (Nat.le_of_lt n6.lt)
      clear ba bs b5 n5 hg hP1
      go_upto_region 19 with fail
      generalize wA.setCell ⟨P1, 0, none⟩ (.int .i64 q2) = wB at n6 b6 g6 hMB ⊢
      clear x0 f0
      have x1 := n6.cell 1 rfl
      have hwq := HWQ.out
      go_upto_region 20 with fail
      clear x1 hwq
      have HLIT := Lib.hid (show Se (wB.alloc (.cells #[.int .i64 q2, .int .i64 p.len, .int .i64 p.dsn, .int .i64 p.at_, .int .i64 p.tries, .bool false, .bool false, .int .i64 p.total, .int .i64 p.last] 38)) (some ⟨wB.heap.size, 0, none⟩) 1 1 [(⟨q2, p.len, p.dsn, p.at_, p.tries, false, false, p.total, p.last⟩ : Prt)] from se_one wB (x := (⟨q2, p.len, p.dsn, p.at_, p.tries, false, false, p.total, p.last⟩ : Prt)) HPK.out 38)
      have HG6 := Lib.hid g6
      go_upto_region 15 with (first | (refine sx_load rfl (.tmp 18) rfl rfl n6 rfl ?_) | (at_builtin; refine wpList_appe _ rfl (.tmp 89) (.tmp 91) 24 rfl M 38 Try.underlying24 (.agg #[.int .i64 0, .int .i64 0, .int .i64 0, .int .i64 0, .int .i64 0, .bool false, .bool false, .int .i64 0, .int .i64 0]) 64 info_sent (by decide) _ m q1 rfl (HG6.out.alloc (.cells #[.int .i64 q2, .int .i64 p.len, .int .i64 p.dsn, .int .i64 p.at_, .int .i64 p.tries, .bool false, .bool false, .int .i64 p.total, .int .i64 p.last] 38)) rfl (fun h => by cases h) HLIT.out.rd (by unfold maxLen; omega) (by omega) (by simp; omega) ?_; intro v3 w9 hg3 hgr3 hv3; clear hv3))
      have b9 : Below M w6 w9 := (b6.alloc hMB (.cells #[.int .i64 q2, .int .i64 p.len, .int .i64 p.dsn, .int .i64 p.at_, .int .i64 p.tries, .bool false, .bool false, .int .i64 p.total, .int .i64 p.last] 38)).grown hgr3 (by simp; omega) (fun k hk => (HG6.out.row.lt k hk).1)
      clear n6 b6 g6 HG6 HLIT hgr3
      go_wp2_with fail
      go_roundw
      case rel => exact ⟨k + 1, m + 1, by omega, by go_num, by rw [HST2.out]; exact hg3, by rw [HST2.out], b9⟩
      case measure => simp [intOf]; omega
end Go.Proofs.Ytbkmadlekigjfaa.timerLater
