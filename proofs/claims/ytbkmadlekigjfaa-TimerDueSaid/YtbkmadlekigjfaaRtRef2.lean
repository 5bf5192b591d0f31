/- The reference of package rtt: Double, Wait, Sample as contracts of the calls. -/
import Derived.Test.YtbkmadlekigjfaaRtRef1
import Derived.Test.YtbkmadlekigjfaaRew
import Derived.WalkKit
import Derived.WalkSpells
import Derived.WalkSmall
import Derived.Lib.Hide
import Derived.Below
import Derived.Outline
import Derived.Laws.Tables
import Derived.Laws.Rows
namespace Go.Proofs.Ytbkmadlekigjfaa
open Go.RowKit
set_option linter.unusedVariables false
set_option linter.unusedSimpArgs false

theorem info_rtt : (Try.prog.info? 23).map (·.size) = some 5 := by kernel_rfl
theorem rtt_struct : ∃ fs, Try.prog.underlying 23 = some (.struct fs) := ⟨_, Try.underlying23⟩
section
variable {W : World} {B : Nat} {t : TypeId} {cs : List Value}
theorem rt_put (h : Bx W B t cs) (vs : List Value) : Bx (W.setRow B vs.toArray) B t vs := setRow_heap W B _ vs.toArray t (0, 0) h
theorem rt_grown (W : World) (B : Nat) (vs : Array Value) : W.grownBy (W.setRow B vs) (some B) :=
  ⟨rfl, rfl, rfl, by simp [World.setRow], fun i _ hne => setRow_other W B i vs (fun e => hne (by rw [e]))⟩
/-- a whole estimate is loaded, in a plain region -/
theorem rt_load {ops : Array Oper} {rest : List Oper} {o : Oper} {a : Act} {Q : Exit → Act → World → Prop} (hgd : o.guard = none) (x : Operand) (ho : o.op = .load 23 x) (hx : a.eval x = .pointer (some ⟨B, 0, none⟩))
    (h : Bx W B t cs) (hl : cs.length = 5) (k : wpList Try.prog ops Q rest (a.put o.dst (.agg cs.toArray)) W) : wpList Try.prog ops Q (o :: rest) a W := by
  obtain ⟨fs, hu⟩ := rtt_struct
  exact wpList_load_row hgd _ x ho B hx t cs.toArray (0, 0) _ h hu rfl (by rw [info_rtt]; simp [hl]) k
/-- a whole estimate is stored -/
theorem rt_store {ops : Array Oper} {rest : List Oper} {o : Oper} {a : Act} {Q : Exit → Act → World → Prop} (hgd : o.guard = none) (x y : Operand) (ho : o.op = .store 23 x y) (hx : a.eval x = .pointer (some ⟨B, 0, none⟩))
    (vs : List Value) (hy : a.eval y = .agg vs.toArray) (h : Bx W B t cs) (hl : cs.length = 5) (hv : vs.length = 5) (h1 : vs.all (·.oneCell') = true) (k : wpList Try.prog ops Q rest (a.put o.dst undef) (W.setRow B vs.toArray)) : wpList Try.prog ops Q (o :: rest) a W :=
  wpList_store_row hgd _ x y ho B vs.toArray hx hy t cs.toArray h (by rw [info_rtt]; simp [hv]) (by simp [hl, hv]) (by simpa using h1) k
theorem rt_var (h : Bx W B t cs) (hl : cs.length = 5) : (Go.loadVar 23 ⟨B, 0, none⟩).run Try.prog W = .ok (.agg cs.toArray) W := by
  obtain ⟨fs, hu⟩ := rtt_struct
  exact run_loadVar_row W B t 23 cs.toArray (0, 0) _ h hu rfl (by rw [info_rtt]; simp [hl])
/-- a box, and a number: what the call hands back -/
theorem rt_end {fn : Func} {tmps : Array Value} {R : Ending → World → Prop} {v : Value} {ds : List Deferred} {p q : Tmp} (hr : fn.results = #[.cell p 23, .tmp q]) (h2 : tmps.getD p undef = .pointer (some ⟨B, 0, none⟩)) (h3 : tmps.getD q undef = v)
    (e : Bx W B t cs) (hl : cs.length = 5) (hd : ds = []) (h : R (.returned (.tuple #[.agg cs.toArray, v])) W) : bodyPost Try.prog fn R .ret { tmps := tmps, defers := ds } W := by
  have l2 := rt_var e hl
  have h2a : tmps[p]?.getD undef = .pointer (some ⟨B, 0, none⟩) := by simpa using h2
  have h2b : tmps[q]?.getD undef = v := by simpa using h3
  refine bodyPost_ret (v := .tuple #[.agg cs.toArray, v]) ?_ hd h
  simp [results, hr, h2a, h2b, asAddr, l2]
end

/-- an estimate and an error -/
def TellE (w w' : World) (e : Ending) (x : Rt × Int) : Prop := e = .returned (.tuple #[.agg #[.bool x.1.has, .int .i64 x.1.srtt, .int .i64 x.1.vr, .int .i64 x.1.rto, .int .i64 x.1.shift], .int .i64 x.2]) ∧ Below w.heap.size w w'


end Go.Proofs.Ytbkmadlekigjfaa
