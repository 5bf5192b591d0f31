/- The landed package wire: decoded as a contract of the call. -/
import Derived.Test.YtfglagkpknpgdaaProg
import Derived.Test.YtfglagkpknpgdaaWi5
import Derived.Test.YtfglagkpknpgdaaWi6
import Derived.Test.YtfglagkpknpgdaaTail
import Derived.WalkKit
import Derived.WalkSpells
import Derived.WalkSmall
import Derived.Lib.Hide
import Derived.Below
import Derived.Outline
import Derived.Defers
import Derived.Recover
import Derived.OrdersHeld
namespace Go.Proofs.Ytfglagkpknpgdaa
open Go.RowKit
set_option linter.unusedVariables false
set_option linter.unusedSimpArgs false

/-- a whole segment is loaded, in a region that draws its order -/
theorem Bx.yields {ops : Array Oper} {S : World → Prop} {op : Oper} {a : Act} {B : Nat} (hw : Region.wanted op (yielded ops a.tmps) = true) (x : Operand) (ho : op.op = .load 26 x)
    (hx : a.eval x = .pointer (some ⟨B, 0, none⟩)) (cs : List Value) (hl : cs.length = 15) (t : TypeId) (hS : ∀ W, S W → Bx W B t cs) : YieldsIf Try.prog ops S op (.agg cs.toArray) a := by
  obtain ⟨fs, hu⟩ := seg_struct
  exact .inl ⟨hw, fun w hw' => by
    unfold execOp
    simp only [ho, hx, Instr.loadAt, Instr.sureAddr, Sem.run_bind, Sem.run_pure, Result.andThen_ok, run_loadVar_row w B t 26 cs.toArray (0, 0) _ (hS w hw') hu rfl (by rw [info_seg]; simp [hl])]⟩
theorem Bx.loadVar {w : World} {B : Nat} {t : TypeId} {cs : List Value} (h : Bx w B t cs) (hl : cs.length = 15) : (Go.loadVar 26 ⟨B, 0, none⟩).run Try.prog w = .ok (.agg cs.toArray) w := by
  obtain ⟨fs, hu⟩ := seg_struct
  exact run_loadVar_row w B t 26 cs.toArray (0, 0) _ h hu rfl (by rw [info_seg]; simp [hl])

def NP : Exit → Prop
  | .panic _ => False
  | _ => True
theorem wp_calm {P : Program} {c : Code} {Q : Exit → Act → World → Prop} {a : Act} {w : World} (h : c.wp P (fun e a w => NP e ∧ Q e a w) a w) : c.wp P Q a w :=
  Code.wp_mono (fun _ _ _ h => h.2) h
/-- behind the deferred function: the results are read from their boxes -/
theorem leaves_end {fn : Func} {tmps : Array Value} {R : Ending → World → Prop} {W : World} {Z K : Nat} {u : FrameMode} {t : TypeId} {cs : List Value} {b : Bool} (hu : settle u = .returning) (hr : fn.results = #[.cell 2 26, .cell 3 4]) (h2 : tmps.getD 2 undef = .pointer (some ⟨Z, 0, none⟩) ∧ tmps.getD 3 undef = .pointer (some ⟨K, 0, none⟩))
    (e : Bx W Z t cs) (hl : cs.length = 15) (k : Bx W K 4 [.bool b]) (h : R (.returned (.tuple #[.agg cs.toArray, .bool b])) W) : Leaves Try.prog fn tmps R [] (settle u) W := by
  have l2 := e.loadVar hl
  have c2 := k.cell 0 rfl
  have h2a : tmps[2]?.getD undef = .pointer (some ⟨Z, 0, none⟩) := by simpa using h2.1
  have h2b : tmps[3]?.getD undef = .pointer (some ⟨K, 0, none⟩) := by simpa using h2.2
  rw [hu]
  refine ⟨_, ?_, h⟩
  have lb : (Go.loadVar 4 ⟨K, 0, none⟩).run Try.prog W = .ok (.bool b) W := by simp [go_sem, c2]
  simp [results, hr, h2a, h2b, asAddr, l2, lb]

def okS (n : Nat) (l : List Int) : Prop := 32 ≤ n ∧ 32 + 8 * many l ≤ n

set_option maxRecDepth 100000 in
set_option maxHeartbeats 4000000 in
theorem decoded_any (A : Option Addr) (n c : Nat) (l : List Int) (w : World) (hs : Sl w A n c l) (hn : n ≤ 1000000) :
    Calls Try.prog 25 #[.slice A n c] w fun e w' => Below w.heap.size w w' ∧ ((¬ (32 ≤ n ∧ 32 + 8 * many l ≤ n) ∧ e = .returned (.tuple #[.agg zeroSeg.toArray, .bool false])) ∨ ((32 ≤ n ∧ 32 + 8 * many l ≤ n) ∧ ∃ G m d R k q, e = .returned (.tuple #[.agg #[.int .i64 (parS l).kind, .int .i64 (parS l).sub, .bool (parS l).fin, .bool (parS l).ecn, .int .u32 (parS l).seq, .int .u32 (parS l).dsn, .int .u32 (parS l).got, .int .u32 (parS l).dgot, .int .i64 (parS l).win, .int .i64 (parS l).ace, .int .u32 (parS l).ce, .int .u32 (parS l).sent, .int .u32 (parS l).echo, .slice G m d, .slice R k q], .bool (smay (parS l))]) ∧ Sc w' w.heap.size G m d (parS l).sacks ∧ Sl w' R k q (parS l).b)) := by
  have hmf : ∀ (fn : Fn) (first cap : Array Value) (w : World), (Instr.makeFunc fn first cap).run Try.prog w = .ok (.func fn first cap) w := fun _ _ _ _ => rfl
  obtain ⟨Z, hZ⟩ : ∃ Z, w.heap.size = Z := ⟨_, rfl⟩
  obtain ⟨w0, hw0⟩ : ∃ w0, ((w.alloc (.cells #[.int .i64 0, .int .i64 0, .bool false, .bool false, .int .u32 0, .int .u32 0, .int .u32 0, .int .u32 0, .int .i64 0, .int .i64 0, .int .u32 0, .int .u32 0, .int .u32 0, .slice none 0 0, .slice none 0 0] 26)).alloc (.cells #[.bool false] 4)).alloc (.cells #[.slice A n c] 62) = w0 := ⟨_, rfl⟩
  have e0 : Bx w0 Z 26 zeroSeg := by rw [← hw0, ← hZ]; exact ((Bx.new w 26 zeroSeg).alloc _).alloc _
  have k0 : Bx w0 (Z + 1) 4 [.bool false] := by
    rw [← hw0, ← hZ]
    have := (Bx.new (w.alloc (.cells #[.int .i64 0, .int .i64 0, .bool false, .bool false, .int .u32 0, .int .u32 0, .int .u32 0, .int .u32 0, .int .i64 0, .int .i64 0, .int .u32 0, .int .u32 0, .int .u32 0, .slice none 0 0, .slice none 0 0] 26)) 4 [.bool false]).alloc (.cells #[.slice A n c] 62)
    simpa using this
  have b0 : Below Z w w0 := by rw [← hw0]; exact (((Below.refl _ _).alloc (by omega) _).alloc (by simp; omega) _).alloc (by simp; omega) _
  have hB0 : Bx w0 (Z + 1 + 1) 62 [.slice A n c] := by
    rw [← hw0, ← hZ]
    have := Bx.new ((w.alloc (.cells #[.int .i64 0, .int .i64 0, .bool false, .bool false, .int .u32 0, .int .u32 0, .int .u32 0, .int .u32 0, .int .i64 0, .int .i64 0, .int .u32 0, .int .u32 0, .int .u32 0, .slice none 0 0, .slice none 0 0] 26)).alloc (.cells #[.bool false] 4)) 62 [.slice A n c]
    simpa using this
  have hsz : w0.heap.size = Z + 3 := by rw [← hw0]; simp [hZ]
  have r0 : Rr w0 (Z + 1 + 1) Z n l := ⟨A, c, hB0, hs.keep (by rw [hZ]; exact b0), fun h0 b o e => by
    obtain ⟨b', o', e', hl, _⟩ := hs.rd.at_ h0
    rw [e] at e'; cases e'; omega⟩
  go_enter_defers Try.func25, Try.ntmps25
  rw [hZ]
  go_wp2_with fail
  clear hw0 hB0
  refine (seg_any (Z + 1 + 1) Z n l _ r0 (by omega) hn).mono ?_
  rintro e w1 ⟨g1, hc⟩
  have e1 := e0.grown g1 (fun h => by cases h)
  have k1 := k0.grown g1 (fun h => by cases h)
  have b1 : Below Z w w1 := b0.grown g1 (by omega) (fun k hk => by cases hk; omega)
  rcases hc with ⟨hno, rfl⟩ | ⟨hyes, G, m, d, R, k, q, rfl, sg, sr⟩
  · unfold missC
    go_wp2_with fail
    refine leaves_cons (f := 32) (args := #[.pointer (some ⟨Z, 0, none⟩), .pointer (some ⟨Z + 1, 0, none⟩)]) (by simp) (by simp [go_sem]) ?_
    refine (catch_miss Z (Z + 1) zeroSeg false [] _ e1 rfl k1 (by omega)).mono ?_
    rintro e u' w2 ⟨rfl, rfl, rfl⟩
    have e2 : Bx (((w1.alloc (.cells #[] 59)).setRow Z zeroSeg.toArray).setCell ⟨Z + 1, 0, none⟩ (.bool false)) Z 26 zeroSeg := ((e1.alloc (.cells #[] 59)).put zeroSeg).far (by simp) _
    have k2 : Bx (((w1.alloc (.cells #[] 59)).setRow Z zeroSeg.toArray).setCell ⟨Z + 1, 0, none⟩ (.bool false)) (Z + 1) 4 [.bool false] := ((k1.alloc (.cells #[] 59)).grown (grown_put _ Z _) (fun h => by cases h)).set 0 (.bool false)
    have b2 : Below Z w (((w1.alloc (.cells #[] 59)).setRow Z zeroSeg.toArray).setCell ⟨Z + 1, 0, none⟩ (.bool false)) := by
      have hlt := e1.lt
      exact ((b1.alloc (by omega) _).grown (grown_put _ Z zeroSeg.toArray) (by simp; omega) (fun k hk => by cases hk; omega)).setCell (by simp) _
    refine leaves_end (by rfl) (by rfl) ⟨by rfl, by rfl⟩ e2 rfl k2 ?_
    first | exact ⟨b2, Or.inl ⟨hno, rfl⟩⟩ | exact ⟨b2, rfl⟩
  · have g1' := g1
    have hlm := sg.sr.rd.len
    have hlb := sr.sl.rd.len
    have sml : m ≤ 9223372036854775807 := by rw [← hlm, par_len]; omega
    have sbl : k ≤ 9223372036854775807 := by
      have h1 : (l.drop (32 + 8 * many l)).length = k := hlb
      rw [List.length_drop, hs.rd.len] at h1; omega
    rw [hsz] at sg
    have sg3 := sg.grown (grown_put _ Z ([.int .i64 (parS l).kind, .int .i64 (parS l).sub, .bool (parS l).fin, .bool (parS l).ecn, .int .u32 (parS l).seq, .int .u32 (parS l).dsn, .int .u32 (parS l).got, .int .u32 (parS l).dgot, .int .i64 (parS l).win, .int .i64 (parS l).ace, .int .u32 (parS l).ce, .int .u32 (parS l).sent, .int .u32 (parS l).echo, .slice G m d, .slice R k q] : List Value).toArray) (fun k hk => by cases hk; omega)
    have sr3 := sr.grown (grown_put _ Z ([.int .i64 (parS l).kind, .int .i64 (parS l).sub, .bool (parS l).fin, .bool (parS l).ecn, .int .u32 (parS l).seq, .int .u32 (parS l).dsn, .int .u32 (parS l).got, .int .u32 (parS l).dgot, .int .i64 (parS l).win, .int .i64 (parS l).ace, .int .u32 (parS l).ce, .int .u32 (parS l).sent, .int .u32 (parS l).echo, .slice G m d, .slice R k q] : List Value).toArray) (fun k hk => by cases hk; omega)
    have e3 := e1.put [.int .i64 (parS l).kind, .int .i64 (parS l).sub, .bool (parS l).fin, .bool (parS l).ecn, .int .u32 (parS l).seq, .int .u32 (parS l).dsn, .int .u32 (parS l).got, .int .u32 (parS l).dgot, .int .i64 (parS l).win, .int .i64 (parS l).ace, .int .u32 (parS l).ce, .int .u32 (parS l).sent, .int .u32 (parS l).echo, .slice G m d, .slice R k q]
    have k3 : Bx (w1.setRow Z ([.int .i64 (parS l).kind, .int .i64 (parS l).sub, .bool (parS l).fin, .bool (parS l).ecn, .int .u32 (parS l).seq, .int .u32 (parS l).dsn, .int .u32 (parS l).got, .int .u32 (parS l).dgot, .int .i64 (parS l).win, .int .i64 (parS l).ace, .int .u32 (parS l).ce, .int .u32 (parS l).sent, .int .u32 (parS l).echo, .slice G m d, .slice R k q] : List Value).toArray) (Z + 1) 4 [.bool false] := k1.grown (grown_put _ Z _) (fun h => by cases h)
    have b3 : Below Z w (w1.setRow Z ([.int .i64 (parS l).kind, .int .i64 (parS l).sub, .bool (parS l).fin, .bool (parS l).ecn, .int .u32 (parS l).seq, .int .u32 (parS l).dsn, .int .u32 (parS l).got, .int .u32 (parS l).dgot, .int .i64 (parS l).win, .int .i64 (parS l).ace, .int .u32 (parS l).ce, .int .u32 (parS l).sent, .int .u32 (parS l).echo, .slice G m d, .slice R k q] : List Value).toArray) := b1.grown (grown_put _ Z _) (by have := e1.lt; omega) (fun k hk => by cases hk; omega)
    go_wp2_with (refine Bx.stepStore rfl (.tmp 2) (.tmp 8) rfl rfl [.int .i64 (parS l).kind, .int .i64 (parS l).sub, .bool (parS l).fin, .bool (parS l).ecn, .int .u32 (parS l).seq, .int .u32 (parS l).dsn, .int .u32 (parS l).got, .int .u32 (parS l).dgot, .int .i64 (parS l).win, .int .i64 (parS l).ace, .int .u32 (parS l).ce, .int .u32 (parS l).sent, .int .u32 (parS l).echo, .slice G m d, .slice R k q] rfl e1 rfl rfl rfl ?_)
    refine wp_calm ?_
    refine wp_region_tail 3 5 (fun W => Bx W Z 26 [.int .i64 (parS l).kind, .int .i64 (parS l).sub, .bool (parS l).fin, .bool (parS l).ecn, .int .u32 (parS l).seq, .int .u32 (parS l).dsn, .int .u32 (parS l).got, .int .u32 (parS l).dgot, .int .i64 (parS l).win, .int .i64 (parS l).ace, .int .u32 (parS l).ce, .int .u32 (parS l).sent, .int .u32 (parS l).echo, .slice G m d, .slice R k q] ∧ Bx W (Z + 1) 4 [.bool false] ∧ Below Z w W ∧ Sc W (Z + 3) G m d (parS l).sacks ∧ Su W Z R k q (parS l).b) (by kernel_rfl) (by rfl) (by decide) ?_
    have HS : ((fun W => Bx W Z 26 [.int .i64 (parS l).kind, .int .i64 (parS l).sub, .bool (parS l).fin, .bool (parS l).ecn, .int .u32 (parS l).seq, .int .u32 (parS l).dsn, .int .u32 (parS l).got, .int .u32 (parS l).dgot, .int .i64 (parS l).win, .int .i64 (parS l).ace, .int .u32 (parS l).ce, .int .u32 (parS l).sent, .int .u32 (parS l).echo, .slice G m d, .slice R k q] ∧ Bx W (Z + 1) 4 [.bool false] ∧ Below Z w W ∧ Sc W (Z + 3) G m d (parS l).sacks ∧ Su W Z R k q (parS l).b)) _ := ⟨e3.drew, k3.drew, b3.drew, sg3.keep (Below.refl _ _).drew, sr3.keep (Below.refl _ _).drew⟩
    refine wpAnyT_take (i := 0) (v := .agg ([.int .i64 (parS l).kind, .int .i64 (parS l).sub, .bool (parS l).fin, .bool (parS l).ecn, .int .u32 (parS l).seq, .int .u32 (parS l).dsn, .int .u32 (parS l).got, .int .u32 (parS l).dgot, .int .i64 (parS l).win, .int .i64 (parS l).ace, .int .u32 (parS l).ce, .int .u32 (parS l).sent, .int .u32 (parS l).echo, .slice G m d, .slice R k q] : List Value).toArray) rfl (by kernel_rfl) (fun _ _ _ h => h.1.elim) (Bx.yields (by rfl) (.tmp 2) rfl rfl [.int .i64 (parS l).kind, .int .i64 (parS l).sub, .bool (parS l).fin, .bool (parS l).ecn, .int .u32 (parS l).seq, .int .u32 (parS l).dsn, .int .u32 (parS l).got, .int .u32 (parS l).dgot, .int .i64 (parS l).win, .int .i64 (parS l).ace, .int .u32 (parS l).ce, .int .u32 (parS l).sent, .int .u32 (parS l).echo, .slice G m d, .slice R k q] rfl 26 (fun W hW => hW.1)) HS ?_
    try simp only [Act.put, List.setIfInBounds_toArray, List.set_cons_zero, List.set_cons_succ]
    refine wpAnyT_take (i := 1) (v := .agg ([.int .i64 (parS l).kind, .int .i64 (parS l).sub, .bool (parS l).fin, .bool (parS l).ecn, .int .u32 (parS l).seq, .int .u32 (parS l).dsn, .int .u32 (parS l).got, .int .u32 (parS l).dgot, .int .i64 (parS l).win, .int .i64 (parS l).ace, .int .u32 (parS l).ce, .int .u32 (parS l).sent, .int .u32 (parS l).echo, .slice G m d, .slice R k q] : List Value).toArray) rfl (by kernel_rfl) (fun _ _ _ h => h.1.elim) (Bx.yields (by rfl) (.tmp 2) rfl rfl [.int .i64 (parS l).kind, .int .i64 (parS l).sub, .bool (parS l).fin, .bool (parS l).ecn, .int .u32 (parS l).seq, .int .u32 (parS l).dsn, .int .u32 (parS l).got, .int .u32 (parS l).dgot, .int .i64 (parS l).win, .int .i64 (parS l).ace, .int .u32 (parS l).ce, .int .u32 (parS l).sent, .int .u32 (parS l).echo, .slice G m d, .slice R k q] rfl 26 (fun W hW => hW.1)) HS ?_
    try simp only [Act.put, List.setIfInBounds_toArray, List.set_cons_zero, List.set_cons_succ]
    refine wpAnyT_one (k := 2) rfl (by kernel_rfl) (by decide) (fun K hK => ?_)
    go_simp
    refine (lmay_any _ _ _ _ _ _ _ _ _ _ _ _ _ G m d R k q (parS l).sacks (parS l).b _ sg.sr.rd.len sr.sl.rd.len (by omega) (by omega)).mono ?_; rintro e w4 ⟨rfl, hb4⟩
    have HS : ((fun W => Bx W Z 26 [.int .i64 (parS l).kind, .int .i64 (parS l).sub, .bool (parS l).fin, .bool (parS l).ecn, .int .u32 (parS l).seq, .int .u32 (parS l).dsn, .int .u32 (parS l).got, .int .u32 (parS l).dgot, .int .i64 (parS l).win, .int .i64 (parS l).ace, .int .u32 (parS l).ce, .int .u32 (parS l).sent, .int .u32 (parS l).echo, .slice G m d, .slice R k q] ∧ Bx W (Z + 1) 4 [.bool false] ∧ Below Z w W ∧ Sc W (Z + 3) G m d (parS l).sacks ∧ Su W Z R k q (parS l).b)) _ := ⟨HS.1.kept hb4, HS.2.1.kept hb4, HS.2.2.1.trans (hb4.mono (Nat.le_of_lt HS.1.lt)), HS.2.2.2.1.keep hb4, HS.2.2.2.2.keep hb4⟩
    refine hK _ _ HS ?_
    clear hK K
    try simp only [Act.put, List.setIfInBounds_toArray, List.set_cons_zero, List.set_cons_succ]
    refine ⟨by kernel_rfl, ?_⟩
    simp only [List.drop_succ_cons, List.drop_zero]

    obtain ⟨e4, k4, b4, sg4, sr4⟩ := HS
    have k5 : Bx (w4.setRow Z ([.int .i64 (parS l).kind, .int .i64 (parS l).sub, .bool (parS l).fin, .bool (parS l).ecn, .int .u32 (parS l).seq, .int .u32 (parS l).dsn, .int .u32 (parS l).got, .int .u32 (parS l).dgot, .int .i64 (parS l).win, .int .i64 (parS l).ace, .int .u32 (parS l).ce, .int .u32 (parS l).sent, .int .u32 (parS l).echo, .slice G m d, .slice R k q] : List Value).toArray) (Z + 1) 4 [.bool false] := k4.grown (grown_put _ Z _) (fun h => by cases h)
    have c5 := k5.cell 0 rfl
    have f5 := k5.free 0
    go_wp2_with (refine Bx.stepStore rfl (.tmp 2) (.tmp 9) rfl rfl [.int .i64 (parS l).kind, .int .i64 (parS l).sub, .bool (parS l).fin, .bool (parS l).ecn, .int .u32 (parS l).seq, .int .u32 (parS l).dsn, .int .u32 (parS l).got, .int .u32 (parS l).dgot, .int .i64 (parS l).win, .int .i64 (parS l).ace, .int .u32 (parS l).ce, .int .u32 (parS l).sent, .int .u32 (parS l).echo, .slice G m d, .slice R k q] rfl e4 rfl rfl rfl ?_)
    refine ⟨trivial, ?_⟩
    go_wp2_with fail
    refine leaves_cons (f := 32) (args := #[.pointer (some ⟨Z, 0, none⟩), .pointer (some ⟨Z + 1, 0, none⟩)]) (by simp) (by simp [go_sem]) ?_
    refine (catch_idle Z (Z + 1) _).mono ?_
    rintro e u' w5 ⟨rfl, rfl, rfl⟩
    have e6 := ((e4.put [.int .i64 (parS l).kind, .int .i64 (parS l).sub, .bool (parS l).fin, .bool (parS l).ecn, .int .u32 (parS l).seq, .int .u32 (parS l).dsn, .int .u32 (parS l).got, .int .u32 (parS l).dgot, .int .i64 (parS l).win, .int .i64 (parS l).ace, .int .u32 (parS l).ce, .int .u32 (parS l).sent, .int .u32 (parS l).echo, .slice G m d, .slice R k q]).far (p := ⟨Z + 1, 0, none⟩) (by simp) (.bool (smay (parS l)))).alloc (.cells #[] 59)
    have k6 := (k5.set 0 (.bool (smay (parS l)))).alloc (.cells #[] 59)
    have b6 := (((b4.grown (grown_put _ Z ([.int .i64 (parS l).kind, .int .i64 (parS l).sub, .bool (parS l).fin, .bool (parS l).ecn, .int .u32 (parS l).seq, .int .u32 (parS l).dsn, .int .u32 (parS l).got, .int .u32 (parS l).dgot, .int .i64 (parS l).win, .int .i64 (parS l).ace, .int .u32 (parS l).ce, .int .u32 (parS l).sent, .int .u32 (parS l).echo, .slice G m d, .slice R k q] : List Value).toArray) (by have := e4.lt; omega) (fun k hk => by cases hk; omega)).setCell (p := ⟨Z + 1, 0, none⟩) (by simp) (.bool (smay (parS l))))).alloc (by have := e4.lt; simp [World.setRow]; omega) (.cells #[] 59)
    have sg6 := ((sg4.grown (grown_put _ Z ([.int .i64 (parS l).kind, .int .i64 (parS l).sub, .bool (parS l).fin, .bool (parS l).ecn, .int .u32 (parS l).seq, .int .u32 (parS l).dsn, .int .u32 (parS l).got, .int .u32 (parS l).dgot, .int .i64 (parS l).win, .int .i64 (parS l).ace, .int .u32 (parS l).ce, .int .u32 (parS l).sent, .int .u32 (parS l).echo, .slice G m d, .slice R k q] : List Value).toArray) (fun k hk => by cases hk; omega)).grown (grown_set _ ⟨Z + 1, 0, none⟩ (.bool (smay (parS l)))) (fun k hk => by cases hk; show Z + 1 < Z + 3; omega)).grown (World.grownBy_alloc _ (.cells #[] 59) .none) (fun k hk => by cases hk)
    have sr6 := ((sr4.grown (grown_put _ Z ([.int .i64 (parS l).kind, .int .i64 (parS l).sub, .bool (parS l).fin, .bool (parS l).ecn, .int .u32 (parS l).seq, .int .u32 (parS l).dsn, .int .u32 (parS l).got, .int .u32 (parS l).dgot, .int .i64 (parS l).win, .int .i64 (parS l).ace, .int .u32 (parS l).ce, .int .u32 (parS l).sent, .int .u32 (parS l).echo, .slice G m d, .slice R k q] : List Value).toArray) (fun k hk => by cases hk; omega)).grown (grown_set _ ⟨Z + 1, 0, none⟩ (.bool (smay (parS l)))) (fun k hk => by cases hk; show Z ≤ Z + 1; omega)).grown (World.grownBy_alloc _ (.cells #[] 59) .none) (fun k hk => by cases hk)
    refine leaves_end (by rfl) (by rfl) ⟨by rfl, by rfl⟩ e6 rfl k6 ?_
    first | exact ⟨b6, Or.inr ⟨hyes, G, m, d, R, k, q, rfl, sg6.mono (by omega), sr6.sl⟩⟩ | exact ⟨b6, G, m, d, R, k, q, rfl, sg6.mono (by omega), sr6.sl⟩
end Go.Proofs.Ytfglagkpknpgdaa
