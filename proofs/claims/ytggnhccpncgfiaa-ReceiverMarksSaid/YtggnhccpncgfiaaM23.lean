/- The texts SpIn, WeIn, RcIn. -/
import Derived.Below
import Derived.ChangeOld
import Derived.Deep.SlicePairs
import Derived.Lib.SmallJoins
import Derived.OpenShut
import Derived.ProofKit
import Derived.Test.YtggnhccpncgfiaaProg
import Derived.WalkKit
import Derived.Test.YtggnhccpncgfiaaM01
import Derived.Test.YtggnhccpncgfiaaM02
import Derived.Test.YtggnhccpncgfiaaM12
set_option linter.all false
set_option maxRecDepth 100000
namespace Go.Proofs.Ytggnhccpncgfiaa
open Go.ChangeShapes Go.WideShapes Go.ChangeAt Go.RowKit Go.Joins
theorem prog_laid : laidOutB Try.prog = true := by kernel_rfl
theorem prog_own : ownKnob Try.prog.godebug = none := by kernel_rfl
theorem cells_sp : Try.prog.cellsOf 60 = 2 := by kernel_rfl
theorem cells_int : Try.prog.cellsOf 3 = 1 := by kernel_rfl
theorem w64_of_wf {n : Int} (h : (Lit.int .i64 n).wf = true) : W64 n := by
  simp [Lit.wf, IntKind.min, IntKind.max, IntKind.signed, IntKind.bits] at h
  unfold W64; omega
end Go.Proofs.Ytggnhccpncgfiaa
set_option maxRecDepth 100000
namespace Go.Proofs.Ytggnhccpncgfiaa
open Go.ChangeShapes Go.WideShapes Go.ChangeAt Go.RowKit Go.Joins
theorem sl_of_cells {W : World} {A : Option Addr} {len cap : Nat} {zs : List Int} (hl : len ≤ cap) (hm : cap ≤ maxLen) (hn : A = none → cap = 0) (hz : zs.length = cap) (hw : ∀ n ∈ zs, (Lit.int .u8 n).wf = true)
    (hc : ∀ a, A = some a → ∀ i, i < cap → W.cell? (a.add i) = some (.int .u8 (zs.getD i 0))) : Sl W A len cap (zs.take len) := by
  refine ⟨hl, hm, hn, ?_⟩
  cases A with
  | none =>
    have h0 := hn rfl
    obtain rfl : len = 0 := by omega
    rw [List.take_zero]
    exact Rd.empty _ _
  | some a =>
    have hca := hc a rfl
    refine Rd.of_ints hl hz (fun i hi => hca i (by omega)) hw (fun b o e h0 => ?_)
    have := World.block_lt_of_cell? _ _ (hca 0 (by omega))
    rw [e] at this
    simpa [Addr.add] using this
theorem open_bytes1 {H : Type} {enc : TypeId × Value → H} {W : World} {v : Value} {fuel : Nat} {d : DataW H} {p : List MemPlace} (hf : DataW.trod enc Try.prog W 0 (fun _ => true) true fuel 22 [v] = some (d, p)) : ∃ A n c l, v = .slice A n c ∧ Sl W A n c l := by
  rcases open_ints Try.underlying22 Try.underlying5 (by kernel_rfl) hf with ⟨hcs, _⟩ | ⟨x, l, c, zs, hcs, _, hl, hm, hz, hreach, hcell, hwz⟩
  · simp at hcs
    subst hcs
    exact ⟨none, 0, 0, [], rfl, Sl.none _⟩
  · simp at hcs
    subst hcs
    have hz' : zs.length = c := by simpa using hz
    exact ⟨some x, l, c, zs.take l, rfl, sl_of_cells hl hm (fun e => by cases e) hz' hwz (fun a e i hi => by cases e; exact hcell i (by omega))⟩
theorem open_spans1 {H : Type} {enc : TypeId × Value → H} {W : World} {v : Value} {fuel : Nat} {d : DataW H} {p : List MemPlace} (hf : DataW.trod enc Try.prog W 0 (fun _ => true) true fuel 23 [v] = some (d, p)) : ∃ a len cap l, v = .slice a len cap ∧ Ss W a len cap l := by
  rcases Go.Deep.open_slice_pairs Try.underlying23 Try.underlying60 cells_sp rfl rfl cells_int cells_int hf with ⟨hcs, _⟩ | ⟨x, len, cap, m, n, V0, V1, D0, D1, P0, P1, hcs, _, hl, hm, hmm, _, hall⟩
  · simp at hcs
    subst hcs
    exact ⟨none, 0, 0, [], rfl, Ss.none _⟩
  · simp at hcs
    subst hcs
    simp only [if_true] at hmm
    subst hmm
    have hint : ∀ i, i < m → ∃ q : Int × Int, V0 i = .int .i64 q.1 ∧ V1 i = .int .i64 q.2 ∧ W64 q.1 ∧ W64 q.2 := by
      intro i hi
      obtain ⟨_, _, t0, t1⟩ := hall i hi
      obtain ⟨q0, e0, _, w0⟩ := DataW.trod_int Try.underlying3 t0
      obtain ⟨q1, e1, _, w1⟩ := DataW.trod_int Try.underlying3 t1
      simp only [List.cons.injEq, and_true] at e0 e1
      exact ⟨(q0, q1), e0, e1, w64_of_wf w0, w64_of_wf w1⟩
    obtain ⟨q, hq⟩ := Go.Deep.choose_lt hint
    have hlen : ((List.range len).map q).length = len := by simp
    have hsp : ∀ i, i < len → sp ((List.range len).map q) i = q i := fun i hi => by
      rw [sp_eq (by simpa using hi)]; simp
    refine ⟨some x, len, _, (List.range len).map q, rfl, hl, hm, (fun e => by cases e), hlen, ?_, fun h0 => ?_⟩
    · intro z hz
      obtain ⟨i, hi, rfl⟩ := List.mem_map.1 hz
      have := List.mem_range.1 hi
      exact (hq i (by omega)).2.2
    · have c0 := (hall 0 (by omega)).1
      have hspot : x.spot = none := by
        have := World.cell?_spot c0
        simpa [Addr.add] using this
      have hlt := World.block_lt_of_cell? _ _ c0
      obtain ⟨b, o, s⟩ := x
      simp only at hspot
      subst hspot
      have hadd : ∀ j, (⟨b, o, none⟩ : Addr).add j = ⟨b, o + j, none⟩ := fun j => by
        unfold Addr.add
        split
        · next h => subst h; rfl
        · rfl
      refine ⟨b, o, rfl, by simpa [hadd] using hlt, fun i hi => ?_⟩
      obtain ⟨g0, g1, _, _⟩ := hall i (by omega)
      rw [hadd] at g0 g1
      rw [hsp i hi]
      have := hq i (by omega)
      exact ⟨by rw [g0, this.1], by rw [← Nat.add_assoc] at g1; rw [g1, this.2.1]⟩
theorem cells_we : Try.prog.cellsOf 25 = 5 := by kernel_rfl
end Go.Proofs.Ytggnhccpncgfiaa
set_option maxRecDepth 100000
namespace Go.Proofs.Ytggnhccpncgfiaa
open Go.ChangeShapes Go.WideShapes Go.ChangeAt Go.RowKit Go.Joins
theorem cells_pr : Try.prog.cellsOf 81 = 2 := by kernel_rfl
theorem cells_u32 : Try.prog.cellsOf 33 = 1 := by kernel_rfl
theorem u32_of_wf {n : Int} (h : (Lit.int .u32 n).wf = true) : U32 n := by
  simp [Lit.wf, IntKind.min, IntKind.max, IntKind.signed, IntKind.bits] at h
  unfold U32; omega
theorem open_pairs1 {H : Type} {enc : TypeId × Value → H} {W : World} {v : Value} {fuel : Nat} {d : DataW H} {p : List MemPlace} (hf : DataW.trod enc Try.prog W 0 (fun _ => true) true fuel 34 [v] = some (d, p)) : ∃ a len cap l, v = .slice a len cap ∧ Sr W a len cap l := by
  rcases Go.Deep.open_slice_pairs Try.underlying34 Try.underlying81 cells_pr rfl rfl cells_u32 cells_u32 hf with ⟨hcs, _⟩ | ⟨x, len, cap, m, n, V0, V1, D0, D1, P0, P1, hcs, _, hl, hm, hmm, _, hall⟩
  · simp at hcs
    subst hcs
    exact ⟨none, 0, 0, [], rfl, Sr.none _⟩
  · simp at hcs
    subst hcs
    simp only [if_true] at hmm
    subst hmm
    have hint : ∀ i, i < m → ∃ q : Int × Int, V0 i = .int .u32 q.1 ∧ V1 i = .int .u32 q.2 ∧ U32 q.1 ∧ U32 q.2 := by
      intro i hi
      obtain ⟨_, _, t0, t1⟩ := hall i hi
      obtain ⟨q0, e0, _, w0⟩ := DataW.trod_int Try.underlying33 t0
      obtain ⟨q1, e1, _, w1⟩ := DataW.trod_int Try.underlying33 t1
      simp only [List.cons.injEq, and_true] at e0 e1
      exact ⟨(q0, q1), e0, e1, u32_of_wf w0, u32_of_wf w1⟩
    obtain ⟨q, hq⟩ := Go.Deep.choose_lt hint
    have hlen : ((List.range len).map q).length = len := by simp
    have hsp : ∀ i, i < len → pr ((List.range len).map q) i = q i := fun i hi => by
      rw [pr_eq (by simpa using hi)]; simp
    refine ⟨some x, len, _, (List.range len).map q, rfl, hl, hm, (fun e => by cases e), hlen, ?_, fun h0 => ?_⟩
    · intro z hz
      obtain ⟨i, hi, rfl⟩ := List.mem_map.1 hz
      have := List.mem_range.1 hi
      exact (hq i (by omega)).2.2
    · have c0 := (hall 0 (by omega)).1
      have hspot : x.spot = none := by
        have := World.cell?_spot c0
        simpa [Addr.add] using this
      have hlt := World.block_lt_of_cell? _ _ c0
      obtain ⟨b, o, s⟩ := x
      simp only at hspot
      subst hspot
      have hadd : ∀ j, (⟨b, o, none⟩ : Addr).add j = ⟨b, o + j, none⟩ := fun j => by
        unfold Addr.add
        split
        · next h => subst h; rfl
        · rfl
      refine ⟨b, o, rfl, by simpa [hadd] using hlt, fun i hi => ?_⟩
      obtain ⟨g0, g1, _, _⟩ := hall i (by omega)
      rw [hadd] at g0 g1
      rw [hsp i hi]
      have := hq i (by omega)
      exact ⟨by rw [g0, this.1], by rw [← Nat.add_assoc] at g1; rw [g1, this.2.1]⟩
theorem open_agg15 {H : Type} {enc : TypeId × Value → H} {P : Program} {w : World} {base : Nat} {spare : Nat → Bool} {held : Bool} {r : Reach} {b0 : Nat} {t : TypeId} {f0 f1 f2 f3 f4 f5 f6 f7 f8 f9 f10 f11 f12 f13 f14 : Field} {v : Value} {d : DataW H} {p : List MemPlace} (hs : P.underlying t = some (.struct #[f0, f1, f2, f3, f4, f5, f6, f7, f8, f9, f10, f11, f12, f13, f14])) (hone : Go.Deep.oneCellFields P #[f0, f1, f2, f3, f4, f5, f6, f7, f8, f9, f10, f11, f12, f13, f14] = true) (hC : P.cellsOf t = 15)
    (hv : Value.okWide P w r b0 t v) (h : DataW.Trod enc P w base spare held t v d p) :
    ∃ (v0 v1 v2 v3 v4 v5 v6 v7 v8 v9 v10 v11 v12 v13 v14 : Value) (y0 y1 y2 y3 y4 y5 y6 y7 y8 y9 y10 y11 y12 y13 y14 : DataW H × List MemPlace) (n : Nat), v = .agg #[v0, v1, v2, v3, v4, v5, v6, v7, v8, v9, v10, v11, v12, v13, v14] ∧
      DataW.trod enc P w base spare held n f0.type [v0] = some y0 ∧ DataW.trod enc P w base spare held n f1.type [v1] = some y1 ∧ DataW.trod enc P w base spare held n f2.type [v2] = some y2 ∧ DataW.trod enc P w base spare held n f3.type [v3] = some y3 ∧ DataW.trod enc P w base spare held n f4.type [v4] = some y4 ∧ DataW.trod enc P w base spare held n f5.type [v5] = some y5 ∧ DataW.trod enc P w base spare held n f6.type [v6] = some y6 ∧ DataW.trod enc P w base spare held n f7.type [v7] = some y7 ∧ DataW.trod enc P w base spare held n f8.type [v8] = some y8 ∧ DataW.trod enc P w base spare held n f9.type [v9] = some y9 ∧ DataW.trod enc P w base spare held n f10.type [v10] = some y10 ∧ DataW.trod enc P w base spare held n f11.type [v11] = some y11 ∧ DataW.trod enc P w base spare held n f12.type [v12] = some y12 ∧ DataW.trod enc P w base spare held n f13.type [v13] = some y13 ∧ DataW.trod enc P w base spare held n f14.type [v14] = some y14 := by
  obtain ⟨cs, rfl, hsz⟩ := okWide_struct hs hv
  have h5 := hsz.trans hC
  obtain ⟨cs⟩ := cs
  match cs, h5 with
  | [c0, c1, c2, c3, c4, c5, c6, c7, c8, c9, c10, c11, c12, c13, c14], _ =>
  obtain ⟨fuel, hf⟩ := h
  obtain ⟨xs, n, _, _, hl, hlen, hf⟩ := DataW.trod_struct hs hf
  obtain ⟨o0, k0⟩ := Go.Deep.hone_of hone 0 f0 rfl
  obtain ⟨o1, k1⟩ := Go.Deep.hone_of hone 1 f1 rfl
  obtain ⟨o2, k2⟩ := Go.Deep.hone_of hone 2 f2 rfl
  obtain ⟨o3, k3⟩ := Go.Deep.hone_of hone 3 f3 rfl
  obtain ⟨o4, k4⟩ := Go.Deep.hone_of hone 4 f4 rfl
  obtain ⟨o5, k5⟩ := Go.Deep.hone_of hone 5 f5 rfl
  obtain ⟨o6, k6⟩ := Go.Deep.hone_of hone 6 f6 rfl
  obtain ⟨o7, k7⟩ := Go.Deep.hone_of hone 7 f7 rfl
  obtain ⟨o8, k8⟩ := Go.Deep.hone_of hone 8 f8 rfl
  obtain ⟨o9, k9⟩ := Go.Deep.hone_of hone 9 f9 rfl
  obtain ⟨o10, k10⟩ := Go.Deep.hone_of hone 10 f10 rfl
  obtain ⟨o11, k11⟩ := Go.Deep.hone_of hone 11 f11 rfl
  obtain ⟨o12, k12⟩ := Go.Deep.hone_of hone 12 f12 rfl
  obtain ⟨o13, k13⟩ := Go.Deep.hone_of hone 13 f13 rfl
  obtain ⟨o14, k14⟩ := Go.Deep.hone_of hone 14 f14 rfl
  match xs, hlen with
  | [y0, y1, y2, y3, y4, y5, y6, y7, y8, y9, y10, y11, y12, y13, y14], _ =>
    exact ⟨c0, c1, c2, c3, c4, c5, c6, c7, c8, c9, c10, c11, c12, c13, c14, y0, y1, y2, y3, y4, y5, y6, y7, y8, y9, y10, y11, y12, y13, y14, n, rfl, by simpa [Value.cells, o0, k0] using hf 0 f0 rfl, by simpa [Value.cells, o1, k1] using hf 1 f1 rfl, by simpa [Value.cells, o2, k2] using hf 2 f2 rfl, by simpa [Value.cells, o3, k3] using hf 3 f3 rfl, by simpa [Value.cells, o4, k4] using hf 4 f4 rfl, by simpa [Value.cells, o5, k5] using hf 5 f5 rfl, by simpa [Value.cells, o6, k6] using hf 6 f6 rfl, by simpa [Value.cells, o7, k7] using hf 7 f7 rfl, by simpa [Value.cells, o8, k8] using hf 8 f8 rfl, by simpa [Value.cells, o9, k9] using hf 9 f9 rfl, by simpa [Value.cells, o10, k10] using hf 10 f10 rfl, by simpa [Value.cells, o11, k11] using hf 11 f11 rfl, by simpa [Value.cells, o12, k12] using hf 12 f12 rfl, by simpa [Value.cells, o13, k13] using hf 13 f13 rfl, by simpa [Value.cells, o14, k14] using hf 14 f14 rfl⟩
theorem cells_sg : Try.prog.cellsOf 36 = 15 := by kernel_rfl
/-- a segment that came in -/
structure SegIn (W : World) (s : Sg) (G : Option Addr) (m d : Nat) (A : Option Addr) (n c : Nat) : Prop where
  w : SgW s
  sr : Sr W G m d s.sacks
  sl : Sl W A n c s.b
  kind : W64 s.kind
  sub : W64 s.sub
  win : W64 s.win
  ace : W64 s.ace
theorem open_seg {H : Type} {enc : TypeId × Value → H} {W : World} {r : Reach} {b0 : Nat} {v : Value} {d : DataW H} {p : List MemPlace} (hv : Value.okWide Try.prog W r b0 36 v) (h : DataW.Trod enc Try.prog W 0 (fun _ => true) true 36 v d p) :
    ∃ (kind sub : Int) (fin ecn : Bool) (seq dsn got dgot win ace ce sent echo : Int) (G : Option Addr) (m d : Nat) (A : Option Addr) (n c : Nat) (pl : List (Int × Int)) (bl : List Int), v = .agg #[.int .i64 kind, .int .i64 sub, .bool fin, .bool ecn, .int .u32 seq, .int .u32 dsn, .int .u32 got, .int .u32 dgot, .int .i64 win, .int .i64 ace, .int .u32 ce, .int .u32 sent, .int .u32 echo, .slice G m d, .slice A n c] ∧ SegIn W ⟨kind, sub, fin, ecn, seq, dsn, got, dgot, win, ace, ce, sent, echo, pl, bl⟩ G m d A n c := by
  obtain ⟨v0, v1, v2, v3, v4, v5, v6, v7, v8, v9, v10, v11, v12, v13, v14, y0, y1, y2, y3, y4, y5, y6, y7, y8, y9, y10, y11, y12, y13, y14, n, rfl, h0, h1, h2, h3, h4, h5, h6, h7, h8, h9, h10, h11, h12, h13, h14⟩ := open_agg15 Try.underlying36 (by kernel_rfl) cells_sg hv h
  obtain ⟨x0, e0, _, w0⟩ := DataW.trod_int Try.underlying3 h0
  obtain ⟨x1, e1, _, w1⟩ := DataW.trod_int Try.underlying3 h1
  obtain ⟨x2, e2, _⟩ := DataW.trod_bool Try.underlying4 h2
  obtain ⟨x3, e3, _⟩ := DataW.trod_bool Try.underlying4 h3
  obtain ⟨x4, e4, _, w4⟩ := DataW.trod_int Try.underlying33 h4
  obtain ⟨x5, e5, _, w5⟩ := DataW.trod_int Try.underlying33 h5
  obtain ⟨x6, e6, _, w6⟩ := DataW.trod_int Try.underlying33 h6
  obtain ⟨x7, e7, _, w7⟩ := DataW.trod_int Try.underlying33 h7
  obtain ⟨x8, e8, _, w8⟩ := DataW.trod_int Try.underlying3 h8
  obtain ⟨x9, e9, _, w9⟩ := DataW.trod_int Try.underlying3 h9
  obtain ⟨x10, e10, _, w10⟩ := DataW.trod_int Try.underlying33 h10
  obtain ⟨x11, e11, _, w11⟩ := DataW.trod_int Try.underlying33 h11
  obtain ⟨x12, e12, _, w12⟩ := DataW.trod_int Try.underlying33 h12
  obtain ⟨G, m, g, pl, rfl, hp⟩ := open_pairs1 h13
  obtain ⟨A, n2, c2, bl, rfl, hb⟩ := open_bytes1 h14
  simp only [List.cons.injEq, and_true] at e0 e1 e2 e3 e4 e5 e6 e7 e8 e9 e10 e11 e12
  subst e0 e1 e2 e3 e4 e5 e6 e7 e8 e9 e10 e11 e12
  exact ⟨x0, x1, x2, x3, x4, x5, x6, x7, x8, x9, x10, x11, x12, G, m, g, A, n2, c2, pl, bl, rfl, ⟨u32_of_wf w4, u32_of_wf w5, u32_of_wf w6, u32_of_wf w7, u32_of_wf w10, u32_of_wf w11, u32_of_wf w12, hp.rd.wide, hb.rd.small⟩, hp, hb, w64_of_wf w0, w64_of_wf w1, w64_of_wf w8, w64_of_wf w9⟩
theorem rc_fields {H : Type} {enc : TypeId × Value → H} {P : Program} {w : World} {base : Nat} {spare : Nat → Bool} {held : Bool} {t : TypeId} {fs : Array Field} {cs : List Value} {fuel : Nat} {y : DataW H × List MemPlace} (hs : P.underlying t = some (.struct fs)) (h : DataW.trod enc P w base spare held fuel t cs = some y) :
    ∃ n, ∀ (i : Nat) (f : Field), fs[i]? = some f → ∃ y', DataW.trod enc P w base spare held n f.type ((cs.drop f.offset).take (P.cellsOf f.type)) = some y' := by
  obtain ⟨xs, n, _, _, _, hlen, hf⟩ := DataW.trod_struct hs h
  refine ⟨n, fun i f hi => ?_⟩
  have hlt : i < fs.size := (Array.getElem?_eq_some_iff.1 hi).1
  exact ⟨xs[i]'(by omega), by rw [hf i f hi]; exact List.getElem?_eq_getElem (by omega)⟩
theorem rc_elems {H : Type} {enc : TypeId × Value → H} {P : Program} {w : World} {base : Nat} {spare : Nat → Bool} {held : Bool} {t e : TypeId} {k : Nat} {cs : List Value} {fuel : Nat} {y : DataW H × List MemPlace} (hs : P.underlying t = some (.array k e)) (h : DataW.trod enc P w base spare held fuel t cs = some y) :
    ∃ n, ∀ (i : Nat), i < k → ∃ y', DataW.trod enc P w base spare held n e ((cs.drop (i * P.cellsOf e)).take (P.cellsOf e)) = some y' := by
  obtain ⟨xs, n, _, _, _, hlen, hf⟩ := DataW.trod_array hs h
  exact ⟨n, fun i hi => ⟨xs[i]'(by omega), by rw [hf i hi]; exact List.getElem?_eq_getElem (by omega)⟩⟩
theorem rcells_bytes : Try.prog.cellsOf 22 = 1 := by kernel_rfl
theorem rcells_spans : Try.prog.cellsOf 23 = 1 := by kernel_rfl
theorem rcells_marks : Try.prog.cellsOf 27 = 5 := by kernel_rfl
theorem rcells_inlet : Try.prog.cellsOf 29 = 6 := by kernel_rfl
theorem rcells_inlets : Try.prog.cellsOf 30 = 24 := by kernel_rfl
theorem rcells_rc : Try.prog.cellsOf 32 = 29 := by kernel_rfl
theorem n64_of_wf {n : Int} (h : (Lit.int .i64 n).wf = true) : n64 n := w64_of_wf h
set_option maxRecDepth 100000 in
set_option maxHeartbeats 4000000 in
theorem receiver_of {H : Type} {enc : TypeId × Value → H} {W : World} {fuel : Nat} {cs : List Value} {y : DataW H × List MemPlace} (hl : cs.length = 29) (hf : DataW.trod enc Try.prog W 0 (fun _ => true) true fuel 32 cs = some y) : ∃ (s : Rcs) (r : Rc), cs = rcs s r ∧ RcM W (fun _ => True) s r := by
  match cs, hl with
  | c0 :: c1 :: c2 :: c3 :: c4 :: c5 :: c6 :: c7 :: c8 :: c9 :: c10 :: c11 :: c12 :: c13 :: c14 :: c15 :: c16 :: c17 :: c18 :: c19 :: c20 :: c21 :: c22 :: c23 :: c24 :: c25 :: c26 :: c27 :: c28 :: [], _ =>
    obtain ⟨m_r, h_r⟩ := rc_fields Try.underlying32 hf
    have q_w : ∃ y, DataW.trod enc Try.prog W 0 (fun _ => true) true m_r 25 [c0, c1, c2, c3, c4] = some y := by have h0 := h_r 0 _ rfl; simpa [cells_we] using h0
    obtain ⟨⟨d_w, p_w⟩, g_w⟩ := q_w
    obtain ⟨m_w, h_w⟩ := rc_fields Try.underlying25 g_w
    have q_w0 : ∃ y, DataW.trod enc Try.prog W 0 (fun _ => true) true m_w 3 [c0] = some y := by have h0 := h_w 0 _ rfl; simpa [cells_int] using h0
    obtain ⟨⟨d_w0, p_w0⟩, g_w0⟩ := q_w0
    obtain ⟨a_w0, e_w0, _, w_w0⟩ := DataW.trod_int Try.underlying3 g_w0
    have q_w1 : ∃ y, DataW.trod enc Try.prog W 0 (fun _ => true) true m_w 22 [c1] = some y := by have h0 := h_w 1 _ rfl; simpa [rcells_bytes] using h0
    obtain ⟨⟨d_w1, p_w1⟩, g_w1⟩ := q_w1
    obtain ⟨A_w1, n_w1, c_w1, l_w1, e_w1, s_w1⟩ := open_bytes1 g_w1
    have q_w2 : ∃ y, DataW.trod enc Try.prog W 0 (fun _ => true) true m_w 23 [c2] = some y := by have h0 := h_w 2 _ rfl; simpa [rcells_spans] using h0
    obtain ⟨⟨d_w2, p_w2⟩, g_w2⟩ := q_w2
    obtain ⟨A_w2, n_w2, c_w2, l_w2, e_w2, s_w2⟩ := open_spans1 g_w2
    have q_w3 : ∃ y, DataW.trod enc Try.prog W 0 (fun _ => true) true m_w 3 [c3] = some y := by have h0 := h_w 3 _ rfl; simpa [cells_int] using h0
    obtain ⟨⟨d_w3, p_w3⟩, g_w3⟩ := q_w3
    obtain ⟨a_w3, e_w3, _, w_w3⟩ := DataW.trod_int Try.underlying3 g_w3
    have q_w4 : ∃ y, DataW.trod enc Try.prog W 0 (fun _ => true) true m_w 3 [c4] = some y := by have h0 := h_w 4 _ rfl; simpa [cells_int] using h0
    obtain ⟨⟨d_w4, p_w4⟩, g_w4⟩ := q_w4
    obtain ⟨a_w4, e_w4, _, w_w4⟩ := DataW.trod_int Try.underlying3 g_w4
    have q_s : ∃ y, DataW.trod enc Try.prog W 0 (fun _ => true) true m_r 30 [c5, c6, c7, c8, c9, c10, c11, c12, c13, c14, c15, c16, c17, c18, c19, c20, c21, c22, c23, c24, c25, c26, c27, c28] = some y := by have h0 := h_r 1 _ rfl; simpa [rcells_inlets] using h0
    obtain ⟨⟨d_s, p_s⟩, g_s⟩ := q_s
    obtain ⟨m_s, h_s⟩ := rc_elems Try.underlying30 g_s
    have q_i0 : ∃ y, DataW.trod enc Try.prog W 0 (fun _ => true) true m_s 29 [c5, c6, c7, c8, c9, c10] = some y := by have h0 := h_s 0 (by omega); simpa [rcells_inlet] using h0
    obtain ⟨⟨d_i0, p_i0⟩, g_i0⟩ := q_i0
    obtain ⟨m_i0, h_i0⟩ := rc_fields Try.underlying29 g_i0
    have q_g0 : ∃ y, DataW.trod enc Try.prog W 0 (fun _ => true) true m_i0 23 [c5] = some y := by have h0 := h_i0 0 _ rfl; simpa [rcells_spans] using h0
    obtain ⟨⟨d_g0, p_g0⟩, g_g0⟩ := q_g0
    obtain ⟨A_g0, n_g0, c_g0, l_g0, e_g0, s_g0⟩ := open_spans1 g_g0
    have q_m0 : ∃ y, DataW.trod enc Try.prog W 0 (fun _ => true) true m_i0 27 [c6, c7, c8, c9, c10] = some y := by have h0 := h_i0 1 _ rfl; simpa [rcells_marks] using h0
    obtain ⟨⟨d_m0, p_m0⟩, g_m0⟩ := q_m0
    obtain ⟨m_m0, h_m0⟩ := rc_fields Try.underlying27 g_m0
    have q_m00 : ∃ y, DataW.trod enc Try.prog W 0 (fun _ => true) true m_m0 3 [c6] = some y := by have h0 := h_m0 0 _ rfl; simpa [cells_int] using h0
    obtain ⟨⟨d_m00, p_m00⟩, g_m00⟩ := q_m00
    obtain ⟨a_m00, e_m00, _, w_m00⟩ := DataW.trod_int Try.underlying3 g_m00
    have q_m01 : ∃ y, DataW.trod enc Try.prog W 0 (fun _ => true) true m_m0 3 [c7] = some y := by have h0 := h_m0 1 _ rfl; simpa [cells_int] using h0
    obtain ⟨⟨d_m01, p_m01⟩, g_m01⟩ := q_m01
    obtain ⟨a_m01, e_m01, _, w_m01⟩ := DataW.trod_int Try.underlying3 g_m01
    have q_m02 : ∃ y, DataW.trod enc Try.prog W 0 (fun _ => true) true m_m0 3 [c8] = some y := by have h0 := h_m0 2 _ rfl; simpa [cells_int] using h0
    obtain ⟨⟨d_m02, p_m02⟩, g_m02⟩ := q_m02
    obtain ⟨a_m02, e_m02, _, w_m02⟩ := DataW.trod_int Try.underlying3 g_m02
    have q_m03 : ∃ y, DataW.trod enc Try.prog W 0 (fun _ => true) true m_m0 3 [c9] = some y := by have h0 := h_m0 3 _ rfl; simpa [cells_int] using h0
    obtain ⟨⟨d_m03, p_m03⟩, g_m03⟩ := q_m03
    obtain ⟨a_m03, e_m03, _, w_m03⟩ := DataW.trod_int Try.underlying3 g_m03
    have q_m04 : ∃ y, DataW.trod enc Try.prog W 0 (fun _ => true) true m_m0 3 [c10] = some y := by have h0 := h_m0 4 _ rfl; simpa [cells_int] using h0
    obtain ⟨⟨d_m04, p_m04⟩, g_m04⟩ := q_m04
    obtain ⟨a_m04, e_m04, _, w_m04⟩ := DataW.trod_int Try.underlying3 g_m04
    have q_i1 : ∃ y, DataW.trod enc Try.prog W 0 (fun _ => true) true m_s 29 [c11, c12, c13, c14, c15, c16] = some y := by have h0 := h_s 1 (by omega); simpa [rcells_inlet] using h0
    obtain ⟨⟨d_i1, p_i1⟩, g_i1⟩ := q_i1
    obtain ⟨m_i1, h_i1⟩ := rc_fields Try.underlying29 g_i1
    have q_g1 : ∃ y, DataW.trod enc Try.prog W 0 (fun _ => true) true m_i1 23 [c11] = some y := by have h0 := h_i1 0 _ rfl; simpa [rcells_spans] using h0
    obtain ⟨⟨d_g1, p_g1⟩, g_g1⟩ := q_g1
    obtain ⟨A_g1, n_g1, c_g1, l_g1, e_g1, s_g1⟩ := open_spans1 g_g1
    have q_m1 : ∃ y, DataW.trod enc Try.prog W 0 (fun _ => true) true m_i1 27 [c12, c13, c14, c15, c16] = some y := by have h0 := h_i1 1 _ rfl; simpa [rcells_marks] using h0
    obtain ⟨⟨d_m1, p_m1⟩, g_m1⟩ := q_m1
    obtain ⟨m_m1, h_m1⟩ := rc_fields Try.underlying27 g_m1
    have q_m10 : ∃ y, DataW.trod enc Try.prog W 0 (fun _ => true) true m_m1 3 [c12] = some y := by have h0 := h_m1 0 _ rfl; simpa [cells_int] using h0
    obtain ⟨⟨d_m10, p_m10⟩, g_m10⟩ := q_m10
    obtain ⟨a_m10, e_m10, _, w_m10⟩ := DataW.trod_int Try.underlying3 g_m10
    have q_m11 : ∃ y, DataW.trod enc Try.prog W 0 (fun _ => true) true m_m1 3 [c13] = some y := by have h0 := h_m1 1 _ rfl; simpa [cells_int] using h0
    obtain ⟨⟨d_m11, p_m11⟩, g_m11⟩ := q_m11
    obtain ⟨a_m11, e_m11, _, w_m11⟩ := DataW.trod_int Try.underlying3 g_m11
    have q_m12 : ∃ y, DataW.trod enc Try.prog W 0 (fun _ => true) true m_m1 3 [c14] = some y := by have h0 := h_m1 2 _ rfl; simpa [cells_int] using h0
    obtain ⟨⟨d_m12, p_m12⟩, g_m12⟩ := q_m12
    obtain ⟨a_m12, e_m12, _, w_m12⟩ := DataW.trod_int Try.underlying3 g_m12
    have q_m13 : ∃ y, DataW.trod enc Try.prog W 0 (fun _ => true) true m_m1 3 [c15] = some y := by have h0 := h_m1 3 _ rfl; simpa [cells_int] using h0
    obtain ⟨⟨d_m13, p_m13⟩, g_m13⟩ := q_m13
    obtain ⟨a_m13, e_m13, _, w_m13⟩ := DataW.trod_int Try.underlying3 g_m13
    have q_m14 : ∃ y, DataW.trod enc Try.prog W 0 (fun _ => true) true m_m1 3 [c16] = some y := by have h0 := h_m1 4 _ rfl; simpa [cells_int] using h0
    obtain ⟨⟨d_m14, p_m14⟩, g_m14⟩ := q_m14
    obtain ⟨a_m14, e_m14, _, w_m14⟩ := DataW.trod_int Try.underlying3 g_m14
    have q_i2 : ∃ y, DataW.trod enc Try.prog W 0 (fun _ => true) true m_s 29 [c17, c18, c19, c20, c21, c22] = some y := by have h0 := h_s 2 (by omega); simpa [rcells_inlet] using h0
    obtain ⟨⟨d_i2, p_i2⟩, g_i2⟩ := q_i2
    obtain ⟨m_i2, h_i2⟩ := rc_fields Try.underlying29 g_i2
    have q_g2 : ∃ y, DataW.trod enc Try.prog W 0 (fun _ => true) true m_i2 23 [c17] = some y := by have h0 := h_i2 0 _ rfl; simpa [rcells_spans] using h0
    obtain ⟨⟨d_g2, p_g2⟩, g_g2⟩ := q_g2
    obtain ⟨A_g2, n_g2, c_g2, l_g2, e_g2, s_g2⟩ := open_spans1 g_g2
    have q_m2 : ∃ y, DataW.trod enc Try.prog W 0 (fun _ => true) true m_i2 27 [c18, c19, c20, c21, c22] = some y := by have h0 := h_i2 1 _ rfl; simpa [rcells_marks] using h0
    obtain ⟨⟨d_m2, p_m2⟩, g_m2⟩ := q_m2
    obtain ⟨m_m2, h_m2⟩ := rc_fields Try.underlying27 g_m2
    have q_m20 : ∃ y, DataW.trod enc Try.prog W 0 (fun _ => true) true m_m2 3 [c18] = some y := by have h0 := h_m2 0 _ rfl; simpa [cells_int] using h0
    obtain ⟨⟨d_m20, p_m20⟩, g_m20⟩ := q_m20
    obtain ⟨a_m20, e_m20, _, w_m20⟩ := DataW.trod_int Try.underlying3 g_m20
    have q_m21 : ∃ y, DataW.trod enc Try.prog W 0 (fun _ => true) true m_m2 3 [c19] = some y := by have h0 := h_m2 1 _ rfl; simpa [cells_int] using h0
    obtain ⟨⟨d_m21, p_m21⟩, g_m21⟩ := q_m21
    obtain ⟨a_m21, e_m21, _, w_m21⟩ := DataW.trod_int Try.underlying3 g_m21
    have q_m22 : ∃ y, DataW.trod enc Try.prog W 0 (fun _ => true) true m_m2 3 [c20] = some y := by have h0 := h_m2 2 _ rfl; simpa [cells_int] using h0
    obtain ⟨⟨d_m22, p_m22⟩, g_m22⟩ := q_m22
    obtain ⟨a_m22, e_m22, _, w_m22⟩ := DataW.trod_int Try.underlying3 g_m22
    have q_m23 : ∃ y, DataW.trod enc Try.prog W 0 (fun _ => true) true m_m2 3 [c21] = some y := by have h0 := h_m2 3 _ rfl; simpa [cells_int] using h0
    obtain ⟨⟨d_m23, p_m23⟩, g_m23⟩ := q_m23
    obtain ⟨a_m23, e_m23, _, w_m23⟩ := DataW.trod_int Try.underlying3 g_m23
    have q_m24 : ∃ y, DataW.trod enc Try.prog W 0 (fun _ => true) true m_m2 3 [c22] = some y := by have h0 := h_m2 4 _ rfl; simpa [cells_int] using h0
    obtain ⟨⟨d_m24, p_m24⟩, g_m24⟩ := q_m24
    obtain ⟨a_m24, e_m24, _, w_m24⟩ := DataW.trod_int Try.underlying3 g_m24
    have q_i3 : ∃ y, DataW.trod enc Try.prog W 0 (fun _ => true) true m_s 29 [c23, c24, c25, c26, c27, c28] = some y := by have h0 := h_s 3 (by omega); simpa [rcells_inlet] using h0
    obtain ⟨⟨d_i3, p_i3⟩, g_i3⟩ := q_i3
    obtain ⟨m_i3, h_i3⟩ := rc_fields Try.underlying29 g_i3
    have q_g3 : ∃ y, DataW.trod enc Try.prog W 0 (fun _ => true) true m_i3 23 [c23] = some y := by have h0 := h_i3 0 _ rfl; simpa [rcells_spans] using h0
    obtain ⟨⟨d_g3, p_g3⟩, g_g3⟩ := q_g3
    obtain ⟨A_g3, n_g3, c_g3, l_g3, e_g3, s_g3⟩ := open_spans1 g_g3
    have q_m3 : ∃ y, DataW.trod enc Try.prog W 0 (fun _ => true) true m_i3 27 [c24, c25, c26, c27, c28] = some y := by have h0 := h_i3 1 _ rfl; simpa [rcells_marks] using h0
    obtain ⟨⟨d_m3, p_m3⟩, g_m3⟩ := q_m3
    obtain ⟨m_m3, h_m3⟩ := rc_fields Try.underlying27 g_m3
    have q_m30 : ∃ y, DataW.trod enc Try.prog W 0 (fun _ => true) true m_m3 3 [c24] = some y := by have h0 := h_m3 0 _ rfl; simpa [cells_int] using h0
    obtain ⟨⟨d_m30, p_m30⟩, g_m30⟩ := q_m30
    obtain ⟨a_m30, e_m30, _, w_m30⟩ := DataW.trod_int Try.underlying3 g_m30
    have q_m31 : ∃ y, DataW.trod enc Try.prog W 0 (fun _ => true) true m_m3 3 [c25] = some y := by have h0 := h_m3 1 _ rfl; simpa [cells_int] using h0
    obtain ⟨⟨d_m31, p_m31⟩, g_m31⟩ := q_m31
    obtain ⟨a_m31, e_m31, _, w_m31⟩ := DataW.trod_int Try.underlying3 g_m31
    have q_m32 : ∃ y, DataW.trod enc Try.prog W 0 (fun _ => true) true m_m3 3 [c26] = some y := by have h0 := h_m3 2 _ rfl; simpa [cells_int] using h0
    obtain ⟨⟨d_m32, p_m32⟩, g_m32⟩ := q_m32
    obtain ⟨a_m32, e_m32, _, w_m32⟩ := DataW.trod_int Try.underlying3 g_m32
    have q_m33 : ∃ y, DataW.trod enc Try.prog W 0 (fun _ => true) true m_m3 3 [c27] = some y := by have h0 := h_m3 3 _ rfl; simpa [cells_int] using h0
    obtain ⟨⟨d_m33, p_m33⟩, g_m33⟩ := q_m33
    obtain ⟨a_m33, e_m33, _, w_m33⟩ := DataW.trod_int Try.underlying3 g_m33
    have q_m34 : ∃ y, DataW.trod enc Try.prog W 0 (fun _ => true) true m_m3 3 [c28] = some y := by have h0 := h_m3 4 _ rfl; simpa [cells_int] using h0
    obtain ⟨⟨d_m34, p_m34⟩, g_m34⟩ := q_m34
    obtain ⟨a_m34, e_m34, _, w_m34⟩ := DataW.trod_int Try.underlying3 g_m34
    simp only [List.cons.injEq, and_true] at e_w0 e_w3 e_w4 e_m00 e_m01 e_m02 e_m03 e_m04 e_m10 e_m11 e_m12 e_m13 e_m14 e_m20 e_m21 e_m22 e_m23 e_m24 e_m30 e_m31 e_m32 e_m33 e_m34
    subst e_w0 e_w3 e_w4 e_m00 e_m01 e_m02 e_m03 e_m04 e_m10 e_m11 e_m12 e_m13 e_m14 e_m20 e_m21 e_m22 e_m23 e_m24 e_m30 e_m31 e_m32 e_m33 e_m34 e_w1 e_w2 e_g0 e_g1 e_g2 e_g3
    exact ⟨⟨A_w1, n_w1, c_w1, A_w2, n_w2, c_w2, A_g0, n_g0, c_g0, A_g1, n_g1, c_g1, A_g2, n_g2, c_g2, A_g3, n_g3, c_g3⟩, ⟨⟨a_w0, l_w1, l_w2, a_w3, a_w4⟩, ⟨l_g0, ⟨a_m00, a_m01, a_m02, a_m03, a_m04⟩⟩, ⟨l_g1, ⟨a_m10, a_m11, a_m12, a_m13, a_m14⟩⟩, ⟨l_g2, ⟨a_m20, a_m21, a_m22, a_m23, a_m24⟩⟩, ⟨l_g3, ⟨a_m30, a_m31, a_m32, a_m33, a_m34⟩⟩⟩, rfl, ⟨s_w1, s_w2, s_g0, s_g1, s_g2, s_g3, ⟨n64_of_wf w_w0, n64_of_wf w_w3, n64_of_wf w_w4, ⟨n64_of_wf w_m00, n64_of_wf w_m01, n64_of_wf w_m02, n64_of_wf w_m03, n64_of_wf w_m04⟩, ⟨n64_of_wf w_m10, n64_of_wf w_m11, n64_of_wf w_m12, n64_of_wf w_m13, n64_of_wf w_m14⟩, ⟨n64_of_wf w_m20, n64_of_wf w_m21, n64_of_wf w_m22, n64_of_wf w_m23, n64_of_wf w_m24⟩, ⟨n64_of_wf w_m30, n64_of_wf w_m31, n64_of_wf w_m32, n64_of_wf w_m33, n64_of_wf w_m34⟩⟩, InP.all _ _, InP.all _ _, InP.all _ _, InP.all _ _, InP.all _ _, InP.all _ _⟩⟩
theorem open_receiver {H : Type} {enc : TypeId × Value → H} {W : World} {r : Reach} {b0 : Nat} {v : Value} {d : DataW H} {p : List MemPlace} (hv : Value.okWide Try.prog W r b0 32 v) (h : DataW.Trod enc Try.prog W 0 (fun _ => true) true 32 v d p) : ∃ (s : Rcs) (q : Rc), v = .agg (rcs s q).toArray ∧ RcM W (fun _ => True) s q := by
  obtain ⟨cs, rfl, hsz⟩ := okWide_struct Try.underlying32 hv
  obtain ⟨fuel, hf⟩ := h
  obtain ⟨s, f, e, hm⟩ := receiver_of (by simpa [Value.cells, rcells_rc] using hsz) hf
  refine ⟨s, f, ?_, hm⟩
  obtain ⟨cs⟩ := cs
  simp only [Value.cells] at e
  subst e
  rfl
theorem open_sg {H : Type} {enc : TypeId × Value → H} {W : World} {r : Reach} {b0 : Nat} {v : Value} {d : DataW H} {p : List MemPlace} (hv : Value.okWide Try.prog W r b0 36 v) (h : DataW.Trod enc Try.prog W 0 (fun _ => true) true 36 v d p) :
    ∃ (G : Option Addr) (m d : Nat) (A : Option Addr) (n c : Nat) (x : Sg), v = .agg (sgs G m d A n c x).toArray ∧ SgW x ∧ Sr W G m d x.sacks ∧ Sl W A n c x.b ∧ (n64 x.kind ∧ n64 x.sub ∧ n64 x.win ∧ n64 x.ace) := by
  obtain ⟨kind, sub, fin, ecn, seq, dsn, got, dgot, win, ace, ce, sent, echo, G, m, d, A, n, c, pl, bl, rfl, hs⟩ := open_seg hv h
  exact ⟨G, m, d, A, n, c, ⟨kind, sub, fin, ecn, seq, dsn, got, dgot, win, ace, ce, sent, echo, pl, bl⟩, rfl, hs.w, hs.sr, hs.sl, hs.kind, hs.sub, hs.win, hs.ace⟩
end Go.Proofs.Ytggnhccpncgfiaa
