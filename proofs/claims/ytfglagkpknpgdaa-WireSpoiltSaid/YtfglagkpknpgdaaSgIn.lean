/- Package wire: what an api.Seg and a []byte that came in read as. -/
import Derived.Test.YtfglagkpknpgdaaProg
import Derived.Test.YtfglagkpknpgdaaPr
import Derived.Test.YtfglagkpknpgdaaCkSeal
import Derived.WalkKit
import Derived.ProofKit
import Derived.OpenShut
import Derived.ChangeOld
import Derived.Below
import Derived.Deep.SlicePairs
import Derived.Lib.SmallJoins
namespace Go.Proofs.Ytfglagkpknpgdaa
open Go.ChangeShapes Go.WideShapes Go.ChangeAt Go.RowKit Go.Joins

theorem prog_laid : laidOutB Try.prog = true := by kernel_rfl
theorem prog_own : ownKnob Try.prog.godebug = none := by kernel_rfl
theorem cells_pr : Try.prog.cellsOf 46 = 2 := by kernel_rfl
theorem cells_u32 : Try.prog.cellsOf 22 = 1 := by kernel_rfl
theorem u32_of_wf {n : Int} (h : (Lit.int .u32 n).wf = true) : U32 n := by
  simp [Lit.wf, IntKind.min, IntKind.max, IntKind.signed, IntKind.bits] at h
  unfold U32; omega
def W64 (n : Int) : Prop := -9223372036854775808 ≤ n ∧ n ≤ 9223372036854775807
theorem w64_of_wf {n : Int} (h : (Lit.int .i64 n).wf = true) : W64 n := by
  simp [Lit.wf, IntKind.min, IntKind.max, IntKind.signed, IntKind.bits] at h
  unfold W64; omega
theorem b8_of_wf {n : Int} (h : (Lit.int .u8 n).wf = true) : 0 ≤ n ∧ n < 256 := by
  simp [Lit.wf, IntKind.min, IntKind.max, IntKind.signed, IntKind.bits] at h
  omega

theorem sl_of_cells {W : World} {A : Option Addr} {len cap : Nat} {zs : List Int} (hl : len ≤ cap) (hm : cap ≤ maxLen) (hn : A = none → cap = 0) (hz : zs.length = cap) (hw : ∀ n ∈ zs, (Lit.int .u8 n).wf = true)
    (hc : ∀ a, A = some a → ∀ i, i < cap → W.cell? (a.add i) = some (.int .u8 (zs.getD i 0))) : Sl W A len cap (zs.take len) := by
  refine ⟨hl, hm, hn, ?_⟩
  cases A with
  | none =>
    have h0 := hn rfl
    obtain rfl : len = 0 := by omega
    rw [List.take_zero]
    exact Rd.empty _ _
  | some a =>
    have hca := hc a rfl
    refine Rd.of_ints hl hz (fun i hi => hca i (by omega)) hw (fun b o e h0 => ?_)
    have := World.block_lt_of_cell? _ _ (hca 0 (by omega))
    rw [e] at this
    simpa [Addr.add] using this

theorem open_bytes {H : Type} {enc : TypeId × Value → H} {W : World} {a : Option Addr} {len cap : Nat} {d : DataW H} {p : List MemPlace} (h : DataW.Trod enc Try.prog W 0 (fun _ => true) true 24 (.slice a len cap) d p) : ∃ l, Sl W a len cap l := by
  obtain ⟨fuel, hf⟩ := h
  rcases open_ints Try.underlying24 Try.underlying5 (by kernel_rfl) hf with ⟨hcs, _⟩ | ⟨x, l, c, zs, hcs, _, hl, hm, hz, _, hcell, hwz⟩
  · simp [Value.cells] at hcs
    obtain ⟨rfl, rfl, rfl⟩ := hcs
    exact ⟨[], Nat.le_refl _, by unfold maxLen; omega, fun _ => rfl, Rd.empty _ _⟩
  · simp [Value.cells] at hcs
    obtain ⟨rfl, rfl, rfl⟩ := hcs
    have hz' : zs.length = cap := by simpa using hz
    exact ⟨_, sl_of_cells hl hm (fun e => by cases e) hz' hwz (fun a e i hi => by cases e; exact hcell i (by omega))⟩

theorem open_bytes1 {H : Type} {enc : TypeId × Value → H} {W : World} {v : Value} {fuel : Nat} {d : DataW H} {p : List MemPlace} (hf : DataW.trod enc Try.prog W 0 (fun _ => true) true fuel 24 [v] = some (d, p)) : ∃ A n c l, v = .slice A n c ∧ Sl W A n c l := by
  rcases open_ints Try.underlying24 Try.underlying5 (by kernel_rfl) hf with ⟨hcs, _⟩ | ⟨x, l, c, zs, hcs, _, hl, hm, hz, hreach, hcell, hwz⟩
  · simp at hcs
    subst hcs
    exact ⟨none, 0, 0, [], rfl, Nat.le_refl _, by unfold maxLen; omega, fun _ => rfl, Rd.empty _ _⟩
  · simp at hcs
    subst hcs
    have hz' : zs.length = c := by simpa using hz
    exact ⟨some x, l, c, zs.take l, rfl, sl_of_cells hl hm (fun e => by cases e) hz' hwz (fun a e i hi => by cases e; exact hcell i (by omega))⟩
theorem open_pairs1 {H : Type} {enc : TypeId × Value → H} {W : World} {v : Value} {fuel : Nat} {d : DataW H} {p : List MemPlace} (hf : DataW.trod enc Try.prog W 0 (fun _ => true) true fuel 23 [v] = some (d, p)) : ∃ a len cap l, v = .slice a len cap ∧ Sr W a len cap l := by
  rcases Go.Deep.open_slice_pairs Try.underlying23 Try.underlying46 cells_pr rfl rfl cells_u32 cells_u32 hf with ⟨hcs, _⟩ | ⟨x, len, cap, m, n, V0, V1, D0, D1, P0, P1, hcs, _, hl, hm, hmm, _, hall⟩
  · simp at hcs
    subst hcs
    exact ⟨none, 0, 0, [], rfl, Sr.none _⟩
  · simp at hcs
    subst hcs
    simp only [if_true] at hmm
    subst hmm
    have hint : ∀ i, i < m → ∃ q : Int × Int, V0 i = .int .u32 q.1 ∧ V1 i = .int .u32 q.2 ∧ U32 q.1 ∧ U32 q.2 := by
      intro i hi
      obtain ⟨_, _, t0, t1⟩ := hall i hi
      obtain ⟨q0, e0, _, w0⟩ := DataW.trod_int Try.underlying22 t0
      obtain ⟨q1, e1, _, w1⟩ := DataW.trod_int Try.underlying22 t1
      simp only [List.cons.injEq, and_true] at e0 e1
      exact ⟨(q0, q1), e0, e1, u32_of_wf w0, u32_of_wf w1⟩
    obtain ⟨q, hq⟩ := Go.Deep.choose_lt hint
    have hlen : ((List.range len).map q).length = len := by simp
    have hsp : ∀ i, i < len → pr ((List.range len).map q) i = q i := fun i hi => by
      rw [pr_eq (by simpa using hi)]; simp
    refine ⟨some x, len, _, (List.range len).map q, rfl, hl, hm, (fun e => by cases e), hlen, ?_, fun h0 => ?_⟩
    · intro z hz
      obtain ⟨i, hi, rfl⟩ := List.mem_map.1 hz
      have := List.mem_range.1 hi
      exact (hq i (by omega)).2.2
    · have c0 := (hall 0 (by omega)).1
      have hspot : x.spot = none := by
        have := World.cell?_spot c0
        simpa [Addr.add] using this
      have hlt := World.block_lt_of_cell? _ _ c0
      obtain ⟨b, o, s⟩ := x
      simp only at hspot
      subst hspot
      have hadd : ∀ j, (⟨b, o, none⟩ : Addr).add j = ⟨b, o + j, none⟩ := fun j => by
        unfold Addr.add
        split
        · next h => subst h; rfl
        · rfl
      refine ⟨b, o, rfl, by simpa [hadd] using hlt, fun i hi => ?_⟩
      obtain ⟨g0, g1, _, _⟩ := hall i (by omega)
      rw [hadd] at g0 g1
      rw [hsp i hi]
      have := hq i (by omega)
      exact ⟨by rw [g0, this.1], by rw [← Nat.add_assoc] at g1; rw [g1, this.2.1]⟩
theorem open_agg15 {H : Type} {enc : TypeId × Value → H} {P : Program} {w : World} {base : Nat} {spare : Nat → Bool} {held : Bool} {r : Reach} {b0 : Nat} {t : TypeId} {f0 f1 f2 f3 f4 f5 f6 f7 f8 f9 f10 f11 f12 f13 f14 : Field} {v : Value} {d : DataW H} {p : List MemPlace} (hs : P.underlying t = some (.struct #[f0, f1, f2, f3, f4, f5, f6, f7, f8, f9, f10, f11, f12, f13, f14])) (hone : Go.Deep.oneCellFields P #[f0, f1, f2, f3, f4, f5, f6, f7, f8, f9, f10, f11, f12, f13, f14] = true) (hC : P.cellsOf t = 15)
    (hv : Value.okWide P w r b0 t v) (h : DataW.Trod enc P w base spare held t v d p) :
    ∃ (v0 v1 v2 v3 v4 v5 v6 v7 v8 v9 v10 v11 v12 v13 v14 : Value) (y0 y1 y2 y3 y4 y5 y6 y7 y8 y9 y10 y11 y12 y13 y14 : DataW H × List MemPlace) (n : Nat), v = .agg #[v0, v1, v2, v3, v4, v5, v6, v7, v8, v9, v10, v11, v12, v13, v14] ∧
      DataW.trod enc P w base spare held n f0.type [v0] = some y0 ∧ DataW.trod enc P w base spare held n f1.type [v1] = some y1 ∧ DataW.trod enc P w base spare held n f2.type [v2] = some y2 ∧ DataW.trod enc P w base spare held n f3.type [v3] = some y3 ∧ DataW.trod enc P w base spare held n f4.type [v4] = some y4 ∧ DataW.trod enc P w base spare held n f5.type [v5] = some y5 ∧ DataW.trod enc P w base spare held n f6.type [v6] = some y6 ∧ DataW.trod enc P w base spare held n f7.type [v7] = some y7 ∧ DataW.trod enc P w base spare held n f8.type [v8] = some y8 ∧ DataW.trod enc P w base spare held n f9.type [v9] = some y9 ∧ DataW.trod enc P w base spare held n f10.type [v10] = some y10 ∧ DataW.trod enc P w base spare held n f11.type [v11] = some y11 ∧ DataW.trod enc P w base spare held n f12.type [v12] = some y12 ∧ DataW.trod enc P w base spare held n f13.type [v13] = some y13 ∧ DataW.trod enc P w base spare held n f14.type [v14] = some y14 := by
  obtain ⟨cs, rfl, hsz⟩ := okWide_struct hs hv
  have h5 := hsz.trans hC
  obtain ⟨cs⟩ := cs
  match cs, h5 with
  | [c0, c1, c2, c3, c4, c5, c6, c7, c8, c9, c10, c11, c12, c13, c14], _ =>
  obtain ⟨fuel, hf⟩ := h
  obtain ⟨xs, n, _, _, hl, hlen, hf⟩ := DataW.trod_struct hs hf
  obtain ⟨o0, k0⟩ := Go.Deep.hone_of hone 0 f0 rfl
  obtain ⟨o1, k1⟩ := Go.Deep.hone_of hone 1 f1 rfl
  obtain ⟨o2, k2⟩ := Go.Deep.hone_of hone 2 f2 rfl
  obtain ⟨o3, k3⟩ := Go.Deep.hone_of hone 3 f3 rfl
  obtain ⟨o4, k4⟩ := Go.Deep.hone_of hone 4 f4 rfl
  obtain ⟨o5, k5⟩ := Go.Deep.hone_of hone 5 f5 rfl
  obtain ⟨o6, k6⟩ := Go.Deep.hone_of hone 6 f6 rfl
  obtain ⟨o7, k7⟩ := Go.Deep.hone_of hone 7 f7 rfl
  obtain ⟨o8, k8⟩ := Go.Deep.hone_of hone 8 f8 rfl
  obtain ⟨o9, k9⟩ := Go.Deep.hone_of hone 9 f9 rfl
  obtain ⟨o10, k10⟩ := Go.Deep.hone_of hone 10 f10 rfl
  obtain ⟨o11, k11⟩ := Go.Deep.hone_of hone 11 f11 rfl
  obtain ⟨o12, k12⟩ := Go.Deep.hone_of hone 12 f12 rfl
  obtain ⟨o13, k13⟩ := Go.Deep.hone_of hone 13 f13 rfl
  obtain ⟨o14, k14⟩ := Go.Deep.hone_of hone 14 f14 rfl
  match xs, hlen with
  | [y0, y1, y2, y3, y4, y5, y6, y7, y8, y9, y10, y11, y12, y13, y14], _ =>
    exact ⟨c0, c1, c2, c3, c4, c5, c6, c7, c8, c9, c10, c11, c12, c13, c14, y0, y1, y2, y3, y4, y5, y6, y7, y8, y9, y10, y11, y12, y13, y14, n, rfl, by simpa [Value.cells, o0, k0] using hf 0 f0 rfl, by simpa [Value.cells, o1, k1] using hf 1 f1 rfl, by simpa [Value.cells, o2, k2] using hf 2 f2 rfl, by simpa [Value.cells, o3, k3] using hf 3 f3 rfl, by simpa [Value.cells, o4, k4] using hf 4 f4 rfl, by simpa [Value.cells, o5, k5] using hf 5 f5 rfl, by simpa [Value.cells, o6, k6] using hf 6 f6 rfl, by simpa [Value.cells, o7, k7] using hf 7 f7 rfl, by simpa [Value.cells, o8, k8] using hf 8 f8 rfl, by simpa [Value.cells, o9, k9] using hf 9 f9 rfl, by simpa [Value.cells, o10, k10] using hf 10 f10 rfl, by simpa [Value.cells, o11, k11] using hf 11 f11 rfl, by simpa [Value.cells, o12, k12] using hf 12 f12 rfl, by simpa [Value.cells, o13, k13] using hf 13 f13 rfl, by simpa [Value.cells, o14, k14] using hf 14 f14 rfl⟩
theorem cells_sg : Try.prog.cellsOf 26 = 15 := by kernel_rfl
/-- a segment that came in -/
structure SegIn (W : World) (s : Sg) (G : Option Addr) (m d : Nat) (A : Option Addr) (n c : Nat) : Prop where
  w : SgW s
  sr : Sr W G m d s.sacks
  sl : Sl W A n c s.b
  kind : W64 s.kind
  sub : W64 s.sub
  win : W64 s.win
  ace : W64 s.ace
theorem open_seg {H : Type} {enc : TypeId × Value → H} {W : World} {r : Reach} {b0 : Nat} {v : Value} {d : DataW H} {p : List MemPlace} (hv : Value.okWide Try.prog W r b0 26 v) (h : DataW.Trod enc Try.prog W 0 (fun _ => true) true 26 v d p) :
    ∃ (kind sub : Int) (fin ecn : Bool) (seq dsn got dgot win ace ce sent echo : Int) (G : Option Addr) (m d : Nat) (A : Option Addr) (n c : Nat) (pl : List (Int × Int)) (bl : List Int), v = .agg #[.int .i64 kind, .int .i64 sub, .bool fin, .bool ecn, .int .u32 seq, .int .u32 dsn, .int .u32 got, .int .u32 dgot, .int .i64 win, .int .i64 ace, .int .u32 ce, .int .u32 sent, .int .u32 echo, .slice G m d, .slice A n c] ∧ SegIn W ⟨kind, sub, fin, ecn, seq, dsn, got, dgot, win, ace, ce, sent, echo, pl, bl⟩ G m d A n c := by
  obtain ⟨v0, v1, v2, v3, v4, v5, v6, v7, v8, v9, v10, v11, v12, v13, v14, y0, y1, y2, y3, y4, y5, y6, y7, y8, y9, y10, y11, y12, y13, y14, n, rfl, h0, h1, h2, h3, h4, h5, h6, h7, h8, h9, h10, h11, h12, h13, h14⟩ := open_agg15 Try.underlying26 (by kernel_rfl) cells_sg hv h
  obtain ⟨x0, e0, _, w0⟩ := DataW.trod_int Try.underlying3 h0
  obtain ⟨x1, e1, _, w1⟩ := DataW.trod_int Try.underlying3 h1
  obtain ⟨x2, e2, _⟩ := DataW.trod_bool Try.underlying4 h2
  obtain ⟨x3, e3, _⟩ := DataW.trod_bool Try.underlying4 h3
  obtain ⟨x4, e4, _, w4⟩ := DataW.trod_int Try.underlying22 h4
  obtain ⟨x5, e5, _, w5⟩ := DataW.trod_int Try.underlying22 h5
  obtain ⟨x6, e6, _, w6⟩ := DataW.trod_int Try.underlying22 h6
  obtain ⟨x7, e7, _, w7⟩ := DataW.trod_int Try.underlying22 h7
  obtain ⟨x8, e8, _, w8⟩ := DataW.trod_int Try.underlying3 h8
  obtain ⟨x9, e9, _, w9⟩ := DataW.trod_int Try.underlying3 h9
  obtain ⟨x10, e10, _, w10⟩ := DataW.trod_int Try.underlying22 h10
  obtain ⟨x11, e11, _, w11⟩ := DataW.trod_int Try.underlying22 h11
  obtain ⟨x12, e12, _, w12⟩ := DataW.trod_int Try.underlying22 h12
  obtain ⟨G, m, g, pl, rfl, hp⟩ := open_pairs1 h13
  obtain ⟨A, n2, c2, bl, rfl, hb⟩ := open_bytes1 h14
  simp only [List.cons.injEq, and_true] at e0 e1 e2 e3 e4 e5 e6 e7 e8 e9 e10 e11 e12
  subst e0 e1 e2 e3 e4 e5 e6 e7 e8 e9 e10 e11 e12
  exact ⟨x0, x1, x2, x3, x4, x5, x6, x7, x8, x9, x10, x11, x12, G, m, g, A, n2, c2, pl, bl, rfl, ⟨u32_of_wf w4, u32_of_wf w5, u32_of_wf w6, u32_of_wf w7, u32_of_wf w10, u32_of_wf w11, u32_of_wf w12, hp.rd.wide, hb.rd.small⟩, hp, hb, w64_of_wf w0, w64_of_wf w1, w64_of_wf w8, w64_of_wf w9⟩
end Go.Proofs.Ytfglagkpknpgdaa
