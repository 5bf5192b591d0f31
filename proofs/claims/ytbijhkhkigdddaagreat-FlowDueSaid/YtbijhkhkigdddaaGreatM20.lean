/- FoIn. -/
import Derived.Test.YtbijhkhkigdddaaGreatM19
set_option linter.all false
set_option maxRecDepth 100000
set_option maxHeartbeats 32000000
namespace Go.Proofs.YtbijhkhkigdddaaGreat
open Go.ChangeShapes Go.WideShapes Go.ChangeAt Go.RowKit Go.Joins
theorem fo_fields {H : Type} {enc : TypeId × Value → H} {P : Program} {w : World} {base : Nat} {spare : Nat → Bool} {held : Bool} {t : TypeId} {fs : Array Field} {cs : List Value} {fuel : Nat} {y : DataW H × List MemPlace} (hs : P.underlying t = some (.struct fs)) (h : DataW.trod enc P w base spare held fuel t cs = some y) :
  ∃ n, ∀ (i : Nat) (f : Field), fs[i]? = some f → ∃ y', DataW.trod enc P w base spare held n f.type ((cs.drop f.offset).take (P.cellsOf f.type)) = some y' := by
 obtain ⟨xs, n, _, _, _, hlen, hf⟩ := DataW.trod_struct hs h
 refine ⟨n, fun i f hi => ?_⟩
 have hlt : i < fs.size := (Array.getElem?_eq_some_iff.1 hi).1
 exact ⟨xs[i]'(by omega), by rw [hf i f hi]; exact List.getElem?_eq_getElem (by omega)⟩
theorem cells_bool : Tryz.prog.cellsOf 4 = 1 := by kernel_rfl
theorem cells_u32 : Tryz.prog.cellsOf 44 = 1 := by kernel_rfl
theorem cells_s_0 : Tryz.prog.cellsOf 22 = 1 := by kernel_rfl
theorem cells_s_1 : Tryz.prog.cellsOf 25 = 1 := by kernel_rfl
theorem cells_s_2 : Tryz.prog.cellsOf 30 = 1 := by kernel_rfl
theorem cells_s_3 : Tryz.prog.cellsOf 43 = 1 := by kernel_rfl
theorem cells_rtt : Tryz.prog.cellsOf 24 = 5 := by kernel_rfl
theorem cells_least : Tryz.prog.cellsOf 27 = 3 := by kernel_rfl
theorem cells_marks : Tryz.prog.cellsOf 29 = 5 := by kernel_rfl
theorem cells_rate : Tryz.prog.cellsOf 32 = 3 := by kernel_rfl
theorem cells_rack : Tryz.prog.cellsOf 34 = 6 := by kernel_rfl
theorem cells_win : Tryz.prog.cellsOf 36 = 2 := by kernel_rfl
theorem cells_timer : Tryz.prog.cellsOf 38 = 2 := by kernel_rfl
theorem cells_flow : Tryz.prog.cellsOf 40 = 33 := by kernel_rfl
theorem cells_conf : Tryz.prog.cellsOf 42 = 9 := by kernel_rfl
theorem cells_told : Tryz.prog.cellsOf 46 = 6 := by kernel_rfl
set_option maxRecDepth 100000
theorem cells_pt : Tryz.prog.cellsOf 134 = 2 := by kernel_rfl
theorem open_points1 {H : Type} {enc : TypeId × Value → H} {W : World} {v : Value} {fuel : Nat} {d : DataW H} {p : List MemPlace} (hf : DataW.trod enc Tryz.prog W 0 (fun _ => true) true fuel 25 [v] = some (d, p)) : ∃ a len cap l, v = .slice a len cap ∧ Ss W a len cap l := by
 rcases Go.Deep.open_slice_pairs Tryz.underlying25 Tryz.underlying134 cells_pt rfl rfl cells_int cells_int hf with ⟨hcs, _⟩ | ⟨x, len, cap, m, n, V0, V1, D0, D1, P0, P1, hcs, _, hl, hm, hmm, _, hall⟩
 ·simp at hcs
  subst hcs
  exact ⟨none, 0, 0, [], rfl, Ss.none _⟩
 ·simp at hcs
  subst hcs
  simp only [if_true] at hmm
  subst hmm
  have hint : ∀ i, i < m → ∃ q : Int × Int, V0 i = .int .i64 q.1 ∧ V1 i = .int .i64 q.2 ∧ W64 q.1 ∧ W64 q.2 := by
   intro i hi
   obtain ⟨_, _, t0, t1⟩ := hall i hi
   obtain ⟨q0, e0, _, w0⟩ := DataW.trod_int Tryz.underlying3 t0
   obtain ⟨q1, e1, _, w1⟩ := DataW.trod_int Tryz.underlying3 t1
   simp only [List.cons.injEq, and_true] at e0 e1
   exact ⟨(q0, q1), e0, e1, w64_of_wf w0, w64_of_wf w1⟩
  obtain ⟨q, hq⟩ := Go.Deep.choose_lt hint
  have hlen : ((List.range len).map q).length = len := by simp
  have hsp : ∀ i, i < len → sp ((List.range len).map q) i = q i := fun i hi => by
   rw [sp_eq (by simpa using hi)]; simp
  refine ⟨some x, len, _, (List.range len).map q, rfl, hl, hm, (fun e => by cases e), hlen, ?_, fun h0 => ?_⟩
  ·intro z hz
   obtain ⟨i, hi, rfl⟩ := List.mem_map.1 hz
   have := List.mem_range.1 hi
   exact (hq i (by omega)).2.2
  ·have c0 := (hall 0 (by omega)).1
   have hspot : x.spot = none := by
    have := World.cell?_spot c0
    simpa [Addr.add] using this
   have hlt := World.block_lt_of_cell? _ _ c0
   obtain ⟨b, o, s⟩ := x
   simp only at hspot
   subst hspot
   have hadd : ∀ j, (⟨b, o, none⟩ : Addr).add j = ⟨b, o + j, none⟩ := fun j => by
    unfold Addr.add
    split
    ·next h => subst h; rfl
    ·rfl
   refine ⟨b, o, rfl, by simpa [hadd] using hlt, fun i hi => ?_⟩
   obtain ⟨g0, g1, _, _⟩ := hall i (by omega)
   rw [hadd] at g0 g1
   rw [hsp i hi]
   have := hq i (by omega)
   exact ⟨by rw [g0, this.1], by rw [← Nat.add_assoc] at g1; rw [g1, this.2.1]⟩
theorem cells_fsp : Tryz.prog.cellsOf 74 = 2 := by kernel_rfl
theorem fo_spans {H : Type} {enc : TypeId × Value → H} {W : World} {v : Value} {fuel : Nat} {d : DataW H} {p : List MemPlace} (hf : DataW.trod enc Tryz.prog W 0 (fun _ => true) true fuel 43 [v] = some (d, p)) : ∃ a len cap l, v = .slice a len cap ∧ Ss W a len cap l := by
 rcases Go.Deep.open_slice_pairs Tryz.underlying43 Tryz.underlying74 cells_fsp rfl rfl cells_int cells_int hf with ⟨hcs, _⟩ | ⟨x, len, cap, m, n, V0, V1, D0, D1, P0, P1, hcs, _, hl, hm, hmm, _, hall⟩
 ·simp at hcs
  subst hcs
  exact ⟨none, 0, 0, [], rfl, Ss.none _⟩
 ·simp at hcs
  subst hcs
  simp only [if_true] at hmm
  subst hmm
  have hint : ∀ i, i < m → ∃ q : Int × Int, V0 i = .int .i64 q.1 ∧ V1 i = .int .i64 q.2 ∧ W64 q.1 ∧ W64 q.2 := by
   intro i hi
   obtain ⟨_, _, t0, t1⟩ := hall i hi
   obtain ⟨q0, e0, _, w0⟩ := DataW.trod_int Tryz.underlying3 t0
   obtain ⟨q1, e1, _, w1⟩ := DataW.trod_int Tryz.underlying3 t1
   simp only [List.cons.injEq, and_true] at e0 e1
   exact ⟨(q0, q1), e0, e1, w64_of_wf w0, w64_of_wf w1⟩
  obtain ⟨q, hq⟩ := Go.Deep.choose_lt hint
  have hlen : ((List.range len).map q).length = len := by simp
  have hsp : ∀ i, i < len → sp ((List.range len).map q) i = q i := fun i hi => by
   rw [sp_eq (by simpa using hi)]; simp
  refine ⟨some x, len, _, (List.range len).map q, rfl, hl, hm, (fun e => by cases e), hlen, ?_, fun h0 => ?_⟩
  ·intro z hz
   obtain ⟨i, hi, rfl⟩ := List.mem_map.1 hz
   have := List.mem_range.1 hi
   exact (hq i (by omega)).2.2
  ·have c0 := (hall 0 (by omega)).1
   have hspot : x.spot = none := by
    have := World.cell?_spot c0
    simpa [Addr.add] using this
   have hlt := World.block_lt_of_cell? _ _ c0
   obtain ⟨b, o, s⟩ := x
   simp only at hspot
   subst hspot
   have hadd : ∀ j, (⟨b, o, none⟩ : Addr).add j = ⟨b, o + j, none⟩ := fun j => by
    unfold Addr.add
    split
    ·next h => subst h; rfl
    ·rfl
   refine ⟨b, o, rfl, by simpa [hadd] using hlt, fun i hi => ?_⟩
   obtain ⟨g0, g1, _, _⟩ := hall i (by omega)
   rw [hadd] at g0 g1
   rw [hsp i hi]
   have := hq i (by omega)
   exact ⟨by rw [g0, this.1], by rw [← Nat.add_assoc] at g1; rw [g1, this.2.1]⟩
theorem fo_parts {H : Type} {enc : TypeId × Value → H} {W : World} {v : Value} {fuel : Nat} {d : DataW H} {p : List MemPlace} (hf : DataW.trod enc Tryz.prog W 0 (fun _ => true) true fuel 22 [v] = some (d, p)) : ∃ a len cap, ∃ l : List Prt, v = .slice a len cap ∧ Se W a len cap l :=
 open_elems (α := Prt) Tryz.underlying22 cells_prt prt_of hf
theorem flow_of {H : Type} {enc : TypeId × Value → H} {W : World} {fuel : Nat} {cs : List Value} {y : DataW H × List MemPlace} (hl : cs.length = 33) (hf : DataW.trod enc Tryz.prog W 0 (fun _ => true) true fuel 40 cs = some y) : ∃ (s : Fs) (f : Fv), cs = fcs s f ∧ FlM W (fun _ => True) s f := by
 match cs, hl with
 | c0 :: c1 :: c2 :: c3 :: c4 :: c5 :: c6 :: c7 :: c8 :: c9 :: c10 :: c11 :: c12 :: c13 :: c14 :: c15 :: c16 :: c17 :: c18 :: c19 :: c20 :: c21 :: c22 :: c23 :: c24 :: c25 :: c26 :: c27 :: c28 :: c29 :: c30 :: c31 :: c32 :: [], _ =>
  obtain ⟨m, h⟩ := fo_fields Tryz.underlying40 hf
  have q_0 : ∃ y, DataW.trod enc Tryz.prog W 0 (fun _ => true) true m 4 [c0] = some y := by have h0 := h 0 _ rfl; simpa [cells_bool] using h0
  obtain ⟨⟨d_0, p_0⟩, g_0⟩ := q_0
  obtain ⟨a_0, e_0, _⟩ := DataW.trod_bool Tryz.underlying4 g_0
  have q_1 : ∃ y, DataW.trod enc Tryz.prog W 0 (fun _ => true) true m 22 [c1] = some y := by have h0 := h 1 _ rfl; simpa [cells_s_0] using h0
  obtain ⟨⟨d_1, p_1⟩, g_1⟩ := q_1
  obtain ⟨A_1, n_1, c_1, l_1, e_1, s_1⟩ := fo_parts g_1
  have q_2 : ∃ y, DataW.trod enc Tryz.prog W 0 (fun _ => true) true m 3 [c2] = some y := by have h0 := h 2 _ rfl; simpa [cells_int] using h0
  obtain ⟨⟨d_2, p_2⟩, g_2⟩ := q_2
  obtain ⟨a_2, e_2, _, w_2⟩ := DataW.trod_int Tryz.underlying3 g_2
  have q_3 : ∃ y, DataW.trod enc Tryz.prog W 0 (fun _ => true) true m 24 [c3, c4, c5, c6, c7] = some y := by have h0 := h 3 _ rfl; simpa [cells_rtt] using h0
  obtain ⟨⟨d_3, p_3⟩, g_3⟩ := q_3
  obtain ⟨m_3, h_3⟩ := fo_fields Tryz.underlying24 g_3
  have q_3_0 : ∃ y, DataW.trod enc Tryz.prog W 0 (fun _ => true) true m_3 4 [c3] = some y := by have h0 := h_3 0 _ rfl; simpa [cells_bool] using h0
  obtain ⟨⟨d_3_0, p_3_0⟩, g_3_0⟩ := q_3_0
  obtain ⟨a_3_0, e_3_0, _⟩ := DataW.trod_bool Tryz.underlying4 g_3_0
  have q_3_1 : ∃ y, DataW.trod enc Tryz.prog W 0 (fun _ => true) true m_3 3 [c4] = some y := by have h0 := h_3 1 _ rfl; simpa [cells_int] using h0
  obtain ⟨⟨d_3_1, p_3_1⟩, g_3_1⟩ := q_3_1
  obtain ⟨a_3_1, e_3_1, _, w_3_1⟩ := DataW.trod_int Tryz.underlying3 g_3_1
  have q_3_2 : ∃ y, DataW.trod enc Tryz.prog W 0 (fun _ => true) true m_3 3 [c5] = some y := by have h0 := h_3 2 _ rfl; simpa [cells_int] using h0
  obtain ⟨⟨d_3_2, p_3_2⟩, g_3_2⟩ := q_3_2
  obtain ⟨a_3_2, e_3_2, _, w_3_2⟩ := DataW.trod_int Tryz.underlying3 g_3_2
  have q_3_3 : ∃ y, DataW.trod enc Tryz.prog W 0 (fun _ => true) true m_3 3 [c6] = some y := by have h0 := h_3 3 _ rfl; simpa [cells_int] using h0
  obtain ⟨⟨d_3_3, p_3_3⟩, g_3_3⟩ := q_3_3
  obtain ⟨a_3_3, e_3_3, _, w_3_3⟩ := DataW.trod_int Tryz.underlying3 g_3_3
  have q_3_4 : ∃ y, DataW.trod enc Tryz.prog W 0 (fun _ => true) true m_3 3 [c7] = some y := by have h0 := h_3 4 _ rfl; simpa [cells_int] using h0
  obtain ⟨⟨d_3_4, p_3_4⟩, g_3_4⟩ := q_3_4
  obtain ⟨a_3_4, e_3_4, _, w_3_4⟩ := DataW.trod_int Tryz.underlying3 g_3_4
  have q_4 : ∃ y, DataW.trod enc Tryz.prog W 0 (fun _ => true) true m 27 [c8, c9, c10] = some y := by have h0 := h 4 _ rfl; simpa [cells_least] using h0
  obtain ⟨⟨d_4, p_4⟩, g_4⟩ := q_4
  obtain ⟨m_4, h_4⟩ := fo_fields Tryz.underlying27 g_4
  have q_4_0 : ∃ y, DataW.trod enc Tryz.prog W 0 (fun _ => true) true m_4 3 [c8] = some y := by have h0 := h_4 0 _ rfl; simpa [cells_int] using h0
  obtain ⟨⟨d_4_0, p_4_0⟩, g_4_0⟩ := q_4_0
  obtain ⟨a_4_0, e_4_0, _, w_4_0⟩ := DataW.trod_int Tryz.underlying3 g_4_0
  have q_4_1 : ∃ y, DataW.trod enc Tryz.prog W 0 (fun _ => true) true m_4 25 [c9] = some y := by have h0 := h_4 1 _ rfl; simpa [cells_s_1] using h0
  obtain ⟨⟨d_4_1, p_4_1⟩, g_4_1⟩ := q_4_1
  obtain ⟨A_4_1, n_4_1, c_4_1, l_4_1, e_4_1, s_4_1⟩ := open_points1 g_4_1
  have q_4_2 : ∃ y, DataW.trod enc Tryz.prog W 0 (fun _ => true) true m_4 3 [c10] = some y := by have h0 := h_4 2 _ rfl; simpa [cells_int] using h0
  obtain ⟨⟨d_4_2, p_4_2⟩, g_4_2⟩ := q_4_2
  obtain ⟨a_4_2, e_4_2, _, w_4_2⟩ := DataW.trod_int Tryz.underlying3 g_4_2
  have q_5 : ∃ y, DataW.trod enc Tryz.prog W 0 (fun _ => true) true m 29 [c11, c12, c13, c14, c15] = some y := by have h0 := h 5 _ rfl; simpa [cells_marks] using h0
  obtain ⟨⟨d_5, p_5⟩, g_5⟩ := q_5
  obtain ⟨m_5, h_5⟩ := fo_fields Tryz.underlying29 g_5
  have q_5_0 : ∃ y, DataW.trod enc Tryz.prog W 0 (fun _ => true) true m_5 3 [c11] = some y := by have h0 := h_5 0 _ rfl; simpa [cells_int] using h0
  obtain ⟨⟨d_5_0, p_5_0⟩, g_5_0⟩ := q_5_0
  obtain ⟨a_5_0, e_5_0, _, w_5_0⟩ := DataW.trod_int Tryz.underlying3 g_5_0
  have q_5_1 : ∃ y, DataW.trod enc Tryz.prog W 0 (fun _ => true) true m_5 3 [c12] = some y := by have h0 := h_5 1 _ rfl; simpa [cells_int] using h0
  obtain ⟨⟨d_5_1, p_5_1⟩, g_5_1⟩ := q_5_1
  obtain ⟨a_5_1, e_5_1, _, w_5_1⟩ := DataW.trod_int Tryz.underlying3 g_5_1
  have q_5_2 : ∃ y, DataW.trod enc Tryz.prog W 0 (fun _ => true) true m_5 3 [c13] = some y := by have h0 := h_5 2 _ rfl; simpa [cells_int] using h0
  obtain ⟨⟨d_5_2, p_5_2⟩, g_5_2⟩ := q_5_2
  obtain ⟨a_5_2, e_5_2, _, w_5_2⟩ := DataW.trod_int Tryz.underlying3 g_5_2
  have q_5_3 : ∃ y, DataW.trod enc Tryz.prog W 0 (fun _ => true) true m_5 3 [c14] = some y := by have h0 := h_5 3 _ rfl; simpa [cells_int] using h0
  obtain ⟨⟨d_5_3, p_5_3⟩, g_5_3⟩ := q_5_3
  obtain ⟨a_5_3, e_5_3, _, w_5_3⟩ := DataW.trod_int Tryz.underlying3 g_5_3
  have q_5_4 : ∃ y, DataW.trod enc Tryz.prog W 0 (fun _ => true) true m_5 3 [c15] = some y := by have h0 := h_5 4 _ rfl; simpa [cells_int] using h0
  obtain ⟨⟨d_5_4, p_5_4⟩, g_5_4⟩ := q_5_4
  obtain ⟨a_5_4, e_5_4, _, w_5_4⟩ := DataW.trod_int Tryz.underlying3 g_5_4
  have q_6 : ∃ y, DataW.trod enc Tryz.prog W 0 (fun _ => true) true m 32 [c16, c17, c18] = some y := by have h0 := h 6 _ rfl; simpa [cells_rate] using h0
  obtain ⟨⟨d_6, p_6⟩, g_6⟩ := q_6
  obtain ⟨m_6, h_6⟩ := fo_fields Tryz.underlying32 g_6
  have q_6_0 : ∃ y, DataW.trod enc Tryz.prog W 0 (fun _ => true) true m_6 3 [c16] = some y := by have h0 := h_6 0 _ rfl; simpa [cells_int] using h0
  obtain ⟨⟨d_6_0, p_6_0⟩, g_6_0⟩ := q_6_0
  obtain ⟨a_6_0, e_6_0, _, w_6_0⟩ := DataW.trod_int Tryz.underlying3 g_6_0
  have q_6_1 : ∃ y, DataW.trod enc Tryz.prog W 0 (fun _ => true) true m_6 3 [c17] = some y := by have h0 := h_6 1 _ rfl; simpa [cells_int] using h0
  obtain ⟨⟨d_6_1, p_6_1⟩, g_6_1⟩ := q_6_1
  obtain ⟨a_6_1, e_6_1, _, w_6_1⟩ := DataW.trod_int Tryz.underlying3 g_6_1
  have q_6_2 : ∃ y, DataW.trod enc Tryz.prog W 0 (fun _ => true) true m_6 30 [c18] = some y := by have h0 := h_6 2 _ rfl; simpa [cells_s_2] using h0
  obtain ⟨⟨d_6_2, p_6_2⟩, g_6_2⟩ := q_6_2
  obtain ⟨A_6_2, n_6_2, c_6_2, l_6_2, e_6_2, s_6_2⟩ := open_nums1 g_6_2
  have q_7 : ∃ y, DataW.trod enc Tryz.prog W 0 (fun _ => true) true m 34 [c19, c20, c21, c22, c23, c24] = some y := by have h0 := h 7 _ rfl; simpa [cells_rack] using h0
  obtain ⟨⟨d_7, p_7⟩, g_7⟩ := q_7
  obtain ⟨m_7, h_7⟩ := fo_fields Tryz.underlying34 g_7
  have q_7_0 : ∃ y, DataW.trod enc Tryz.prog W 0 (fun _ => true) true m_7 3 [c19] = some y := by have h0 := h_7 0 _ rfl; simpa [cells_int] using h0
  obtain ⟨⟨d_7_0, p_7_0⟩, g_7_0⟩ := q_7_0
  obtain ⟨a_7_0, e_7_0, _, w_7_0⟩ := DataW.trod_int Tryz.underlying3 g_7_0
  have q_7_1 : ∃ y, DataW.trod enc Tryz.prog W 0 (fun _ => true) true m_7 3 [c20] = some y := by have h0 := h_7 1 _ rfl; simpa [cells_int] using h0
  obtain ⟨⟨d_7_1, p_7_1⟩, g_7_1⟩ := q_7_1
  obtain ⟨a_7_1, e_7_1, _, w_7_1⟩ := DataW.trod_int Tryz.underlying3 g_7_1
  have q_7_2 : ∃ y, DataW.trod enc Tryz.prog W 0 (fun _ => true) true m_7 3 [c21] = some y := by have h0 := h_7 2 _ rfl; simpa [cells_int] using h0
  obtain ⟨⟨d_7_2, p_7_2⟩, g_7_2⟩ := q_7_2
  obtain ⟨a_7_2, e_7_2, _, w_7_2⟩ := DataW.trod_int Tryz.underlying3 g_7_2
  have q_7_3 : ∃ y, DataW.trod enc Tryz.prog W 0 (fun _ => true) true m_7 3 [c22] = some y := by have h0 := h_7 3 _ rfl; simpa [cells_int] using h0
  obtain ⟨⟨d_7_3, p_7_3⟩, g_7_3⟩ := q_7_3
  obtain ⟨a_7_3, e_7_3, _, w_7_3⟩ := DataW.trod_int Tryz.underlying3 g_7_3
  have q_7_4 : ∃ y, DataW.trod enc Tryz.prog W 0 (fun _ => true) true m_7 4 [c23] = some y := by have h0 := h_7 4 _ rfl; simpa [cells_bool] using h0
  obtain ⟨⟨d_7_4, p_7_4⟩, g_7_4⟩ := q_7_4
  obtain ⟨a_7_4, e_7_4, _⟩ := DataW.trod_bool Tryz.underlying4 g_7_4
  have q_7_5 : ∃ y, DataW.trod enc Tryz.prog W 0 (fun _ => true) true m_7 3 [c24] = some y := by have h0 := h_7 5 _ rfl; simpa [cells_int] using h0
  obtain ⟨⟨d_7_5, p_7_5⟩, g_7_5⟩ := q_7_5
  obtain ⟨a_7_5, e_7_5, _, w_7_5⟩ := DataW.trod_int Tryz.underlying3 g_7_5
  have q_8 : ∃ y, DataW.trod enc Tryz.prog W 0 (fun _ => true) true m 36 [c25, c26] = some y := by have h0 := h 8 _ rfl; simpa [cells_win] using h0
  obtain ⟨⟨d_8, p_8⟩, g_8⟩ := q_8
  obtain ⟨m_8, h_8⟩ := fo_fields Tryz.underlying36 g_8
  have q_8_0 : ∃ y, DataW.trod enc Tryz.prog W 0 (fun _ => true) true m_8 3 [c25] = some y := by have h0 := h_8 0 _ rfl; simpa [cells_int] using h0
  obtain ⟨⟨d_8_0, p_8_0⟩, g_8_0⟩ := q_8_0
  obtain ⟨a_8_0, e_8_0, _, w_8_0⟩ := DataW.trod_int Tryz.underlying3 g_8_0
  have q_8_1 : ∃ y, DataW.trod enc Tryz.prog W 0 (fun _ => true) true m_8 3 [c26] = some y := by have h0 := h_8 1 _ rfl; simpa [cells_int] using h0
  obtain ⟨⟨d_8_1, p_8_1⟩, g_8_1⟩ := q_8_1
  obtain ⟨a_8_1, e_8_1, _, w_8_1⟩ := DataW.trod_int Tryz.underlying3 g_8_1
  have q_9 : ∃ y, DataW.trod enc Tryz.prog W 0 (fun _ => true) true m 38 [c27, c28] = some y := by have h0 := h 9 _ rfl; simpa [cells_timer] using h0
  obtain ⟨⟨d_9, p_9⟩, g_9⟩ := q_9
  obtain ⟨m_9, h_9⟩ := fo_fields Tryz.underlying38 g_9
  have q_9_0 : ∃ y, DataW.trod enc Tryz.prog W 0 (fun _ => true) true m_9 3 [c27] = some y := by have h0 := h_9 0 _ rfl; simpa [cells_int] using h0
  obtain ⟨⟨d_9_0, p_9_0⟩, g_9_0⟩ := q_9_0
  obtain ⟨a_9_0, e_9_0, _, w_9_0⟩ := DataW.trod_int Tryz.underlying3 g_9_0
  have q_9_1 : ∃ y, DataW.trod enc Tryz.prog W 0 (fun _ => true) true m_9 3 [c28] = some y := by have h0 := h_9 1 _ rfl; simpa [cells_int] using h0
  obtain ⟨⟨d_9_1, p_9_1⟩, g_9_1⟩ := q_9_1
  obtain ⟨a_9_1, e_9_1, _, w_9_1⟩ := DataW.trod_int Tryz.underlying3 g_9_1
  have q_10 : ∃ y, DataW.trod enc Tryz.prog W 0 (fun _ => true) true m 30 [c29] = some y := by have h0 := h 10 _ rfl; simpa [cells_s_2] using h0
  obtain ⟨⟨d_10, p_10⟩, g_10⟩ := q_10
  obtain ⟨A_10, n_10, c_10, l_10, e_10, s_10⟩ := open_nums1 g_10
  have q_11 : ∃ y, DataW.trod enc Tryz.prog W 0 (fun _ => true) true m 3 [c30] = some y := by have h0 := h 11 _ rfl; simpa [cells_int] using h0
  obtain ⟨⟨d_11, p_11⟩, g_11⟩ := q_11
  obtain ⟨a_11, e_11, _, w_11⟩ := DataW.trod_int Tryz.underlying3 g_11
  have q_12 : ∃ y, DataW.trod enc Tryz.prog W 0 (fun _ => true) true m 4 [c31] = some y := by have h0 := h 12 _ rfl; simpa [cells_bool] using h0
  obtain ⟨⟨d_12, p_12⟩, g_12⟩ := q_12
  obtain ⟨a_12, e_12, _⟩ := DataW.trod_bool Tryz.underlying4 g_12
  have q_13 : ∃ y, DataW.trod enc Tryz.prog W 0 (fun _ => true) true m 4 [c32] = some y := by have h0 := h 13 _ rfl; simpa [cells_bool] using h0
  obtain ⟨⟨d_13, p_13⟩, g_13⟩ := q_13
  obtain ⟨a_13, e_13, _⟩ := DataW.trod_bool Tryz.underlying4 g_13
  simp only [List.cons.injEq, and_true] at e_0 e_2 e_3_0 e_3_1 e_3_2 e_3_3 e_3_4 e_4_0 e_4_2 e_5_0 e_5_1 e_5_2 e_5_3 e_5_4 e_6_0 e_6_1 e_7_0 e_7_1 e_7_2 e_7_3 e_7_4 e_7_5 e_8_0 e_8_1 e_9_0 e_9_1 e_11 e_12 e_13
  subst e_0 e_1 e_2 e_3_0 e_3_1 e_3_2 e_3_3 e_3_4 e_4_0 e_4_1 e_4_2 e_5_0 e_5_1 e_5_2 e_5_3 e_5_4 e_6_0 e_6_1 e_6_2 e_7_0 e_7_1 e_7_2 e_7_3 e_7_4 e_7_5 e_8_0 e_8_1 e_9_0 e_9_1 e_10 e_11 e_12 e_13
  exact ⟨⟨A_1, n_1, c_1, A_4_1, n_4_1, c_4_1, A_6_2, n_6_2, c_6_2, A_10, n_10, c_10⟩, ⟨a_0, l_1, a_2, ⟨a_3_0, a_3_1, a_3_2, a_3_3, a_3_4⟩, ⟨a_4_0, l_4_1, a_4_2⟩, ⟨a_5_0, a_5_1, a_5_2, a_5_3, a_5_4⟩, ⟨a_6_0, a_6_1, l_6_2⟩, ⟨a_7_0, a_7_1, a_7_2, a_7_3, a_7_4, a_7_5⟩, a_8_0, a_8_1, ⟨a_9_0, a_9_1⟩, l_10, a_11, a_12, a_13⟩, rfl, s_1, s_4_1, s_6_2, s_10, ⟨i64_of_wf w_2, i64_of_wf w_3_1, i64_of_wf w_3_2, i64_of_wf w_3_3, i64_of_wf w_3_4, i64_of_wf w_4_0, i64_of_wf w_4_2, i64_of_wf w_5_0, i64_of_wf w_5_1, i64_of_wf w_5_2, i64_of_wf w_5_3, i64_of_wf w_5_4, i64_of_wf w_6_0, i64_of_wf w_6_1, i64_of_wf w_7_0, i64_of_wf w_7_1, i64_of_wf w_7_2, i64_of_wf w_7_3, i64_of_wf w_7_5, i64_of_wf w_8_0, i64_of_wf w_8_1, i64_of_wf w_9_0, i64_of_wf w_9_1, i64_of_wf w_11⟩, (fun _ _ _ _ _ => trivial), (fun _ _ _ _ _ => trivial), (fun _ _ _ _ _ => trivial), fun _ _ _ _ _ => trivial⟩
theorem conf_of {H : Type} {enc : TypeId × Value → H} {W : World} {fuel : Nat} {cs : List Value} {y : DataW H × List MemPlace} (hl : cs.length = 9) (hf : DataW.trod enc Tryz.prog W 0 (fun _ => true) true fuel 42 cs = some y) : ∃ c : Cf, cs = ccs c ∧ CfW c := by
 match cs, hl with
 | c0 :: c1 :: c2 :: c3 :: c4 :: c5 :: c6 :: c7 :: c8 :: [], _ =>
  obtain ⟨m, h⟩ := fo_fields Tryz.underlying42 hf
  have q_0 : ∃ y, DataW.trod enc Tryz.prog W 0 (fun _ => true) true m 3 [c0] = some y := by have h0 := h 0 _ rfl; simpa [cells_int] using h0
  obtain ⟨⟨d_0, p_0⟩, g_0⟩ := q_0
  obtain ⟨a_0, e_0, _, w_0⟩ := DataW.trod_int Tryz.underlying3 g_0
  have q_1 : ∃ y, DataW.trod enc Tryz.prog W 0 (fun _ => true) true m 3 [c1] = some y := by have h0 := h 1 _ rfl; simpa [cells_int] using h0
  obtain ⟨⟨d_1, p_1⟩, g_1⟩ := q_1
  obtain ⟨a_1, e_1, _, w_1⟩ := DataW.trod_int Tryz.underlying3 g_1
  have q_2 : ∃ y, DataW.trod enc Tryz.prog W 0 (fun _ => true) true m 3 [c2] = some y := by have h0 := h 2 _ rfl; simpa [cells_int] using h0
  obtain ⟨⟨d_2, p_2⟩, g_2⟩ := q_2
  obtain ⟨a_2, e_2, _, w_2⟩ := DataW.trod_int Tryz.underlying3 g_2
  have q_3 : ∃ y, DataW.trod enc Tryz.prog W 0 (fun _ => true) true m 3 [c3] = some y := by have h0 := h 3 _ rfl; simpa [cells_int] using h0
  obtain ⟨⟨d_3, p_3⟩, g_3⟩ := q_3
  obtain ⟨a_3, e_3, _, w_3⟩ := DataW.trod_int Tryz.underlying3 g_3
  have q_4 : ∃ y, DataW.trod enc Tryz.prog W 0 (fun _ => true) true m 3 [c4] = some y := by have h0 := h 4 _ rfl; simpa [cells_int] using h0
  obtain ⟨⟨d_4, p_4⟩, g_4⟩ := q_4
  obtain ⟨a_4, e_4, _, w_4⟩ := DataW.trod_int Tryz.underlying3 g_4
  have q_5 : ∃ y, DataW.trod enc Tryz.prog W 0 (fun _ => true) true m 4 [c5] = some y := by have h0 := h 5 _ rfl; simpa [cells_bool] using h0
  obtain ⟨⟨d_5, p_5⟩, g_5⟩ := q_5
  obtain ⟨a_5, e_5, _⟩ := DataW.trod_bool Tryz.underlying4 g_5
  have q_6 : ∃ y, DataW.trod enc Tryz.prog W 0 (fun _ => true) true m 3 [c6] = some y := by have h0 := h 6 _ rfl; simpa [cells_int] using h0
  obtain ⟨⟨d_6, p_6⟩, g_6⟩ := q_6
  obtain ⟨a_6, e_6, _, w_6⟩ := DataW.trod_int Tryz.underlying3 g_6
  have q_7 : ∃ y, DataW.trod enc Tryz.prog W 0 (fun _ => true) true m 3 [c7] = some y := by have h0 := h 7 _ rfl; simpa [cells_int] using h0
  obtain ⟨⟨d_7, p_7⟩, g_7⟩ := q_7
  obtain ⟨a_7, e_7, _, w_7⟩ := DataW.trod_int Tryz.underlying3 g_7
  have q_8 : ∃ y, DataW.trod enc Tryz.prog W 0 (fun _ => true) true m 3 [c8] = some y := by have h0 := h 8 _ rfl; simpa [cells_int] using h0
  obtain ⟨⟨d_8, p_8⟩, g_8⟩ := q_8
  obtain ⟨a_8, e_8, _, w_8⟩ := DataW.trod_int Tryz.underlying3 g_8
  simp only [List.cons.injEq, and_true] at e_0 e_1 e_2 e_3 e_4 e_5 e_6 e_7 e_8
  subst e_0 e_1 e_2 e_3 e_4 e_5 e_6 e_7 e_8
  exact ⟨⟨a_0, a_1, a_2, a_3, a_4, a_5, a_6, a_7, a_8⟩, rfl, ⟨i64_of_wf w_0, i64_of_wf w_1, i64_of_wf w_2, i64_of_wf w_3, i64_of_wf w_4, i64_of_wf w_6, i64_of_wf w_7, i64_of_wf w_8⟩⟩
theorem open_flow {H : Type} {enc : TypeId × Value → H} {W : World} {r : Reach} {b0 : Nat} {v : Value} {d : DataW H} {p : List MemPlace} (hv : Value.okWide Tryz.prog W r b0 40 v) (h : DataW.Trod enc Tryz.prog W 0 (fun _ => true) true 40 v d p) : ∃ (s : Fs) (f : Fv), v = .agg (fcs s f).toArray ∧ FlM W (fun _ => True) s f := by
 obtain ⟨cs, rfl, hsz⟩ := okWide_struct Tryz.underlying40 hv
 obtain ⟨fuel, hf⟩ := h
 obtain ⟨s, f, e, hm⟩ := flow_of (by simpa [Value.cells, cells_flow] using hsz) hf
 refine ⟨s, f, ?_, hm⟩
 obtain ⟨cs⟩ := cs
 simp only [Value.cells] at e
 subst e
 rfl
theorem open_conf {H : Type} {enc : TypeId × Value → H} {W : World} {r : Reach} {b0 : Nat} {v : Value} {d : DataW H} {p : List MemPlace} (hv : Value.okWide Tryz.prog W r b0 42 v) (h : DataW.Trod enc Tryz.prog W 0 (fun _ => true) true 42 v d p) : ∃ c : Cf, v = .agg (ccs c).toArray ∧ CfW c := by
 obtain ⟨cs, rfl, hsz⟩ := okWide_struct Tryz.underlying42 hv
 obtain ⟨fuel, hf⟩ := h
 obtain ⟨c, e, hm⟩ := conf_of (by simpa [Value.cells, cells_conf] using hsz) hf
 refine ⟨c, ?_, hm⟩
 obtain ⟨cs⟩ := cs
 simp only [Value.cells] at e
 subst e
 rfl
theorem fo_lo {n : Int} (h : (Lit.int .u32 n).wf = true) : 0 ≤ n := by
 simp [Lit.wf, IntKind.min, IntKind.max, IntKind.signed, IntKind.bits] at h; omega
theorem fo_hi {n : Int} (h : (Lit.int .u32 n).wf = true) : n < 4294967296 := by
 simp [Lit.wf, IntKind.min, IntKind.max, IntKind.signed, IntKind.bits] at h; omega
theorem told_of {H : Type} {enc : TypeId × Value → H} {W : World} {fuel : Nat} {cs : List Value} {y : DataW H × List MemPlace} (hl : cs.length = 6) (hf : DataW.trod enc Tryz.prog W 0 (fun _ => true) true fuel 46 cs = some y) : ∃ (A : Option Addr) (n k : Nat) (t : Tv), cs = tcs A n k t ∧ TvW t ∧ Ss W A n k t.sk := by
 match cs, hl with
 | c0 :: c1 :: c2 :: c3 :: c4 :: c5 :: [], _ =>
  obtain ⟨m, h⟩ := fo_fields Tryz.underlying46 hf
  have q_0 : ∃ y, DataW.trod enc Tryz.prog W 0 (fun _ => true) true m 3 [c0] = some y := by have h0 := h 0 _ rfl; simpa [cells_int] using h0
  obtain ⟨⟨d_0, p_0⟩, g_0⟩ := q_0
  obtain ⟨a_0, e_0, _, w_0⟩ := DataW.trod_int Tryz.underlying3 g_0
  have q_1 : ∃ y, DataW.trod enc Tryz.prog W 0 (fun _ => true) true m 43 [c1] = some y := by have h0 := h 1 _ rfl; simpa [cells_s_3] using h0
  obtain ⟨⟨d_1, p_1⟩, g_1⟩ := q_1
  obtain ⟨A_1, n_1, c_1, l_1, e_1, s_1⟩ := fo_spans g_1
  have q_2 : ∃ y, DataW.trod enc Tryz.prog W 0 (fun _ => true) true m 3 [c2] = some y := by have h0 := h 2 _ rfl; simpa [cells_int] using h0
  obtain ⟨⟨d_2, p_2⟩, g_2⟩ := q_2
  obtain ⟨a_2, e_2, _, w_2⟩ := DataW.trod_int Tryz.underlying3 g_2
  have q_3 : ∃ y, DataW.trod enc Tryz.prog W 0 (fun _ => true) true m 44 [c3] = some y := by have h0 := h 3 _ rfl; simpa [cells_u32] using h0
  obtain ⟨⟨d_3, p_3⟩, g_3⟩ := q_3
  obtain ⟨a_3, e_3, _, w_3⟩ := DataW.trod_int Tryz.underlying44 g_3
  have q_4 : ∃ y, DataW.trod enc Tryz.prog W 0 (fun _ => true) true m 3 [c4] = some y := by have h0 := h 4 _ rfl; simpa [cells_int] using h0
  obtain ⟨⟨d_4, p_4⟩, g_4⟩ := q_4
  obtain ⟨a_4, e_4, _, w_4⟩ := DataW.trod_int Tryz.underlying3 g_4
  have q_5 : ∃ y, DataW.trod enc Tryz.prog W 0 (fun _ => true) true m 3 [c5] = some y := by have h0 := h 5 _ rfl; simpa [cells_int] using h0
  obtain ⟨⟨d_5, p_5⟩, g_5⟩ := q_5
  obtain ⟨a_5, e_5, _, w_5⟩ := DataW.trod_int Tryz.underlying3 g_5
  simp only [List.cons.injEq, and_true] at e_0 e_2 e_3 e_4 e_5
  subst e_0 e_1 e_2 e_3 e_4 e_5
  exact ⟨A_1, n_1, c_1, ⟨a_0, l_1, a_2, a_3, a_4, a_5⟩, rfl, ⟨i64_of_wf w_0, i64_of_wf w_2, fo_lo w_3, fo_hi w_3, i64_of_wf w_4, i64_of_wf w_5⟩, s_1⟩
theorem open_told {H : Type} {enc : TypeId × Value → H} {W : World} {r : Reach} {b0 : Nat} {v : Value} {d : DataW H} {p : List MemPlace} (hv : Value.okWide Tryz.prog W r b0 46 v) (h : DataW.Trod enc Tryz.prog W 0 (fun _ => true) true 46 v d p) : ∃ (A : Option Addr) (n k : Nat) (t : Tv), v = .agg (tcs A n k t).toArray ∧ TvW t ∧ Ss W A n k t.sk := by
 obtain ⟨cs, rfl, hsz⟩ := okWide_struct Tryz.underlying46 hv
 obtain ⟨fuel, hf⟩ := h
 obtain ⟨A, n, k, t, e, ht, hm⟩ := told_of (by simpa [Value.cells, cells_told] using hsz) hf
 refine ⟨A, n, k, t, ?_, ht, hm⟩
 obtain ⟨cs⟩ := cs
 simp only [Value.cells] at e
 subst e
 rfl
end Go.Proofs.YtbijhkhkigdddaaGreat
