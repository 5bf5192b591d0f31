/- TailR FoFew In RoIn StIn. -/
import Derived.Test.YtbijhkhkigdddaaGreatM11
import Derived.ChangeOld
import Derived.OpenShut
import Derived.OrdersIn
import Derived.ProofKit
set_option linter.all false
set_option maxRecDepth 100000
set_option maxHeartbeats 32000000
namespace Go.Proofs.YtbijhkhkigdddaaGreat
open Go
section
variable {P : Program} {Q : Exit → Act → World → Prop} {r n : Nat}
theorem oper_round {o : Oper} {a : Act} {w : World} {K : Act → World → Prop} (hd : ∀ c, o.op ≠ .defer c) (h : Oper.wp P o a w K Q) : Oper.wpIn (Fence.wide.inRound r) n P o a w K Q := by
 refine ⟨fun _ _ => trivial, ?_⟩
 rw [Oper.semAt_eq _ _ _ hd]
 unfold Oper.wp at h
 generalize (execOp a.eval o).run P w = res at h ⊢
 cases res with
 | ok nx w' =>
  cases nx <;> first | exact h | exact h.elim | skip
  ·rename_i f args
   refine ⟨(fun e => by cases e), ?_⟩
   have h2 : CallsIn Fence.wide (n - 1) P f args w' _ := callsIn_wide.2 h
   refine CallsIn.inRound r (CallsIn.mono h2 (fun e w'' he => ?_))
   cases e <;> exact he
  ·rename_i x args
   refine ⟨(fun e => by cases e), fun c cs _ => ?_⟩
   obtain ⟨v, w'', hr, hs⟩ := h c cs
   exact ⟨v, w'', hr, stepsIn_wide.2 hs⟩
 | halt x w' =>
  cases x <;> first | exact h | exact h.elim
variable {md : Region.Mode} {ops : Array Oper}
theorem wpAny_round (hno : ¬ LetsOut Q) (hd : ∀ (i : Nat) (o : Oper), ops[i]? = some o → ∀ c, o.op ≠ .defer c) : ∀ (fuel : Nat) (listed : Array Bool) (a : Act) (w : World), wpAny P md ops Q fuel listed a w → wpAnyIn (Fence.wide.inRound r) n P md ops Q fuel listed a w
 | 0, _, _, _, h => h
 | fuel + 1, listed, a, w, h => by
  refine ⟨h.1, fun i hi => ?_⟩
  have h1 := h.2 i hi
  unfold wpOp at h1
  unfold wpOpIn
  cases ho : ops[i]? with
  | none => simp only [ho] at h1 ⊢; exact wpAny_round hno hd fuel _ _ _ h1
  | some o =>
   simp only [ho] at h1 ⊢
   split
   ·next hw =>
    rw [if_pos hw] at h1
    rcases h1 with h1 | h1
    ·exact Oper.wpIn_mono (fun a w k => wpAny_round hno hd fuel _ a w k) (oper_round (hd i o ho) h1)
    ·exact absurd h1.2 hno
   ·next hw =>
    rw [if_neg hw] at h1
    exact ⟨fun _ _ => trivial, wpAny_round hno hd fuel _ _ _ h1⟩
def noDefer (l : List Oper) : Bool := l.all fun o => match o.op with | .defer _ => false | _ => true
theorem wp_region_VR {S : World → Prop} {l : List Oper} {a : Act} {w : World} {id : Nat} (bk : List Nat) (m : Nat) (hm : P.follows .mixedOrders = true) (hl : l.length = m) (hnd : noDefer l = true) (hno : ¬ LetsOut Q)
  (h : wpAnyV P .any l.toArray Q S bk m (Array.replicate m false) a w.drew) : (Code.region id l.toArray true).wpIn (Fence.wide.inRound r) n P Q a w := by
 refine wpIn_region_any hm ?_
 have h1 := wpAny_of_V _ _ _ _ h
 rw [← hl] at h1
 have h2 := wpAny_round (r := r) (n := n) hno (fun i o ho c hc => by
  have hmem : o ∈ l := List.mem_of_getElem? (by simpa using ho)
  have := List.all_eq_true.1 hnd o hmem
  rw [hc] at this
  cases this) _ _ _ _ h1
 simpa using h2
end
end Go.Proofs.YtbijhkhkigdddaaGreat
namespace Go.Proofs.YtbijhkhkigdddaaGreat
open Go.RowKit
def fewB (s : Fs) : Bool := decide (s.n1 ≤ 60) && (decide (s.n2 ≤ 60) && (decide (s.n3 ≤ 30) && decide (s.n4 ≤ 30)))
theorem flfew_any (s : Fs) (f : Fv) (w : World) : Calls Tryz.prog 11 #[.agg (fcs s f).toArray] w fun e w' => e = .returned (.bool (fewB s)) ∧ Below w.heap.size w w' := by
 obtain ⟨B, hB⟩ : ∃ B, w.heap.size = B := ⟨_, rfl⟩
 have e0 := Bx.new w 40 (fcs s f)
 rw [hB] at e0 ⊢
 have b0 : Below B w (w.alloc (.cells (fcs s f).toArray 40)) := by rw [← hB]; exact (Zb).alloc Zr _
 obtain ⟨q, hq⟩ : ∃ q, fewB s = q := ⟨_, rfl⟩
 rw [hq]
 unfold fewB at hq
 go_enter Tryz.func11, Tryz.ntmps11
 go_upto_region 1 with fail
 generalize w.alloc (.cells (fcs s f).toArray 40) = w1 at e0 b0 ⊢
 have c1 := e0.cell 1 rfl; have c2 := e0.cell 9 rfl; have c3 := e0.cell 18 rfl; have c4 := e0.cell 29 rfl
 clear e0
 by_cases h0 : s.n1 ≤ 60
 case neg =>
  have d0 : decide (s.n1 ≤ 60) = false := Zf h0
  have d0' : decide ((s.n1 : Int) ≤ 60) = false := Zf (by omega)
  have hF : q = false := by rw [← hq]; simp [d0]
  subst hF
  clear hq
  go_wp2
  go_ret
  exact ⟨rfl, b0⟩
 case pos =>
 have d0 : decide (s.n1 ≤ 60) = true := Zt h0
 have d0' : decide ((s.n1 : Int) ≤ 60) = true := Zt (by omega)
 by_cases h1 : s.n2 ≤ 60
 case neg =>
  have d1 : decide (s.n2 ≤ 60) = false := Zf h1
  have d1' : decide ((s.n2 : Int) ≤ 60) = false := Zf (by omega)
  have hF : q = false := by rw [← hq]; simp [d0, d1]
  subst hF
  clear hq
  go_wp2
  go_ret
  exact ⟨rfl, b0⟩
 case pos =>
 have d1 : decide (s.n2 ≤ 60) = true := Zt h1
 have d1' : decide ((s.n2 : Int) ≤ 60) = true := Zt (by omega)
 by_cases h2 : s.n3 ≤ 30
 case neg =>
  have d2 : decide (s.n3 ≤ 30) = false := Zf h2
  have d2' : decide ((s.n3 : Int) ≤ 30) = false := Zf (by omega)
  have hF : q = false := by rw [← hq]; simp [d0, d1, d2]
  subst hF
  clear hq
  go_wp2
  go_ret
  exact ⟨rfl, b0⟩
 case pos =>
 have d2 : decide (s.n3 ≤ 30) = true := Zt h2
 have d2' : decide ((s.n3 : Int) ≤ 30) = true := Zt (by omega)
 by_cases h3 : s.n4 ≤ 30
 ·have d3 : decide (s.n4 ≤ 30) = true := Zt h3
  have d3' : decide ((s.n4 : Int) ≤ 30) = true := Zt (by omega)
  have hF : q = true := by rw [← hq]; simp [d0, d1, d2, d3]
  subst hF
  clear hq
  go_wp2
  go_ret
  exact ⟨rfl, b0⟩
 ·have d3 : decide (s.n4 ≤ 30) = false := Zf h3
  have d3' : decide ((s.n4 : Int) ≤ 30) = false := Zf (by omega)
  have hF : q = false := by rw [← hq]; simp [d0, d1, d2, d3]
  subst hF
  clear hq
  go_wp2
  go_ret
  exact ⟨rfl, b0⟩
theorem some_ok : CfOk someC := (fineB_iff _).1 (by decide)
theorem flsome_any (w : World) : Calls Tryz.prog 32 #[] w fun e w' => e = .returned (.agg (ccs someC).toArray) ∧ Below w.heap.size w w' := by
 obtain ⟨B, hB⟩ : ∃ B, w.heap.size = B := ⟨_, rfl⟩
 have e0 := Bx.new w 42 [.int .i64 0, .int .i64 0, .int .i64 0, .int .i64 0, .int .i64 0, .bool false, .int .i64 0, .int .i64 0, .int .i64 0]
 rw [hB] at e0 ⊢
 have b0 : Below B w (w.alloc (.cells #[.int .i64 0, .int .i64 0, .int .i64 0, .int .i64 0, .int .i64 0, .bool false, .int .i64 0, .int .i64 0, .int .i64 0] 42)) := by rw [← hB]; exact (Zb).alloc Zr _
 go_enter Tryz.func32, Tryz.ntmps32
 go_upto_region 1 with fail
 generalize w.alloc (.cells #[.int .i64 0, .int .i64 0, .int .i64 0, .int .i64 0, .int .i64 0, .bool false, .int .i64 0, .int .i64 0, .int .i64 0] 42) = w1 at e0 b0 ⊢
 go_wp2_with (refine cf_store rfl (.tmp 0) (.tmp 1) rfl rfl (ccs someC) rfl e0 rfl rfl rfl ?_)
 refine cf_end1 (by rfl) (by rfl) (cf_put e0 (ccs someC)) rfl rfl ?_
 exact ⟨rfl, b0.grown (cf_grown _ B _) (Zl e0.lt) (fun k hk => by cases hk; exact Nat.le_refl _)⟩
end Go.Proofs.YtbijhkhkigdddaaGreat
namespace Go.Proofs.YtbijhkhkigdddaaGreat
open Go.ChangeShapes Go.WideShapes Go.ChangeAt Go.RowKit Go.Joins
theorem prog_laid : laidOutB Tryz.prog = true := by kernel_rfl
theorem prog_own : ownKnob Tryz.prog.godebug = none := by kernel_rfl
theorem cells_int : Tryz.prog.cellsOf 3 = 1 := by kernel_rfl
theorem w64_of_wf {n : Int} (h : (Lit.int .i64 n).wf = true) : W64 n := by
 simp [Lit.wf, IntKind.min, IntKind.max, IntKind.signed, IntKind.bits] at h
 unfold W64; omega
theorem open_nums {H : Type} {enc : TypeId × Value → H} {W : World} {a : Option Addr} {len cap : Nat} {d : DataW H} {p : List MemPlace} (h : DataW.Trod enc Tryz.prog W 0 (fun _ => true) true 30 (.slice a len cap) d p) : ∃ l, Si W a len cap l := by
 obtain ⟨fuel, hf⟩ := h
 rcases open_ints Tryz.underlying30 Tryz.underlying3 cells_int hf with ⟨hcs, _⟩ | ⟨x, l, c, zs, hcs, _, hl, hm, hz, _, hcell, hwz⟩
 ·simp [Value.cells] at hcs
  obtain ⟨rfl, rfl, rfl⟩ := hcs
  exact ⟨[], Nat.le_refl _, Nat.zero_le _, fun _ => rfl, Ri.empty _ _⟩
 ·simp [Value.cells] at hcs
  obtain ⟨rfl, rfl, rfl⟩ := hcs
  have hz' : zs.length = cap := by simpa using hz
  have hlt : (zs.take len).length = len := by rw [List.length_take]; omega
  refine ⟨zs.take len, hl, hm, (fun e => by cases e), hlt, ?_, fun h0 => ?_⟩
  ·intro y hy
   exact w64_of_wf (hwz y (List.mem_of_mem_take hy))
  ·have c0 := hcell 0 (by omega)
   have hspot : x.spot = none := by
    have := World.cell?_spot c0
    simpa [Addr.add] using this
   have hb := World.block_lt_of_cell? _ _ c0
   obtain ⟨b, o, s⟩ := x
   simp only at hspot
   subst hspot
   have hadd : ∀ j, (⟨b, o, none⟩ : Addr).add j = ⟨b, o + j, none⟩ := fun j => by
    unfold Addr.add
    split
    ·next h => subst h; rfl
    ·rfl
   refine ⟨b, o, rfl, by simpa [hadd] using hb, fun i hi => ?_⟩
   have g := hcell i (by omega)
   rw [hadd] at g
   rw [it_eq (by omega), List.getElem_take]
   rw [g, List.getD_eq_getElem?_getD, List.getElem?_eq_getElem (by omega)]
   rfl
theorem open_nums1 {H : Type} {enc : TypeId × Value → H} {W : World} {v : Value} {fuel : Nat} {d : DataW H} {p : List MemPlace} (hf : DataW.trod enc Tryz.prog W 0 (fun _ => true) true fuel 30 [v] = some (d, p)) : ∃ a len cap l, v = .slice a len cap ∧ Si W a len cap l := by
 rcases open_ints Tryz.underlying30 Tryz.underlying3 cells_int hf with ⟨hcs, _⟩ | ⟨x, l, c, zs, hcs, _, hl, hm, hz, _, hcell, hwz⟩
 ·simp at hcs
  subst hcs
  exact ⟨none, 0, 0, [], rfl, Nat.le_refl _, Nat.zero_le _, fun _ => rfl, Ri.empty _ _⟩
 ·simp at hcs
  subst hcs
  have hz' : zs.length = c := by simpa using hz
  have hlt : (zs.take l).length = l := by rw [List.length_take]; omega
  refine ⟨some x, l, c, zs.take l, rfl, hl, hm, (fun e => by cases e), hlt, ?_, fun h0 => ?_⟩
  ·intro y hy
   exact w64_of_wf (hwz y (List.mem_of_mem_take hy))
  ·have c0 := hcell 0 (by omega)
   have hspot : x.spot = none := by
    have := World.cell?_spot c0
    simpa [Addr.add] using this
   have hb := World.block_lt_of_cell? _ _ c0
   obtain ⟨b, o, s⟩ := x
   simp only at hspot
   subst hspot
   have hadd : ∀ j, (⟨b, o, none⟩ : Addr).add j = ⟨b, o + j, none⟩ := fun j => by
    unfold Addr.add
    split
    ·next h => subst h; rfl
    ·rfl
   refine ⟨b, o, rfl, by simpa [hadd] using hb, fun i hi => ?_⟩
   have g := hcell i (by omega)
   rw [hadd] at g
   rw [it_eq (by omega), List.getElem_take]
   rw [g, List.getD_eq_getElem?_getD, List.getElem?_eq_getElem (by omega)]
   rfl
open Go.ChangeShapes Go.WideShapes Go.ChangeAt Go.RowKit Go.Joins
theorem open_elems {α : Type} [El α] {H : Type} {enc : TypeId × Value → H} {P : Program} {w : World} {base : Nat} {spare : Nat → Bool} {held : Bool} {t e : TypeId} (ht : P.underlying t = some (.slice e)) (hk : P.cellsOf e = El.k α)
  (hel : ∀ (n : Nat) (cs : List Value) (y : DataW H × List MemPlace), DataW.trod enc P w base spare held n e cs = some y → ∃ x : α, cs = El.cells x ∧ El.ok x)
  {fuel : Nat} {v : Value} {y : DataW H × List MemPlace} (hf : DataW.trod enc P w base spare held fuel t [v] = some y) : ∃ (a : Option Addr) (len cap : Nat) (l : List α), v = .slice a len cap ∧ Se w a len cap l := by
 rcases Go.Deep.open_slice ht hf with ⟨hcs, _⟩ | ⟨x, len, cap, m, n, D, Pl, hcs, _, hl, hm, hmm, _, hall⟩
 ·simp at hcs
  subst hcs
  exact ⟨none, 0, 0, [], rfl, Se.none _⟩
 ·simp at hcs
  subst hcs
  have hlm : len ≤ m := by rw [hmm]; split <;> omega
  have each : ∀ i, i < len → ∃ q : α, El.ok q ∧ ∀ j, j < El.k α → w.cell? (x.add (i * El.k α + j)) = (El.cells q)[j]? := by
   intro i hi
   obtain ⟨cs', h1, h2⟩ := hall i (by omega)
   rw [hk] at h1
   obtain ⟨_, hlen, hcell⟩ := World.cells?_some h1
   obtain ⟨q, rfl, hq⟩ := hel n cs' _ h2
   exact ⟨q, hq, fun j hj => by rw [← hcell j hj, Go.Deep.add_add]⟩
  haveI : Inhabited α := ⟨El.dft⟩
  obtain ⟨q, hq⟩ := Go.Deep.choose_lt each
  have hlen : ((List.range len).map q).length = len := by simp
  have hge : ∀ i, i < len → ge ((List.range len).map q) i = q i := fun i hi => by
   rw [ge_eq (by simpa using hi)]; simp
  refine ⟨some x, len, cap, (List.range len).map q, rfl, hl, hm, (fun e => by cases e), hlen, ?_, fun h0 => ?_⟩
  ·intro z hz
   obtain ⟨i, hi, rfl⟩ := List.mem_map.1 hz
   exact (hq i (List.mem_range.1 hi)).1
  ·have hpos := El.pos (α := α)
   have g0 := (hq 0 h0).2 0 hpos
   obtain ⟨u0, hu0⟩ : ∃ u, (El.cells (q 0))[0]? = some u := ⟨_, List.getElem?_eq_getElem (by rw [El.len]; exact hpos)⟩
   have c0 : w.cell? x = some u0 := by
    have := g0.trans hu0
    simpa [Addr.add] using this
   have hspot : x.spot = none := World.cell?_spot c0
   have hlt := World.block_lt_of_cell? _ _ c0
   obtain ⟨b, o, s⟩ := x
   simp only at hspot
   subst hspot
   have hadd : ∀ j, (⟨b, o, none⟩ : Addr).add j = ⟨b, o + j, none⟩ := fun j => by
    unfold Addr.add
    split
    ·next h => subst h; rfl
    ·rfl
   refine ⟨b, o, rfl, hlt, fun i hi j u hu => ?_⟩
   rw [hge i hi] at hu
   have hj : j < El.k α := by
    have := (List.getElem?_eq_some_iff.1 hu).1
    rwa [El.len] at this
   have g := (hq i hi).2 j hj
   rw [hadd, ← Nat.add_assoc] at g
   rw [g, hu]
theorem trod_struct9 {H : Type} {enc : TypeId × Value → H} {P : Program} {w : World} {base : Nat} {spare : Nat → Bool} {held : Bool} {t : TypeId} {f0 f1 f2 f3 f4 f5 f6 f7 f8 : Field} {cs : List Value} {fuel : Nat} {y : DataW H × List MemPlace} (hs : P.underlying t = some (.struct #[f0, f1, f2, f3, f4, f5, f6, f7, f8])) (hone : Go.Deep.oneCellFields P #[f0, f1, f2, f3, f4, f5, f6, f7, f8] = true) (hC : P.cellsOf t = 9)
  (hf : DataW.trod enc P w base spare held fuel t cs = some y) :
  ∃ (v0 v1 v2 v3 v4 v5 v6 v7 v8 : Value) (y0 y1 y2 y3 y4 y5 y6 y7 y8 : DataW H × List MemPlace) (n : Nat), cs = [v0, v1, v2, v3, v4, v5, v6, v7, v8] ∧
   DataW.trod enc P w base spare held n f0.type [v0] = some y0 ∧ DataW.trod enc P w base spare held n f1.type [v1] = some y1 ∧ DataW.trod enc P w base spare held n f2.type [v2] = some y2 ∧ DataW.trod enc P w base spare held n f3.type [v3] = some y3 ∧ DataW.trod enc P w base spare held n f4.type [v4] = some y4 ∧ DataW.trod enc P w base spare held n f5.type [v5] = some y5 ∧ DataW.trod enc P w base spare held n f6.type [v6] = some y6 ∧ DataW.trod enc P w base spare held n f7.type [v7] = some y7 ∧ DataW.trod enc P w base spare held n f8.type [v8] = some y8 := by
 obtain ⟨xs, n, _, _, hl, hlen, hf⟩ := DataW.trod_struct hs hf
 have h9 := hl.trans hC
 obtain ⟨o0, k0⟩ := Go.Deep.hone_of hone 0 f0 rfl
 obtain ⟨o1, k1⟩ := Go.Deep.hone_of hone 1 f1 rfl
 obtain ⟨o2, k2⟩ := Go.Deep.hone_of hone 2 f2 rfl
 obtain ⟨o3, k3⟩ := Go.Deep.hone_of hone 3 f3 rfl
 obtain ⟨o4, k4⟩ := Go.Deep.hone_of hone 4 f4 rfl
 obtain ⟨o5, k5⟩ := Go.Deep.hone_of hone 5 f5 rfl
 obtain ⟨o6, k6⟩ := Go.Deep.hone_of hone 6 f6 rfl
 obtain ⟨o7, k7⟩ := Go.Deep.hone_of hone 7 f7 rfl
 obtain ⟨o8, k8⟩ := Go.Deep.hone_of hone 8 f8 rfl
 match cs, h9, xs, hlen with
 | [c0, c1, c2, c3, c4, c5, c6, c7, c8], _, [y0, y1, y2, y3, y4, y5, y6, y7, y8], _ =>
  exact ⟨c0, c1, c2, c3, c4, c5, c6, c7, c8, y0, y1, y2, y3, y4, y5, y6, y7, y8, n, rfl, by simpa [o0, k0] using hf 0 f0 rfl, by simpa [o1, k1] using hf 1 f1 rfl, by simpa [o2, k2] using hf 2 f2 rfl, by simpa [o3, k3] using hf 3 f3 rfl, by simpa [o4, k4] using hf 4 f4 rfl, by simpa [o5, k5] using hf 5 f5 rfl, by simpa [o6, k6] using hf 6 f6 rfl, by simpa [o7, k7] using hf 7 f7 rfl, by simpa [o8, k8] using hf 8 f8 rfl⟩
set_option maxRecDepth 100000
open Go.ChangeShapes Go.WideShapes Go.ChangeAt Go.RowKit Go.Joins
theorem cells_prt : Tryz.prog.cellsOf 57 = 9 := by kernel_rfl
theorem i64_of_wf {n : Int} (h : (Lit.int .i64 n).wf = true) : i64 n := by
 have := w64_of_wf h
 unfold W64 at this
 unfold i64; omega
theorem prt_of {H : Type} {enc : TypeId × Value → H} {W : World} (n : Nat) (cs : List Value) (y : DataW H × List MemPlace) (h : DataW.trod enc Tryz.prog W 0 (fun _ => true) true n 57 cs = some y) : ∃ x : Prt, cs = El.cells x ∧ El.ok x := by
 obtain ⟨v0, v1, v2, v3, v4, v5, v6, v7, v8, y0, y1, y2, y3, y4, y5, y6, y7, y8, m, rfl, h0, h1, h2, h3, h4, h5, h6, h7, h8⟩ := trod_struct9 Tryz.underlying57 (by kernel_rfl) cells_prt h
 obtain ⟨a0, e0, _, w0⟩ := DataW.trod_int Tryz.underlying3 h0
 obtain ⟨a1, e1, _, w1⟩ := DataW.trod_int Tryz.underlying3 h1
 obtain ⟨a2, e2, _, w2⟩ := DataW.trod_int Tryz.underlying3 h2
 obtain ⟨a3, e3, _, w3⟩ := DataW.trod_int Tryz.underlying3 h3
 obtain ⟨a4, e4, _, w4⟩ := DataW.trod_int Tryz.underlying3 h4
 obtain ⟨a5, e5, _⟩ := DataW.trod_bool Tryz.underlying4 h5
 obtain ⟨a6, e6, _⟩ := DataW.trod_bool Tryz.underlying4 h6
 obtain ⟨a7, e7, _, w7⟩ := DataW.trod_int Tryz.underlying3 h7
 obtain ⟨a8, e8, _, w8⟩ := DataW.trod_int Tryz.underlying3 h8
 simp only [List.cons.injEq, and_true] at e0 e1 e2 e3 e4 e5 e6 e7 e8
 subst e0 e1 e2 e3 e4 e5 e6 e7 e8
 exact ⟨⟨a0, a1, a2, a3, a4, a5, a6, a7, a8⟩, rfl, ⟨i64_of_wf w0, i64_of_wf w1, i64_of_wf w2, i64_of_wf w3, i64_of_wf w4, i64_of_wf w7, i64_of_wf w8⟩⟩
end Go.Proofs.YtbijhkhkigdddaaGreat
