/- TailR FoFew FoBd FoSpan In RoIn StIn FoIn FoInD. -/
import Derived.Test.YtbijhkhkigdddaaGreatP12
import Derived.ChangeOld
import Derived.OpenShut
import Derived.OrdersIn
import Derived.ProofKit
set_option linter.all false
set_option maxRecDepth 100000
set_option maxHeartbeats 32000000
namespace Go.Proofs.YtbijhkhkigdddaaGreat
open Go
section
variable {P : Program} {Q : Exit → Act → World → Prop} {r n : Nat}
theorem oper_round {o : Oper} {a : Act} {w : World} {K : Act → World → Prop} (hd : ∀ c, o.op ≠ .defer c) (h : Oper.wp P o a w K Q) : Oper.wpIn (Fence.wide.inRound r) n P o a w K Q := by
 refine ⟨fun _ _ => trivial, ?_⟩
 rw [Oper.semAt_eq _ _ _ hd]
 unfold Oper.wp at h
 generalize (execOp a.eval o).run P w = res at h ⊢
 cases res with
 | ok nx w' =>
  cases nx <;> first | exact h | exact h.elim | skip
  ·rename_i f args
   refine ⟨(fun e => by cases e), ?_⟩
   have h2 : CallsIn Fence.wide (n - 1) P f args w' _ := callsIn_wide.2 h
   refine CallsIn.inRound r (CallsIn.mono h2 (fun e w'' he => ?_))
   cases e <;> exact he
  ·rename_i x args
   refine ⟨(fun e => by cases e), fun c cs _ => ?_⟩
   obtain ⟨v, w'', hr, hs⟩ := h c cs
   exact ⟨v, w'', hr, stepsIn_wide.2 hs⟩
 | halt x w' =>
  cases x <;> first | exact h | exact h.elim
variable {md : Region.Mode} {ops : Array Oper}
theorem wpAny_round (hno : ¬ LetsOut Q) (hd : ∀ (i : Nat) (o : Oper), ops[i]? = some o → ∀ c, o.op ≠ .defer c) : ∀ (fuel : Nat) (listed : Array Bool) (a : Act) (w : World), wpAny P md ops Q fuel listed a w → wpAnyIn (Fence.wide.inRound r) n P md ops Q fuel listed a w
 | 0, _, _, _, h => h
 | fuel + 1, listed, a, w, h => by
  refine ⟨h.1, fun i hi => ?_⟩
  have h1 := h.2 i hi
  unfold wpOp at h1
  unfold wpOpIn
  cases ho : ops[i]? with
  | none => simp only [ho] at h1 ⊢; exact wpAny_round hno hd fuel _ _ _ h1
  | some o =>
   simp only [ho] at h1 ⊢
   split
   ·next hw =>
    rw [if_pos hw] at h1
    rcases h1 with h1 | h1
    ·exact Oper.wpIn_mono (fun a w k => wpAny_round hno hd fuel _ a w k) (oper_round (hd i o ho) h1)
    ·exact absurd h1.2 hno
   ·next hw =>
    rw [if_neg hw] at h1
    exact ⟨fun _ _ => trivial, wpAny_round hno hd fuel _ _ _ h1⟩
def noDefer (l : List Oper) : Bool := l.all fun o => match o.op with | .defer _ => false | _ => true
theorem wp_region_VR {S : World → Prop} {l : List Oper} {a : Act} {w : World} {id : Nat} (bk : List Nat) (m : Nat) (hm : P.follows .mixedOrders = true) (hl : l.length = m) (hnd : noDefer l = true) (hno : ¬ LetsOut Q)
  (h : wpAnyV P .any l.toArray Q S bk m (Array.replicate m false) a w.drew) : (Code.region id l.toArray true).wpIn (Fence.wide.inRound r) n P Q a w := by
 refine wpIn_region_any hm ?_
 have h1 := wpAny_of_V _ _ _ _ h
 rw [← hl] at h1
 have h2 := wpAny_round (r := r) (n := n) hno (fun i o ho c hc => by
  have hmem : o ∈ l := List.mem_of_getElem? (by simpa using ho)
  have := List.all_eq_true.1 hnd o hmem
  rw [hc] at this
  cases this) _ _ _ _ h1
 simpa using h2
end
end Go.Proofs.YtbijhkhkigdddaaGreat
namespace Go.Proofs.YtbijhkhkigdddaaGreat
open Go.RowKit
theorem some_ok : CfOk someC := (fineB_iff _).1 (by decide)
theorem flsome_any (w : World) : Calls Tryz.prog 32 #[] w fun e w' => e = .returned (.agg (ccs someC).toArray) ∧ Below w.heap.size w w' := by
 obtain ⟨B, hB⟩ : ∃ B, w.heap.size = B := ⟨_, rfl⟩
 have e0 := Bx.new w 42 [.int .i64 0, .int .i64 0, .int .i64 0, .int .i64 0, .int .i64 0, .bool false, .int .i64 0, .int .i64 0, .int .i64 0]
 rw [hB] at e0 ⊢
 have b0 : Below B w (w.alloc (.cells #[.int .i64 0, .int .i64 0, .int .i64 0, .int .i64 0, .int .i64 0, .bool false, .int .i64 0, .int .i64 0, .int .i64 0] 42)) := by rw [← hB]; exact (Zb).alloc Zr _
 go_enter Tryz.func32, Tryz.ntmps32
 go_upto_region 1 with fail
 generalize w.alloc (.cells #[.int .i64 0, .int .i64 0, .int .i64 0, .int .i64 0, .int .i64 0, .bool false, .int .i64 0, .int .i64 0, .int .i64 0] 42) = w1 at e0 b0 ⊢
 go_wp2_with (refine cf_store rfl (.tmp 0) (.tmp 1) rfl rfl (ccs someC) rfl e0 rfl rfl rfl ?_)
 refine cf_end1 (by rfl) (by rfl) (cf_put e0 (ccs someC)) rfl rfl ?_
 exact ⟨rfl, b0.grown (cf_grown _ B _) (Zl e0.lt) (fun k hk => by cases hk; exact Nat.le_refl _)⟩
structure Dd where
 kd : Int
 n : Int
 A : Option Addr
 m : Nat
 k : Nat
 t : Tv
def dcs (d : Dd) : List Value := .int .i64 d.kd :: .int .i64 d.n :: tcs d.A d.m d.k d.t
structure DdW (d : Dd) : Prop where
 kd : i64 d.kd
 n : i64 d.n
 t : TvW d.t
def DdIn (_ : World) : Type := Dd
def zdd : Dd := ⟨0, 0, none, 0, 0, ⟨0, [], 0, 0, 0, 0⟩⟩
instance (w : World) : El (DdIn w) where
 k := 8
 pos := by omega
 cells x := dcs x
 len _ := rfl
 one x u hu := by
  have hu : u ∈ dcs x := hu
  unfold dcs tcs at hu
  simp only [List.mem_cons, List.mem_nil_iff, or_false] at hu
  rcases hu with rfl | rfl | rfl | rfl | rfl | rfl | rfl | rfl <;> rfl
 dft := zdd
 ok x := DdW x ∧ Ss w (Dd.A x) (Dd.m x) (Dd.k x) (Dd.t x).sk
theorem dd_cells {w0 W : World} {bb o n k : Nat} {l : List Dd} (h : @Se (DdIn w0) _ W (some ⟨bb, o, none⟩) n k l) {j : Nat} (hj : j < n) {d : Dd} (hd : @ge (DdIn w0) _ l j = d) : W.cell? ⟨bb, o + j * 8, none⟩ = some (.int .i64 d.kd) ∧ W.cell? ⟨bb, o + j * 8 + 1, none⟩ = some (.int .i64 d.n) ∧ W.cell? ⟨bb, o + j * 8 + 2, none⟩ = some (.int .i64 d.t.got) ∧ W.cell? ⟨bb, o + j * 8 + 3, none⟩ = some (.slice d.A d.m d.k) ∧ W.cell? ⟨bb, o + j * 8 + 4, none⟩ = some (.int .i64 d.t.ace) ∧ W.cell? ⟨bb, o + j * 8 + 5, none⟩ = some (.int .u32 d.t.ce) ∧ W.cell? ⟨bb, o + j * 8 + 6, none⟩ = some (.int .i64 d.t.now) ∧ W.cell? ⟨bb, o + j * 8 + 7, none⟩ = some (.int .i64 d.t.growth) := by
 obtain ⟨b', o', e, hlt, hc⟩ := h.rd.at_ (by omega)
 cases e
 have q := hc j hj
 rw [hd] at q
 exact ⟨q 0 _ rfl, q 1 _ rfl, q 2 _ rfl, q 3 _ rfl, q 4 _ rfl, q 5 _ rfl, q 6 _ rfl, q 7 _ rfl⟩
def deedF (f : Fv) (c : Cf) (d : Dd) : Fv × Int :=
 if d.kd = 0 then ((sendF f c f.next d.n d.t.now).1, (sendF f c f.next d.n d.t.now).2.2)
 else if d.kd = 1 then ((againF f c d.t.now).1, (againF f c d.t.now).2.2)
 else if d.kd = 2 then ((heardF f c d.t).1, (heardF f c d.t).2.2)
 else if d.kd = 3 then ((tickF f c d.t.now).1, (tickF f c d.t.now).2.2)
 else (f, 0)
def doneF (f : Fv) (c : Cf) (d : Dd) : Fv := if (deedF f c d).2 = 0 then (deedF f c d).1 else f
structure BdOk (f : Fv) (c : Cf) (d : Dd) (g : Fv) : Prop where
 ok : FvOk g c
 next : f.next ≤ g.next
 fly : flightR g.l ≤ flightR f.l ∨ flightR g.l ≤ f.cw
 late : 2 ≤ d.kd → flightR g.l ≤ flightR f.l
 win : f.th ≤ f.cw → g.cw - f.cw ≤ c.mss
theorem bd_same {f : Fv} {c : Cf} (d : Dd) (h : FvOk f c) : BdOk f c d f := ⟨h, Int.le_refl _, .inl (Int.le_refl _), fun _ => Int.le_refl _, fun _ => by have := h.fine.m0; omega⟩
theorem done_bd {f : Fv} {c : Cf} (d : Dd) (h : FvOk f c) : BdOk f c d (doneF f c d) := by
 unfold doneF
 by_cases h0 : (deedF f c d).2 = 0
 case neg => rw [if_neg h0]; exact bd_same d h
 rw [if_pos h0]
 have hm := h.fine.m0
 unfold deedF at h0 ⊢
 by_cases k0 : d.kd = 0
 ·rw [if_pos k0] at h0 ⊢
  have hs := send_facts h0
  obtain ⟨hso, hu, hl, hfit, e⟩ := send_yes h0
  have hok := sent_ok hso hl
  refine ⟨by rw [e]; exact hok, ?_, .inr hs.fits, fun hk => by omega, fun _ => ?_⟩
  ·show f.next ≤ (sendF f c f.next d.n d.t.now).1.next; rw [hs.next]; have := hs.n0; omega
  ·show (sendF f c f.next d.n d.t.now).1.cw - f.cw ≤ c.mss; rw [hs.cw]; omega
 rw [if_neg k0] at h0 ⊢
 by_cases k1 : d.kd = 1
 ·rw [if_pos k1] at h0 ⊢
  have ha := again_facts h0
  obtain ⟨hf, hn, hu, hi, hfit, e⟩ := again_yes h0
  have hok := (again_ok hf hn hi).ok
  refine ⟨by rw [e]; exact hok, ?_, .inr ?_, fun hk => by omega, fun _ => ?_⟩
  ·show f.next ≤ (againF f c d.t.now).1.next; rw [ha.next]; exact Int.le_refl _
  ·show flightR (againF f c d.t.now).1.l ≤ f.cw
   rw [ha.fly, e]; exact hfit
  ·show (againF f c d.t.now).1.cw - f.cw ≤ c.mss; rw [ha.cw]; omega
 rw [if_neg k1] at h0 ⊢
 by_cases k2 : d.kd = 2
 ·rw [if_pos k2] at h0 ⊢
  have hh := (heard_yes h0).2.2
  refine ⟨hh.ok, ?_, .inl hh.fly, fun _ => hh.fly, fun hw => ?_⟩
  ·show f.next ≤ (heardF f c d.t).1.next; rw [hh.next]; exact Int.le_refl _
  ·have := hh.win hw
   show (heardF f c d.t).1.cw - f.cw ≤ c.mss; omega
 rw [if_neg k2] at h0 ⊢
 by_cases k3 : d.kd = 3
 ·rw [if_pos k3] at h0 ⊢
  have hd := (tick_yes h0).2.2
  refine ⟨hd.ok, ?_, .inl hd.fly, fun _ => hd.fly, fun hw => ?_⟩
  ·show f.next ≤ (tickF f c d.t.now).1.next; rw [hd.next]; exact Int.le_refl _
  ·have := hd.cw
   show (tickF f c d.t.now).1.cw - f.cw ≤ c.mss; omega
 rw [if_neg k3]
 exact bd_same d h
theorem done_came {f : Fv} {c : Cf} {came : List Int} (d : Dd) (h : FvOk f c) (hd : DoneIn f came) (hk : d.kd ≠ 2) : DoneIn (doneF f c d) came := by
 unfold doneF
 by_cases h0 : (deedF f c d).2 = 0
 case neg => rw [if_neg h0]; exact hd
 rw [if_pos h0]
 unfold deedF at h0 ⊢
 by_cases k0 : d.kd = 0
 ·rw [if_pos k0] at h0 ⊢
  obtain ⟨hso, hu, hl, hfit, e⟩ := send_yes h0
  show DoneIn (sendF f c f.next d.n d.t.now).1 came
  rw [e]; exact done_send h hd
 rw [if_neg k0] at h0 ⊢
 by_cases k1 : d.kd = 1
 ·rw [if_pos k1] at h0 ⊢
  obtain ⟨hf, hn, hu, hi, hfit, e⟩ := again_yes h0
  show DoneIn (againF f c d.t.now).1 came
  rw [e]; exact done_again h hn hi hd
 rw [if_neg k1, if_neg hk] at h0 ⊢
 by_cases k3 : d.kd = 3
 ·rw [if_pos k3] at h0 ⊢
  exact done_tick h (tick_yes h0).2.1 hd
 rw [if_neg k3]
 exact hd
theorem done_hear {f : Fv} {c : Cf} {came : List Int} (d : Dd) (h : FvOk f c) (hd : DoneIn f came) (hk : d.kd = 2) (h0 : (heardF f c d.t).2.2 = 0) : DoneIn (doneF f c d) (came ++ (heardF f c d.t).2.1.map Prt.seq) := by
 have e : deedF f c d = ((heardF f c d.t).1, (heardF f c d.t).2.2) := by unfold deedF; rw [if_neg (by omega), if_neg (by omega), if_pos hk]
 unfold doneF
 rw [e]
 rw [if_pos h0]
 exact done_heard h (heard_yes h0).2.2 hd
theorem done_deaf {f : Fv} {c : Cf} (d : Dd) (hk : d.kd = 2) (h0 : (heardF f c d.t).2.2 ≠ 0) : doneF f c d = f := by
 have e : deedF f c d = ((heardF f c d.t).1, (heardF f c d.t).2.2) := by unfold deedF; rw [if_neg (by omega), if_neg (by omega), if_pos hk]
 unfold doneF
 rw [e]
 rw [if_neg h0]
section
variable {W : World} {B : Nat} {t : TypeId} {cs : List Value}
variable {fn : Func} {tmps : Array Value} {R : Ending → World → Prop} {v u : Value} {ds : List Deferred} {p q r : Tmp}
end
section
variable {w : World}
end
theorem FlM.off {w : World} {p : Nat → Prop} {s : Fs} {f : Fv} (h : FlM w p s f) {P : Nat} (hP : w.heap.size ≤ P) : FlM w (Off [P]) s f := (h.imp (q := Off []) (fun b _ hx => by cases hx)).later hP
end Go.Proofs.YtbijhkhkigdddaaGreat
namespace Go.Proofs.YtbijhkhkigdddaaGreat
open Go.ChangeShapes Go.WideShapes Go.ChangeAt Go.RowKit Go.Joins
theorem prog_laid : laidOutB Tryz.prog = true := by kernel_rfl
theorem prog_own : ownKnob Tryz.prog.godebug = none := by kernel_rfl
theorem cells_int : Tryz.prog.cellsOf 3 = 1 := by kernel_rfl
theorem w64_of_wf {n : Int} (h : (Lit.int .i64 n).wf = true) : W64 n := by
 simp [Lit.wf, IntKind.min, IntKind.max, IntKind.signed, IntKind.bits] at h
 unfold W64; omega
open Go.ChangeShapes Go.WideShapes Go.ChangeAt Go.RowKit Go.Joins
theorem open_elems {α : Type} [El α] {H : Type} {enc : TypeId × Value → H} {P : Program} {w : World} {base : Nat} {spare : Nat → Bool} {held : Bool} {t e : TypeId} (ht : P.underlying t = some (.slice e)) (hk : P.cellsOf e = El.k α)
  (hel : ∀ (n : Nat) (cs : List Value) (y : DataW H × List MemPlace), DataW.trod enc P w base spare held n e cs = some y → ∃ x : α, cs = El.cells x ∧ El.ok x)
  {fuel : Nat} {v : Value} {y : DataW H × List MemPlace} (hf : DataW.trod enc P w base spare held fuel t [v] = some y) : ∃ (a : Option Addr) (len cap : Nat) (l : List α), v = .slice a len cap ∧ Se w a len cap l := by
 rcases Go.Deep.open_slice ht hf with ⟨hcs, _⟩ | ⟨x, len, cap, m, n, D, Pl, hcs, _, hl, hm, hmm, _, hall⟩
 ·simp at hcs
  subst hcs
  exact ⟨none, 0, 0, [], rfl, Se.none _⟩
 ·simp at hcs
  subst hcs
  have hlm : len ≤ m := by rw [hmm]; split <;> omega
  have each : ∀ i, i < len → ∃ q : α, El.ok q ∧ ∀ j, j < El.k α → w.cell? (x.add (i * El.k α + j)) = (El.cells q)[j]? := by
   intro i hi
   obtain ⟨cs', h1, h2⟩ := hall i (by omega)
   rw [hk] at h1
   obtain ⟨_, hlen, hcell⟩ := World.cells?_some h1
   obtain ⟨q, rfl, hq⟩ := hel n cs' _ h2
   exact ⟨q, hq, fun j hj => by rw [← hcell j hj, Go.Deep.add_add]⟩
  haveI : Inhabited α := ⟨El.dft⟩
  obtain ⟨q, hq⟩ := Go.Deep.choose_lt each
  have hlen : ((List.range len).map q).length = len := by simp
  have hge : ∀ i, i < len → ge ((List.range len).map q) i = q i := fun i hi => by
   rw [ge_eq (by simpa using hi)]; simp
  refine ⟨some x, len, cap, (List.range len).map q, rfl, hl, hm, (fun e => by cases e), hlen, ?_, fun h0 => ?_⟩
  ·intro z hz
   obtain ⟨i, hi, rfl⟩ := List.mem_map.1 hz
   exact (hq i (List.mem_range.1 hi)).1
  ·have hpos := El.pos (α := α)
   have g0 := (hq 0 h0).2 0 hpos
   obtain ⟨u0, hu0⟩ : ∃ u, (El.cells (q 0))[0]? = some u := ⟨_, List.getElem?_eq_getElem (by rw [El.len]; exact hpos)⟩
   have c0 : w.cell? x = some u0 := by
    have := g0.trans hu0
    simpa [Addr.add] using this
   have hspot : x.spot = none := World.cell?_spot c0
   have hlt := World.block_lt_of_cell? _ _ c0
   obtain ⟨b, o, s⟩ := x
   simp only at hspot
   subst hspot
   have hadd : ∀ j, (⟨b, o, none⟩ : Addr).add j = ⟨b, o + j, none⟩ := fun j => by
    unfold Addr.add
    split
    ·next h => subst h; rfl
    ·rfl
   refine ⟨b, o, rfl, hlt, fun i hi j u hu => ?_⟩
   rw [hge i hi] at hu
   have hj : j < El.k α := by
    have := (List.getElem?_eq_some_iff.1 hu).1
    rwa [El.len] at this
   have g := (hq i hi).2 j hj
   rw [hadd, ← Nat.add_assoc] at g
   rw [g, hu]
set_option maxRecDepth 100000
open Go.ChangeShapes Go.WideShapes Go.ChangeAt Go.RowKit Go.Joins
theorem i64_of_wf {n : Int} (h : (Lit.int .i64 n).wf = true) : i64 n := by
 have := w64_of_wf h
 unfold W64 at this
 unfold i64; omega
open Go.ChangeShapes Go.WideShapes Go.ChangeAt Go.RowKit Go.Joins
theorem fo_fields {H : Type} {enc : TypeId × Value → H} {P : Program} {w : World} {base : Nat} {spare : Nat → Bool} {held : Bool} {t : TypeId} {fs : Array Field} {cs : List Value} {fuel : Nat} {y : DataW H × List MemPlace} (hs : P.underlying t = some (.struct fs)) (h : DataW.trod enc P w base spare held fuel t cs = some y) :
  ∃ n, ∀ (i : Nat) (f : Field), fs[i]? = some f → ∃ y', DataW.trod enc P w base spare held n f.type ((cs.drop f.offset).take (P.cellsOf f.type)) = some y' := by
 obtain ⟨xs, n, _, _, _, hlen, hf⟩ := DataW.trod_struct hs h
 refine ⟨n, fun i f hi => ?_⟩
 have hlt : i < fs.size := (Array.getElem?_eq_some_iff.1 hi).1
 exact ⟨xs[i]'(by omega), by rw [hf i f hi]; exact List.getElem?_eq_getElem (by omega)⟩
theorem cells_bool : Tryz.prog.cellsOf 4 = 1 := by kernel_rfl
theorem cells_u32 : Tryz.prog.cellsOf 44 = 1 := by kernel_rfl
theorem cells_s_3 : Tryz.prog.cellsOf 43 = 1 := by kernel_rfl
theorem cells_conf : Tryz.prog.cellsOf 42 = 9 := by kernel_rfl
theorem cells_told : Tryz.prog.cellsOf 46 = 6 := by kernel_rfl
theorem cells_pt : Tryz.prog.cellsOf 134 = 2 := by kernel_rfl
set_option maxRecDepth 100000
theorem open_points1 {H : Type} {enc : TypeId × Value → H} {W : World} {v : Value} {fuel : Nat} {d : DataW H} {p : List MemPlace} (hf : DataW.trod enc Tryz.prog W 0 (fun _ => true) true fuel 25 [v] = some (d, p)) : ∃ a len cap l, v = .slice a len cap ∧ Ss W a len cap l := by
 rcases Go.Deep.open_slice_pairs Tryz.underlying25 Tryz.underlying134 cells_pt rfl rfl cells_int cells_int hf with ⟨hcs, _⟩ | ⟨x, len, cap, m, n, V0, V1, D0, D1, P0, P1, hcs, _, hl, hm, hmm, _, hall⟩
 ·simp at hcs
  subst hcs
  exact ⟨none, 0, 0, [], rfl, Ss.none _⟩
 ·simp at hcs
  subst hcs
  simp only [if_true] at hmm
  subst hmm
  have hint : ∀ i, i < m → ∃ q : Int × Int, V0 i = .int .i64 q.1 ∧ V1 i = .int .i64 q.2 ∧ W64 q.1 ∧ W64 q.2 := by
   intro i hi
   obtain ⟨_, _, t0, t1⟩ := hall i hi
   obtain ⟨q0, e0, _, w0⟩ := DataW.trod_int Tryz.underlying3 t0
   obtain ⟨q1, e1, _, w1⟩ := DataW.trod_int Tryz.underlying3 t1
   simp only [List.cons.injEq, and_true] at e0 e1
   exact ⟨(q0, q1), e0, e1, w64_of_wf w0, w64_of_wf w1⟩
  obtain ⟨q, hq⟩ := Go.Deep.choose_lt hint
  have hlen : ((List.range len).map q).length = len := by simp
  have hsp : ∀ i, i < len → sp ((List.range len).map q) i = q i := fun i hi => by
   rw [sp_eq (by simpa using hi)]; simp
  refine ⟨some x, len, _, (List.range len).map q, rfl, hl, hm, (fun e => by cases e), hlen, ?_, fun h0 => ?_⟩
  ·intro z hz
   obtain ⟨i, hi, rfl⟩ := List.mem_map.1 hz
   have := List.mem_range.1 hi
   exact (hq i (by omega)).2.2
  ·have c0 := (hall 0 (by omega)).1
   have hspot : x.spot = none := by
    have := World.cell?_spot c0
    simpa [Addr.add] using this
   have hlt := World.block_lt_of_cell? _ _ c0
   obtain ⟨b, o, s⟩ := x
   simp only at hspot
   subst hspot
   have hadd : ∀ j, (⟨b, o, none⟩ : Addr).add j = ⟨b, o + j, none⟩ := fun j => by
    unfold Addr.add
    split
    ·next h => subst h; rfl
    ·rfl
   refine ⟨b, o, rfl, by simpa [hadd] using hlt, fun i hi => ?_⟩
   obtain ⟨g0, g1, _, _⟩ := hall i (by omega)
   rw [hadd] at g0 g1
   rw [hsp i hi]
   have := hq i (by omega)
   exact ⟨by rw [g0, this.1], by rw [← Nat.add_assoc] at g1; rw [g1, this.2.1]⟩
theorem cells_fsp : Tryz.prog.cellsOf 74 = 2 := by kernel_rfl
theorem fo_spans {H : Type} {enc : TypeId × Value → H} {W : World} {v : Value} {fuel : Nat} {d : DataW H} {p : List MemPlace} (hf : DataW.trod enc Tryz.prog W 0 (fun _ => true) true fuel 43 [v] = some (d, p)) : ∃ a len cap l, v = .slice a len cap ∧ Ss W a len cap l := by
 rcases Go.Deep.open_slice_pairs Tryz.underlying43 Tryz.underlying74 cells_fsp rfl rfl cells_int cells_int hf with ⟨hcs, _⟩ | ⟨x, len, cap, m, n, V0, V1, D0, D1, P0, P1, hcs, _, hl, hm, hmm, _, hall⟩
 ·simp at hcs
  subst hcs
  exact ⟨none, 0, 0, [], rfl, Ss.none _⟩
 ·simp at hcs
  subst hcs
  simp only [if_true] at hmm
  subst hmm
  have hint : ∀ i, i < m → ∃ q : Int × Int, V0 i = .int .i64 q.1 ∧ V1 i = .int .i64 q.2 ∧ W64 q.1 ∧ W64 q.2 := by
   intro i hi
   obtain ⟨_, _, t0, t1⟩ := hall i hi
   obtain ⟨q0, e0, _, w0⟩ := DataW.trod_int Tryz.underlying3 t0
   obtain ⟨q1, e1, _, w1⟩ := DataW.trod_int Tryz.underlying3 t1
   simp only [List.cons.injEq, and_true] at e0 e1
   exact ⟨(q0, q1), e0, e1, w64_of_wf w0, w64_of_wf w1⟩
  obtain ⟨q, hq⟩ := Go.Deep.choose_lt hint
  have hlen : ((List.range len).map q).length = len := by simp
  have hsp : ∀ i, i < len → sp ((List.range len).map q) i = q i := fun i hi => by
   rw [sp_eq (by simpa using hi)]; simp
  refine ⟨some x, len, _, (List.range len).map q, rfl, hl, hm, (fun e => by cases e), hlen, ?_, fun h0 => ?_⟩
  ·intro z hz
   obtain ⟨i, hi, rfl⟩ := List.mem_map.1 hz
   have := List.mem_range.1 hi
   exact (hq i (by omega)).2.2
  ·have c0 := (hall 0 (by omega)).1
   have hspot : x.spot = none := by
    have := World.cell?_spot c0
    simpa [Addr.add] using this
   have hlt := World.block_lt_of_cell? _ _ c0
   obtain ⟨b, o, s⟩ := x
   simp only at hspot
   subst hspot
   have hadd : ∀ j, (⟨b, o, none⟩ : Addr).add j = ⟨b, o + j, none⟩ := fun j => by
    unfold Addr.add
    split
    ·next h => subst h; rfl
    ·rfl
   refine ⟨b, o, rfl, by simpa [hadd] using hlt, fun i hi => ?_⟩
   obtain ⟨g0, g1, _, _⟩ := hall i (by omega)
   rw [hadd] at g0 g1
   rw [hsp i hi]
   have := hq i (by omega)
   exact ⟨by rw [g0, this.1], by rw [← Nat.add_assoc] at g1; rw [g1, this.2.1]⟩
theorem conf_of {H : Type} {enc : TypeId × Value → H} {W : World} {fuel : Nat} {cs : List Value} {y : DataW H × List MemPlace} (hl : cs.length = 9) (hf : DataW.trod enc Tryz.prog W 0 (fun _ => true) true fuel 42 cs = some y) : ∃ c : Cf, cs = ccs c ∧ CfW c := by
 match cs, hl with
 | c0 :: c1 :: c2 :: c3 :: c4 :: c5 :: c6 :: c7 :: c8 :: [], _ =>
  obtain ⟨m, h⟩ := fo_fields Tryz.underlying42 hf
  have q_0 : ∃ y, DataW.trod enc Tryz.prog W 0 (fun _ => true) true m 3 [c0] = some y := by have h0 := h 0 _ rfl; simpa [cells_int] using h0
  obtain ⟨⟨d_0, p_0⟩, g_0⟩ := q_0
  obtain ⟨a_0, e_0, _, w_0⟩ := DataW.trod_int Tryz.underlying3 g_0
  have q_1 : ∃ y, DataW.trod enc Tryz.prog W 0 (fun _ => true) true m 3 [c1] = some y := by have h0 := h 1 _ rfl; simpa [cells_int] using h0
  obtain ⟨⟨d_1, p_1⟩, g_1⟩ := q_1
  obtain ⟨a_1, e_1, _, w_1⟩ := DataW.trod_int Tryz.underlying3 g_1
  have q_2 : ∃ y, DataW.trod enc Tryz.prog W 0 (fun _ => true) true m 3 [c2] = some y := by have h0 := h 2 _ rfl; simpa [cells_int] using h0
  obtain ⟨⟨d_2, p_2⟩, g_2⟩ := q_2
  obtain ⟨a_2, e_2, _, w_2⟩ := DataW.trod_int Tryz.underlying3 g_2
  have q_3 : ∃ y, DataW.trod enc Tryz.prog W 0 (fun _ => true) true m 3 [c3] = some y := by have h0 := h 3 _ rfl; simpa [cells_int] using h0
  obtain ⟨⟨d_3, p_3⟩, g_3⟩ := q_3
  obtain ⟨a_3, e_3, _, w_3⟩ := DataW.trod_int Tryz.underlying3 g_3
  have q_4 : ∃ y, DataW.trod enc Tryz.prog W 0 (fun _ => true) true m 3 [c4] = some y := by have h0 := h 4 _ rfl; simpa [cells_int] using h0
  obtain ⟨⟨d_4, p_4⟩, g_4⟩ := q_4
  obtain ⟨a_4, e_4, _, w_4⟩ := DataW.trod_int Tryz.underlying3 g_4
  have q_5 : ∃ y, DataW.trod enc Tryz.prog W 0 (fun _ => true) true m 4 [c5] = some y := by have h0 := h 5 _ rfl; simpa [cells_bool] using h0
  obtain ⟨⟨d_5, p_5⟩, g_5⟩ := q_5
  obtain ⟨a_5, e_5, _⟩ := DataW.trod_bool Tryz.underlying4 g_5
  have q_6 : ∃ y, DataW.trod enc Tryz.prog W 0 (fun _ => true) true m 3 [c6] = some y := by have h0 := h 6 _ rfl; simpa [cells_int] using h0
  obtain ⟨⟨d_6, p_6⟩, g_6⟩ := q_6
  obtain ⟨a_6, e_6, _, w_6⟩ := DataW.trod_int Tryz.underlying3 g_6
  have q_7 : ∃ y, DataW.trod enc Tryz.prog W 0 (fun _ => true) true m 3 [c7] = some y := by have h0 := h 7 _ rfl; simpa [cells_int] using h0
  obtain ⟨⟨d_7, p_7⟩, g_7⟩ := q_7
  obtain ⟨a_7, e_7, _, w_7⟩ := DataW.trod_int Tryz.underlying3 g_7
  have q_8 : ∃ y, DataW.trod enc Tryz.prog W 0 (fun _ => true) true m 3 [c8] = some y := by have h0 := h 8 _ rfl; simpa [cells_int] using h0
  obtain ⟨⟨d_8, p_8⟩, g_8⟩ := q_8
  obtain ⟨a_8, e_8, _, w_8⟩ := DataW.trod_int Tryz.underlying3 g_8
  simp only [List.cons.injEq, and_true] at e_0 e_1 e_2 e_3 e_4 e_5 e_6 e_7 e_8
  subst e_0 e_1 e_2 e_3 e_4 e_5 e_6 e_7 e_8
  exact ⟨⟨a_0, a_1, a_2, a_3, a_4, a_5, a_6, a_7, a_8⟩, rfl, ⟨i64_of_wf w_0, i64_of_wf w_1, i64_of_wf w_2, i64_of_wf w_3, i64_of_wf w_4, i64_of_wf w_6, i64_of_wf w_7, i64_of_wf w_8⟩⟩
theorem open_conf {H : Type} {enc : TypeId × Value → H} {W : World} {r : Reach} {b0 : Nat} {v : Value} {d : DataW H} {p : List MemPlace} (hv : Value.okWide Tryz.prog W r b0 42 v) (h : DataW.Trod enc Tryz.prog W 0 (fun _ => true) true 42 v d p) : ∃ c : Cf, v = .agg (ccs c).toArray ∧ CfW c := by
 obtain ⟨cs, rfl, hsz⟩ := okWide_struct Tryz.underlying42 hv
 obtain ⟨fuel, hf⟩ := h
 obtain ⟨c, e, hm⟩ := conf_of (by simpa [Value.cells, cells_conf] using hsz) hf
 refine ⟨c, ?_, hm⟩
 obtain ⟨cs⟩ := cs
 simp only [Value.cells] at e
 subst e
 rfl
theorem fo_lo {n : Int} (h : (Lit.int .u32 n).wf = true) : 0 ≤ n := by
 simp [Lit.wf, IntKind.min, IntKind.max, IntKind.signed, IntKind.bits] at h; omega
theorem fo_hi {n : Int} (h : (Lit.int .u32 n).wf = true) : n < 4294967296 := by
 simp [Lit.wf, IntKind.min, IntKind.max, IntKind.signed, IntKind.bits] at h; omega
open Go.ChangeShapes Go.WideShapes Go.ChangeAt Go.RowKit Go.Joins
set_option maxRecDepth 100000
theorem cells_deed : Tryz.prog.cellsOf 69 = 8 := by kernel_rfl
theorem deed_of {H : Type} {enc : TypeId × Value → H} {W : World} {fuel : Nat} {cs : List Value} {y : DataW H × List MemPlace} (hl : cs.length = 8) (hf : DataW.trod enc Tryz.prog W 0 (fun _ => true) true fuel 69 cs = some y) : ∃ d : Dd, cs = dcs d ∧ DdW d ∧ Ss W d.A d.m d.k d.t.sk := by
 match cs, hl with
 | c0 :: c1 :: c2 :: c3 :: c4 :: c5 :: c6 :: c7 :: [], _ =>
  obtain ⟨m, h⟩ := fo_fields Tryz.underlying69 hf
  have q_0 : ∃ y, DataW.trod enc Tryz.prog W 0 (fun _ => true) true m 3 [c0] = some y := by have h0 := h 0 _ rfl; simpa [cells_int] using h0
  obtain ⟨⟨d_0, p_0⟩, g_0⟩ := q_0
  obtain ⟨a_0, e_0, _, w_0⟩ := DataW.trod_int Tryz.underlying3 g_0
  have q_1 : ∃ y, DataW.trod enc Tryz.prog W 0 (fun _ => true) true m 3 [c1] = some y := by have h0 := h 1 _ rfl; simpa [cells_int] using h0
  obtain ⟨⟨d_1, p_1⟩, g_1⟩ := q_1
  obtain ⟨a_1, e_1, _, w_1⟩ := DataW.trod_int Tryz.underlying3 g_1
  have q_2 : ∃ y, DataW.trod enc Tryz.prog W 0 (fun _ => true) true m 46 [c2, c3, c4, c5, c6, c7] = some y := by have h0 := h 2 _ rfl; simpa [cells_told] using h0
  obtain ⟨⟨d_2, p_2⟩, g_2⟩ := q_2
  obtain ⟨m_2, h_2⟩ := fo_fields Tryz.underlying46 g_2
  have q_2_0 : ∃ y, DataW.trod enc Tryz.prog W 0 (fun _ => true) true m_2 3 [c2] = some y := by have h0 := h_2 0 _ rfl; simpa [cells_int] using h0
  obtain ⟨⟨d_2_0, p_2_0⟩, g_2_0⟩ := q_2_0
  obtain ⟨a_2_0, e_2_0, _, w_2_0⟩ := DataW.trod_int Tryz.underlying3 g_2_0
  have q_2_1 : ∃ y, DataW.trod enc Tryz.prog W 0 (fun _ => true) true m_2 43 [c3] = some y := by have h0 := h_2 1 _ rfl; simpa [cells_s_3] using h0
  obtain ⟨⟨d_2_1, p_2_1⟩, g_2_1⟩ := q_2_1
  obtain ⟨A_2_1, n_2_1, c_2_1, l_2_1, e_2_1, s_2_1⟩ := fo_spans g_2_1
  have q_2_2 : ∃ y, DataW.trod enc Tryz.prog W 0 (fun _ => true) true m_2 3 [c4] = some y := by have h0 := h_2 2 _ rfl; simpa [cells_int] using h0
  obtain ⟨⟨d_2_2, p_2_2⟩, g_2_2⟩ := q_2_2
  obtain ⟨a_2_2, e_2_2, _, w_2_2⟩ := DataW.trod_int Tryz.underlying3 g_2_2
  have q_2_3 : ∃ y, DataW.trod enc Tryz.prog W 0 (fun _ => true) true m_2 44 [c5] = some y := by have h0 := h_2 3 _ rfl; simpa [cells_u32] using h0
  obtain ⟨⟨d_2_3, p_2_3⟩, g_2_3⟩ := q_2_3
  obtain ⟨a_2_3, e_2_3, _, w_2_3⟩ := DataW.trod_int Tryz.underlying44 g_2_3
  have q_2_4 : ∃ y, DataW.trod enc Tryz.prog W 0 (fun _ => true) true m_2 3 [c6] = some y := by have h0 := h_2 4 _ rfl; simpa [cells_int] using h0
  obtain ⟨⟨d_2_4, p_2_4⟩, g_2_4⟩ := q_2_4
  obtain ⟨a_2_4, e_2_4, _, w_2_4⟩ := DataW.trod_int Tryz.underlying3 g_2_4
  have q_2_5 : ∃ y, DataW.trod enc Tryz.prog W 0 (fun _ => true) true m_2 3 [c7] = some y := by have h0 := h_2 5 _ rfl; simpa [cells_int] using h0
  obtain ⟨⟨d_2_5, p_2_5⟩, g_2_5⟩ := q_2_5
  obtain ⟨a_2_5, e_2_5, _, w_2_5⟩ := DataW.trod_int Tryz.underlying3 g_2_5
  simp only [List.cons.injEq, and_true] at e_0 e_1 e_2_0 e_2_2 e_2_3 e_2_4 e_2_5
  subst e_0 e_1 e_2_0 e_2_1 e_2_2 e_2_3 e_2_4 e_2_5
  exact ⟨⟨a_0, a_1, A_2_1, n_2_1, c_2_1, ⟨a_2_0, l_2_1, a_2_2, a_2_3, a_2_4, a_2_5⟩⟩, rfl, ⟨i64_of_wf w_0, i64_of_wf w_1, ⟨i64_of_wf w_2_0, i64_of_wf w_2_2, fo_lo w_2_3, fo_hi w_2_3, i64_of_wf w_2_4, i64_of_wf w_2_5⟩⟩, s_2_1⟩
theorem deed_of1 {H : Type} {enc : TypeId × Value → H} {W : World} (n : Nat) (cs : List Value) (y : DataW H × List MemPlace) (h : DataW.trod enc Tryz.prog W 0 (fun _ => true) true n 69 cs = some y) : ∃ x : DdIn W, cs = El.cells x ∧ El.ok x := by
 obtain ⟨_, _, _, _, hl, _, _⟩ := DataW.trod_struct Tryz.underlying69 h
 obtain ⟨d, e, h1, h2⟩ := deed_of (hl.trans cells_deed) h
 exact ⟨d, e, h1, h2⟩
theorem open_deeds {H : Type} {enc : TypeId × Value → H} {W : World} {a : Option Addr} {len cap : Nat} {d : DataW H} {p : List MemPlace} (h : DataW.Trod enc Tryz.prog W 0 (fun _ => true) true 67 (.slice a len cap) d p) : ∃ l : List (DdIn W), Se W a len cap l := by
 obtain ⟨fuel, hf⟩ := h
 obtain ⟨a', len', cap', l, e, hs⟩ := open_elems (α := DdIn W) Tryz.underlying67 cells_deed deed_of1 (v := .slice a len cap) (by simpa [Value.cells] using hf)
 cases e
 exact ⟨l, hs⟩
end Go.Proofs.YtbijhkhkigdddaaGreat
