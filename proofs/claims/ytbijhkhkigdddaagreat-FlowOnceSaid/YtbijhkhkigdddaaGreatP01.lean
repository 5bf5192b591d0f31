/- Vc Bx Gs Ro T60 St Sp SpPure SpAns. -/
import Derived.Below
import Derived.Laws.AppendOwnNone
import Derived.Laws.Rows
import Derived.Laws.Tables
import Derived.Lib.Hide
import Derived.Maps.AppendAt
import Derived.OrdersHeld
import Derived.Outline
import Derived.OwnWalkIn
import Derived.Test.YtbijhkhkigdddaaGreatProg
import Derived.WalkKit
import Derived.WalkSmall
import Derived.WalkSpells
set_option linter.all false
set_option maxRecDepth 100000
set_option maxHeartbeats 32000000
namespace Go.Proofs.YtbijhkhkigdddaaGreat
open Go Go.RowKit
instance : Coe Int Value := ⟨fun n => .int .i64 n⟩
instance : Coe Bool Value := ⟨fun b => .bool b⟩
theorem Zr {n : Nat} : n ≤ n := Nat.le_refl n
theorem Zb {n : Nat} {w : World} : Below n w w := Below.refl n w
theorem Zt {p : Prop} [i : Decidable p] (h : p) : decide p = true := decide_eq_true h
theorem Zf {p : Prop} [i : Decidable p] (h : ¬ p) : decide p = false := decide_eq_false h
theorem Zl {a b : Nat} (h : a < b) : a ≤ b := Nat.le_of_lt h
theorem Zn {a b c : Nat} (h : a ≤ b) (k : b ≤ c) : a ≤ c := Nat.le_trans h k
theorem Zh {p : Prop} (h : p) : RowKit.Hid p := Lib.hid h
theorem Zo {α : Type} {a b : α} (h : some a = some b) : a = b := Option.some.inj h
def Bx (W : World) (B : Nat) (t : TypeId) (cs : List Value) : Prop := W.heap[B]? = some (.cells cs.toArray t (0, 0))
section
variable {W W' : World} {B n : Nat} {t : TypeId} {cs : List Value}
theorem Bx.lt (h : Bx W B t cs) : B < W.heap.size := (Array.getElem?_eq_some_iff.1 h).1
theorem Bx.cell (h : Bx W B t cs) (i : Nat) {v : Value} (hv : cs[i]? = some v) : W.cell? ⟨B, i, none⟩ = some v := by
 rw [cell_of_row W B i _ _ _ h]; simpa using hv
theorem Bx.free (h : Bx W B t cs) (i : Nat) : W.frozen? ⟨B, i, none⟩ = false := frozen_of_row W B i _ _ h
theorem Bx.new (W : World) (t : TypeId) (cs : List Value) : Bx (W.alloc (.cells cs.toArray t)) W.heap.size t cs := heap_alloc_new W _
theorem Bx.alloc (h : Bx W B t cs) (o : Obj) : Bx (W.alloc o) B t cs := (Below.heap_alloc W o B h.lt).trans h
theorem Bx.below (h : Bx W B t cs) (hb : Below n W W') (hk : B < n) : Bx W' B t cs := (hb.block B hk).trans h
theorem Bx.kept (h : Bx W B t cs) (hb : Below W.heap.size W W') : Bx W' B t cs := h.below hb h.lt
theorem Bx.far (h : Bx W B t cs) {p : Addr} (hp : B ≠ p.block) (u : Value) : Bx (W.setCell p u) B t cs := (Below.heap_setCell W p u B hp).trans h
theorem Bx.drew (h : Bx W B t cs) : Bx W.drew B t cs := h
theorem Bx.grown {row : Option Nat} (h : Bx W B t cs) (hg : W.grownBy W' row) (hne : some B ≠ row) : Bx W' B t cs := (hg.block B h.lt hne).trans h
theorem Bx.set (h : Bx W B t cs) (i : Nat) (x : Value) : Bx (W.setCell ⟨B, i, none⟩ x) B t (cs.set i x) := by
 unfold Bx; rw [heap_setCell_same W B i _ _ _ h]; simp
end
section
variable {W : World} {B : Nat} {t : TypeId} {cs : List Value}
theorem g_put (h : Bx W B t cs) (vs : List Value) : Bx (W.setRow B vs.toArray) B t vs := setRow_heap W B _ vs.toArray t (0, 0) h
theorem g_grown (W : World) (B : Nat) (vs : Array Value) : W.grownBy (W.setRow B vs) (some B) :=
 ⟨rfl, rfl, rfl, by simp [World.setRow], fun i _ hne => setRow_other W B i vs (fun e => hne (by rw [e]))⟩
theorem g_gset (W : World) (q : Addr) (u : Value) : W.grownBy (W.setCell q u) (some q.block) :=
 ⟨rfl, rfl, rfl, by simp, fun i hi hne => Below.heap_setCell W q u i (fun e => hne (by rw [e]))⟩
end
section
variable {T : TypeId} {kk : Nat} (hU : ∃ fs, Tryz.prog.underlying T = some (.struct fs)) (hI : (Tryz.prog.info? T).map (·.size) = some kk)
include hU hI
variable {W : World} {B : Nat} {t : TypeId} {cs : List Value}
theorem g_load {ops : Array Oper} {rest : List Oper} {o : Oper} {a : Act} {Q : Exit → Act → World → Prop} (hgd : o.guard = none) (x : Operand) (ho : o.op = .load T x) (hx : a.eval x = .pointer (some ⟨B, 0, none⟩))
  (h : Bx W B t cs) (hl : cs.length = kk) (k : wpList Tryz.prog ops Q rest (a.put o.dst (.agg cs.toArray)) W) : wpList Tryz.prog ops Q (o :: rest) a W := by
 obtain ⟨fs, hu⟩ := hU
 exact wpList_load_row hgd _ x ho B hx t cs.toArray (0, 0) _ h hu rfl (by rw [hI]; simp [hl]) k
theorem g_loadg {ops : Array Oper} {rest : List Oper} {o : Oper} {a : Act} {Q : Exit → Act → World → Prop} (hw : Region.wanted o (yielded ops a.tmps) = true) (x : Operand) (ho : o.op = .load T x) (hx : a.eval x = .pointer (some ⟨B, 0, none⟩))
  (h : Bx W B t cs) (hl : cs.length = kk) (k : wpList Tryz.prog ops Q rest (a.put o.dst (.agg cs.toArray)) W) : wpList Tryz.prog ops Q (o :: rest) a W := by
 obtain ⟨fs, hu⟩ := hU
 exact wpList_step fun K hK => by rw [if_pos hw]; exact wp_load_row _ x ho B hx t cs.toArray (0, 0) _ h hu rfl (by rw [hI]; simp [hl]) (hK _ _ k)
theorem g_store {ops : Array Oper} {rest : List Oper} {o : Oper} {a : Act} {Q : Exit → Act → World → Prop} (hgd : o.guard = none) (x y : Operand) (ho : o.op = .store T x y) (hx : a.eval x = .pointer (some ⟨B, 0, none⟩))
  (vs : List Value) (hy : a.eval y = .agg vs.toArray) (h : Bx W B t cs) (hl : cs.length = kk) (hv : vs.length = kk) (h1 : vs.all (·.oneCell') = true) (k : wpList Tryz.prog ops Q rest (a.put o.dst undef) (W.setRow B vs.toArray)) : wpList Tryz.prog ops Q (o :: rest) a W :=
 wpList_store_row hgd _ x y ho B vs.toArray hx hy t cs.toArray h (by rw [hI]; simp [hv]) (by simp [hl, hv]) (by simpa using h1) k
theorem g_var (h : Bx W B t cs) (hl : cs.length = kk) : (Go.loadVar T ⟨B, 0, none⟩).run Tryz.prog W = .ok (.agg cs.toArray) W := by
 obtain ⟨fs, hu⟩ := hU
 exact run_loadVar_row W B t T cs.toArray (0, 0) _ h hu rfl (by rw [hI]; simp [hl])
theorem g_yields {ops : Array Oper} {S : World → Prop} {op : Oper} {a : Act} (hw : Region.wanted op (yielded ops a.tmps) = true) (x : Operand) (ho : op.op = .load T x)
  (hx : a.eval x = .pointer (some ⟨B, 0, none⟩)) (cs : List Value) (hl : cs.length = kk) (t : TypeId) (hS : ∀ W, S W → Bx W B t cs) : YieldsIf Tryz.prog ops S op (.agg cs.toArray) a := by
 obtain ⟨fs, hu⟩ := hU
 exact .inl ⟨hw, fun w hw' => by
  unfold execOp
  simp only [ho, hx, Instr.loadAt, Instr.sureAddr, Sem.run_bind, Sem.run_pure, Result.andThen_ok, run_loadVar_row w B t T cs.toArray (0, 0) _ (hS w hw') hu rfl (by rw [hI]; simp [hl])]⟩
variable {fn : Func} {tmps : Array Value} {R : Ending → World → Prop} {v u : Value} {ds : List Deferred} {p q r : Tmp}
theorem g_end1 (hr : fn.results = #[.cell p T]) (h2 : tmps.getD p undef = .pointer (some ⟨B, 0, none⟩))
  (e : Bx W B t cs) (hl : cs.length = kk) (hd : ds = []) (h : R (.returned (.agg cs.toArray)) W) : bodyPost Tryz.prog fn R .ret { tmps := tmps, defers := ds } W := by
 have l2 := g_var hU hI e hl
 have h2a : tmps[p]?.getD undef = .pointer (some ⟨B, 0, none⟩) := by simpa using h2
 refine bodyPost_ret (v := .agg cs.toArray) ?_ hd h
 simp [results, hr, h2a, asAddr, l2]
theorem g_end2 (hr : fn.results = #[.cell p T, .tmp q]) (h2 : tmps.getD p undef = .pointer (some ⟨B, 0, none⟩)) (h3 : tmps.getD q undef = v)
  (e : Bx W B t cs) (hl : cs.length = kk) (hd : ds = []) (h : R (.returned (.tuple #[.agg cs.toArray, v])) W) : bodyPost Tryz.prog fn R .ret { tmps := tmps, defers := ds } W := by
 have l2 := g_var hU hI e hl
 have h2a : tmps[p]?.getD undef = .pointer (some ⟨B, 0, none⟩) := by simpa using h2
 have h2b : tmps[q]?.getD undef = v := by simpa using h3
 refine bodyPost_ret (v := .tuple #[.agg cs.toArray, v]) ?_ hd h
 simp [results, hr, h2a, h2b, asAddr, l2]
theorem g_end3 (hr : fn.results = #[.cell p T, .tmp q, .tmp r]) (h2 : tmps.getD p undef = .pointer (some ⟨B, 0, none⟩)) (h3 : tmps.getD q undef = v) (h4 : tmps.getD r undef = u)
  (e : Bx W B t cs) (hl : cs.length = kk) (hd : ds = []) (h : R (.returned (.tuple #[.agg cs.toArray, v, u])) W) : bodyPost Tryz.prog fn R .ret { tmps := tmps, defers := ds } W := by
 have l2 := g_var hU hI e hl
 have h2a : tmps[p]?.getD undef = .pointer (some ⟨B, 0, none⟩) := by simpa using h2
 have h2b : tmps[q]?.getD undef = v := by simpa using h3
 have h2c : tmps[r]?.getD undef = u := by simpa using h4
 refine bodyPost_ret (v := .tuple #[.agg cs.toArray, v, u]) ?_ hd h
 simp [results, hr, h2a, h2b, h2c, asAddr, l2]
end
class El (α : Type) where
 k : Nat
 pos : 0 < k
 cells : α → List Value
 len : ∀ x, (cells x).length = k
 one : ∀ x, ∀ u ∈ cells x, u.oneCell' = true
 dft : α
 ok : α → Prop
section
variable {α : Type} [El α]
def ge (l : List α) (i : Nat) : α := l.getD i El.dft
def evals (l : List α) : List Value := l.flatMap El.cells
theorem ge_eq {l : List α} {i : Nat} (h : i < l.length) : ge l i = l[i] := by unfold ge; rw [List.getD_eq_getElem?_getD, List.getElem?_eq_getElem h]; rfl
theorem ge_take {l : List α} {k i : Nat} (h : i < k) : ge (l.take k) i = ge l i := by
 unfold ge; rw [List.getD_eq_getElem?_getD, List.getElem?_take, if_pos h, List.getD_eq_getElem?_getD]
theorem ge_drop (l : List α) (k i : Nat) : ge (l.drop k) i = ge l (k + i) := by
 unfold ge; rw [List.getD_eq_getElem?_getD, List.getElem?_drop, List.getD_eq_getElem?_getD]
theorem ge_app {a b : List α} {i : Nat} (h : i < a.length) : ge (a ++ b) i = ge a i := by
 unfold ge; rw [List.getD_eq_getElem?_getD, List.getElem?_append_left h, List.getD_eq_getElem?_getD]
theorem ge_snoc (a : List α) (x : α) : ge (a ++ [x]) a.length = x := by
 unfold ge; rw [List.getD_eq_getElem?_getD, List.getElem?_append_right Zr]; simp
theorem ge_set {l : List α} {i j : Nat} {y : α} (h : i < l.length) : ge (l.set i y) j = if i = j then y else ge l j := by
 unfold ge
 rw [List.getD_eq_getElem?_getD, List.getElem?_set]
 split
 ·next e => subst e; simp [h]
 ·rw [List.getD_eq_getElem?_getD]
theorem take_ge {l : List α} {k : Nat} (h : k < l.length) : l.take (k + 1) = l.take k ++ [ge l k] := by
 rw [List.take_succ_eq_append_getElem h, ge_eq h]
theorem drop_ge {l : List α} {k : Nat} (h : k < l.length) : l.drop k = ge l k :: l.drop (k + 1) := by
 rw [ge_eq h]; exact List.drop_eq_getElem_cons h
theorem ge_mem {l : List α} {i : Nat} (h : i < l.length) : ge l i ∈ l := by rw [ge_eq h]; exact List.getElem_mem h
theorem evals_cons (p : α) (t : List α) : evals (p :: t) = El.cells p ++ evals t := rfl
theorem evals_app (a b : List α) : evals (a ++ b) = evals a ++ evals b := by unfold evals; rw [List.flatMap_append]
theorem evals_length (l : List α) : (evals l).length = l.length * El.k α := by
 induction l with
 | nil => simp [evals]
 | cons p t ih => rw [evals_cons, List.length_append, El.len, ih, List.length_cons, Nat.succ_mul]; omega
theorem evals_at : ∀ (l : List α) (i j : Nat) (u : Value), i < l.length → (El.cells (ge l i))[j]? = some u → (evals l)[i * El.k α + j]? = some u := by
 intro l
 induction l with
 | nil => intro i j u hi; simp at hi
 | cons p t ih =>
  intro i j u hi hu
  have hj : j < El.k α := by
   have := (List.getElem?_eq_some_iff.1 hu).1
   rwa [El.len] at this
  rw [evals_cons]
  cases i with
  | zero => rw [Nat.zero_mul, Nat.zero_add, List.getElem?_append_left (by rw [El.len]; exact hj)]; exact hu
  | succ i =>
   rw [List.getElem?_append_right (by rw [El.len, Nat.succ_mul]; omega), El.len, show (i + 1) * El.k α + j - El.k α = i * El.k α + j by rw [Nat.succ_mul]; omega]
   exact ih i j u (by simpa using hi) hu
theorem evals_cell (l : List α) : ∀ u ∈ evals l, u.oneCell' = true := by
 intro u hu
 unfold evals at hu
 obtain ⟨p, _, hp⟩ := List.mem_flatMap.1 hu
 exact El.one p u hp
theorem evals_set : ∀ (l : List α) (i j : Nat) (u : Value) (y : α), i < l.length → j < El.k α → El.cells y = (El.cells (ge l i)).set j u → evals (l.set i y) = (evals l).set (i * El.k α + j) u := by
 intro l
 induction l with
 | nil => intro i j u y hi; simp at hi
 | cons p t ih =>
  intro i j u y hi hj hy
  cases i with
  | zero =>
   rw [List.set_cons_zero, evals_cons, evals_cons, hy, Nat.zero_mul, Nat.zero_add, List.set_append_left _ _ (by rw [El.len]; exact hj)]
   rfl
  | succ i =>
   rw [List.set_cons_succ, evals_cons, evals_cons, List.set_append_right _ _ (by rw [El.len, Nat.succ_mul]; omega), El.len, show (i + 1) * El.k α + j - El.k α = i * El.k α + j by rw [Nat.succ_mul]; omega]
   rw [ih i j u y (by simpa using hi) hj hy]
def AllOk (l : List α) : Prop := ∀ x ∈ l, El.ok x
theorem AllOk.ge {l : List α} (h : AllOk l) {i : Nat} (hi : i < l.length) : El.ok (ge l i) := h _ (ge_mem hi)
theorem AllOk.app {a b : List α} (h : AllOk a) (k : AllOk b) : AllOk (a ++ b) := fun x hx => (List.mem_append.1 hx).elim (h x) (k x)
theorem AllOk.take {l : List α} (h : AllOk l) (k : Nat) : AllOk (l.take k) := fun x hx => h x (List.mem_of_mem_take hx)
theorem AllOk.one {x : α} (h : El.ok x) : AllOk [x] := fun p hp => by simp at hp; subst hp; exact h
theorem AllOk.nil : AllOk ([] : List α) := fun p hp => by cases hp
theorem AllOk.set {l : List α} (h : AllOk l) (i : Nat) {y : α} (hy : El.ok y) : AllOk (l.set i y) := fun x hx => (List.mem_or_eq_of_mem_set hx).elim (h x) (fun e => e ▸ hy)
structure Re (w : World) (A : Option Addr) (n : Nat) (l : List α) : Prop where
 len : l.length = n
 ok : AllOk l
 at_ : 0 < n → ∃ b o, A = some ⟨b, o, none⟩ ∧ b < w.heap.size ∧ ∀ i, i < n → ∀ j u, (El.cells (ge l i))[j]? = some u → w.cell? ⟨b, o + i * El.k α + j, none⟩ = some u
structure Se (w : World) (A : Option Addr) (n c : Nat) (l : List α) : Prop where
 le : n ≤ c
 max : c ≤ maxLen
 nil : A = none → c = 0
 rd : Re w A n l
variable {w w' : World} {A : Option Addr} {n : Nat} {l : List α}
theorem Re.keep_of {B : Nat} (h : Re w A n l) (hb : Below B w w') (hlt : ∀ b o, A = some ⟨b, o, none⟩ → 0 < n → b < B) : Re w' A n l :=
 ⟨h.len, h.ok, fun hn => by
  obtain ⟨b, o, e, hl, hc⟩ := h.at_ hn
  exact ⟨b, o, e, Nat.lt_of_lt_of_le hl hb.size, fun i hi j u hu => (hb.cell (p := ⟨b, o + i * El.k α + j, none⟩) (hlt b o e hn)).trans (hc i hi j u hu)⟩⟩
theorem Re.keep (h : Re w A n l) (hb : Below w.heap.size w w') : Re w' A n l :=
 h.keep_of hb (fun b o e hn => by obtain ⟨b', o', e', hl, _⟩ := h.at_ hn; rw [e] at e'; cases e'; exact hl)
theorem Re.alloc (h : Re w A n l) (o : Obj) : Re (w.alloc o) A n l := h.keep ((Zb).alloc Zr o)
theorem Re.drew (h : Re w A n l) : Re w.drew A n l := h.keep (Zb).drew
theorem Re.empty (w : World) (A : Option Addr) : Re w A 0 ([] : List α) := ⟨rfl, AllOk.nil, fun hn => absurd hn (by omega)⟩
theorem Re.take {k : Nat} (h : Re w A n l) (hk : k ≤ n) : Re w A k (l.take k) :=
 ⟨by rw [List.length_take, h.len]; omega, h.ok.take k, fun h0 => by
  obtain ⟨b, o, e, hl, hc⟩ := h.at_ (by omega)
  exact ⟨b, o, e, hl, fun i hi => by rw [ge_take hi]; exact hc i (by omega)⟩⟩
theorem Se.keep {c : Nat} (h : Se w A n c l) (hb : Below w.heap.size w w') : Se w' A n c l := ⟨h.le, h.max, h.nil, h.rd.keep hb⟩
theorem Se.alloc {c : Nat} (h : Se w A n c l) (o : Obj) : Se (w.alloc o) A n c l := ⟨h.le, h.max, h.nil, h.rd.alloc o⟩
theorem Se.drew {c : Nat} (h : Se w A n c l) : Se w.drew A n c l := ⟨h.le, h.max, h.nil, h.rd.drew⟩
theorem Se.head {k c : Nat} (h : Se w A n c l) (hk : k ≤ n) : Se w A k c (l.take k) := ⟨by have := h.le; omega, h.max, h.nil, h.rd.take hk⟩
theorem Se.none (w : World) : Se w none 0 0 ([] : List α) := ⟨Nat.le_refl _, Nat.zero_le _, fun _ => rfl, Re.empty _ _⟩
theorem se_one (w : World) {x : α} (hx : El.ok x) (t : TypeId) : Se (w.alloc (.cells (El.cells x).toArray t)) (some ⟨w.heap.size, 0, none⟩) 1 1 [x] :=
 ⟨Nat.le_refl _, by unfold maxLen; omega, (fun e => by cases e), rfl, AllOk.one hx, fun _ => ⟨w.heap.size, 0, rfl, by simp, fun i hi j u hu => by
  obtain rfl : i = 0 := by omega
  have hu' : (El.cells x)[j]? = some u := hu
  simp only [Nat.zero_mul, Nat.zero_add]
  exact (Bx.new w t (El.cells x)).cell j hu'⟩⟩
structure Sne (w : World) (base : Nat) (G : Option Addr) (m d : Nat) (l : List α) : Prop where
 se : Se w G m d l
 at_ : ∀ b o s, G = some ⟨b, o, s⟩ → base ≤ b
theorem Sne.none (w : World) (base : Nat) : Sne w base .none 0 0 ([] : List α) := ⟨Se.none w, fun _ _ _ e => by cases e⟩
theorem Sne.mono {base base' : Nat} {G : Option Addr} {m d : Nat} (h : Sne w base G m d l) (hb : base' ≤ base) : Sne w base' G m d l := ⟨h.se, fun b o s e => Zn hb (h.at_ b o s e)⟩
theorem Sne.keep {base : Nat} {G : Option Addr} {m d : Nat} (h : Sne w base G m d l) (hb : Below w.heap.size w w') : Sne w' base G m d l := ⟨h.se.keep hb, h.at_⟩
theorem Sne.grown {base B : Nat} {G : Option Addr} {m d : Nat} (h : Sne w base G m d l) (hg : w.grownBy w' (some B)) (hB : B < base) : Sne w' base G m d l := by
 refine ⟨⟨h.se.le, h.se.max, h.se.nil, h.se.rd.len, h.se.rd.ok, fun h0 => ?_⟩, h.at_⟩
 obtain ⟨b, o, e, hlt, hc⟩ := h.se.rd.at_ h0
 have hge := h.at_ b o _ e
 have hh := hg.block b hlt (by intro e; cases e; omega)
 refine ⟨b, o, e, Nat.lt_of_lt_of_le hlt hg.size, fun i hi j u hu => ?_⟩
 rw [← hc i hi j u hu]
 exact World.cell?_of_block (w := w) hh
structure Goe (w : World) (base e : Nat) (v : Value) (n : Nat) (l : List α) : Prop where
 row : w.ownsRow base e (El.k α) v n (evals l)
 ok : AllOk l
theorem Goe.len {base e : Nat} {v : Value} (h : Goe w base e v n l) : l.length = n := by
 have := h.row.1; rw [evals_length] at this; exact Nat.eq_of_mul_eq_mul_right (El.pos (α := α)) this
theorem Goe.none (w : World) (base e : Nat) : Goe w base e (.slice .none 0 0) 0 ([] : List α) := ⟨World.ownsRow_nil _ _ _ _, AllOk.nil⟩
theorem Goe.se {base e : Nat} {v : Value} (h : Goe w base e v n l) : ∃ A c, v = .slice A n c ∧ Se w A n c l := by
 have hlen := h.len
 rcases h.row.2 with ⟨rfl, rfl⟩ | ⟨g, cap, cur, rfl, hg, hh, hnc, hcm, hcs, htake⟩
 ·exact ⟨_, 0, rfl, Nat.le_refl _, Nat.zero_le _, fun _ => rfl, hlen, h.ok, fun h0 => by omega⟩
 ·refine ⟨some ⟨g, 0, .none⟩, cap, rfl, hnc, hcm, (fun e => by cases e), hlen, h.ok, fun h0 => ⟨g, 0, rfl, ?_, fun i hi j u hu => ?_⟩⟩
  ·rcases Nat.lt_or_ge g w.heap.size with hlt | hge
   ·exact hlt
   ·rw [Array.getElem?_eq_none hge] at hh; cases hh
  ·have hj : j < El.k α := by
    have := (List.getElem?_eq_some_iff.1 hu).1
    rwa [El.len] at this
   have hv := evals_at l i j u (by omega) hu
   have hb : i * El.k α + j < n * El.k α := by
    have := Nat.mul_le_mul_right (El.k α) (show i + 1 ≤ n by omega)
    rw [Nat.succ_mul] at this; omega
   have h1 := h.row.cellAt (i * El.k α + j) hb
   rw [Nat.zero_add]
   exact h1.trans hv
theorem Goe.sne {base e : Nat} {v : Value} (h : Goe w base e v n l) : ∃ A c, v = .slice A n c ∧ Sne w base A n c l := by
 obtain ⟨A, c, ev, hs⟩ := h.se
 subst ev
 refine ⟨A, c, rfl, hs, fun b o s ea => ?_⟩
 subst ea
 rcases h.row.2 with ⟨h1, _⟩ | ⟨g, cap, cur, h1, hg, _⟩
 ·cases h1
 ·cases h1; exact hg
theorem Goe.alloc {base e : Nat} {v : Value} (h : Goe w base e v n l) (o : Obj) : Goe (w.alloc o) base e v n l := ⟨h.row.alloc o, h.ok⟩
theorem Goe.drew {base e : Nat} {v : Value} (h : Goe w base e v n l) : Goe w.drew base e v n l := ⟨h.row, h.ok⟩
theorem Goe.set {base e g cap : Nat} (h : Goe w base e (.slice (some ⟨g, 0, .none⟩) n cap) n l) {i j : Nat} {u : Value} {y : α} (hi : i < n) (hj : j < El.k α) (hy : El.cells y = (El.cells (ge l i)).set j u) (hok : El.ok y) :
  Goe (w.setCell ⟨g, i * El.k α + j, .none⟩ u) base e (.slice (some ⟨g, 0, .none⟩) n cap) n (l.set i y) ∧ w.grownBy (w.setCell ⟨g, i * El.k α + j, .none⟩ u) (some g) := by
 have hs := h.row.stored (i * El.k α + j) u
 refine ⟨⟨?_, h.ok.set i hok⟩, hs.2⟩
 rw [evals_set l i j u y (by rw [h.len]; exact hi) hj hy]
 exact hs.1
theorem Goe.below {base e : Nat} {v : Value} (h : Goe w base e v n l) (hb : Below w.heap.size w w') : Goe w' base e v n l := by
 refine ⟨?_, h.ok⟩
 refine ⟨h.row.1, ?_⟩
 rcases h.row.2 with h1 | ⟨g, cap, cur, e1, e2, e3, e4⟩
 ·exact .inl h1
 ·exact .inr ⟨g, cap, cur, e1, e2, (hb.block g (Array.getElem?_eq_some_iff.1 e3).1).trans e3, e4⟩
theorem news_of_re {b o : Nat} (hlen : l.length = n) (hc : ∀ i, i < n → ∀ j u, (El.cells (ge l i))[j]? = some u → w.cell? ⟨b, o + i * El.k α + j, none⟩ = some u) :
  ∀ j u, (evals l)[j]? = some u → w.cell? ((⟨b, o, none⟩ : Addr).add j) = some u := by
 intro j u hj
 have hlt : j < l.length * El.k α := by rw [← evals_length]; exact (List.getElem?_eq_some_iff.1 hj).1
 have hadd : (⟨b, o, none⟩ : Addr).add j = ⟨b, o + j, none⟩ := by
  unfold Addr.add
  split
  ·next h => subst h; rfl
  ·rfl
 rw [hadd]
 have hk := El.pos (α := α)
 have hi : j / El.k α < l.length := Nat.div_lt_of_lt_mul (by rw [Nat.mul_comm]; exact hlt)
 have hjm : j % El.k α < El.k α := Nat.mod_lt _ hk
 have hsplit : j / El.k α * El.k α + j % El.k α = j := by rw [Nat.mul_comm]; exact Nat.div_add_mod j _
 obtain ⟨v, hv⟩ : ∃ v, (El.cells (ge l (j / El.k α)))[j % El.k α]? = some v := ⟨_, List.getElem?_eq_getElem (by rw [El.len]; exact hjm)⟩
 have h1 := evals_at l _ _ v hi hv
 rw [hsplit, hj] at h1
 cases h1
 have := hc _ (by omega) _ u hv
 rwa [Nat.add_assoc, hsplit] at this
theorem wpList_appe {P : Program} (w : World) {A : Option Addr} {m c : Nat} {l : List α} {ops : Array Oper} {rest : List Oper} {o : Oper} {a : Act} {Q : Exit → Act → World → Prop} (hgd : o.guard = .none) (s x : Operand) (t : TypeId)
  (ho : o.op = .call { callee := .builtin .append, args := #[s, x], argTypes := #[t, t] })
  (base : Nat) (e : TypeId) (ht : P.underlying t = some (.slice e)) (z : Value) (bytes : Nat) (hinfo : (P.info? e).map (fun i => (i.zero, i.size, i.bytes)) = some (some z, El.k α, bytes)) (hzs : z.cells.size = El.k α)
  (v : Value) (n : Nat) (xs : List α) (hs : a.eval s = v) (hown : Goe w base e v n xs)
  (hx : a.eval x = .slice A m c) (hA : A = .none → c = 0) (hr : Re w A m l) (hmax : n + m ≤ maxLen) (hsum : (n + m) * bytes ≤ 140737488355328) (hbase : base ≤ w.heap.size)
  (h : ∀ v' w', Goe w' base e v' (n + m) (xs ++ l) → w.grownBy w' v.ownBlock → (v'.ownBlock = v.ownBlock ∨ v'.ownBlock = some w.heap.size) → wpList P ops Q rest (a.put o.dst v') w') :
  wpList P ops Q (o :: rest) a w := by
 obtain ⟨i0, hi, hz0, hz1, hz2⟩ := info_parts hinfo
 cases A with
 | none =>
  have hc0 := hA rfl
  have hm0 : m = 0 := by
   rcases Nat.eq_zero_or_pos m with h0 | h0
   ·exact h0
   ·obtain ⟨b, o', e', _⟩ := hr.at_ h0; cases e'
  subst hm0 hc0
  have hl0 : l = [] := List.eq_nil_of_length_eq_zero hr.len
  subst hl0
  exact wpList_append_own_none hgd s x t ho base e i0 (El.k α) ht hi v n _ hs hown.row hx (h v w (by simpa using hown) (World.grownBy.refl w _) (.inl rfl))
 | some ad =>
  refine wpList_append_own_at w hgd s x t ho base e i0 z (El.k α) bytes ht hi hz0 hz1 hz2 hzs (El.pos (α := α)) v n _ hs hown.row ad m c (evals l) hx (by rw [evals_length, hr.len]) ?_ (evals_cell l) hmax hsum hbase (fun v' w' h1 h2 _ h4 => h v' w' ⟨by rw [evals_app]; exact h1, hown.ok.app hr.ok⟩ h2 h4)
  rcases Nat.eq_zero_or_pos m with h0 | h0
  ·subst h0
   have hl0 : l = [] := List.eq_nil_of_length_eq_zero hr.len
   subst hl0
   intro j u hj; simp [evals] at hj
  ·obtain ⟨b, o', e', _, hc⟩ := hr.at_ h0
   cases e'
   exact news_of_re hr.len hc
end
end Go.Proofs.YtbijhkhkigdddaaGreat
namespace Go.Proofs.YtbijhkhkigdddaaGreat
def t60 (x : Int) : Bool := decide (0 ≤ x ∧ x ≤ 1152921504606846976)
theorem t60_iff (x : Int) : t60 x = true ↔ 0 ≤ x ∧ x ≤ 1152921504606846976 := by unfold t60; exact decide_eq_true_iff
end Go.Proofs.YtbijhkhkigdddaaGreat
namespace Go.Proofs.YtbijhkhkigdddaaGreat
open Go.RowKit
structure Prt where
 seq : Int
 len : Int
 dsn : Int
 at_ : Int
 tries : Int
 came : Bool
 lost : Bool
 total : Int
 last : Int
deriving DecidableEq
def i64 (x : Int) : Prop := -9223372036854775808 ≤ x ∧ x ≤ 9223372036854775807
structure PrtW (x : Prt) : Prop where
 seq : i64 x.seq
 len : i64 x.len
 dsn : i64 x.dsn
 at_ : i64 x.at_
 tries : i64 x.tries
 total : i64 x.total
 last : i64 x.last
def zprt : Prt := ⟨0, 0, 0, 0, 0, false, false, 0, 0⟩
instance : El Prt where
 k := 9
 pos := by omega
 cells x := [x.seq, x.len, x.dsn, x.at_, x.tries, x.came, x.lost, x.total, x.last]
 len _ := rfl
 one x u hu := by
  simp only [List.mem_cons, List.mem_nil_iff, or_false] at hu
  rcases hu with rfl | rfl | rfl | rfl | rfl | rfl | rfl | rfl | rfl <;> rfl
 dft := zprt
 ok := PrtW
structure PrtAt (w : World) (b o : Nat) (x : Prt) : Prop where
 c0 : w.cell? ⟨b, o, none⟩ = some (.int .i64 x.seq)
 c1 : w.cell? ⟨b, o + 1, none⟩ = some (.int .i64 x.len)
 c2 : w.cell? ⟨b, o + 2, none⟩ = some (.int .i64 x.dsn)
 c3 : w.cell? ⟨b, o + 3, none⟩ = some (.int .i64 x.at_)
 c4 : w.cell? ⟨b, o + 4, none⟩ = some (.int .i64 x.tries)
 c5 : w.cell? ⟨b, o + 5, none⟩ = some (.bool x.came)
 c6 : w.cell? ⟨b, o + 6, none⟩ = some (.bool x.lost)
 c7 : w.cell? ⟨b, o + 7, none⟩ = some (.int .i64 x.total)
 c8 : w.cell? ⟨b, o + 8, none⟩ = some (.int .i64 x.last)
theorem prt_at {w : World} {b o n : Nat} {l : List Prt} (hc : ∀ i, i < n → ∀ j u, (El.cells (ge l i))[j]? = some u → w.cell? ⟨b, o + i * El.k Prt + j, none⟩ = some u) {i : Nat} (hi : i < n) : PrtAt w b (o + i * 9) (ge l i) :=
 ⟨hc i hi 0 _ rfl, hc i hi 1 _ rfl, hc i hi 2 _ rfl, hc i hi 3 _ rfl, hc i hi 4 _ rfl, hc i hi 5 _ rfl, hc i hi 6 _ rfl, hc i hi 7 _ rfl, hc i hi 8 _ rfl⟩
theorem PrtAt.keep {w w' : World} {b o : Nat} {x : Prt} (h : PrtAt w b o x) (hb : Below w.heap.size w w') (hlt : b < w.heap.size) : PrtAt w' b o x :=
 ⟨(hb.cell (p := ⟨b, o, none⟩) hlt).trans h.c0, (hb.cell (p := ⟨b, o + 1, none⟩) hlt).trans h.c1, (hb.cell (p := ⟨b, o + 2, none⟩) hlt).trans h.c2, (hb.cell (p := ⟨b, o + 3, none⟩) hlt).trans h.c3, (hb.cell (p := ⟨b, o + 4, none⟩) hlt).trans h.c4, (hb.cell (p := ⟨b, o + 5, none⟩) hlt).trans h.c5, (hb.cell (p := ⟨b, o + 6, none⟩) hlt).trans h.c6, (hb.cell (p := ⟨b, o + 7, none⟩) hlt).trans h.c7, (hb.cell (p := ⟨b, o + 8, none⟩) hlt).trans h.c8⟩
structure POk (x : Prt) : Prop where
 seq : t60 x.seq = true
 dsn : t60 x.dsn = true
 at_ : t60 x.at_ = true
 total : t60 x.total = true
 last : t60 x.last = true
 not : (x.came && x.lost) = false
 l1 : 1 ≤ x.len
 l2 : x.len ≤ 1460
 t1 : 1 ≤ x.tries
 t2 : x.tries ≤ 1000
def oneB (x : Prt) : Bool := t60 x.seq && (t60 x.dsn && (t60 x.at_ && (t60 x.total && (t60 x.last && (!(x.came && x.lost) && decide (1 ≤ x.len ∧ x.len ≤ 1460 ∧ 1 ≤ x.tries ∧ x.tries ≤ 1000))))))
theorem oneB_iff (x : Prt) : oneB x = true ↔ POk x := by
 unfold oneB
 simp only [Bool.and_eq_true, Bool.not_eq_true', decide_eq_true_eq]
 exact ⟨fun ⟨a, b, c, d, e, f, g, h, i, j⟩ => ⟨a, b, c, d, e, f, g, h, i, j⟩, fun h => ⟨h.seq, h.dsn, h.at_, h.total, h.last, h.not, h.l1, h.l2, h.t1, h.t2⟩⟩
def endP (x : Prt) : Int := x.seq + x.len
def LinkOk (l : List Prt) (i : Nat) : Prop := POk (ge l i) ∧ (0 < i → (ge l i).seq = endP (ge l (i - 1)))
def linkB (l : List Prt) (i : Nat) : Bool := oneB (ge l i) && decide (0 < i → (ge l i).seq = endP (ge l (i - 1)))
theorem linkB_iff (l : List Prt) (i : Nat) : linkB l i = true ↔ LinkOk l i := by
 unfold linkB LinkOk; rw [Bool.and_eq_true, oneB_iff, decide_eq_true_eq]
def ChainTo (l : List Prt) (n : Nat) : Prop := ∀ i, i < n → LinkOk l i
def chainB (l : List Prt) : Bool := (List.range l.length).all fun i => linkB l i
theorem chainB_iff (l : List Prt) : chainB l = true ↔ ChainTo l l.length := by
 unfold chainB ChainTo
 rw [List.all_eq_true]
 exact ⟨fun h i hi => (linkB_iff l i).1 (h i (List.mem_range.2 hi)), fun h i hi => (linkB_iff l i).2 (h i (List.mem_range.1 hi))⟩
theorem link_snoc {l : List Prt} {k : Nat} (h : ChainTo l k) (hk : LinkOk l k) : ChainTo l (k + 1) := fun i hi => by
 by_cases e : i = k
 ·subst e; exact hk
 ·exact h i (by omega)
def smayB (l : List Prt) : Bool := decide (l.length ≤ 500) && chainB l
theorem smay_iff (l : List Prt) : smayB l = true ↔ l.length ≤ 500 ∧ ChainTo l l.length := by unfold smayB; rw [Bool.and_eq_true, decide_eq_true_eq, chainB_iff]
def spanR (l : List Prt) : Int × Int := if 0 < l.length ∧ smayB l = true then ((ge l 0).seq, endP (ge l (l.length - 1))) else (0, 0)
def flyL (x : Prt) : Int := if (!x.came && !x.lost) = true then x.len else 0
def flySum (l : List Prt) : Int := l.foldl (fun n x => n + flyL x) 0
theorem flySum_snoc (l : List Prt) (x : Prt) : flySum (l ++ [x]) = flySum l + flyL x := by unfold flySum; simp
def flightR (l : List Prt) : Int := if smayB l = true then flySum l else 0
def sendR (l : List Prt) (x : Prt) : List Prt × Int :=
 if chainB (l ++ [x]) = true ∧ l.length ≤ 500 then (if l.length = 500 then ([], 4) else (l ++ [x], 0)) else ([], 1)
def againP (x : Prt) (a : Int) : Prt := { x with at_ := a, tries := x.tries + 1, lost := false }
def findSeq (l : List Prt) (seq : Int) : Nat := l.findIdx fun x => decide (x.seq = seq)
def againR (l : List Prt) (seq a : Int) : List Prt × Int :=
 if smayB l = true ∧ t60 a = true then
  (if findSeq l seq < l.length then
   (if (ge l (findSeq l seq)).came = true ∨ 1000 ≤ (ge l (findSeq l seq)).tries then ([], 3) else (l.set (findSeq l seq) (againP (ge l (findSeq l seq)) a), 0))
  else ([], 3))
 else ([], 1)
abbrev Sp := Int × Int
def sp (l : List Sp) (i : Nat) : Sp := l.getD i (0, 0)
def W64 (x : Int) : Prop := -9223372036854775808 ≤ x ∧ x ≤ 9223372036854775807
def Wide (l : List Sp) : Prop := ∀ p ∈ l, W64 p.1 ∧ W64 p.2
def vals (l : List Sp) : List Value := l.flatMap fun p => [p.1, p.2]
theorem sp_eq {l : List Sp} {i : Nat} (h : i < l.length) : sp l i = l[i] := by unfold sp; rw [List.getD_eq_getElem?_getD, List.getElem?_eq_getElem h]; rfl
theorem take_sp {l : List Sp} {k : Nat} (h : k < l.length) : l.take (k + 1) = l.take k ++ [sp l k] := by
 rw [List.take_succ_eq_append_getElem h, sp_eq h]
theorem sp_take {l : List Sp} {k i : Nat} (h : i < k) : sp (l.take k) i = sp l i := by
 unfold sp; rw [List.getD_eq_getElem?_getD, List.getElem?_take, if_pos h, List.getD_eq_getElem?_getD]
theorem wide_app {a b : List Sp} (h : Wide a) (k : Wide b) : Wide (a ++ b) := fun x hx => (List.mem_append.1 hx).elim (h x) (k x)
theorem wide_take {l : List Sp} (h : Wide l) (k : Nat) : Wide (l.take k) := fun x hx => h x (List.mem_of_mem_take hx)
theorem wide_one {x y : Int} (h : W64 x) (k : W64 y) : Wide [(x, y)] := fun p hp => by simp at hp; subst hp; exact ⟨h, k⟩
theorem vals_length (l : List Sp) : (vals l).length = l.length * 2 := by
 unfold vals; induction l with
 | nil => rfl
 | cons p t ih => simp only [List.flatMap_cons, List.length_append, List.length_cons, List.length_nil] at *; omega
theorem vals_app (a b : List Sp) : vals (a ++ b) = vals a ++ vals b := by unfold vals; rw [List.flatMap_append]
theorem vals_at (l : List Sp) : ∀ i, i < l.length → (vals l)[i * 2]? = some (.int .i64 (sp l i).1) ∧ (vals l)[i * 2 + 1]? = some (.int .i64 (sp l i).2) := by
 induction l with
 | nil => intro i hi; simp at hi
 | cons p t ih =>
  intro i hi
  have e : vals (p :: t) = .int .i64 p.1 :: .int .i64 p.2 :: vals t := rfl
  cases i with
  | zero => rw [e]; exact ⟨rfl, rfl⟩
  | succ i =>
   have := ih i (by simpa using hi)
   rw [e, show (i + 1) * 2 = i * 2 + 1 + 1 by omega]
   have hs : sp (p :: t) (i + 1) = sp t i := rfl
   rw [hs]
   simpa using this
theorem vals_cell (l : List Sp) : ∀ u ∈ vals l, u.oneCell' = true := by
 intro u hu
 unfold vals at hu
 obtain ⟨p, _, hp⟩ := List.mem_flatMap.1 hu
 simp at hp
 rcases hp with rfl | rfl <;> rfl
structure Rs (w : World) (A : Option Addr) (n : Nat) (l : List Sp) : Prop where
 len : l.length = n
 wide : Wide l
 at_ : 0 < n → ∃ b o, A = some ⟨b, o, none⟩ ∧ b < w.heap.size ∧ ∀ i, i < n → w.cell? ⟨b, o + i * 2, none⟩ = some (.int .i64 (sp l i).1) ∧ w.cell? ⟨b, o + i * 2 + 1, none⟩ = some (.int .i64 (sp l i).2)
structure Ss (w : World) (A : Option Addr) (n c : Nat) (l : List Sp) : Prop where
 le : n ≤ c
 max : c ≤ maxLen
 nil : A = none → c = 0
 rd : Rs w A n l
section
variable {w w' : World} {A : Option Addr} {n : Nat} {l : List Sp}
theorem Rs.keep_of {B : Nat} (h : Rs w A n l) (hb : Below B w w') (hlt : ∀ b o, A = some ⟨b, o, none⟩ → 0 < n → b < B) : Rs w' A n l :=
 ⟨h.len, h.wide, fun hn => by
  obtain ⟨b, o, e, hl, hc⟩ := h.at_ hn
  exact ⟨b, o, e, Nat.lt_of_lt_of_le hl hb.size, fun i hi => ⟨(hb.cell (p := ⟨b, o + i * 2, none⟩) (hlt b o e hn)).trans (hc i hi).1, (hb.cell (p := ⟨b, o + i * 2 + 1, none⟩) (hlt b o e hn)).trans (hc i hi).2⟩⟩⟩
theorem Rs.keep (h : Rs w A n l) (hb : Below w.heap.size w w') : Rs w' A n l :=
 h.keep_of hb (fun b o e hn => by obtain ⟨b', o', e', hl, _⟩ := h.at_ hn; rw [e] at e'; cases e'; exact hl)
theorem Rs.alloc (h : Rs w A n l) (o : Obj) : Rs (w.alloc o) A n l := h.keep ((Zb).alloc Zr o)
theorem Rs.empty (w : World) (A : Option Addr) : Rs w A 0 [] := ⟨rfl, fun _ hx => by simp at hx, fun hn => absurd hn (by omega)⟩
theorem Rs.take {k : Nat} (h : Rs w A n l) (hk : k ≤ n) : Rs w A k (l.take k) :=
 ⟨by rw [List.length_take, h.len]; omega, wide_take h.wide k, fun h0 => by
  obtain ⟨b, o, e, hl, hc⟩ := h.at_ (by omega)
  exact ⟨b, o, e, hl, fun i hi => by rw [sp_take hi]; exact hc i (by omega)⟩⟩
theorem Ss.keep {c : Nat} (h : Ss w A n c l) (hb : Below w.heap.size w w') : Ss w' A n c l := ⟨h.le, h.max, h.nil, h.rd.keep hb⟩
theorem Ss.alloc {c : Nat} (h : Ss w A n c l) (o : Obj) : Ss (w.alloc o) A n c l := ⟨h.le, h.max, h.nil, h.rd.alloc o⟩
theorem Ss.head {k c : Nat} (h : Ss w A n c l) (hk : k ≤ n) : Ss w A k c (l.take k) := ⟨by have := h.le; omega, h.max, h.nil, h.rd.take hk⟩
theorem Ss.none (w : World) : Ss w none 0 0 [] := ⟨Nat.le_refl _, Nat.zero_le _, fun _ => rfl, Rs.empty _ _⟩
structure Gots (w : World) (base e : Nat) (v : Value) (n : Nat) (l : List Sp) : Prop where
 row : w.ownsRow base e 2 v n (vals l)
 wide : Wide l
theorem Gots.len {base e : Nat} {v : Value} (h : Gots w base e v n l) : l.length = n := by
 have := h.row.1; rw [vals_length] at this; omega
theorem Gots.ss {base e : Nat} {v : Value} (h : Gots w base e v n l) : ∃ A c, v = .slice A n c ∧ Ss w A n c l := by
 have hlen := h.len
 rcases h.row.2 with ⟨rfl, rfl⟩ | ⟨g, cap, cur, rfl, hg, hh, hnc, hcm, hcs, htake⟩
 ·exact ⟨_, 0, rfl, Nat.le_refl _, Nat.zero_le _, fun _ => rfl, hlen, h.wide, fun h0 => by omega⟩
 ·refine ⟨some ⟨g, 0, .none⟩, cap, rfl, hnc, hcm, (fun e => by cases e), hlen, h.wide, fun h0 => ⟨g, 0, rfl, ?_, fun i hi => ?_⟩⟩
  ·rcases Nat.lt_or_ge g w.heap.size with hlt | hge
   ·exact hlt
   ·rw [Array.getElem?_eq_none hge] at hh; cases hh
  ·have hv := vals_at l i (by omega)
   have h1 := h.row.cellAt (i * 2) (by omega)
   have h2 := h.row.cellAt (i * 2 + 1) (by omega)
   rw [Nat.zero_add]
   exact ⟨h1.trans hv.1, h2.trans hv.2⟩
theorem news_of_rs {b o : Nat} (hlen : l.length = n) (hc : ∀ i, i < n → w.cell? ⟨b, o + i * 2, none⟩ = some (.int .i64 (sp l i).1) ∧ w.cell? ⟨b, o + i * 2 + 1, none⟩ = some (.int .i64 (sp l i).2)) :
  ∀ j u, (vals l)[j]? = some u → w.cell? ((⟨b, o, none⟩ : Addr).add j) = some u := by
 intro j u hj
 have hlt : j < l.length * 2 := by rw [← vals_length]; exact (List.getElem?_eq_some_iff.1 hj).1
 have hadd : (⟨b, o, none⟩ : Addr).add j = ⟨b, o + j, none⟩ := by
  unfold Addr.add
  split
  ·next h => subst h; rfl
  ·rfl
 rw [hadd]
 have hv := vals_at l (j / 2) (by omega)
 have hcc := hc (j / 2) (by omega)
 rcases Nat.mod_two_eq_zero_or_one j with h0 | h1
 ·rw [show j = j / 2 * 2 by omega] at hj ⊢
  rw [hv.1] at hj; cases hj; exact hcc.1
 ·rw [show j = j / 2 * 2 + 1 by omega] at hj ⊢
  rw [hv.2] at hj; cases hj; rw [← Nat.add_assoc]; exact hcc.2
theorem wpList_apps {P : Program} (w : World) {A : Option Addr} {m c : Nat} {l : List Sp} {ops : Array Oper} {rest : List Oper} {o : Oper} {a : Act} {Q : Exit → Act → World → Prop} (hgd : o.guard = .none) (s x : Operand) (t : TypeId)
  (ho : o.op = .call { callee := .builtin .append, args := #[s, x], argTypes := #[t, t] })
  (base : Nat) (e : TypeId) (ht : P.underlying t = some (.slice e)) (hinfo : (P.info? e).map (fun i => (i.zero, i.size, i.bytes)) = some (some (.agg #[.int .i64 0, .int .i64 0]), 2, 16))
  (v : Value) (n : Nat) (xs : List Sp) (hs : a.eval s = v) (hown : Gots w base e v n xs)
  (hx : a.eval x = .slice A m c) (hA : A = .none → c = 0) (hr : Rs w A m l) (hsum : (n + m) * 16 ≤ 140737488355328) (hbase : base ≤ w.heap.size)
  (h : ∀ v' w', Gots w' base e v' (n + m) (xs ++ l) → w.grownBy w' v.ownBlock → (v'.ownBlock = v.ownBlock ∨ v'.ownBlock = some w.heap.size) → wpList P ops Q rest (a.put o.dst v') w') :
  wpList P ops Q (o :: rest) a w := by
 obtain ⟨i0, hi, hz0, hz1, hz2⟩ := info_parts hinfo
 cases A with
 | none =>
  have hc0 := hA rfl
  have hm0 : m = 0 := by
   rcases Nat.eq_zero_or_pos m with h0 | h0
   ·exact h0
   ·obtain ⟨b, o', e', _⟩ := hr.at_ h0; cases e'
  subst hm0 hc0
  have hl0 : l = [] := List.eq_nil_of_length_eq_zero hr.len
  subst hl0
  exact wpList_append_own_none hgd s x t ho base e i0 2 ht hi v n _ hs hown.row hx (h v w (by simpa using hown) (World.grownBy.refl w _) (.inl rfl))
 | some ad =>
  refine wpList_append_own_at w hgd s x t ho base e i0 (.agg #[.int .i64 0, .int .i64 0]) 2 16 ht hi hz0 hz1 hz2 rfl (by omega) v n _ hs hown.row ad m c (vals l) hx (by rw [vals_length, hr.len]) ?_ (vals_cell l) (by unfold maxLen; omega) (by omega) hbase (fun v' w' h1 h2 _ h4 => h v' w' ⟨by rw [vals_app]; exact h1, wide_app hown.wide hr.wide⟩ h2 h4)
  rcases Nat.eq_zero_or_pos m with h0 | h0
  ·subst h0
   have hl0 : l = [] := List.eq_nil_of_length_eq_zero hr.len
   subst hl0
   intro j u hj; simp [vals] at hj
  ·obtain ⟨b, o', e', _, hc⟩ := hr.at_ h0
   cases e'
   exact news_of_rs hr.len hc
end
end Go.Proofs.YtbijhkhkigdddaaGreat
namespace Go.Proofs.YtbijhkhkigdddaaGreat
def vld (a b : Int) : Bool := decide (0 ≤ a) && (decide (a < b) && decide (b ≤ 4611686018427387904))
def chain : Int → List Sp → Bool
 | _, [] => true
 | d, p :: t => decide (d < p.1) && (vld p.1 p.2 && chain p.2 t)
def lastOf (d : Int) (l : List Sp) : Int := l.foldl (fun _ p => p.2) d
def mayB (l : List Sp) : Bool := decide (l.length ≤ 1000) && chain (-1) l
theorem lastOf_snoc (d : Int) (l : List Sp) (p : Sp) : lastOf d (l ++ [p]) = p.2 := by unfold lastOf; simp
theorem chain_app (d : Int) (a b : List Sp) : chain d (a ++ b) = (chain d a && chain (lastOf d a) b) := by
 induction a generalizing d with
 | nil => simp [chain, lastOf]
 | cons p t ih =>
  have : lastOf d (p :: t) = lastOf p.2 t := rfl
  rw [List.cons_append, this]
  simp only [chain, ih, Bool.and_assoc]
theorem chain_snoc (d : Int) (a : List Sp) (p : Sp) : chain d (a ++ [p]) = (chain d a && (decide (lastOf d a < p.1) && vld p.1 p.2)) := by
 rw [chain_app]; simp [chain]
theorem chain_take {d : Int} {l : List Sp} (h : chain d l = true) (k : Nat) : chain d (l.take k) = true := by
 have e : l = l.take k ++ l.drop k := (List.take_append_drop _ _).symm
 rw [e, chain_app, Bool.and_eq_true] at h
 exact h.1
def hasIn (l : List Sp) (a b : Int) : Bool := l.any fun p => decide (p.1 ≤ a) && decide (b ≤ p.2)
def hasB (l : List Sp) (a b : Int) : Bool := mayB l && (vld a b && hasIn l a b)
theorem hasIn_snoc (l : List Sp) (p : Sp) (a b : Int) : hasIn (l ++ [p]) a b = (hasIn l a b || (decide (p.1 ≤ a) && decide (b ≤ p.2))) := by unfold hasIn; simp
theorem hasIn_cut {l : List Sp} {k : Nat} {a b : Int} (h : hasIn (l.take k) a b = true) : hasIn l a b = true := by
 have e : l = l.take k ++ l.drop k := (List.take_append_drop _ _).symm
 unfold hasIn at *
 rw [e, List.any_append, h]; rfl
theorem mayB_parts {l : List Sp} (h : mayB l = true) : l.length ≤ 1000 ∧ chain (-1) l = true := by unfold mayB at h; simpa using h
end Go.Proofs.YtbijhkhkigdddaaGreat
