/- Rows of elements of any kind: what a slice of structs reads as, and rows of the call's own. No program. -/
import Derived.WalkKit
import Derived.WalkSpells
import Derived.Lib.Hide
import Derived.Below
import Derived.Maps.AppendAt
import Derived.Laws.AppendOwnNone
import Derived.OwnWalkIn
import Derived.Test.YtmclffbjdkoneaaBx
namespace Go.Proofs.Ytmclffbjdkoneaa
open Go.RowKit
set_option linter.unusedVariables false
set_option linter.unusedSimpArgs false

/-- how an element lies in memory -/
class El (α : Type) where
  k : Nat
  pos : 0 < k
  cells : α → List Value
  len : ∀ x, (cells x).length = k
  one : ∀ x, ∀ u ∈ cells x, u.oneCell' = true
  dft : α
  ok : α → Prop

section
variable {α : Type} [El α]
def ge (l : List α) (i : Nat) : α := l.getD i El.dft
def evals (l : List α) : List Value := l.flatMap El.cells
theorem ge_eq {l : List α} {i : Nat} (h : i < l.length) : ge l i = l[i] := by unfold ge; rw [List.getD_eq_getElem?_getD, List.getElem?_eq_getElem h]; rfl
theorem ge_take {l : List α} {k i : Nat} (h : i < k) : ge (l.take k) i = ge l i := by
  unfold ge; rw [List.getD_eq_getElem?_getD, List.getElem?_take, if_pos h, List.getD_eq_getElem?_getD]
theorem ge_drop (l : List α) (k i : Nat) : ge (l.drop k) i = ge l (k + i) := by
  unfold ge; rw [List.getD_eq_getElem?_getD, List.getElem?_drop, List.getD_eq_getElem?_getD]
theorem ge_app {a b : List α} {i : Nat} (h : i < a.length) : ge (a ++ b) i = ge a i := by
  unfold ge; rw [List.getD_eq_getElem?_getD, List.getElem?_append_left h, List.getD_eq_getElem?_getD]
theorem ge_snoc (a : List α) (x : α) : ge (a ++ [x]) a.length = x := by
  unfold ge; rw [List.getD_eq_getElem?_getD, List.getElem?_append_right (Nat.le_refl _)]; simp
theorem ge_set {l : List α} {i j : Nat} {y : α} (h : i < l.length) : ge (l.set i y) j = if i = j then y else ge l j := by
  unfold ge
  rw [List.getD_eq_getElem?_getD, List.getElem?_set]
  split
  · next e => subst e; simp [h]
  · rw [List.getD_eq_getElem?_getD]
theorem take_ge {l : List α} {k : Nat} (h : k < l.length) : l.take (k + 1) = l.take k ++ [ge l k] := by
  rw [List.take_succ_eq_append_getElem h, ge_eq h]
theorem drop_ge {l : List α} {k : Nat} (h : k < l.length) : l.drop k = ge l k :: l.drop (k + 1) := by
  rw [ge_eq h]; exact List.drop_eq_getElem_cons h
theorem ge_mem {l : List α} {i : Nat} (h : i < l.length) : ge l i ∈ l := by rw [ge_eq h]; exact List.getElem_mem h
theorem ge_ext {a b : List α} (h : a.length = b.length) (he : ∀ i, i < a.length → ge a i = ge b i) : a = b := by
  apply List.ext_getElem h
  intro i h1 h2
  have := he i h1
  rwa [ge_eq h1, ge_eq h2] at this

theorem evals_nil : evals ([] : List α) = [] := rfl
theorem evals_cons (p : α) (t : List α) : evals (p :: t) = El.cells p ++ evals t := rfl
theorem evals_app (a b : List α) : evals (a ++ b) = evals a ++ evals b := by unfold evals; rw [List.flatMap_append]
theorem evals_one (x : α) : evals [x] = El.cells x := by unfold evals; simp
theorem evals_length (l : List α) : (evals l).length = l.length * El.k α := by
  induction l with
  | nil => simp [evals]
  | cons p t ih => rw [evals_cons, List.length_append, El.len, ih, List.length_cons, Nat.succ_mul]; omega
theorem evals_at : ∀ (l : List α) (i j : Nat) (u : Value), i < l.length → (El.cells (ge l i))[j]? = some u → (evals l)[i * El.k α + j]? = some u := by
  intro l
  induction l with
  | nil => intro i j u hi; simp at hi
  | cons p t ih =>
    intro i j u hi hu
    have hj : j < El.k α := by
      have := (List.getElem?_eq_some_iff.1 hu).1
      rwa [El.len] at this
    rw [evals_cons]
    cases i with
    | zero => rw [Nat.zero_mul, Nat.zero_add, List.getElem?_append_left (by rw [El.len]; exact hj)]; exact hu
    | succ i =>
      rw [List.getElem?_append_right (by rw [El.len, Nat.succ_mul]; omega), El.len, show (i + 1) * El.k α + j - El.k α = i * El.k α + j by rw [Nat.succ_mul]; omega]
      exact ih i j u (by simpa using hi) hu
theorem evals_cell (l : List α) : ∀ u ∈ evals l, u.oneCell' = true := by
  intro u hu
  unfold evals at hu
  obtain ⟨p, _, hp⟩ := List.mem_flatMap.1 hu
  exact El.one p u hp
theorem evals_set : ∀ (l : List α) (i j : Nat) (u : Value) (y : α), i < l.length → j < El.k α → El.cells y = (El.cells (ge l i)).set j u → evals (l.set i y) = (evals l).set (i * El.k α + j) u := by
  intro l
  induction l with
  | nil => intro i j u y hi; simp at hi
  | cons p t ih =>
    intro i j u y hi hj hy
    cases i with
    | zero =>
      rw [List.set_cons_zero, evals_cons, evals_cons, hy, Nat.zero_mul, Nat.zero_add, List.set_append_left _ _ (by rw [El.len]; exact hj)]
      rfl
    | succ i =>
      rw [List.set_cons_succ, evals_cons, evals_cons, List.set_append_right _ _ (by rw [El.len, Nat.succ_mul]; omega), El.len, show (i + 1) * El.k α + j - El.k α = i * El.k α + j by rw [Nat.succ_mul]; omega]
      rw [ih i j u y (by simpa using hi) hj hy]

def AllOk (l : List α) : Prop := ∀ x ∈ l, El.ok x
theorem AllOk.ge {l : List α} (h : AllOk l) {i : Nat} (hi : i < l.length) : El.ok (ge l i) := h _ (ge_mem hi)
theorem AllOk.app {a b : List α} (h : AllOk a) (k : AllOk b) : AllOk (a ++ b) := fun x hx => (List.mem_append.1 hx).elim (h x) (k x)
theorem AllOk.take {l : List α} (h : AllOk l) (k : Nat) : AllOk (l.take k) := fun x hx => h x (List.mem_of_mem_take hx)
theorem AllOk.drop {l : List α} (h : AllOk l) (k : Nat) : AllOk (l.drop k) := fun x hx => h x (List.mem_of_mem_drop hx)
theorem AllOk.one {x : α} (h : El.ok x) : AllOk [x] := fun p hp => by simp at hp; subst hp; exact h
theorem AllOk.nil : AllOk ([] : List α) := fun p hp => by cases hp
theorem AllOk.set {l : List α} (h : AllOk l) (i : Nat) {y : α} (hy : El.ok y) : AllOk (l.set i y) := fun x hx => (List.mem_or_eq_of_mem_set hx).elim (h x) (fun e => e ▸ hy)

/-- The first n elements from A read as the list l in the world w. -/
structure Re (w : World) (A : Option Addr) (n : Nat) (l : List α) : Prop where
  len : l.length = n
  ok : AllOk l
  at_ : 0 < n → ∃ b o, A = some ⟨b, o, none⟩ ∧ b < w.heap.size ∧ ∀ i, i < n → ∀ j u, (El.cells (ge l i))[j]? = some u → w.cell? ⟨b, o + i * El.k α + j, none⟩ = some u
/-- A slice that reads as l. -/
structure Se (w : World) (A : Option Addr) (n c : Nat) (l : List α) : Prop where
  le : n ≤ c
  max : c ≤ maxLen
  nil : A = none → c = 0
  rd : Re w A n l

variable {w w' : World} {A : Option Addr} {n : Nat} {l : List α}
theorem Re.keep_of {B : Nat} (h : Re w A n l) (hb : Below B w w') (hlt : ∀ b o, A = some ⟨b, o, none⟩ → 0 < n → b < B) : Re w' A n l :=
  ⟨h.len, h.ok, fun hn => by
    obtain ⟨b, o, e, hl, hc⟩ := h.at_ hn
    exact ⟨b, o, e, Nat.lt_of_lt_of_le hl hb.size, fun i hi j u hu => (hb.cell (p := ⟨b, o + i * El.k α + j, none⟩) (hlt b o e hn)).trans (hc i hi j u hu)⟩⟩
theorem Re.keep (h : Re w A n l) (hb : Below w.heap.size w w') : Re w' A n l :=
  h.keep_of hb (fun b o e hn => by obtain ⟨b', o', e', hl, _⟩ := h.at_ hn; rw [e] at e'; cases e'; exact hl)
theorem Re.alloc (h : Re w A n l) (o : Obj) : Re (w.alloc o) A n l := h.keep ((Below.refl _ _).alloc (Nat.le_refl _) o)
theorem Re.drew (h : Re w A n l) : Re w.drew A n l := h.keep (Below.refl _ _).drew
theorem Re.empty (w : World) (A : Option Addr) : Re w A 0 ([] : List α) := ⟨rfl, AllOk.nil, fun hn => absurd hn (by omega)⟩
theorem Re.take {k : Nat} (h : Re w A n l) (hk : k ≤ n) : Re w A k (l.take k) :=
  ⟨by rw [List.length_take, h.len]; omega, h.ok.take k, fun h0 => by
    obtain ⟨b, o, e, hl, hc⟩ := h.at_ (by omega)
    exact ⟨b, o, e, hl, fun i hi => by rw [ge_take hi]; exact hc i (by omega)⟩⟩
/-- the address behind a cut of the first k elements of a slice of capacity c -/
def cutE (s : Nat) (A : Option Addr) (k c : Nat) : Option Addr := if c = k then A else A.map (·.add (k * s))
theorem Re.cut {k m c : Nat} (h : Re w A n l) (hn : n = m + k) (hc : n ≤ c) : Re w (cutE (El.k α) A k c) m (l.drop k) :=
  ⟨by rw [List.length_drop, h.len]; omega, h.ok.drop k, fun h0 => by
    obtain ⟨b, o, e, hl, hcl⟩ := h.at_ (by omega)
    refine ⟨b, o + k * El.k α, ?_, hl, fun i hi j u hu => ?_⟩
    · unfold cutE; rw [if_neg (by omega), e]; simp only [Option.map_some, Addr.add]
      split <;> simp_all
    · rw [ge_drop] at hu
      have := hcl (k + i) (by omega) j u hu
      rw [show o + k * El.k α + i * El.k α = o + (k + i) * El.k α by rw [Nat.add_mul]; omega]
      exact this⟩

theorem Se.keep {c : Nat} (h : Se w A n c l) (hb : Below w.heap.size w w') : Se w' A n c l := ⟨h.le, h.max, h.nil, h.rd.keep hb⟩
theorem Se.alloc {c : Nat} (h : Se w A n c l) (o : Obj) : Se (w.alloc o) A n c l := ⟨h.le, h.max, h.nil, h.rd.alloc o⟩
theorem Se.drew {c : Nat} (h : Se w A n c l) : Se w.drew A n c l := ⟨h.le, h.max, h.nil, h.rd.drew⟩
theorem Se.head {k c : Nat} (h : Se w A n c l) (hk : k ≤ n) : Se w A k c (l.take k) := ⟨by have := h.le; omega, h.max, h.nil, h.rd.take hk⟩
theorem Se.none (w : World) : Se w none 0 0 ([] : List α) := ⟨Nat.le_refl _, Nat.zero_le _, fun _ => rfl, Re.empty _ _⟩
theorem Se.cut {k m c d : Nat} (h : Se w A n c l) (hn : n = m + k) (hc : c = d + k) : Se w (cutE (El.k α) A k c) m d (l.drop k) := by
  have hn' := h.nil
  have hle := h.le
  have hmx := h.max
  refine ⟨by omega, by omega, ?_, h.rd.cut hn h.le⟩
  intro e
  unfold cutE at e
  split at e
  · have := hn' e; omega
  · cases A with
    | none => have := hn' rfl; omega
    | some a => cases e
/-- a block of one element of the call's own -/
theorem se_one (w : World) {x : α} (hx : El.ok x) (t : TypeId) : Se (w.alloc (.cells (El.cells x).toArray t)) (some ⟨w.heap.size, 0, none⟩) 1 1 [x] :=
  ⟨Nat.le_refl _, by unfold maxLen; omega, (fun e => by cases e), rfl, AllOk.one hx, fun _ => ⟨w.heap.size, 0, rfl, by simp, fun i hi j u hu => by
    obtain rfl : i = 0 := by omega
    have hu' : (El.cells x)[j]? = some u := hu
    simp only [Nat.zero_mul, Nat.zero_add]
    exact (Bx.new w t (El.cells x)).cell j hu'⟩⟩

/-- a slice whose row lies at or beyond base -/
structure Sne (w : World) (base : Nat) (G : Option Addr) (m d : Nat) (l : List α) : Prop where
  se : Se w G m d l
  at_ : ∀ b o s, G = some ⟨b, o, s⟩ → base ≤ b
theorem Sne.none (w : World) (base : Nat) : Sne w base .none 0 0 ([] : List α) := ⟨Se.none w, fun _ _ _ e => by cases e⟩
theorem Sne.mono {base base' : Nat} {G : Option Addr} {m d : Nat} (h : Sne w base G m d l) (hb : base' ≤ base) : Sne w base' G m d l := ⟨h.se, fun b o s e => Nat.le_trans hb (h.at_ b o s e)⟩
theorem Sne.keep {base : Nat} {G : Option Addr} {m d : Nat} (h : Sne w base G m d l) (hb : Below w.heap.size w w') : Sne w' base G m d l := ⟨h.se.keep hb, h.at_⟩
theorem Sne.head {base : Nat} {G : Option Addr} {m d k : Nat} (h : Sne w base G m d l) (hk : k ≤ m) : Sne w base G k d (l.take k) := ⟨h.se.head hk, h.at_⟩
/-- what is stored in a block below the base changes no such list -/
theorem Sne.grown {base B : Nat} {G : Option Addr} {m d : Nat} (h : Sne w base G m d l) (hg : w.grownBy w' (some B)) (hB : B < base) : Sne w' base G m d l := by
  refine ⟨⟨h.se.le, h.se.max, h.se.nil, h.se.rd.len, h.se.rd.ok, fun h0 => ?_⟩, h.at_⟩
  obtain ⟨b, o, e, hlt, hc⟩ := h.se.rd.at_ h0
  have hge := h.at_ b o _ e
  have hh := hg.block b hlt (by intro e; cases e; omega)
  refine ⟨b, o, e, Nat.lt_of_lt_of_le hlt hg.size, fun i hi j u hu => ?_⟩
  rw [← hc i hi j u hu]
  exact World.cell?_of_block (w := w) hh

/-- A row of the call's own whose elements are l. -/
structure Goe (w : World) (base e : Nat) (v : Value) (n : Nat) (l : List α) : Prop where
  row : w.ownsRow base e (El.k α) v n (evals l)
  ok : AllOk l
theorem Goe.len {base e : Nat} {v : Value} (h : Goe w base e v n l) : l.length = n := by
  have := h.row.1; rw [evals_length] at this; exact Nat.eq_of_mul_eq_mul_right (El.pos (α := α)) this
theorem Goe.none (w : World) (base e : Nat) : Goe w base e (.slice .none 0 0) 0 ([] : List α) := ⟨World.ownsRow_nil _ _ _ _, AllOk.nil⟩
theorem Goe.se {base e : Nat} {v : Value} (h : Goe w base e v n l) : ∃ A c, v = .slice A n c ∧ Se w A n c l := by
  have hlen := h.len
  rcases h.row.2 with ⟨rfl, rfl⟩ | ⟨g, cap, cur, rfl, hg, hh, hnc, hcm, hcs, htake⟩
  · exact ⟨_, 0, rfl, Nat.le_refl _, Nat.zero_le _, fun _ => rfl, hlen, h.ok, fun h0 => by omega⟩
  · refine ⟨some ⟨g, 0, .none⟩, cap, rfl, hnc, hcm, (fun e => by cases e), hlen, h.ok, fun h0 => ⟨g, 0, rfl, ?_, fun i hi j u hu => ?_⟩⟩
    · rcases Nat.lt_or_ge g w.heap.size with hlt | hge
      · exact hlt
      · rw [Array.getElem?_eq_none hge] at hh; cases hh
    · have hj : j < El.k α := by
        have := (List.getElem?_eq_some_iff.1 hu).1
        rwa [El.len] at this
      have hv := evals_at l i j u (by omega) hu
      have hb : i * El.k α + j < n * El.k α := by
        have := Nat.mul_le_mul_right (El.k α) (show i + 1 ≤ n by omega)
        rw [Nat.succ_mul] at this; omega
      have h1 := h.row.cellAt (i * El.k α + j) hb
      rw [Nat.zero_add]
      exact h1.trans hv
theorem Goe.sne {base e : Nat} {v : Value} (h : Goe w base e v n l) : ∃ A c, v = .slice A n c ∧ Sne w base A n c l := by
  obtain ⟨A, c, ev, hs⟩ := h.se
  subst ev
  refine ⟨A, c, rfl, hs, fun b o s ea => ?_⟩
  subst ea
  rcases h.row.2 with ⟨h1, _⟩ | ⟨g, cap, cur, h1, hg, _⟩
  · cases h1
  · cases h1; exact hg
theorem Goe.keep {base e : Nat} {v : Value} (h : Goe w base e v n l) (hf : w.grownBy w' .none) : Goe w' base e v n l :=
  ⟨h.row.kept hf (by rcases hv : v.ownBlock with _ | k <;> simp), h.ok⟩
theorem Goe.alloc {base e : Nat} {v : Value} (h : Goe w base e v n l) (o : Obj) : Goe (w.alloc o) base e v n l := ⟨h.row.alloc o, h.ok⟩
theorem Goe.drew {base e : Nat} {v : Value} (h : Goe w base e v n l) : Goe w.drew base e v n l := ⟨h.row, h.ok⟩
/-- a field of one element is stored -/
theorem Goe.set {base e g cap : Nat} (h : Goe w base e (.slice (some ⟨g, 0, .none⟩) n cap) n l) {i j : Nat} {u : Value} {y : α} (hi : i < n) (hj : j < El.k α) (hy : El.cells y = (El.cells (ge l i)).set j u) (hok : El.ok y) :
    Goe (w.setCell ⟨g, i * El.k α + j, .none⟩ u) base e (.slice (some ⟨g, 0, .none⟩) n cap) n (l.set i y) ∧ w.grownBy (w.setCell ⟨g, i * El.k α + j, .none⟩ u) (some g) := by
  have hs := h.row.stored (i * El.k α + j) u
  refine ⟨⟨?_, h.ok.set i hok⟩, hs.2⟩
  rw [evals_set l i j u y (by rw [h.len]; exact hi) hj hy]
  exact hs.1
theorem Goe.below {base e : Nat} {v : Value} (h : Goe w base e v n l) (hb : Below w.heap.size w w') : Goe w' base e v n l := by
  refine ⟨?_, h.ok⟩
  refine ⟨h.row.1, ?_⟩
  rcases h.row.2 with h1 | ⟨g, cap, cur, e1, e2, e3, e4⟩
  · exact .inl h1
  · exact .inr ⟨g, cap, cur, e1, e2, (hb.block g (Array.getElem?_eq_some_iff.1 e3).1).trans e3, e4⟩

/-- the cells of a row that a list literal lays, or that another slice has -/
theorem news_of_re {b o : Nat} (hlen : l.length = n) (hc : ∀ i, i < n → ∀ j u, (El.cells (ge l i))[j]? = some u → w.cell? ⟨b, o + i * El.k α + j, none⟩ = some u) :
    ∀ j u, (evals l)[j]? = some u → w.cell? ((⟨b, o, none⟩ : Addr).add j) = some u := by
  intro j u hj
  have hlt : j < l.length * El.k α := by rw [← evals_length]; exact (List.getElem?_eq_some_iff.1 hj).1
  have hadd : (⟨b, o, none⟩ : Addr).add j = ⟨b, o + j, none⟩ := by
    unfold Addr.add
    split
    · next h => subst h; rfl
    · rfl
  rw [hadd]
  have hk := El.pos (α := α)
  have hi : j / El.k α < l.length := Nat.div_lt_of_lt_mul (by rw [Nat.mul_comm]; exact hlt)
  have hjm : j % El.k α < El.k α := Nat.mod_lt _ hk
  have hsplit : j / El.k α * El.k α + j % El.k α = j := by rw [Nat.mul_comm]; exact Nat.div_add_mod j _
  obtain ⟨v, hv⟩ : ∃ v, (El.cells (ge l (j / El.k α)))[j % El.k α]? = some v := ⟨_, List.getElem?_eq_getElem (by rw [El.len]; exact hjm)⟩
  have h1 := evals_at l _ _ v hi hv
  rw [hsplit, hj] at h1
  cases h1
  have := hc _ (by omega) _ u hv
  rwa [Nat.add_assoc, hsplit] at this

/-- append onto a row of the call's own; the source as Re reads it, nil or not -/
theorem wpList_appe {P : Program} (w : World) {A : Option Addr} {m c : Nat} {l : List α} {ops : Array Oper} {rest : List Oper} {o : Oper} {a : Act} {Q : Exit → Act → World → Prop} (hgd : o.guard = .none) (s x : Operand) (t : TypeId)
    (ho : o.op = .call { callee := .builtin .append, args := #[s, x], argTypes := #[t, t] })
    (base : Nat) (e : TypeId) (ht : P.underlying t = some (.slice e)) (z : Value) (bytes : Nat) (hinfo : (P.info? e).map (fun i => (i.zero, i.size, i.bytes)) = some (some z, El.k α, bytes)) (hzs : z.cells.size = El.k α)
    (v : Value) (n : Nat) (xs : List α) (hs : a.eval s = v) (hown : Goe w base e v n xs)
    (hx : a.eval x = .slice A m c) (hA : A = .none → c = 0) (hr : Re w A m l) (hmax : n + m ≤ maxLen) (hsum : (n + m) * bytes ≤ 140737488355328) (hbase : base ≤ w.heap.size)
    (h : ∀ v' w', Goe w' base e v' (n + m) (xs ++ l) → w.grownBy w' v.ownBlock → (v'.ownBlock = v.ownBlock ∨ v'.ownBlock = some w.heap.size) → wpList P ops Q rest (a.put o.dst v') w') :
    wpList P ops Q (o :: rest) a w := by
  obtain ⟨i0, hi, hz0, hz1, hz2⟩ := info_parts hinfo
  cases A with
  | none =>
    have hc0 := hA rfl
    have hm0 : m = 0 := by
      rcases Nat.eq_zero_or_pos m with h0 | h0
      · exact h0
      · obtain ⟨b, o', e', _⟩ := hr.at_ h0; cases e'
    subst hm0 hc0
    have hl0 : l = [] := List.eq_nil_of_length_eq_zero hr.len
    subst hl0
    exact wpList_append_own_none hgd s x t ho base e i0 (El.k α) ht hi v n _ hs hown.row hx (h v w (by simpa using hown) (World.grownBy.refl w _) (.inl rfl))
  | some ad =>
    refine wpList_append_own_at w hgd s x t ho base e i0 z (El.k α) bytes ht hi hz0 hz1 hz2 hzs (El.pos (α := α)) v n _ hs hown.row ad m c (evals l) hx (by rw [evals_length, hr.len]) ?_ (evals_cell l) hmax hsum hbase (fun v' w' h1 h2 _ h4 => h v' w' ⟨by rw [evals_app]; exact h1, hown.ok.app hr.ok⟩ h2 h4)
    rcases Nat.eq_zero_or_pos m with h0 | h0
    · subst h0
      have hl0 : l = [] := List.eq_nil_of_length_eq_zero hr.len
      subst hl0
      intro j u hj; simp [evals] at hj
    · obtain ⟨b, o', e', _, hc⟩ := hr.at_ h0
      cases e'
      exact news_of_re hr.len hc
end
end Go.Proofs.Ytmclffbjdkoneaa
