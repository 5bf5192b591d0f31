/- The texts Sp, SpPure, SpAns, SpMath, SpLawP, Ck, Wv, WvPut. -/
import Derived.Below
import Derived.Laws.AppendOwnNone
import Derived.Lib.Hide
import Derived.Maps.AppendAt
import Derived.OwnWalkIn
import Derived.Test.YtggnhccpncgfiaaProg
import Derived.WalkKit
import Derived.WalkSpells
set_option linter.all false
namespace Go.Proofs.Ytggnhccpncgfiaa
open Go.RowKit
abbrev Sp := Int × Int
def sp (l : List Sp) (i : Nat) : Sp := l.getD i (0, 0)
def W64 (x : Int) : Prop := -9223372036854775808 ≤ x ∧ x ≤ 9223372036854775807
def Wide (l : List Sp) : Prop := ∀ p ∈ l, W64 p.1 ∧ W64 p.2
/-- the cells of a list -/
def vals (l : List Sp) : List Value := l.flatMap fun p => [.int .i64 p.1, .int .i64 p.2]
theorem sp_eq {l : List Sp} {i : Nat} (h : i < l.length) : sp l i = l[i] := by unfold sp; rw [List.getD_eq_getElem?_getD, List.getElem?_eq_getElem h]; rfl
theorem take_sp {l : List Sp} {k : Nat} (h : k < l.length) : l.take (k + 1) = l.take k ++ [sp l k] := by
  rw [List.take_succ_eq_append_getElem h, sp_eq h]
theorem drop_sp {l : List Sp} {k : Nat} (h : k < l.length) : l.drop k = sp l k :: l.drop (k + 1) := by
  rw [sp_eq h]; exact List.drop_eq_getElem_cons h
theorem sp_drop (l : List Sp) (k i : Nat) : sp (l.drop k) i = sp l (k + i) := by
  unfold sp; rw [List.getD_eq_getElem?_getD, List.getElem?_drop, List.getD_eq_getElem?_getD]
theorem sp_take {l : List Sp} {k i : Nat} (h : i < k) : sp (l.take k) i = sp l i := by
  unfold sp; rw [List.getD_eq_getElem?_getD, List.getElem?_take, if_pos h, List.getD_eq_getElem?_getD]
theorem wide_app {a b : List Sp} (h : Wide a) (k : Wide b) : Wide (a ++ b) := fun x hx => (List.mem_append.1 hx).elim (h x) (k x)
theorem wide_drop {l : List Sp} (h : Wide l) (k : Nat) : Wide (l.drop k) := fun x hx => h x (List.mem_of_mem_drop hx)
theorem wide_take {l : List Sp} (h : Wide l) (k : Nat) : Wide (l.take k) := fun x hx => h x (List.mem_of_mem_take hx)
theorem wide_one {x y : Int} (h : W64 x) (k : W64 y) : Wide [(x, y)] := fun p hp => by simp at hp; subst hp; exact ⟨h, k⟩
theorem sp_ext {a b : List Sp} (h : a.length = b.length) (he : ∀ i, i < a.length → sp a i = sp b i) : a = b := by
  apply List.ext_getElem h
  intro i h1 h2
  have := he i h1
  rwa [sp_eq h1, sp_eq h2] at this
theorem vals_length (l : List Sp) : (vals l).length = l.length * 2 := by
  unfold vals; induction l with
  | nil => rfl
  | cons p t ih => simp only [List.flatMap_cons, List.length_append, List.length_cons, List.length_nil] at *; omega
theorem vals_app (a b : List Sp) : vals (a ++ b) = vals a ++ vals b := by unfold vals; rw [List.flatMap_append]
theorem vals_at (l : List Sp) : ∀ i, i < l.length → (vals l)[i * 2]? = some (.int .i64 (sp l i).1) ∧ (vals l)[i * 2 + 1]? = some (.int .i64 (sp l i).2) := by
  induction l with
  | nil => intro i hi; simp at hi
  | cons p t ih =>
    intro i hi
    have e : vals (p :: t) = .int .i64 p.1 :: .int .i64 p.2 :: vals t := rfl
    cases i with
    | zero => rw [e]; exact ⟨rfl, rfl⟩
    | succ i =>
      have := ih i (by simpa using hi)
      rw [e, show (i + 1) * 2 = i * 2 + 1 + 1 by omega]
      have hs : sp (p :: t) (i + 1) = sp t i := rfl
      rw [hs]
      simpa using this
theorem vals_cell (l : List Sp) : ∀ u ∈ vals l, u.oneCell' = true := by
  intro u hu
  unfold vals at hu
  obtain ⟨p, _, hp⟩ := List.mem_flatMap.1 hu
  simp at hp
  rcases hp with rfl | rfl <;> rfl
/-- The first n elements from A read as the list l in the world w. -/
structure Rs (w : World) (A : Option Addr) (n : Nat) (l : List Sp) : Prop where
  len : l.length = n
  wide : Wide l
  at_ : 0 < n → ∃ b o, A = some ⟨b, o, none⟩ ∧ b < w.heap.size ∧ ∀ i, i < n → w.cell? ⟨b, o + i * 2, none⟩ = some (.int .i64 (sp l i).1) ∧ w.cell? ⟨b, o + i * 2 + 1, none⟩ = some (.int .i64 (sp l i).2)
/-- A slice of spans that reads as l. -/
structure Ss (w : World) (A : Option Addr) (n c : Nat) (l : List Sp) : Prop where
  le : n ≤ c
  max : c ≤ maxLen
  nil : A = none → c = 0
  rd : Rs w A n l
section
variable {w w' : World} {A : Option Addr} {n : Nat} {l : List Sp}
theorem Rs.keep_of {B : Nat} (h : Rs w A n l) (hb : Below B w w') (hlt : ∀ b o, A = some ⟨b, o, none⟩ → 0 < n → b < B) : Rs w' A n l :=
  ⟨h.len, h.wide, fun hn => by
    obtain ⟨b, o, e, hl, hc⟩ := h.at_ hn
    exact ⟨b, o, e, Nat.lt_of_lt_of_le hl hb.size, fun i hi => ⟨(hb.cell (p := ⟨b, o + i * 2, none⟩) (hlt b o e hn)).trans (hc i hi).1, (hb.cell (p := ⟨b, o + i * 2 + 1, none⟩) (hlt b o e hn)).trans (hc i hi).2⟩⟩⟩
theorem Rs.keep (h : Rs w A n l) (hb : Below w.heap.size w w') : Rs w' A n l :=
  h.keep_of hb (fun b o e hn => by obtain ⟨b', o', e', hl, _⟩ := h.at_ hn; rw [e] at e'; cases e'; exact hl)
theorem Rs.alloc (h : Rs w A n l) (o : Obj) : Rs (w.alloc o) A n l := h.keep ((Below.refl _ _).alloc (Nat.le_refl _) o)
theorem Rs.empty (w : World) (A : Option Addr) : Rs w A 0 [] := ⟨rfl, fun _ hx => by simp at hx, fun hn => absurd hn (by omega)⟩
theorem Rs.take {k : Nat} (h : Rs w A n l) (hk : k ≤ n) : Rs w A k (l.take k) :=
  ⟨by rw [List.length_take, h.len]; omega, wide_take h.wide k, fun h0 => by
    obtain ⟨b, o, e, hl, hc⟩ := h.at_ (by omega)
    exact ⟨b, o, e, hl, fun i hi => by rw [sp_take hi]; exact hc i (by omega)⟩⟩
/-- the address behind a cut of the first k elements of a slice of capacity c -/
def cutS (A : Option Addr) (k c : Nat) : Option Addr := if c = k then A else A.map (·.add (k * 2))
theorem Rs.cut {k m c : Nat} (h : Rs w A n l) (hn : n = m + k) (hc : n ≤ c) : Rs w (cutS A k c) m (l.drop k) :=
  ⟨by rw [List.length_drop, h.len]; omega, wide_drop h.wide k, fun h0 => by
    obtain ⟨b, o, e, hl, hcl⟩ := h.at_ (by omega)
    refine ⟨b, o + k * 2, ?_, hl, fun i hi => ?_⟩
    · unfold cutS; rw [if_neg (by omega), e]; simp only [Option.map_some, Addr.add]
      split <;> simp_all
    · have := hcl (k + i) (by omega)
      rw [sp_drop, show o + k * 2 + i * 2 = o + (k + i) * 2 by omega]
      exact this⟩
theorem Ss.keep {c : Nat} (h : Ss w A n c l) (hb : Below w.heap.size w w') : Ss w' A n c l := ⟨h.le, h.max, h.nil, h.rd.keep hb⟩
theorem Ss.alloc {c : Nat} (h : Ss w A n c l) (o : Obj) : Ss (w.alloc o) A n c l := ⟨h.le, h.max, h.nil, h.rd.alloc o⟩
theorem Ss.cut {k m c d : Nat} (h : Ss w A n c l) (hn : n = m + k) (hc : c = d + k) : Ss w (cutS A k c) m d (l.drop k) := by
  have hn' := h.nil
  have hle := h.le
  have hmx := h.max
  refine ⟨by omega, by omega, ?_, h.rd.cut hn h.le⟩
  intro e
  unfold cutS at e
  split at e
  · have := hn' e; omega
  · cases A with
    | none => have := hn' rfl; omega
    | some a => cases e
theorem Ss.head {k c : Nat} (h : Ss w A n c l) (hk : k ≤ n) : Ss w A k c (l.take k) := ⟨by have := h.le; omega, h.max, h.nil, h.rd.take hk⟩
theorem Ss.none (w : World) : Ss w none 0 0 [] := ⟨Nat.le_refl _, Nat.zero_le _, fun _ => rfl, Rs.empty _ _⟩
/-- A row of the call's own whose elements are l. -/
structure Gots (w : World) (base e : Nat) (v : Value) (n : Nat) (l : List Sp) : Prop where
  row : w.ownsRow base e 2 v n (vals l)
  wide : Wide l
theorem Gots.len {base e : Nat} {v : Value} (h : Gots w base e v n l) : l.length = n := by
  have := h.row.1; rw [vals_length] at this; omega
theorem Gots.ss {base e : Nat} {v : Value} (h : Gots w base e v n l) : ∃ A c, v = .slice A n c ∧ Ss w A n c l := by
  have hlen := h.len
  rcases h.row.2 with ⟨rfl, rfl⟩ | ⟨g, cap, cur, rfl, hg, hh, hnc, hcm, hcs, htake⟩
  · exact ⟨_, 0, rfl, Nat.le_refl _, Nat.zero_le _, fun _ => rfl, hlen, h.wide, fun h0 => by omega⟩
  · refine ⟨some ⟨g, 0, .none⟩, cap, rfl, hnc, hcm, (fun e => by cases e), hlen, h.wide, fun h0 => ⟨g, 0, rfl, ?_, fun i hi => ?_⟩⟩
    · rcases Nat.lt_or_ge g w.heap.size with hlt | hge
      · exact hlt
      · rw [Array.getElem?_eq_none hge] at hh; cases hh
    · have hv := vals_at l i (by omega)
      have h1 := h.row.cellAt (i * 2) (by omega)
      have h2 := h.row.cellAt (i * 2 + 1) (by omega)
      rw [Nat.zero_add]
      exact ⟨h1.trans hv.1, h2.trans hv.2⟩
/-- the cells of a row that a list literal lays -/
theorem news_of_rs {b o : Nat} (hlen : l.length = n) (hc : ∀ i, i < n → w.cell? ⟨b, o + i * 2, none⟩ = some (.int .i64 (sp l i).1) ∧ w.cell? ⟨b, o + i * 2 + 1, none⟩ = some (.int .i64 (sp l i).2)) :
    ∀ j u, (vals l)[j]? = some u → w.cell? ((⟨b, o, none⟩ : Addr).add j) = some u := by
  intro j u hj
  have hlt : j < l.length * 2 := by rw [← vals_length]; exact (List.getElem?_eq_some_iff.1 hj).1
  have hadd : (⟨b, o, none⟩ : Addr).add j = ⟨b, o + j, none⟩ := by
    unfold Addr.add
    split
    · next h => subst h; rfl
    · rfl
  rw [hadd]
  have hv := vals_at l (j / 2) (by omega)
  have hcc := hc (j / 2) (by omega)
  rcases Nat.mod_two_eq_zero_or_one j with h0 | h1
  · rw [show j = j / 2 * 2 by omega] at hj ⊢
    rw [hv.1] at hj; cases hj; exact hcc.1
  · rw [show j = j / 2 * 2 + 1 by omega] at hj ⊢
    rw [hv.2] at hj; cases hj; rw [← Nat.add_assoc]; exact hcc.2
/-- append onto a row of the call's own; the source as Rs reads it, nil or not -/
theorem wpList_apps {P : Program} (w : World) {A : Option Addr} {m c : Nat} {l : List Sp} {ops : Array Oper} {rest : List Oper} {o : Oper} {a : Act} {Q : Exit → Act → World → Prop} (hgd : o.guard = .none) (s x : Operand) (t : TypeId)
    (ho : o.op = .call { callee := .builtin .append, args := #[s, x], argTypes := #[t, t] })
    (base : Nat) (e : TypeId) (ht : P.underlying t = some (.slice e)) (hinfo : (P.info? e).map (fun i => (i.zero, i.size, i.bytes)) = some (some (.agg #[.int .i64 0, .int .i64 0]), 2, 16))
    (v : Value) (n : Nat) (xs : List Sp) (hs : a.eval s = v) (hown : Gots w base e v n xs)
    (hx : a.eval x = .slice A m c) (hA : A = .none → c = 0) (hr : Rs w A m l) (hsum : (n + m) * 16 ≤ 140737488355328) (hbase : base ≤ w.heap.size)
    (h : ∀ v' w', Gots w' base e v' (n + m) (xs ++ l) → w.grownBy w' v.ownBlock → (v'.ownBlock = v.ownBlock ∨ v'.ownBlock = some w.heap.size) → wpList P ops Q rest (a.put o.dst v') w') :
    wpList P ops Q (o :: rest) a w := by
  obtain ⟨i0, hi, hz0, hz1, hz2⟩ := info_parts hinfo
  cases A with
  | none =>
    have hc0 := hA rfl
    have hm0 : m = 0 := by
      rcases Nat.eq_zero_or_pos m with h0 | h0
      · exact h0
      · obtain ⟨b, o', e', _⟩ := hr.at_ h0; cases e'
    subst hm0 hc0
    have hl0 : l = [] := List.eq_nil_of_length_eq_zero hr.len
    subst hl0
    exact wpList_append_own_none hgd s x t ho base e i0 2 ht hi v n _ hs hown.row hx (h v w (by simpa using hown) (World.grownBy.refl w _) (.inl rfl))
  | some ad =>
    refine wpList_append_own_at w hgd s x t ho base e i0 (.agg #[.int .i64 0, .int .i64 0]) 2 16 ht hi hz0 hz1 hz2 rfl (by omega) v n _ hs hown.row ad m c (vals l) hx (by rw [vals_length, hr.len]) ?_ (vals_cell l) (by unfold maxLen; omega) (by omega) hbase (fun v' w' h1 h2 _ h4 => h v' w' ⟨by rw [vals_app]; exact h1, wide_app hown.wide hr.wide⟩ h2 h4)
    rcases Nat.eq_zero_or_pos m with h0 | h0
    · subst h0
      have hl0 : l = [] := List.eq_nil_of_length_eq_zero hr.len
      subst hl0
      intro j u hj; simp [vals] at hj
    · obtain ⟨b, o', e', _, hc⟩ := hr.at_ h0
      cases e'
      exact news_of_rs hr.len hc
end
end Go.Proofs.Ytggnhccpncgfiaa
namespace Go.Proofs.Ytggnhccpncgfiaa
/-- may a span be? -/
def vld (a b : Int) : Bool := decide (0 ≤ a) && (decide (a < b) && decide (b ≤ 4611686018427387904))
/-- a list whose spans may be, each beginning behind the end of the one before, the first behind d -/
def chain : Int → List Sp → Bool
  | _, [] => true
  | d, p :: t => decide (d < p.1) && (vld p.1 p.2 && chain p.2 t)
def lastOf (d : Int) (l : List Sp) : Int := l.foldl (fun _ p => p.2) d
def mayB (l : List Sp) : Bool := decide (l.length ≤ 1000) && chain (-1) l
theorem vld_iff {a b : Int} : vld a b = true ↔ 0 ≤ a ∧ a < b ∧ b ≤ 4611686018427387904 := by unfold vld; simp
theorem lastOf_nil (d : Int) : lastOf d [] = d := rfl
theorem lastOf_snoc (d : Int) (l : List Sp) (p : Sp) : lastOf d (l ++ [p]) = p.2 := by unfold lastOf; simp
theorem chain_app (d : Int) (a b : List Sp) : chain d (a ++ b) = (chain d a && chain (lastOf d a) b) := by
  induction a generalizing d with
  | nil => simp [chain, lastOf]
  | cons p t ih =>
    have : lastOf d (p :: t) = lastOf p.2 t := rfl
    rw [List.cons_append, this]
    simp only [chain, ih, Bool.and_assoc]
theorem chain_snoc (d : Int) (a : List Sp) (p : Sp) : chain d (a ++ [p]) = (chain d a && (decide (lastOf d a < p.1) && vld p.1 p.2)) := by
  rw [chain_app]; simp [chain]
/-- the sum of the sizes -/
def size (l : List Sp) : Int := l.foldl (fun n p => n + (p.2 - p.1)) 0
theorem foldl_add (l : List Sp) (n : Int) : l.foldl (fun n p => n + (p.2 - p.1)) n = n + size l := by
  unfold size
  induction l generalizing n with
  | nil => simp
  | cons p t ih => simp only [List.foldl_cons]; rw [ih (n + _), ih (0 + _)]; omega
theorem size_nil : size [] = 0 := rfl
theorem size_cons (p : Sp) (t : List Sp) : size (p :: t) = p.2 - p.1 + size t := by
  show List.foldl _ (0 + (p.2 - p.1)) t = _
  rw [foldl_add]; omega
theorem chain_bd {d : Int} {l : List Sp} (h : chain d l = true) (hd : d ≤ 4611686018427387904) : lastOf d l ≤ 4611686018427387904 ∧ (-1 ≤ d → 0 ≤ size l ∧ size l ≤ lastOf d l - d) := by
  induction l generalizing d with
  | nil => rw [lastOf_nil, size_nil]; omega
  | cons p t ih =>
    simp only [chain, Bool.and_eq_true, decide_eq_true_eq] at h
    obtain ⟨h1, h2, h3⟩ := h
    have hv := vld_iff.1 h2
    have := ih h3 hv.2.2
    have e : lastOf d (p :: t) = lastOf p.2 t := rfl
    rw [e, size_cons]
    refine ⟨this.1, fun hd' => ?_⟩
    have := this.2 (by omega)
    omega
theorem chain_take {d : Int} {l : List Sp} (h : chain d l = true) (k : Nat) : chain d (l.take k) = true := by
  have e : l = l.take k ++ l.drop k := (List.take_append_drop _ _).symm
  rw [e, chain_app, Bool.and_eq_true] at h
  exact h.1
theorem size_take {l : List Sp} (h : chain (-1) l = true) (k : Nat) : 0 ≤ size (l.take k) ∧ size (l.take k) ≤ 4611686018427387905 := by
  have := chain_bd (chain_take h k) (by omega)
  omega
/-- the number that is told -/
def gapIn : List Sp → Int → Int
  | [], n => n
  | p :: t, n => if p.1 ≤ n ∧ n < p.2 then p.2 else gapIn t n
def gapF (l : List Sp) (n : Int) : Int := if mayB l = true then gapIn l (max n 0) else 0
theorem gapIn_app (a b : List Sp) (n : Int) (h : ∀ p ∈ a, ¬ (p.1 ≤ n ∧ n < p.2)) : gapIn (a ++ b) n = gapIn b n := by
  induction a with
  | nil => rfl
  | cons p t ih =>
    rw [List.cons_append]
    have := h p (by simp)
    rw [gapIn, if_neg this]
    exact ih fun q hq => h q (by simp [hq])
/-- grown: the span, how many lie before, how many are done with -/
def grn (s : Sp) (f b : Nat) : List Sp → Sp × Nat × Nat
  | [] => (s, f, b)
  | p :: t => if p.2 < s.1 then grn s (f + 1) (b + 1) t else if s.2 < p.1 then (s, f, b) else grn (min p.1 s.1, max p.2 s.2) f (b + 1) t
def addL (l : List Sp) (s : Sp) : List Sp := l.take (grn s 0 0 l).2.1 ++ ((grn s 0 0 l).1 :: l.drop (grn s 0 0 l).2.2)
/-- what a span leaves of another one -/
def lft (s p : Sp) : List Sp := (if p.1 < min p.2 s.1 then [(p.1, min p.2 s.1)] else []) ++ (if max p.1 s.2 < p.2 then [(max p.1 s.2, p.2)] else [])
def cutL (l : List Sp) (s : Sp) : List Sp := l.flatMap (lft s)
theorem cutL_snoc (l : List Sp) (s p : Sp) : cutL (l ++ [p]) s = cutL l s ++ lft s p := by unfold cutL; simp
end Go.Proofs.Ytggnhccpncgfiaa
namespace Go.Proofs.Ytggnhccpncgfiaa
theorem mayB_parts {l : List Sp} (h : mayB l = true) : l.length ≤ 1000 ∧ chain (-1) l = true := by unfold mayB at h; simpa using h
/-- what Add and Cut tell -/
def told (ok : Bool) (x : List Sp) : List Sp × Int := if ok = true then (if x.length ≤ 1000 then (x, 0) else ([], 4)) else ([], 1)
def addR (l : List Sp) (s : Sp) : List Sp × Int := told (mayB l && vld s.1 s.2) (addL l s)
def cutR (l : List Sp) (s : Sp) : List Sp × Int := told (mayB l && vld s.1 s.2) (cutL l s)
/-- has a list a number? -/
def inB (l : List Sp) (n : Int) : Bool := l.any fun p => decide (p.1 ≤ n) && decide (n < p.2)
end Go.Proofs.Ytggnhccpncgfiaa
namespace Go.Proofs.Ytggnhccpncgfiaa
/-- is a number in a list? -/
def inL (l : List Sp) (n : Int) : Prop := ∃ p ∈ l, p.1 ≤ n ∧ n < p.2
theorem inL_nil (n : Int) : ¬ inL [] n := fun ⟨_, h, _⟩ => by cases h
theorem inL_cons (p : Sp) (t : List Sp) (n : Int) : inL (p :: t) n ↔ (p.1 ≤ n ∧ n < p.2) ∨ inL t n := by
  unfold inL; simp
theorem inL_app (a b : List Sp) (n : Int) : inL (a ++ b) n ↔ inL a n ∨ inL b n := by
  unfold inL
  constructor
  · rintro ⟨p, hp, h⟩
    rcases List.mem_append.1 hp with h1 | h1
    · exact .inl ⟨p, h1, h⟩
    · exact .inr ⟨p, h1, h⟩
  · rintro (⟨p, hp, h⟩ | ⟨p, hp, h⟩)
    · exact ⟨p, List.mem_append.2 (.inl hp), h⟩
    · exact ⟨p, List.mem_append.2 (.inr hp), h⟩
theorem inB_iff (l : List Sp) (n : Int) : inB l n = true ↔ inL l n := by unfold inB inL; simp
/-- chain, taken apart -/
theorem ch_cons {d : Int} {p : Sp} {t : List Sp} : chain d (p :: t) = true ↔ d < p.1 ∧ (0 ≤ p.1 ∧ p.1 < p.2 ∧ p.2 ≤ 4611686018427387904) ∧ chain p.2 t = true := by
  simp only [chain, Bool.and_eq_true, decide_eq_true_eq, vld_iff]
theorem ch_weak {d e : Int} {l : List Sp} (h : chain d l = true) (he : e ≤ d) : chain e l = true := by
  cases l with
  | nil => rfl
  | cons p t => rw [ch_cons] at *; exact ⟨by omega, h.2⟩
theorem ch_each {d : Int} {l : List Sp} (h : chain d l = true) : ∀ p ∈ l, d < p.1 ∧ 0 ≤ p.1 ∧ p.1 < p.2 ∧ p.2 ≤ 4611686018427387904 := by
  induction l generalizing d with
  | nil => intro p hp; cases hp
  | cons q t ih =>
    rw [ch_cons] at h
    intro p hp
    rcases List.mem_cons.1 hp with rfl | hp
    · exact ⟨h.1, h.2.1⟩
    · have := ih h.2.2 p hp; omega
theorem ch_in {d : Int} {l : List Sp} (h : chain d l = true) {n : Int} (hn : inL l n) : d < n ∧ 0 ≤ n ∧ n < 4611686018427387904 := by
  obtain ⟨p, hp, h1, h2⟩ := hn
  have := ch_each h p hp
  omega
/-- for each set of numbers there is only one list -/
theorem ch_unique {d e : Int} {l m : List Sp} (h : chain d l = true) (k : chain e m = true) (hs : ∀ n, inL l n ↔ inL m n) : l = m := by
  induction l generalizing d e m with
  | nil =>
    cases m with
    | nil => rfl
    | cons q t =>
      rw [ch_cons] at k
      exact absurd ((hs q.1).2 ((inL_cons _ _ _).2 (.inl ⟨Int.le_refl _, k.2.1.2.1⟩))) (inL_nil _)
  | cons p t ih =>
    cases m with
    | nil =>
      rw [ch_cons] at h
      exact absurd ((hs p.1).1 ((inL_cons _ _ _).2 (.inl ⟨Int.le_refl _, h.2.1.2.1⟩))) (inL_nil _)
    | cons q u =>
      have h' := h; have k' := k
      rw [ch_cons] at h k
      obtain ⟨h1, h2, h3⟩ := h
      obtain ⟨k1, k2, k3⟩ := k
      have a1 := (hs p.1).1 ((inL_cons _ _ _).2 (.inl ⟨Int.le_refl _, h2.2.1⟩))
      have a2 := (hs q.1).2 ((inL_cons _ _ _).2 (.inl ⟨Int.le_refl _, k2.2.1⟩))
      have b1 : q.1 ≤ p.1 := by
        rcases (inL_cons _ _ _).1 a1 with h | h
        · exact h.1
        · have := ch_in k3 h; omega
      have b2 : p.1 ≤ q.1 := by
        rcases (inL_cons _ _ _).1 a2 with h | h
        · exact h.1
        · have := ch_in h3 h; omega
      have c1 : p.1 = q.1 := by omega
      have c2 : p.2 = q.2 := by
        rcases Int.lt_trichotomy p.2 q.2 with h | h | h
        · have := (hs p.2).2 ((inL_cons _ _ _).2 (.inl ⟨by omega, h⟩))
          rcases (inL_cons _ _ _).1 this with g | g
          · omega
          · have := ch_in h3 g; omega
        · exact h
        · have := (hs q.2).1 ((inL_cons _ _ _).2 (.inl ⟨by omega, h⟩))
          rcases (inL_cons _ _ _).1 this with g | g
          · omega
          · have := ch_in k3 g; omega
      have hpq : p = q := Prod.ext c1 c2
      subst hpq
      rw [ih h3 k3 (fun n => ?_)]
      constructor
      · intro hn
        have g := ch_in h3 hn
        rcases (inL_cons _ _ _).1 ((hs n).1 ((inL_cons _ _ _).2 (.inr hn))) with f | f
        · omega
        · exact f
      · intro hn
        have g := ch_in k3 hn
        rcases (inL_cons _ _ _).1 ((hs n).2 ((inL_cons _ _ _).2 (.inr hn))) with f | f
        · omega
        · exact f
def ins : List Sp → Sp → List Sp
  | [], s => [s]
  | p :: t, s => if p.2 < s.1 then p :: ins t s else if s.2 < p.1 then s :: p :: t else ins t (min p.1 s.1, max p.2 s.2)
theorem grn_two (t : List Sp) (s : Sp) (f b : Nat) (pre : List Sp) (hb : pre.length = b) (h : ∀ p ∈ t, ¬ p.2 < s.1) :
    (grn s f b t).2.1 = f ∧ (grn s f b t).1 :: (pre ++ t).drop (grn s f b t).2.2 = ins t s := by
  induction t generalizing s b pre with
  | nil => subst hb; simp [grn, ins]
  | cons p t ih =>
    have hp := h p (by simp)
    have ht : ∀ q ∈ t, ¬ q.2 < s.1 := fun q hq => h q (by simp [hq])
    rw [grn, ins, if_neg hp, if_neg hp]
    by_cases hk : s.2 < p.1
    · rw [if_pos hk, if_pos hk]
      subst hb
      simp
    · rw [if_neg hk, if_neg hk]
      have := ih (min p.1 s.1, max p.2 s.2) (b + 1) (pre ++ [p]) (by simp [hb]) (fun q hq => by have := ht q hq; simp only; omega)
      rw [List.append_assoc] at this
      exact this
theorem grn_one (t : List Sp) (s : Sp) (d : Int) (b : Nat) (pre : List Sp) (hb : pre.length = b) (h : chain d t = true) :
    (pre ++ t).take (grn s b b t).2.1 ++ ((grn s b b t).1 :: (pre ++ t).drop (grn s b b t).2.2) = pre ++ ins t s := by
  induction t generalizing d b pre with
  | nil => subst hb; simp [grn, ins]
  | cons p t ih =>
    rw [ch_cons] at h
    rw [grn, ins]
    by_cases hp : p.2 < s.1
    · rw [if_pos hp, if_pos hp]
      have := ih p.2 (b + 1) (pre ++ [p]) (by simp [hb]) h.2.2
      rw [List.append_assoc, List.append_assoc] at this
      exact this
    · rw [if_neg hp, if_neg hp]
      by_cases hk : s.2 < p.1
      · rw [if_pos hk, if_pos hk]
        subst hb
        simp
      · rw [if_neg hk, if_neg hk]
        obtain ⟨g1, g2⟩ := grn_two t (min p.1 s.1, max p.2 s.2) b (b + 1) (pre ++ [p]) (by simp [hb]) (fun q hq => by have := ch_each h.2.2 q hq; simp only; omega)
        rw [List.append_assoc] at g2
        rw [g1]
        rw [show [p] ++ t = p :: t from rfl] at g2
        rw [g2]
        subst hb
        simp
theorem addL_ins {l : List Sp} {d : Int} (h : chain d l = true) (s : Sp) : addL l s = ins l s := by
  have := grn_one l s d 0 [] rfl h
  simpa [addL] using this
theorem ins_ch {l : List Sp} {s : Sp} {d : Int} (h : chain d l = true) (hs : vld s.1 s.2 = true) (hd : d < s.1) : chain d (ins l s) = true := by
  induction l generalizing d s with
  | nil => rw [ins, ch_cons]; exact ⟨hd, vld_iff.1 hs, rfl⟩
  | cons p t ih =>
    have hv := vld_iff.1 hs
    have h' := h
    rw [ch_cons] at h
    rw [ins]
    split
    · next g => rw [ch_cons]; exact ⟨h.1, h.2.1, ih h.2.2 hs g⟩
    · split
      · next g => rw [ch_cons]; exact ⟨hd, hv, by rw [ch_cons]; exact ⟨g, h.2⟩⟩
      · next g1 g2 => exact ih (s := (min p.1 s.1, max p.2 s.2)) (ch_weak h.2.2 (by omega)) (vld_iff.2 ⟨by simp only; omega, by simp only; omega, by simp only; omega⟩) (by simp only; omega)
theorem ins_in {l : List Sp} {s : Sp} {d : Int} (h : chain d l = true) (hs : s.1 < s.2) (n : Int) : inL (ins l s) n ↔ inL l n ∨ (s.1 ≤ n ∧ n < s.2) := by
  induction l generalizing d s with
  | nil => rw [ins, inL_cons]; exact ⟨fun h => h.elim .inr (fun h => absurd h (inL_nil _)), fun h => h.elim (fun h => absurd h (inL_nil _)) .inl⟩
  | cons p t ih =>
    rw [ch_cons] at h
    rw [ins]
    split
    · rw [inL_cons, inL_cons, ih h.2.2 hs, or_assoc]
    · split
      · rw [inL_cons, or_comm]
      · next g1 g2 =>
        rw [ih (s := (min p.1 s.1, max p.2 s.2)) h.2.2 (by simp only; omega), inL_cons]
        simp only
        constructor
        · rintro (h | h)
          · exact .inl (.inr h)
          · by_cases e : p.1 ≤ n ∧ n < p.2
            · exact .inl (.inl e)
            · exact .inr (by omega)
        · rintro ((h | h) | h)
          · exact .inr (by omega)
          · exact .inl h
          · exact .inr (by omega)
/-- how many numbers of s are there -/
def ov1 (s p : Sp) : Int := max 0 (min p.2 s.2 - max p.1 s.1)
def ov (s : Sp) : List Sp → Int
  | [] => 0
  | p :: t => ov1 s p + ov s t
theorem ov_nonneg (s : Sp) (l : List Sp) : 0 ≤ ov s l := by
  induction l with
  | nil => exact Int.le_refl _
  | cons p t ih => rw [ov]; have : 0 ≤ ov1 s p := by unfold ov1; omega
                   omega
theorem ov_le {l : List Sp} {s : Sp} {d : Int} (h : chain d l = true) : ov s l ≤ max 0 (s.2 - max s.1 d) := by
  induction l generalizing d with
  | nil => rw [ov]; omega
  | cons p t ih =>
    rw [ch_cons] at h
    have := ih h.2.2
    rw [ov]
    have e : ov1 s p = max 0 (min p.2 s.2 - max p.1 s.1) := rfl
    omega
theorem ov_past {l : List Sp} {s : Sp} {d : Int} (h : chain d l = true) (hd : s.2 ≤ d) : ov s l = 0 := by
  have h1 := ov_le (s := s) h
  have h2 := ov_nonneg s l
  omega
theorem ov_same {l : List Sp} {s r : Sp} {d : Int} (h : chain d l = true) (hs : s.1 ≤ d + 1) (hr : r.1 ≤ d + 1) (he : s.2 = r.2 ∨ (s.2 ≤ d ∧ r.2 ≤ d)) : ov s l = ov r l := by
  rcases he with he | ⟨h1, h2⟩
  · induction l generalizing d with
    | nil => rfl
    | cons p t ih =>
      rw [ch_cons] at h
      rw [ov, ov, ih h.2.2 (by omega) (by omega)]
      unfold ov1
      omega
  · rw [ov_past h h1, ov_past h h2]
theorem ins_size {l : List Sp} {s : Sp} {d : Int} (h : chain d l = true) (hs : s.1 < s.2) : size (ins l s) = size l + (s.2 - s.1) - ov s l := by
  induction l generalizing d s with
  | nil => rw [ins, size_cons, size_nil, ov]; omega
  | cons p t ih =>
    rw [ch_cons] at h
    rw [ins]
    split
    · next g =>
      rw [size_cons, size_cons, ih h.2.2 hs, ov]
      have : ov1 s p = 0 := by unfold ov1; omega
      omega
    · split
      · next g1 g2 =>
        rw [size_cons, size_cons, ov, ov_past h.2.2 (by omega)]
        have : ov1 s p = 0 := by unfold ov1; omega
        omega
      · next g1 g2 =>
        rw [ih (s := (min p.1 s.1, max p.2 s.2)) h.2.2 (by simp only; omega), size_cons, ov]
        have e1 : ov (min p.1 s.1, max p.2 s.2) t = ov s t := ov_same h.2.2 (by simp only; omega) (by omega) (by simp only; omega)
        have e2 : ov1 s p = min p.2 s.2 - max p.1 s.1 := by unfold ov1; omega
        rw [e1, e2]
        simp only
        omega
theorem lft_in {s p : Sp} (n : Int) : inL (lft s p) n ↔ (p.1 ≤ n ∧ n < p.2) ∧ ¬ (s.1 ≤ n ∧ n < s.2) ∨ ((p.1 ≤ n ∧ n < p.2) ∧ s.2 ≤ s.1) := by
  unfold lft
  rw [inL_app]
  constructor
  · rintro (h | h)
    · split at h
      · rcases (inL_cons _ _ _).1 h with h | h
        · simp only at h; omega
        · exact absurd h (inL_nil _)
      · exact absurd h (inL_nil _)
    · split at h
      · rcases (inL_cons _ _ _).1 h with h | h
        · simp only at h; omega
        · exact absurd h (inL_nil _)
      · exact absurd h (inL_nil _)
  · intro h
    by_cases e : n < s.1
    · exact .inl (by rw [if_pos (by omega), inL_cons]; exact .inl (by simp only; omega))
    · exact .inr (by rw [if_pos (by omega), inL_cons]; exact .inl (by simp only; omega))
theorem cutL_cons (p : Sp) (t : List Sp) (s : Sp) : cutL (p :: t) s = lft s p ++ cutL t s := rfl
theorem cutL_in (l : List Sp) {s : Sp} (hs : s.1 < s.2) (n : Int) : inL (cutL l s) n ↔ inL l n ∧ ¬ (s.1 ≤ n ∧ n < s.2) := by
  induction l with
  | nil => exact ⟨fun h => absurd h (inL_nil _), fun h => absurd h.1 (inL_nil _)⟩
  | cons p t ih =>
    rw [cutL_cons, inL_app, ih, lft_in, inL_cons]
    constructor
    · rintro ((h | h) | h)
      · exact ⟨.inl h.1, h.2⟩
      · omega
      · exact ⟨.inr h.1, h.2⟩
    · rintro ⟨h | h, k⟩
      · exact .inl (.inl ⟨h, k⟩)
      · exact .inr ⟨h, k⟩
theorem cutL_ch {l : List Sp} {s : Sp} {d : Int} (h : chain d l = true) (hs : s.1 < s.2) : chain d (cutL l s) = true := by
  induction l generalizing d with
  | nil => rfl
  | cons p t ih =>
    rw [ch_cons] at h
    have := ih h.2.2
    rw [cutL_cons]
    unfold lft
    split
    · split
      · simp only [List.cons_append, List.nil_append]
        rw [ch_cons, ch_cons]
        exact ⟨h.1, by simp only; omega, by simp only; omega, by simp only; omega, this⟩
      · simp only [List.cons_append, List.nil_append, List.append_nil]
        rw [ch_cons]
        exact ⟨h.1, by simp only; omega, ch_weak this (by simp only; omega)⟩
    · split
      · simp only [List.cons_append, List.nil_append]
        rw [ch_cons]
        exact ⟨by simp only; omega, by simp only; omega, this⟩
      · exact ch_weak this (by omega)
theorem cutL_past {l : List Sp} {s : Sp} {d : Int} (h : chain d l = true) (hs : s.1 < s.2) (hd : s.2 ≤ d) : cutL l s = l := by
  refine ch_unique (cutL_ch h hs) h (fun n => ?_)
  rw [cutL_in l hs]
  exact ⟨fun h => h.1, fun g => ⟨g, by have := ch_in h g; omega⟩⟩
theorem gap_cases (l : List Sp) (n : Int) : gapIn l n = n ∧ ¬ inL l n ∨ ∃ p ∈ l, (p.1 ≤ n ∧ n < p.2) ∧ gapIn l n = p.2 := by
  induction l with
  | nil => exact .inl ⟨rfl, inL_nil _⟩
  | cons p t ih =>
    rw [gapIn]
    by_cases g : p.1 ≤ n ∧ n < p.2
    · rw [if_pos g]; exact .inr ⟨p, by simp, g, rfl⟩
    · rw [if_neg g]
      rcases ih with ⟨h1, h2⟩ | ⟨q, h1, h2⟩
      · exact .inl ⟨h1, fun h => (inL_cons _ _ _).1 h |>.elim g h2⟩
      · exact .inr ⟨q, by simp [h1], h2⟩
theorem gap_ge (l : List Sp) (n : Int) : n ≤ gapIn l n := by
  rcases gap_cases l n with ⟨h, _⟩ | ⟨p, _, h, e⟩ <;> omega
theorem end_out {l : List Sp} {d : Int} (h : chain d l = true) {p : Sp} (hp : p ∈ l) : ¬ inL l p.2 := by
  induction l generalizing d with
  | nil => cases hp
  | cons q t ih =>
    have h' := h
    rw [ch_cons] at h
    intro hn
    rcases List.mem_cons.1 hp with rfl | hp
    · rcases (inL_cons _ _ _).1 hn with g | g
      · omega
      · have := ch_in h.2.2 g; omega
    · rcases (inL_cons _ _ _).1 hn with g | g
      · have := ch_each h.2.2 p hp; omega
      · exact ih h.2.2 hp g
theorem gap_out {l : List Sp} {d : Int} (h : chain d l = true) (n : Int) : ¬ inL l (gapIn l n) := by
  rcases gap_cases l n with ⟨e, k⟩ | ⟨p, hp, _, e⟩
  · rw [e]; exact k
  · rw [e]; exact end_out h hp
theorem gap_top {l : List Sp} {d : Int} (h : chain d l = true) {a : Int} (ha : a ≤ 4611686018427387904) : gapIn l a ≤ 4611686018427387904 := by
  rcases gap_cases l a with ⟨e, _⟩ | ⟨p, hp, k, e⟩
  · omega
  · have := ch_each h p hp; omega
end Go.Proofs.Ytggnhccpncgfiaa
namespace Go.Proofs.Ytggnhccpncgfiaa
theorem ins_in' {l : List Sp} {s : Sp} (hm : mayB l = true) (hv : vld s.1 s.2 = true) (n : Int) : inL (ins l s) n ↔ inL l n ∨ (s.1 ≤ n ∧ n < s.2) := ins_in (mayB_parts hm).2 (vld_iff.1 hv).2.1 n
theorem gapF_of {l : List Sp} {n : Int} (hm : mayB l = true) (hn : 0 ≤ n) : gapF l n = gapIn l n := by
  unfold gapF; rw [if_pos hm, show max n 0 = n by omega]
end Go.Proofs.Ytggnhccpncgfiaa
namespace Go.Proofs.Ytggnhccpncgfiaa
open Go.RowKit
/-- byte i of a list -/
def byt (l : List Int) (i : Nat) : Int := l.getD i 0
def Small (l : List Int) : Prop := ∀ x ∈ l, 0 ≤ x ∧ x < 256
theorem byt_in {l : List Int} (h : Small l) {i : Nat} (hi : i < l.length) : 0 ≤ byt l i ∧ byt l i < 256 := by
  unfold byt; rw [List.getD_eq_getElem?_getD, List.getElem?_eq_getElem hi]; exact h _ (List.getElem_mem hi)
theorem byt_bd {l : List Int} (h : Small l) (i : Nat) : 0 ≤ byt l i ∧ byt l i < 256 := by
  by_cases hi : i < l.length
  · exact byt_in h hi
  · unfold byt; rw [List.getD_eq_getElem?_getD, List.getElem?_eq_none (by omega)]; simp
theorem byt_ext {a b : List Int} (h : a.length = b.length) (he : ∀ i, i < a.length → byt a i = byt b i) : a = b := by
  apply List.ext_getElem h
  intro i h1 h2
  have := he i h1
  unfold byt at this
  rwa [List.getD_eq_getElem?_getD, List.getD_eq_getElem?_getD, List.getElem?_eq_getElem h1, List.getElem?_eq_getElem h2] at this
theorem byt_drop (l : List Int) (k i : Nat) : byt (l.drop k) i = byt l (k + i) := by
  unfold byt; rw [List.getD_eq_getElem?_getD, List.getElem?_drop, List.getD_eq_getElem?_getD]
theorem byt_take {l : List Int} {k i : Nat} (h : i < k) : byt (l.take k) i = byt l i := by
  unfold byt; rw [List.getD_eq_getElem?_getD, List.getElem?_take, if_pos h, List.getD_eq_getElem?_getD]
theorem small_drop {l : List Int} (h : Small l) (k : Nat) : Small (l.drop k) := fun x hx => h x (List.mem_of_mem_drop hx)
theorem small_take {l : List Int} (h : Small l) (k : Nat) : Small (l.take k) := fun x hx => h x (List.mem_of_mem_take hx)
/-- The first n places from A read as the bytes l in the world w. -/
structure Rd (w : World) (A : Option Addr) (n : Nat) (l : List Int) : Prop where
  len : l.length = n
  small : Small l
  at_ : 0 < n → ∃ b o, A = some ⟨b, o, none⟩ ∧ b < w.heap.size ∧ ∀ i, i < n → w.cell? ⟨b, o + i, none⟩ = some (.int .u8 (byt l i))
section
variable {w w' : World} {A : Option Addr} {n : Nat} {l : List Int}
theorem Rd.keep (h : Rd w A n l) (hb : Below w.heap.size w w') : Rd w' A n l :=
  ⟨h.len, h.small, fun hn => by
    obtain ⟨b, o, e, hlt, hc⟩ := h.at_ hn
    exact ⟨b, o, e, Nat.lt_of_lt_of_le hlt hb.size, fun i hi => (hb.cell (p := ⟨b, o + i, none⟩) hlt).trans (hc i hi)⟩⟩
theorem Rd.alloc (h : Rd w A n l) (o : Obj) : Rd (w.alloc o) A n l := h.keep ((Below.refl _ _).alloc (Nat.le_refl _) o)
theorem Rd.empty (w : World) (A : Option Addr) : Rd w A 0 [] := ⟨rfl, fun _ hx => by simp at hx, fun hn => absurd hn (by omega)⟩
/-- what a walk wants of one place -/
theorem Rd.spot (h : Rd w A n l) (hn : 0 < n) : ∃ b o, A = some ⟨b, o, none⟩ ∧ b < w.heap.size ∧ Hid (∀ i, i < n → w.cell? ⟨b, o + i, none⟩ = some (.int .u8 (byt l i))) := h.at_ hn
theorem Rd.take {k : Nat} (h : Rd w A n l) (hk : k ≤ n) : Rd w A k (l.take k) :=
  ⟨by rw [List.length_take, h.len]; omega, small_take h.small k, fun h0 => by
    obtain ⟨b, o, e, hl, hc⟩ := h.at_ (by omega)
    exact ⟨b, o, e, hl, fun i hi => by rw [hc i (by omega), byt_take hi]⟩⟩
/-- the address behind a cut of the first k places of a slice of capacity c -/
def cutA (A : Option Addr) (k c : Nat) : Option Addr := if c = k then A else A.map (·.add k)
theorem Rd.cut {k m c : Nat} (h : Rd w A n l) (hn : n = m + k) (hc : n ≤ c) : Rd w (cutA A k c) m (l.drop k) :=
  ⟨by rw [List.length_drop, h.len]; omega, small_drop h.small k, fun h0 => by
    obtain ⟨b, o, e, hl, hcl⟩ := h.at_ (by omega)
    refine ⟨b, o + k, ?_, hl, fun i hi => ?_⟩
    · unfold cutA; rw [if_neg (by omega), e]; simp only [Option.map_some, Addr.add]
      split <;> simp_all
    · rw [Nat.add_assoc, hcl (k + i) (by omega), byt_drop]⟩
theorem small_of_wf {zs : List Int} (h : ∀ n ∈ zs, (Lit.int .u8 n).wf = true) : Small zs := fun x hx => by
  have := h x hx
  simp [Lit.wf, IntKind.min, IntKind.max, IntKind.signed, IntKind.bits] at this
  omega
/-- from what the row's opening of a []byte hands over -/
theorem Rd.of_ints {a : Addr} {len cap : Nat} {zs : List Int} (hl : len ≤ cap) (hz : zs.length = cap) (hc : ∀ i, i < zs.length → w.cell? (a.add i) = some (.int .u8 (zs.getD i 0)))
    (hw : ∀ n ∈ zs, (Lit.int .u8 n).wf = true) (hb : ∀ b o, a = ⟨b, o, none⟩ → 0 < len → b < w.heap.size) : Rd w (some a) len (zs.take len) := by
  refine ⟨by rw [List.length_take]; omega, small_take (small_of_wf hw) len, fun h0 => ?_⟩
  have hsp : a.spot = none := by
    have := World.cell?_spot (hc 0 (by omega))
    simpa [Addr.add] using this
  obtain ⟨b, o, s⟩ := a
  simp only at hsp
  subst hsp
  refine ⟨b, o, rfl, hb b o rfl h0, fun i hi => ?_⟩
  have e := hc i (by omega)
  rw [byt_take hi]
  unfold byt
  rw [← e]
  unfold Addr.add
  split
  · next h => subst h; rfl
  · rfl
theorem Rd.of_own {base : Nat} {e : TypeId} {v : Value} {xs : List Int} (h : w.ownsRow base e 1 v n (xs.map (Value.int .u8))) (hs : Small xs) :
    ∃ A c, v = .slice A n c ∧ n ≤ c ∧ c ≤ maxLen ∧ (A = none → c = 0) ∧ Rd w A n xs := by
  have hlen : xs.length = n := by have := h.1; simpa using this
  rcases h.2 with ⟨rfl, rfl⟩ | ⟨g, cap, cur, rfl, hg, hh, hnc, hcm, hcs, htake⟩
  · refine ⟨none, 0, rfl, Nat.le_refl _, Nat.zero_le _, fun _ => rfl, hlen, hs, fun h0 => by omega⟩
  · refine ⟨some ⟨g, 0, none⟩, cap, rfl, hnc, hcm, (fun e => by cases e), hlen, hs, fun h0 => ⟨g, 0, rfl, ?_, fun i hi => ?_⟩⟩
    · rcases Nat.lt_or_ge g w.heap.size with hlt | hge
      · exact hlt
      · rw [Array.getElem?_eq_none hge] at hh; cases hh
    · have := h.cellAt i (by omega)
      rw [Nat.zero_add, this, List.getElem?_map, List.getElem?_eq_getElem (by omega)]
      unfold byt
      rw [List.getD_eq_getElem?_getD, List.getElem?_eq_getElem (by omega)]
      rfl
/-- append onto a row of the call's own; the source as Rd reads it, nil or not -/
theorem wpList_app {P : Program} (w : World) {A : Option Addr} {m c : Nat} {l : List Int} {ops : Array Oper} {rest : List Oper} {o : Oper} {a : Act} {Q : Exit → Act → World → Prop} (hgd : o.guard = none) (s x : Operand) (t : TypeId)
    (ho : o.op = .call { callee := .builtin .append, args := #[s, x], argTypes := #[t, t] })
    (base : Nat) (e : TypeId) (ht : P.underlying t = some (.slice e)) (hinfo : (P.info? e).map (fun i => (i.zero, i.size, i.bytes)) = some (some (.int .u8 0), 1, 1))
    (v : Value) (n : Nat) (xs : List Int) (hs : a.eval s = v) (hown : w.ownsRow base e 1 v n (xs.map (Value.int .u8)))
    (hx : a.eval x = .slice A m c) (hA : A = none → c = 0) (hr : Rd w A m l) (hsum : n + m ≤ 140737488355328) (hbase : base ≤ w.heap.size)
    (h : ∀ v' w', w'.ownsRow base e 1 v' (n + m) ((xs ++ l).map (Value.int .u8)) → w.grownBy w' v.ownBlock → (v'.ownBlock = v.ownBlock ∨ v'.ownBlock = some w.heap.size) → wpList P ops Q rest (a.put o.dst v') w') :
    wpList P ops Q (o :: rest) a w := by
  obtain ⟨i0, hi, hz0, hz1, hz2⟩ := info_parts hinfo
  rw [List.map_append] at h
  cases A with
  | none =>
    have hc0 := hA rfl
    have hm0 : m = 0 := by
      rcases Nat.eq_zero_or_pos m with h0 | h0
      · exact h0
      · obtain ⟨b, o', e', _⟩ := hr.at_ h0; cases e'
    subst hm0 hc0
    have hl0 : l = [] := List.eq_nil_of_length_eq_zero hr.len
    subst hl0
    exact wpList_append_own_none hgd s x t ho base e i0 1 ht hi v n _ hs hown hx (h v w (by simpa using hown) (World.grownBy.refl w _) (.inl rfl))
  | some ad =>
    refine wpList_append_own_at w hgd s x t ho base e i0 (.int .u8 0) 1 1 ht hi hz0 hz1 hz2 rfl (by omega) v n _ hs hown ad m c (l.map (Value.int .u8)) hx (by simp [hr.len]) ?_ (ints_oneCell _ _) (by unfold maxLen; omega) (by omega) hbase (fun v' w' h1 h2 _ h4 => h v' w' h1 h2 h4)
    intro j u hj
    have hjm : j < m := by
      have := (List.getElem?_eq_some_iff.1 hj).1
      rw [List.length_map, hr.len] at this
      exact this
    obtain ⟨b, o', e', _, hc⟩ := hr.at_ (by omega)
    cases e'
    have hcell := hc j hjm
    rw [List.getElem?_map, List.getElem?_eq_getElem (by rw [hr.len]; exact hjm)] at hj
    have hu : u = .int .u8 (byt l j) := by
      simp only [Option.map_some, Option.some.injEq] at hj
      rw [← hj]; unfold byt; rw [List.getD_eq_getElem?_getD, List.getElem?_eq_getElem (by rw [hr.len]; exact hjm)]; rfl
    rw [hu, ← hcell]
    unfold Addr.add
    split
    · next h => subst h; rfl
    · rfl
end
end Go.Proofs.Ytggnhccpncgfiaa
namespace Go.Proofs.Ytggnhccpncgfiaa
/-- a receive buffer -/
structure Wv where
  base : Int
  b : List Int
  got : List Sp
  cap : Int
  en : Int
def zw : Wv := ⟨0, [], [], 0, 0⟩
/-- where Got ends -/
def upW (w : Wv) : Int := lastOf w.base w.got
/-- the edge -/
def edW (w : Wv) : Int := min (w.base + w.cap) 2305843009213693952
def okW (w : Wv) : Bool := (List.range w.b.length).all fun i => decide (byt w.b i = 0) || inB w.got (w.base + i)
def wmay (w : Wv) : Bool := decide (w.got.length ≤ 1000 ∧ 0 ≤ w.cap ∧ w.cap ≤ 65536 ∧ 0 ≤ w.base ∧ w.base ≤ 2305843009213693952 ∧ upW w ≤ edW w ∧ (w.b.length : Int) = upW w - w.base ∧ (w.en = -1 ∨ upW w ≤ w.en)) && (chain (w.base - 1) w.got && okW w)
structure Va (w : Wv) : Prop where
  len : w.got.length ≤ 1000
  cap0 : 0 ≤ w.cap
  cap1 : w.cap ≤ 65536
  base0 : 0 ≤ w.base
  base1 : w.base ≤ 2305843009213693952
  up : upW w ≤ edW w
  blen : (w.b.length : Int) = upW w - w.base
  en : w.en = -1 ∨ upW w ≤ w.en
  ch : chain (w.base - 1) w.got = true
  ok : ∀ i : Nat, i < w.b.length → byt w.b i = 0 ∨ inL w.got (w.base + i)
theorem okW_iff (w : Wv) : okW w = true ↔ ∀ i : Nat, i < w.b.length → byt w.b i = 0 ∨ inL w.got (w.base + i) := by
  unfold okW
  rw [List.all_eq_true]
  constructor
  · intro h i hi
    have := h i (List.mem_range.2 hi)
    rw [Bool.or_eq_true, decide_eq_true_eq, inB_iff] at this
    exact this
  · intro h i hi
    have := h i (List.mem_range.1 hi)
    rw [Bool.or_eq_true, decide_eq_true_eq, inB_iff]
    exact this
theorem wmay_iff (w : Wv) : wmay w = true ↔ Va w := by
  unfold wmay
  rw [Bool.and_eq_true, Bool.and_eq_true, decide_eq_true_eq, okW_iff]
  constructor
  · rintro ⟨⟨h1, h2, h3, h4, h5, h6, h7, h8⟩, h9, ha⟩
    exact ⟨h1, h2, h3, h4, h5, h6, h7, h8, h9, ha⟩
  · rintro ⟨h1, h2, h3, h4, h5, h6, h7, h8, h9, ha⟩
    exact ⟨⟨h1, h2, h3, h4, h5, h6, h7, h8⟩, h9, ha⟩
theorem last_cons (d : Int) (p : Sp) (t : List Sp) : lastOf d (p :: t) = lastOf p.2 t := rfl
theorem last_ge {d : Int} {l : List Sp} (h : chain d l = true) : d ≤ lastOf d l := by
  induction l generalizing d with
  | nil => exact Int.le_refl _
  | cons p t ih =>
    rw [ch_cons] at h
    have := ih h.2.2
    rw [last_cons]; omega
theorem last_in {d : Int} {l : List Sp} (h : chain d l = true) {n : Int} (hn : inL l n) : n < lastOf d l := by
  induction l generalizing d with
  | nil => exact absurd hn (inL_nil n)
  | cons p t ih =>
    rw [ch_cons] at h
    rw [last_cons]
    rcases (inL_cons p t n).1 hn with h1 | h1
    · have := last_ge h.2.2; omega
    · exact ih h.2.2 h1
theorem last_mem {d : Int} {l : List Sp} (h : chain d l = true) (hl : l ≠ []) : inL l (lastOf d l - 1) := by
  induction l generalizing d with
  | nil => exact absurd rfl hl
  | cons p t ih =>
    rw [ch_cons] at h
    rw [last_cons, inL_cons]
    cases t with
    | nil => left; rw [lastOf_nil]; omega
    | cons q r => right; exact ih h.2.2 (by simp)
theorem last_any {d e : Int} {l : List Sp} (hl : l ≠ []) : lastOf d l = lastOf e l := by
  cases l with
  | nil => exact absurd rfl hl
  | cons p t => rfl
theorem not_nil {l : List Sp} {n : Int} (h : inL l n) : l ≠ [] := fun e => by subst e; exact inL_nil n h
theorem low_in {d : Int} {l : List Sp} (h : chain d l = true) {n : Int} (hn : inL l n) : d < n := (ch_in h hn).1
section
variable {w : Wv}
theorem Va.may (h : Va w) : mayB w.got = true := by
  unfold mayB
  rw [decide_eq_true h.len, ch_weak h.ch (by have := h.base0; omega)]; rfl
theorem Va.chm (h : Va w) : chain (-1) w.got = true := (mayB_parts h.may).2
theorem up_ge (h : Va w) : w.base ≤ upW w := by
  have := h.blen; omega
theorem up_in (h : Va w) {n : Int} (hn : inL w.got n) : w.base ≤ n ∧ n < upW w := by
  have h1 := low_in h.ch hn
  have h2 := last_in h.ch hn
  have h3 : lastOf (w.base - 1) w.got = upW w := last_any (not_nil hn)
  omega
theorem up_last (h : Va w) (hl : w.got ≠ []) : inL w.got (upW w - 1) := by
  have := last_mem h.ch hl
  rw [show lastOf (w.base - 1) w.got = upW w from last_any hl] at this
  exact this
theorem up_nil (hl : w.got = []) : upW w = w.base := by unfold upW; rw [hl, lastOf_nil]
theorem up_top (h : Va w) : upW w ≤ 2305843009213693952 := by have := h.up; unfold edW at this; omega
theorem b_small (h : Va w) : w.b.length ≤ 65536 := by have := h.up; have := h.blen; have := h.cap1; unfold edW at *; omega
end
theorem byt_out {l : List Int} {i : Nat} (h : l.length ≤ i) : byt l i = 0 := by
  unfold byt; rw [List.getD_eq_getElem?_getD, List.getElem?_eq_none h]; rfl
theorem byt_map_range (f : Nat → Int) (n i : Nat) (h : i < n) : byt ((List.range n).map f) i = f i := by
  unfold byt; rw [List.getD_eq_getElem?_getD, List.getElem?_map, List.getElem?_range h]; rfl
def lowP (w : Wv) (p : Int) : Int := max p w.base
def highP (w : Wv) (p : Int) (n : Nat) : Int := min (p + n) (edW w)
def newB (g : List Sp) (lo hi p : Int) : Bool := decide (lo ≤ p) && (decide (p < hi) && !(inB g p))
theorem newB_iff {g : List Sp} {lo hi p : Int} : newB g lo hi p = true ↔ lo ≤ p ∧ p < hi ∧ ¬ inL g p := by
  unfold newB
  rw [Bool.and_eq_true, Bool.and_eq_true, decide_eq_true_eq, decide_eq_true_eq, Bool.not_eq_true', ← Bool.not_eq_true, inB_iff]
def putB (w : Wv) (p : Int) (bs : List Int) : List Int :=
  (List.range (max w.b.length (highP w p bs.length - w.base).toNat)).map fun (i : Nat) =>
    if newB w.got (lowP w p) (highP w p bs.length) (w.base + i) = true then byt bs (w.base + i - p).toNat else byt w.b i
def putN (g : List Sp) (lo hi : Int) : Nat := ((List.range (hi - lo).toNat).filter fun (i : Nat) => !(inB g (lo + i))).length
def putR (w : Wv) (p : Int) (bs : List Int) : Wv × Int × Int :=
  if wmay w = true ∧ 0 ≤ p ∧ p ≤ 2305843009213693952 then
    if 0 ≤ w.en ∧ w.en < p + bs.length then (zw, 0, 5)
    else if highP w p bs.length ≤ lowP w p then (w, 0, 0)
    else if (addR w.got (lowP w p, highP w p bs.length)).2 = 0 then
      (⟨w.base, putB w p bs, (addR w.got (lowP w p, highP w p bs.length)).1, w.cap, w.en⟩, (putN w.got (lowP w p) (highP w p bs.length) : Nat), 0)
    else (zw, 0, (addR w.got (lowP w p, highP w p bs.length)).2)
  else (zw, 0, 1)
def wshutR (w : Wv) (p : Int) : Wv × Int :=
  if wmay w = true ∧ 0 ≤ p ∧ p ≤ 2305843009213693952 then
    if (0 ≤ w.en ∧ w.en ≠ p) ∨ p < upW w then (zw, 5) else (⟨w.base, w.b, w.got, w.cap, p⟩, 0)
  else (zw, 1)
def rdyW (w : Wv) : Nat := ((List.range w.b.length).takeWhile fun (i : Nat) => inB w.got (w.base + i)).length
def readyR (w : Wv) : Int := if wmay w = true then (rdyW w : Int) else 0
def cutK (g : List Sp) (base : Int) (k : Nat) : List Sp := if k = 0 then g else cutL g (base, base + k)
def cutW (w : Wv) (k : Nat) : Wv := ⟨w.base + k, w.b.drop k, cutK w.got w.base k, w.cap, w.en⟩
def readR (w : Wv) (n : Int) : Wv × List Int × Int :=
  if wmay w = true ∧ 0 ≤ n then (cutW w (min (rdyW w) n.toNat), w.b.take (min (rdyW w) n.toNat), 0) else (zw, [], 1)
def edgeR (w : Wv) : Int := if wmay w = true then edW w else 0
def newR (room : Int) : Wv × Int := if 0 ≤ room ∧ room ≤ 65536 then (⟨0, [], [], room, -1⟩, 0) else (zw, 1)
theorem takeWhile_len_spec (f : Nat → Bool) (n : Nat) : ((List.range n).takeWhile f).length ≤ n ∧ (∀ i, i < ((List.range n).takeWhile f).length → f i = true) ∧ (((List.range n).takeWhile f).length < n → f ((List.range n).takeWhile f).length = false) := by
  have h0 : ∀ l : List Nat, (l.takeWhile f).length ≤ l.length ∧ (∀ i, i < (l.takeWhile f).length → ∃ x, l[i]? = some x ∧ f x = true) ∧ ((l.takeWhile f).length < l.length → ∃ x, l[(l.takeWhile f).length]? = some x ∧ f x = false) := by
    intro l
    induction l with
    | nil => exact ⟨Nat.le_refl _, fun i hi => by simp at hi, fun h => by simp at h⟩
    | cons a t ih =>
      obtain ⟨i1, i2, i3⟩ := ih
      rw [List.takeWhile_cons]
      by_cases ha : f a = true
      · rw [if_pos ha]
        refine ⟨by simpa using i1, fun i hi => ?_, fun h => ?_⟩
        · cases i with
          | zero => exact ⟨a, rfl, ha⟩
          | succ j => exact i2 j (by simpa using hi)
        · exact i3 (by simpa using h)
      · rw [if_neg ha]
        exact ⟨Nat.zero_le _, fun i hi => by simp at hi, fun h => ⟨a, rfl, by simpa using ha⟩⟩
  obtain ⟨h1, h2, h3⟩ := h0 (List.range n)
  rw [List.length_range] at h1 h3
  refine ⟨h1, fun i hi => ?_, fun h => ?_⟩
  · obtain ⟨x, hx, hf⟩ := h2 i hi
    rw [List.getElem?_range (by omega)] at hx
    cases hx; exact hf
  · obtain ⟨x, hx, hf⟩ := h3 h
    rw [List.getElem?_range h] at hx
    cases hx; exact hf
theorem rdy_le (w : Wv) : rdyW w ≤ w.b.length := (takeWhile_len_spec _ _).1
theorem rdy_in (w : Wv) {i : Nat} (h : i < rdyW w) : inL w.got (w.base + i) := (inB_iff _ _).1 ((takeWhile_len_spec (fun (i : Nat) => inB w.got (w.base + i)) w.b.length).2.1 i h)
theorem rdy_out (w : Wv) (h : rdyW w < w.b.length) : ¬ inL w.got (w.base + rdyW w) := fun hi => by
  have := (takeWhile_len_spec (fun (i : Nat) => inB w.got (w.base + i)) w.b.length).2.2 h
  have h2 := (inB_iff _ _).2 hi
  change inB w.got (w.base + (rdyW w : Nat)) = false at this
  rw [h2] at this
  cases this
theorem rdy_of {w : Wv} {r : Nat} (h1 : r ≤ w.b.length) (h2 : ∀ i : Nat, i < r → inL w.got (w.base + i)) (h3 : r < w.b.length → ¬ inL w.got (w.base + r)) : rdyW w = r := by
  rcases Nat.lt_trichotomy (rdyW w) r with h | h | h
  · exact absurd (h2 _ h) (rdy_out w (by omega))
  · exact h
  · exact absurd (rdy_in w h) (h3 (by have := rdy_le w; omega))
theorem rdy_mono {u w : Wv} (hb : u.base = w.base) (hl : w.b.length ≤ u.b.length) (hg : ∀ n, inL w.got n → inL u.got n) : rdyW w ≤ rdyW u := by
  rcases Nat.lt_or_ge (rdyW u) (rdyW w) with h | h
  · have := hg _ (rdy_in w h)
    rw [← hb] at this
    exact absurd this (rdy_out u (by have := rdy_le w; omega))
  · exact h
end Go.Proofs.Ytggnhccpncgfiaa
namespace Go.Proofs.Ytggnhccpncgfiaa
/-- what is put really: at least one place -/
structure PutOk (w : Wv) (p : Int) (bs : List Int) : Prop where
  va : Va w
  p0 : 0 ≤ p
  p1 : p ≤ 2305843009213693952
  en : w.en < 0 ∨ p + bs.length ≤ w.en
  lt : lowP w p < highP w p bs.length
  few : (ins w.got (lowP w p, highP w p bs.length)).length ≤ 1000
/-- the buffer behind it -/
def putW (w : Wv) (p : Int) (bs : List Int) : Wv := ⟨w.base, putB w p bs, ins w.got (lowP w p, highP w p bs.length), w.cap, w.en⟩
section
variable {w : Wv} {p : Int} {bs : List Int}
theorem high_le (w : Wv) (p : Int) (n : Nat) : highP w p n ≤ edW w := by unfold highP; omega
theorem high_le' (w : Wv) (p : Int) (n : Nat) : highP w p n ≤ p + n := by unfold highP; omega
theorem high_top (w : Wv) (p : Int) (n : Nat) : highP w p n ≤ 2305843009213693952 := by unfold highP edW; omega
theorem low_ge (w : Wv) (p : Int) : w.base ≤ lowP w p ∧ p ≤ lowP w p := by unfold lowP; omega
theorem PutOk.vld (h : PutOk w p bs) : vld (lowP w p) (highP w p bs.length) = true := by
  rw [vld_iff]
  have := low_ge w p
  have := high_top w p bs.length
  have := h.lt
  have := h.va.base0
  omega
theorem PutOk.add (h : PutOk w p bs) : addR w.got (lowP w p, highP w p bs.length) = (ins w.got (lowP w p, highP w p bs.length), 0) := by
  unfold addR told
  rw [h.va.may, h.vld, addL_ins h.va.chm, Bool.and_self, if_pos rfl, if_pos h.few]
theorem PutOk.in_iff (h : PutOk w p bs) (n : Int) : inL (putW w p bs).got n ↔ inL w.got n ∨ (lowP w p ≤ n ∧ n < highP w p bs.length) := ins_in' h.va.may h.vld n
theorem PutOk.chn (h : PutOk w p bs) : chain (w.base - 1) (putW w p bs).got = true := ins_ch h.va.ch h.vld (by have := (low_ge w p).1; show w.base - 1 < lowP w p; omega)
theorem PutOk.up (h : PutOk w p bs) : upW (putW w p bs) = max (upW w) (highP w p bs.length) := by
  have hlt := h.lt
  have hlo := (low_ge w p).1
  have hne : (putW w p bs).got ≠ [] := not_nil ((h.in_iff (lowP w p)).2 (.inr ⟨Int.le_refl _, hlt⟩))
  have e1 : lastOf (w.base - 1) (putW w p bs).got = upW (putW w p bs) := last_any hne
  have hlast := last_mem h.chn hne
  rw [e1] at hlast
  have h1 := last_in h.chn ((h.in_iff (highP w p bs.length - 1)).2 (.inr ⟨by omega, by omega⟩))
  rw [e1] at h1
  have h2 : upW w ≤ upW (putW w p bs) := by
    by_cases hn : w.got = []
    · rw [up_nil hn]
      have := low_in h.chn hlast; omega
    · have := last_in h.chn ((h.in_iff (upW w - 1)).2 (.inl (up_last h.va hn)))
      rw [e1] at this; omega
  rcases (h.in_iff _).1 hlast with h3 | h3
  · have := (up_in h.va h3).2; omega
  · omega
theorem putB_len (w : Wv) (p : Int) (bs : List Int) : (putB w p bs).length = max w.b.length (highP w p bs.length - w.base).toNat := by unfold putB; rw [List.length_map, List.length_range]
theorem putB_at (w : Wv) (p : Int) (bs : List Int) {i : Nat} (h : i < (putB w p bs).length) :
    byt (putB w p bs) i = if newB w.got (lowP w p) (highP w p bs.length) (w.base + i) = true then byt bs (w.base + i - p).toNat else byt w.b i := by
  rw [putB_len] at h
  unfold putB
  rw [byt_map_range _ _ _ h]
theorem PutOk.blen (h : PutOk w p bs) : ((putB w p bs).length : Int) = upW (putW w p bs) - w.base := by
  rw [putB_len, h.up]
  have := h.va.blen
  have := (low_ge w p).1
  have := h.lt
  omega
/-- it is valid again -/
theorem PutOk.res (h : PutOk w p bs) : Va (putW w p bs) := by
  have hup := h.up
  refine ⟨h.few, h.va.cap0, h.va.cap1, h.va.base0, h.va.base1, ?_, h.blen, ?_, h.chn, fun i hi => ?_⟩
  · rw [hup]
    have := h.va.up
    have := high_le w p bs.length
    show _ ≤ edW w
    omega
  · rw [hup]
    have h1 := h.va.en
    have h2 := h.en
    have := high_le' w p bs.length
    have := up_ge h.va
    have := h.va.base0
    show w.en = -1 ∨ _ ≤ w.en
    omega
  · have hi' : i < (putB w p bs).length := hi
    rw [show (putW w p bs).b = putB w p bs from rfl, putB_at w p bs hi']
    by_cases hn : newB w.got (lowP w p) (highP w p bs.length) (w.base + i) = true
    · right
      have := newB_iff.1 hn
      exact (h.in_iff _).2 (.inr ⟨this.1, this.2.1⟩)
    · rw [if_neg hn]
      by_cases hl : i < w.b.length
      · rcases h.va.ok i hl with h1 | h1
        · exact .inl h1
        · exact .inr ((h.in_iff _).2 (.inl h1))
      · exact .inl (byt_out (by omega))
end
/-- the four answers of a Put -/
theorem put_cases (w : Wv) (p : Int) (bs : List Int) :
    (putR w p bs = (zw, 0, 1) ∧ ¬ (Va w ∧ 0 ≤ p ∧ p ≤ 2305843009213693952)) ∨
    (putR w p bs = (zw, 0, 5) ∧ (Va w ∧ 0 ≤ p ∧ p ≤ 2305843009213693952) ∧ 0 ≤ w.en ∧ w.en < p + bs.length) ∨
    (putR w p bs = (w, 0, 0) ∧ (Va w ∧ 0 ≤ p ∧ p ≤ 2305843009213693952) ∧ ¬ (0 ≤ w.en ∧ w.en < p + bs.length) ∧ highP w p bs.length ≤ lowP w p) ∨
    (putR w p bs = (zw, 0, 4) ∧ (Va w ∧ 0 ≤ p ∧ p ≤ 2305843009213693952) ∧ ¬ (0 ≤ w.en ∧ w.en < p + bs.length) ∧ ¬ highP w p bs.length ≤ lowP w p ∧ 1000 < (ins w.got (lowP w p, highP w p bs.length)).length) ∨
    (putR w p bs = (putW w p bs, ((putN w.got (lowP w p) (highP w p bs.length) : Nat) : Int), 0) ∧ PutOk w p bs) := by
  by_cases h1 : Va w ∧ 0 ≤ p ∧ p ≤ 2305843009213693952
  · have h1' : wmay w = true ∧ 0 ≤ p ∧ p ≤ 2305843009213693952 := ⟨(wmay_iff w).2 h1.1, h1.2⟩
    right
    by_cases h2 : 0 ≤ w.en ∧ w.en < p + bs.length
    · left; exact ⟨by unfold putR; rw [if_pos h1', if_pos h2], h1, h2⟩
    · right
      by_cases h3 : highP w p bs.length ≤ lowP w p
      · left; exact ⟨by unfold putR; rw [if_pos h1', if_neg h2, if_pos h3], h1, h2, h3⟩
      · right
        have hv : vld (lowP w p) (highP w p bs.length) = true := by
          rw [vld_iff]
          have := low_ge w p
          have := high_top w p bs.length
          have := h1.1.base0
          omega
        have ha : addR w.got (lowP w p, highP w p bs.length) = told true (ins w.got (lowP w p, highP w p bs.length)) := by
          unfold addR; rw [h1.1.may, hv, addL_ins h1.1.chm]; rfl
        by_cases h4 : (ins w.got (lowP w p, highP w p bs.length)).length ≤ 1000
        · right
          have hok : PutOk w p bs := ⟨h1.1, h1.2.1, h1.2.2, by omega, by omega, h4⟩
          refine ⟨?_, hok⟩
          unfold putR
          rw [if_pos h1', if_neg h2, if_neg h3, hok.add, if_pos rfl]; rfl
        · left
          refine ⟨?_, h1, h2, h3, by omega⟩
          have : addR w.got (lowP w p, highP w p bs.length) = ([], 4) := by rw [ha]; unfold told; rw [if_pos rfl, if_neg h4]
          unfold putR
          rw [if_pos h1', if_neg h2, if_neg h3, this, if_neg (by simp)]
  · left
    exact ⟨by unfold putR; rw [if_neg (fun h => h1 ⟨(wmay_iff w).1 h.1, h.2⟩)], h1⟩
theorem putN_le (g : List Sp) (lo hi : Int) : putN g lo hi ≤ (hi - lo).toNat := by
  unfold putN
  have := List.length_filter_le (fun (i : Nat) => !(inB g (lo + i))) (List.range (hi - lo).toNat)
  rwa [List.length_range] at this
theorem putN_zero {g : List Sp} {lo hi : Int} (h : ∀ n, lo ≤ n → n < hi → inL g n) : putN g lo hi = 0 := by
  unfold putN
  rw [List.length_eq_zero_iff, List.filter_eq_nil_iff]
  intro i hi'
  have := List.mem_range.1 hi'
  rw [(inB_iff g (lo + i)).2 (h _ (by omega) (by omega))]
  simp
/-- put again at the same place: nothing comes -/
theorem put_twice {w : Wv} {p : Int} {bs cs : List Int} (h : PutOk w p bs) (hl : bs.length = cs.length) : putR (putW w p bs) p cs = (putW w p bs, 0, 0) := by
  have hlo : lowP (putW w p bs) p = lowP w p := rfl
  have hhi : highP (putW w p bs) p cs.length = highP w p bs.length := by rw [← hl]; rfl
  have hv := h.res
  have hsame : ins (putW w p bs).got (lowP w p, highP w p bs.length) = (putW w p bs).got := by
    refine ch_unique (d := w.base - 1) (ins_ch h.chn h.vld (by have := (low_ge w p).1; show w.base - 1 < lowP w p; omega)) h.chn (fun n => ?_)
    rw [ins_in' hv.may h.vld n, h.in_iff n]
    constructor
    · rintro (h1 | h1)
      · exact h1
      · exact .inr h1
    · exact fun h1 => .inl h1
  have hok : PutOk (putW w p bs) p cs := ⟨hv, h.p0, h.p1, by rw [← hl]; exact h.en, by rw [hlo, hhi]; exact h.lt, by rw [hlo, hhi, hsame]; exact h.few⟩
  rcases put_cases (putW w p bs) p cs with hc | hc | hc | hc | hc
  · exact absurd ⟨hv, h.p0, h.p1⟩ hc.2
  · exfalso
    have h2 := h.en
    have h3 := hc.2.2
    rw [← hl] at h3
    have h4 : (putW w p bs).en = w.en := rfl
    rw [h4] at h3
    omega
  · exfalso; have := hc.2.2.2; have := hok.lt; omega
  · exfalso; have := hc.2.2.2.2; have := hok.few; omega
  · rw [hc.1]
    have hin : ∀ n, lowP w p ≤ n → n < highP w p bs.length → inL (putW w p bs).got n := fun n h1 h2 => (h.in_iff n).2 (.inr ⟨h1, h2⟩)
    have hn : putN (putW w p bs).got (lowP (putW w p bs) p) (highP (putW w p bs) p cs.length) = 0 := putN_zero (by rw [hlo, hhi]; exact hin)
    rw [hn]
    have hb : putB (putW w p bs) p cs = (putW w p bs).b := by
      have hbl := h.blen
      have hup := h.up
      have e1 : (putB (putW w p bs) p cs).length = (putW w p bs).b.length := by
        rw [putB_len, hhi]
        show max (putB w p bs).length (highP w p bs.length - w.base).toNat = (putB w p bs).length
        omega
      refine byt_ext e1 (fun i hi => ?_)
      rw [putB_at _ _ _ hi, if_neg]
      intro hnew
      have := newB_iff.1 hnew
      rw [hlo, hhi] at this
      exact this.2.2 (hin _ this.1 this.2.1)
    show (putW (putW w p bs) p cs, ((0 : Nat) : Int), (0 : Int)) = _
    have : putW (putW w p bs) p cs = putW w p bs := by
      show (⟨w.base, putB (putW w p bs) p cs, ins (putW w p bs).got (lowP (putW w p bs) p, highP (putW w p bs) p cs.length), w.cap, w.en⟩ : Wv) = _
      rw [hb, hlo, hhi, hsame]; rfl
    rw [this]; rfl
end Go.Proofs.Ytggnhccpncgfiaa
