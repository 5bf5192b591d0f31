/- Package spans: what lists of spans in memory read as, and rows of the call's own. No program. -/
import Derived.WalkKit
import Derived.WalkSpells
import Derived.Lib.Hide
import Derived.Below
import Derived.Maps.AppendAt
import Derived.Laws.AppendOwnNone
import Derived.OwnWalkIn
namespace Go.Proofs.Ytmclffbjdkoneaa
open Go.RowKit

abbrev Sp := Int × Int
def sp (l : List Sp) (i : Nat) : Sp := l.getD i (0, 0)
def W64 (x : Int) : Prop := -9223372036854775808 ≤ x ∧ x ≤ 9223372036854775807
def Wide (l : List Sp) : Prop := ∀ p ∈ l, W64 p.1 ∧ W64 p.2
/-- the cells of a list -/
def vals (l : List Sp) : List Value := l.flatMap fun p => [.int .i64 p.1, .int .i64 p.2]

theorem sp_eq {l : List Sp} {i : Nat} (h : i < l.length) : sp l i = l[i] := by unfold sp; rw [List.getD_eq_getElem?_getD, List.getElem?_eq_getElem h]; rfl
theorem sp_wide {l : List Sp} (h : Wide l) (i : Nat) : W64 (sp l i).1 ∧ W64 (sp l i).2 := by
  by_cases hi : i < l.length
  · rw [sp_eq hi]; exact h _ (List.getElem_mem hi)
  · unfold sp; rw [List.getD_eq_getElem?_getD, List.getElem?_eq_none (by omega)]; unfold W64; simp
theorem take_sp {l : List Sp} {k : Nat} (h : k < l.length) : l.take (k + 1) = l.take k ++ [sp l k] := by
  rw [List.take_succ_eq_append_getElem h, sp_eq h]
theorem drop_sp {l : List Sp} {k : Nat} (h : k < l.length) : l.drop k = sp l k :: l.drop (k + 1) := by
  rw [sp_eq h]; exact List.drop_eq_getElem_cons h
theorem sp_drop (l : List Sp) (k i : Nat) : sp (l.drop k) i = sp l (k + i) := by
  unfold sp; rw [List.getD_eq_getElem?_getD, List.getElem?_drop, List.getD_eq_getElem?_getD]
theorem sp_take {l : List Sp} {k i : Nat} (h : i < k) : sp (l.take k) i = sp l i := by
  unfold sp; rw [List.getD_eq_getElem?_getD, List.getElem?_take, if_pos h, List.getD_eq_getElem?_getD]
theorem sp_app {a b : List Sp} {i : Nat} (h : i < a.length) : sp (a ++ b) i = sp a i := by
  unfold sp; rw [List.getD_eq_getElem?_getD, List.getElem?_append_left h, List.getD_eq_getElem?_getD]
theorem wide_app {a b : List Sp} (h : Wide a) (k : Wide b) : Wide (a ++ b) := fun x hx => (List.mem_append.1 hx).elim (h x) (k x)
theorem wide_drop {l : List Sp} (h : Wide l) (k : Nat) : Wide (l.drop k) := fun x hx => h x (List.mem_of_mem_drop hx)
theorem wide_take {l : List Sp} (h : Wide l) (k : Nat) : Wide (l.take k) := fun x hx => h x (List.mem_of_mem_take hx)
theorem wide_one {x y : Int} (h : W64 x) (k : W64 y) : Wide [(x, y)] := fun p hp => by simp at hp; subst hp; exact ⟨h, k⟩
theorem sp_ext {a b : List Sp} (h : a.length = b.length) (he : ∀ i, i < a.length → sp a i = sp b i) : a = b := by
  apply List.ext_getElem h
  intro i h1 h2
  have := he i h1
  rwa [sp_eq h1, sp_eq h2] at this

theorem vals_length (l : List Sp) : (vals l).length = l.length * 2 := by
  unfold vals; induction l with
  | nil => rfl
  | cons p t ih => simp only [List.flatMap_cons, List.length_append, List.length_cons, List.length_nil] at *; omega
theorem vals_app (a b : List Sp) : vals (a ++ b) = vals a ++ vals b := by unfold vals; rw [List.flatMap_append]
theorem vals_one (a b : Int) : vals [(a, b)] = [.int .i64 a, .int .i64 b] := rfl
theorem vals_at (l : List Sp) : ∀ i, i < l.length → (vals l)[i * 2]? = some (.int .i64 (sp l i).1) ∧ (vals l)[i * 2 + 1]? = some (.int .i64 (sp l i).2) := by
  induction l with
  | nil => intro i hi; simp at hi
  | cons p t ih =>
    intro i hi
    have e : vals (p :: t) = .int .i64 p.1 :: .int .i64 p.2 :: vals t := rfl
    cases i with
    | zero => rw [e]; exact ⟨rfl, rfl⟩
    | succ i =>
      have := ih i (by simpa using hi)
      rw [e, show (i + 1) * 2 = i * 2 + 1 + 1 by omega]
      have hs : sp (p :: t) (i + 1) = sp t i := rfl
      rw [hs]
      simpa using this
theorem vals_cell (l : List Sp) : ∀ u ∈ vals l, u.oneCell' = true := by
  intro u hu
  unfold vals at hu
  obtain ⟨p, _, hp⟩ := List.mem_flatMap.1 hu
  simp at hp
  rcases hp with rfl | rfl <;> rfl

/-- The first n elements from A read as the list l in the world w. -/
structure Rs (w : World) (A : Option Addr) (n : Nat) (l : List Sp) : Prop where
  len : l.length = n
  wide : Wide l
  at_ : 0 < n → ∃ b o, A = some ⟨b, o, none⟩ ∧ b < w.heap.size ∧ ∀ i, i < n → w.cell? ⟨b, o + i * 2, none⟩ = some (.int .i64 (sp l i).1) ∧ w.cell? ⟨b, o + i * 2 + 1, none⟩ = some (.int .i64 (sp l i).2)

/-- A slice of spans that reads as l. -/
structure Ss (w : World) (A : Option Addr) (n c : Nat) (l : List Sp) : Prop where
  le : n ≤ c
  max : c ≤ maxLen
  nil : A = none → c = 0
  rd : Rs w A n l

section
variable {w w' : World} {A : Option Addr} {n : Nat} {l : List Sp}
theorem Rs.keep_of {B : Nat} (h : Rs w A n l) (hb : Below B w w') (hlt : ∀ b o, A = some ⟨b, o, none⟩ → 0 < n → b < B) : Rs w' A n l :=
  ⟨h.len, h.wide, fun hn => by
    obtain ⟨b, o, e, hl, hc⟩ := h.at_ hn
    exact ⟨b, o, e, Nat.lt_of_lt_of_le hl hb.size, fun i hi => ⟨(hb.cell (p := ⟨b, o + i * 2, none⟩) (hlt b o e hn)).trans (hc i hi).1, (hb.cell (p := ⟨b, o + i * 2 + 1, none⟩) (hlt b o e hn)).trans (hc i hi).2⟩⟩⟩
theorem Rs.keep (h : Rs w A n l) (hb : Below w.heap.size w w') : Rs w' A n l :=
  h.keep_of hb (fun b o e hn => by obtain ⟨b', o', e', hl, _⟩ := h.at_ hn; rw [e] at e'; cases e'; exact hl)
theorem Rs.alloc (h : Rs w A n l) (o : Obj) : Rs (w.alloc o) A n l := h.keep ((Below.refl _ _).alloc (Nat.le_refl _) o)
theorem Rs.drew (h : Rs w A n l) : Rs w.drew A n l := h.keep (Below.refl _ _).drew
theorem Rs.empty (w : World) (A : Option Addr) : Rs w A 0 [] := ⟨rfl, fun _ hx => by simp at hx, fun hn => absurd hn (by omega)⟩
theorem Rs.take {k : Nat} (h : Rs w A n l) (hk : k ≤ n) : Rs w A k (l.take k) :=
  ⟨by rw [List.length_take, h.len]; omega, wide_take h.wide k, fun h0 => by
    obtain ⟨b, o, e, hl, hc⟩ := h.at_ (by omega)
    exact ⟨b, o, e, hl, fun i hi => by rw [sp_take hi]; exact hc i (by omega)⟩⟩

/-- the address behind a cut of the first k elements of a slice of capacity c -/
def cutS (A : Option Addr) (k c : Nat) : Option Addr := if c = k then A else A.map (·.add (k * 2))
theorem Rs.cut {k m c : Nat} (h : Rs w A n l) (hn : n = m + k) (hc : n ≤ c) : Rs w (cutS A k c) m (l.drop k) :=
  ⟨by rw [List.length_drop, h.len]; omega, wide_drop h.wide k, fun h0 => by
    obtain ⟨b, o, e, hl, hcl⟩ := h.at_ (by omega)
    refine ⟨b, o + k * 2, ?_, hl, fun i hi => ?_⟩
    · unfold cutS; rw [if_neg (by omega), e]; simp only [Option.map_some, Addr.add]
      split <;> simp_all
    · have := hcl (k + i) (by omega)
      rw [sp_drop, show o + k * 2 + i * 2 = o + (k + i) * 2 by omega]
      exact this⟩

theorem Ss.keep {c : Nat} (h : Ss w A n c l) (hb : Below w.heap.size w w') : Ss w' A n c l := ⟨h.le, h.max, h.nil, h.rd.keep hb⟩
theorem Ss.alloc {c : Nat} (h : Ss w A n c l) (o : Obj) : Ss (w.alloc o) A n c l := ⟨h.le, h.max, h.nil, h.rd.alloc o⟩
theorem Ss.cut {k m c d : Nat} (h : Ss w A n c l) (hn : n = m + k) (hc : c = d + k) : Ss w (cutS A k c) m d (l.drop k) := by
  have hn' := h.nil
  have hle := h.le
  have hmx := h.max
  refine ⟨by omega, by omega, ?_, h.rd.cut hn h.le⟩
  intro e
  unfold cutS at e
  split at e
  · have := hn' e; omega
  · cases A with
    | none => have := hn' rfl; omega
    | some a => cases e
theorem Ss.head {k c : Nat} (h : Ss w A n c l) (hk : k ≤ n) : Ss w A k c (l.take k) := ⟨by have := h.le; omega, h.max, h.nil, h.rd.take hk⟩
theorem Ss.none (w : World) : Ss w none 0 0 [] := ⟨Nat.le_refl _, Nat.zero_le _, fun _ => rfl, Rs.empty _ _⟩

/-- A row of the call's own whose elements are l. -/
structure Gots (w : World) (base e : Nat) (v : Value) (n : Nat) (l : List Sp) : Prop where
  row : w.ownsRow base e 2 v n (vals l)
  wide : Wide l
theorem Gots.len {base e : Nat} {v : Value} (h : Gots w base e v n l) : l.length = n := by
  have := h.row.1; rw [vals_length] at this; omega
theorem Gots.ss {base e : Nat} {v : Value} (h : Gots w base e v n l) : ∃ A c, v = .slice A n c ∧ Ss w A n c l := by
  have hlen := h.len
  rcases h.row.2 with ⟨rfl, rfl⟩ | ⟨g, cap, cur, rfl, hg, hh, hnc, hcm, hcs, htake⟩
  · exact ⟨_, 0, rfl, Nat.le_refl _, Nat.zero_le _, fun _ => rfl, hlen, h.wide, fun h0 => by omega⟩
  · refine ⟨some ⟨g, 0, .none⟩, cap, rfl, hnc, hcm, (fun e => by cases e), hlen, h.wide, fun h0 => ⟨g, 0, rfl, ?_, fun i hi => ?_⟩⟩
    · rcases Nat.lt_or_ge g w.heap.size with hlt | hge
      · exact hlt
      · rw [Array.getElem?_eq_none hge] at hh; cases hh
    · have hv := vals_at l i (by omega)
      have h1 := h.row.cellAt (i * 2) (by omega)
      have h2 := h.row.cellAt (i * 2 + 1) (by omega)
      rw [Nat.zero_add]
      exact ⟨h1.trans hv.1, h2.trans hv.2⟩
theorem Gots.keep {base e : Nat} {v : Value} (h : Gots w base e v n l) (hf : w.grownBy w' .none) : Gots w' base e v n l :=
  ⟨h.row.kept hf (by rcases hv : v.ownBlock with _ | k <;> simp), h.wide⟩

/-- the cells of a row that a list literal lays -/
theorem news_of_rs {b o : Nat} (hlen : l.length = n) (hc : ∀ i, i < n → w.cell? ⟨b, o + i * 2, none⟩ = some (.int .i64 (sp l i).1) ∧ w.cell? ⟨b, o + i * 2 + 1, none⟩ = some (.int .i64 (sp l i).2)) :
    ∀ j u, (vals l)[j]? = some u → w.cell? ((⟨b, o, none⟩ : Addr).add j) = some u := by
  intro j u hj
  have hlt : j < l.length * 2 := by rw [← vals_length]; exact (List.getElem?_eq_some_iff.1 hj).1
  have hadd : (⟨b, o, none⟩ : Addr).add j = ⟨b, o + j, none⟩ := by
    unfold Addr.add
    split
    · next h => subst h; rfl
    · rfl
  rw [hadd]
  have hv := vals_at l (j / 2) (by omega)
  have hcc := hc (j / 2) (by omega)
  rcases Nat.mod_two_eq_zero_or_one j with h0 | h1
  · rw [show j = j / 2 * 2 by omega] at hj ⊢
    rw [hv.1] at hj; cases hj; exact hcc.1
  · rw [show j = j / 2 * 2 + 1 by omega] at hj ⊢
    rw [hv.2] at hj; cases hj; rw [← Nat.add_assoc]; exact hcc.2

/-- append onto a row of the call's own; the source as Rs reads it, nil or not -/
theorem wpList_apps {P : Program} (w : World) {A : Option Addr} {m c : Nat} {l : List Sp} {ops : Array Oper} {rest : List Oper} {o : Oper} {a : Act} {Q : Exit → Act → World → Prop} (hgd : o.guard = .none) (s x : Operand) (t : TypeId)
    (ho : o.op = .call { callee := .builtin .append, args := #[s, x], argTypes := #[t, t] })
    (base : Nat) (e : TypeId) (ht : P.underlying t = some (.slice e)) (hinfo : (P.info? e).map (fun i => (i.zero, i.size, i.bytes)) = some (some (.agg #[.int .i64 0, .int .i64 0]), 2, 16))
    (v : Value) (n : Nat) (xs : List Sp) (hs : a.eval s = v) (hown : Gots w base e v n xs)
    (hx : a.eval x = .slice A m c) (hA : A = .none → c = 0) (hr : Rs w A m l) (hsum : (n + m) * 16 ≤ 140737488355328) (hbase : base ≤ w.heap.size)
    (h : ∀ v' w', Gots w' base e v' (n + m) (xs ++ l) → w.grownBy w' v.ownBlock → (v'.ownBlock = v.ownBlock ∨ v'.ownBlock = some w.heap.size) → wpList P ops Q rest (a.put o.dst v') w') :
    wpList P ops Q (o :: rest) a w := by
  obtain ⟨i0, hi, hz0, hz1, hz2⟩ := info_parts hinfo
  cases A with
  | none =>
    have hc0 := hA rfl
    have hm0 : m = 0 := by
      rcases Nat.eq_zero_or_pos m with h0 | h0
      · exact h0
      · obtain ⟨b, o', e', _⟩ := hr.at_ h0; cases e'
    subst hm0 hc0
    have hl0 : l = [] := List.eq_nil_of_length_eq_zero hr.len
    subst hl0
    exact wpList_append_own_none hgd s x t ho base e i0 2 ht hi v n _ hs hown.row hx (h v w (by simpa using hown) (World.grownBy.refl w _) (.inl rfl))
  | some ad =>
    refine wpList_append_own_at w hgd s x t ho base e i0 (.agg #[.int .i64 0, .int .i64 0]) 2 16 ht hi hz0 hz1 hz2 rfl (by omega) v n _ hs hown.row ad m c (vals l) hx (by rw [vals_length, hr.len]) ?_ (vals_cell l) (by unfold maxLen; omega) (by omega) hbase (fun v' w' h1 h2 _ h4 => h v' w' ⟨by rw [vals_app]; exact h1, wide_app hown.wide hr.wide⟩ h2 h4)
    rcases Nat.eq_zero_or_pos m with h0 | h0
    · subst h0
      have hl0 : l = [] := List.eq_nil_of_length_eq_zero hr.len
      subst hl0
      intro j u hj; simp [vals] at hj
    · obtain ⟨b, o', e', _, hc⟩ := hr.at_ h0
      cases e'
      exact news_of_rs hr.len hc
end
end Go.Proofs.Ytmclffbjdkoneaa
