/- Pairs of uint32: what lists of them in memory read as, and rows of the call's own (XSp with other names). No program. -/
import Derived.Test.YtfglagkpknpgdaaSg
import Derived.WalkKit
import Derived.WalkSpells
import Derived.Lib.Hide
import Derived.Below
import Derived.Maps.AppendAt
import Derived.Laws.AppendOwnNone
import Derived.OwnWalkIn
namespace Go.Proofs.Ytfglagkpknpgdaa
open Go.RowKit

abbrev Pr := Int × Int
def pr (l : List Pr) (i : Nat) : Pr := l.getD i (0, 0)
def WideP (l : List Pr) : Prop := ∀ p ∈ l, U32 p.1 ∧ U32 p.2
/-- the cells of a list -/
def valsP (l : List Pr) : List Value := l.flatMap fun p => [.int .u32 p.1, .int .u32 p.2]

theorem pr_eq {l : List Pr} {i : Nat} (h : i < l.length) : pr l i = l[i] := by unfold pr; rw [List.getD_eq_getElem?_getD, List.getElem?_eq_getElem h]; rfl
theorem pr_wide {l : List Pr} (h : WideP l) (i : Nat) : U32 (pr l i).1 ∧ U32 (pr l i).2 := by
  by_cases hi : i < l.length
  · rw [pr_eq hi]; exact h _ (List.getElem_mem hi)
  · unfold pr; rw [List.getD_eq_getElem?_getD, List.getElem?_eq_none (by omega)]; unfold U32; simp
theorem take_pr {l : List Pr} {k : Nat} (h : k < l.length) : l.take (k + 1) = l.take k ++ [pr l k] := by
  rw [List.take_succ_eq_append_getElem h, pr_eq h]
theorem drop_pr {l : List Pr} {k : Nat} (h : k < l.length) : l.drop k = pr l k :: l.drop (k + 1) := by
  rw [pr_eq h]; exact List.drop_eq_getElem_cons h
theorem pr_drop (l : List Pr) (k i : Nat) : pr (l.drop k) i = pr l (k + i) := by
  unfold pr; rw [List.getD_eq_getElem?_getD, List.getElem?_drop, List.getD_eq_getElem?_getD]
theorem pr_take {l : List Pr} {k i : Nat} (h : i < k) : pr (l.take k) i = pr l i := by
  unfold pr; rw [List.getD_eq_getElem?_getD, List.getElem?_take, if_pos h, List.getD_eq_getElem?_getD]
theorem pr_app {a b : List Pr} {i : Nat} (h : i < a.length) : pr (a ++ b) i = pr a i := by
  unfold pr; rw [List.getD_eq_getElem?_getD, List.getElem?_append_left h, List.getD_eq_getElem?_getD]
theorem wideP_app {a b : List Pr} (h : WideP a) (k : WideP b) : WideP (a ++ b) := fun x hx => (List.mem_append.1 hx).elim (h x) (k x)
theorem wideP_drop {l : List Pr} (h : WideP l) (k : Nat) : WideP (l.drop k) := fun x hx => h x (List.mem_of_mem_drop hx)
theorem wideP_take {l : List Pr} (h : WideP l) (k : Nat) : WideP (l.take k) := fun x hx => h x (List.mem_of_mem_take hx)
theorem wideP_one {x y : Int} (h : U32 x) (k : U32 y) : WideP [(x, y)] := fun p hp => by simp at hp; subst hp; exact ⟨h, k⟩
theorem pr_ext {a b : List Pr} (h : a.length = b.length) (he : ∀ i, i < a.length → pr a i = pr b i) : a = b := by
  apply List.ext_getElem h
  intro i h1 h2
  have := he i h1
  rwa [pr_eq h1, pr_eq h2] at this

theorem valsP_length (l : List Pr) : (valsP l).length = l.length * 2 := by
  unfold valsP; induction l with
  | nil => rfl
  | cons p t ih => simp only [List.flatMap_cons, List.length_append, List.length_cons, List.length_nil] at *; omega
theorem valsP_app (a b : List Pr) : valsP (a ++ b) = valsP a ++ valsP b := by unfold valsP; rw [List.flatMap_append]
theorem valsP_one (a b : Int) : valsP [(a, b)] = [.int .u32 a, .int .u32 b] := rfl
theorem valsP_at (l : List Pr) : ∀ i, i < l.length → (valsP l)[i * 2]? = some (.int .u32 (pr l i).1) ∧ (valsP l)[i * 2 + 1]? = some (.int .u32 (pr l i).2) := by
  induction l with
  | nil => intro i hi; simp at hi
  | cons p t ih =>
    intro i hi
    have e : valsP (p :: t) = .int .u32 p.1 :: .int .u32 p.2 :: valsP t := rfl
    cases i with
    | zero => rw [e]; exact ⟨rfl, rfl⟩
    | succ i =>
      have := ih i (by simpa using hi)
      rw [e, show (i + 1) * 2 = i * 2 + 1 + 1 by omega]
      have hs : pr (p :: t) (i + 1) = pr t i := rfl
      rw [hs]
      simpa using this
theorem valsP_cell (l : List Pr) : ∀ u ∈ valsP l, u.oneCell' = true := by
  intro u hu
  unfold valsP at hu
  obtain ⟨p, _, hp⟩ := List.mem_flatMap.1 hu
  simp at hp
  rcases hp with rfl | rfl <;> rfl

/-- The first n elements from A read as the list l in the world w. -/
structure Rp (w : World) (A : Option Addr) (n : Nat) (l : List Pr) : Prop where
  len : l.length = n
  wide : WideP l
  at_ : 0 < n → ∃ b o, A = some ⟨b, o, none⟩ ∧ b < w.heap.size ∧ ∀ i, i < n → w.cell? ⟨b, o + i * 2, none⟩ = some (.int .u32 (pr l i).1) ∧ w.cell? ⟨b, o + i * 2 + 1, none⟩ = some (.int .u32 (pr l i).2)

/-- A slice of spans that reads as l. -/
structure Sr (w : World) (A : Option Addr) (n c : Nat) (l : List Pr) : Prop where
  le : n ≤ c
  max : c ≤ maxLen
  nil : A = none → c = 0
  rd : Rp w A n l

section
variable {w w' : World} {A : Option Addr} {n : Nat} {l : List Pr}
theorem Rp.keep_of {B : Nat} (h : Rp w A n l) (hb : Below B w w') (hlt : ∀ b o, A = some ⟨b, o, none⟩ → 0 < n → b < B) : Rp w' A n l :=
  ⟨h.len, h.wide, fun hn => by
    obtain ⟨b, o, e, hl, hc⟩ := h.at_ hn
    exact ⟨b, o, e, Nat.lt_of_lt_of_le hl hb.size, fun i hi => ⟨(hb.cell (p := ⟨b, o + i * 2, none⟩) (hlt b o e hn)).trans (hc i hi).1, (hb.cell (p := ⟨b, o + i * 2 + 1, none⟩) (hlt b o e hn)).trans (hc i hi).2⟩⟩⟩
theorem Rp.keep (h : Rp w A n l) (hb : Below w.heap.size w w') : Rp w' A n l :=
  h.keep_of hb (fun b o e hn => by obtain ⟨b', o', e', hl, _⟩ := h.at_ hn; rw [e] at e'; cases e'; exact hl)
theorem Rp.alloc (h : Rp w A n l) (o : Obj) : Rp (w.alloc o) A n l := h.keep ((Below.refl _ _).alloc (Nat.le_refl _) o)
theorem Rp.drew (h : Rp w A n l) : Rp w.drew A n l := h.keep (Below.refl _ _).drew
theorem Rp.empty (w : World) (A : Option Addr) : Rp w A 0 [] := ⟨rfl, fun _ hx => by simp at hx, fun hn => absurd hn (by omega)⟩
theorem Rp.take {k : Nat} (h : Rp w A n l) (hk : k ≤ n) : Rp w A k (l.take k) :=
  ⟨by rw [List.length_take, h.len]; omega, wideP_take h.wide k, fun h0 => by
    obtain ⟨b, o, e, hl, hc⟩ := h.at_ (by omega)
    exact ⟨b, o, e, hl, fun i hi => by rw [pr_take hi]; exact hc i (by omega)⟩⟩

/-- the address behind a cut of the first k elements of a slice of capacity c -/
def cutP (A : Option Addr) (k c : Nat) : Option Addr := if c = k then A else A.map (·.add (k * 2))
theorem Rp.cut {k m c : Nat} (h : Rp w A n l) (hn : n = m + k) (hc : n ≤ c) : Rp w (cutP A k c) m (l.drop k) :=
  ⟨by rw [List.length_drop, h.len]; omega, wideP_drop h.wide k, fun h0 => by
    obtain ⟨b, o, e, hl, hcl⟩ := h.at_ (by omega)
    refine ⟨b, o + k * 2, ?_, hl, fun i hi => ?_⟩
    · unfold cutP; rw [if_neg (by omega), e]; simp only [Option.map_some, Addr.add]
      split <;> simp_all
    · have := hcl (k + i) (by omega)
      rw [pr_drop, show o + k * 2 + i * 2 = o + (k + i) * 2 by omega]
      exact this⟩

theorem Sr.keep {c : Nat} (h : Sr w A n c l) (hb : Below w.heap.size w w') : Sr w' A n c l := ⟨h.le, h.max, h.nil, h.rd.keep hb⟩
theorem Sr.alloc {c : Nat} (h : Sr w A n c l) (o : Obj) : Sr (w.alloc o) A n c l := ⟨h.le, h.max, h.nil, h.rd.alloc o⟩
theorem Sr.cut {k m c d : Nat} (h : Sr w A n c l) (hn : n = m + k) (hc : c = d + k) : Sr w (cutP A k c) m d (l.drop k) := by
  have hn' := h.nil
  have hle := h.le
  have hmx := h.max
  refine ⟨by omega, by omega, ?_, h.rd.cut hn h.le⟩
  intro e
  unfold cutP at e
  split at e
  · have := hn' e; omega
  · cases A with
    | none => have := hn' rfl; omega
    | some a => cases e
theorem Sr.head {k c : Nat} (h : Sr w A n c l) (hk : k ≤ n) : Sr w A k c (l.take k) := ⟨by have := h.le; omega, h.max, h.nil, h.rd.take hk⟩
theorem Sr.none (w : World) : Sr w none 0 0 [] := ⟨Nat.le_refl _, Nat.zero_le _, fun _ => rfl, Rp.empty _ _⟩

/-- A row of the call's own whose elements are l. -/
structure Gotp (w : World) (base e : Nat) (v : Value) (n : Nat) (l : List Pr) : Prop where
  row : w.ownsRow base e 2 v n (valsP l)
  wide : WideP l
theorem Gotp.len {base e : Nat} {v : Value} (h : Gotp w base e v n l) : l.length = n := by
  have := h.row.1; rw [valsP_length] at this; omega
theorem Gotp.ss {base e : Nat} {v : Value} (h : Gotp w base e v n l) : ∃ A c, v = .slice A n c ∧ Sr w A n c l := by
  have hlen := h.len
  rcases h.row.2 with ⟨rfl, rfl⟩ | ⟨g, cap, cur, rfl, hg, hh, hnc, hcm, hcs, htake⟩
  · exact ⟨_, 0, rfl, Nat.le_refl _, Nat.zero_le _, fun _ => rfl, hlen, h.wide, fun h0 => by omega⟩
  · refine ⟨some ⟨g, 0, .none⟩, cap, rfl, hnc, hcm, (fun e => by cases e), hlen, h.wide, fun h0 => ⟨g, 0, rfl, ?_, fun i hi => ?_⟩⟩
    · rcases Nat.lt_or_ge g w.heap.size with hlt | hge
      · exact hlt
      · rw [Array.getElem?_eq_none hge] at hh; cases hh
    · have hv := valsP_at l i (by omega)
      have h1 := h.row.cellAt (i * 2) (by omega)
      have h2 := h.row.cellAt (i * 2 + 1) (by omega)
      rw [Nat.zero_add]
      exact ⟨h1.trans hv.1, h2.trans hv.2⟩
theorem Gotp.keep {base e : Nat} {v : Value} (h : Gotp w base e v n l) (hf : w.grownBy w' .none) : Gotp w' base e v n l :=
  ⟨h.row.kept hf (by rcases hv : v.ownBlock with _ | k <;> simp), h.wide⟩

/-- the cells of a row that a list literal lays -/
theorem news_of_rp {b o : Nat} (hlen : l.length = n) (hc : ∀ i, i < n → w.cell? ⟨b, o + i * 2, none⟩ = some (.int .u32 (pr l i).1) ∧ w.cell? ⟨b, o + i * 2 + 1, none⟩ = some (.int .u32 (pr l i).2)) :
    ∀ j u, (valsP l)[j]? = some u → w.cell? ((⟨b, o, none⟩ : Addr).add j) = some u := by
  intro j u hj
  have hlt : j < l.length * 2 := by rw [← valsP_length]; exact (List.getElem?_eq_some_iff.1 hj).1
  have hadd : (⟨b, o, none⟩ : Addr).add j = ⟨b, o + j, none⟩ := by
    unfold Addr.add
    split
    · next h => subst h; rfl
    · rfl
  rw [hadd]
  have hv := valsP_at l (j / 2) (by omega)
  have hcc := hc (j / 2) (by omega)
  rcases Nat.mod_two_eq_zero_or_one j with h0 | h1
  · rw [show j = j / 2 * 2 by omega] at hj ⊢
    rw [hv.1] at hj; cases hj; exact hcc.1
  · rw [show j = j / 2 * 2 + 1 by omega] at hj ⊢
    rw [hv.2] at hj; cases hj; rw [← Nat.add_assoc]; exact hcc.2

/-- append onto a row of the call's own; the source as Rp reads it, nil or not -/
theorem wpList_appp {P : Program} (w : World) {A : Option Addr} {m c : Nat} {l : List Pr} {ops : Array Oper} {rest : List Oper} {o : Oper} {a : Act} {Q : Exit → Act → World → Prop} (hgd : o.guard = .none) (s x : Operand) (t : TypeId)
    (ho : o.op = .call { callee := .builtin .append, args := #[s, x], argTypes := #[t, t] })
    (base : Nat) (e : TypeId) (ht : P.underlying t = some (.slice e)) (hinfo : (P.info? e).map (fun i => (i.zero, i.size, i.bytes)) = some (some (.agg #[.int .u32 0, .int .u32 0]), 2, 8))
    (v : Value) (n : Nat) (xs : List Pr) (hs : a.eval s = v) (hown : Gotp w base e v n xs)
    (hx : a.eval x = .slice A m c) (hA : A = .none → c = 0) (hr : Rp w A m l) (hsum : (n + m) * 8 ≤ 140737488355328) (hbase : base ≤ w.heap.size)
    (h : ∀ v' w', Gotp w' base e v' (n + m) (xs ++ l) → w.grownBy w' v.ownBlock → (v'.ownBlock = v.ownBlock ∨ v'.ownBlock = some w.heap.size) → wpList P ops Q rest (a.put o.dst v') w') :
    wpList P ops Q (o :: rest) a w := by
  obtain ⟨i0, hi, hz0, hz1, hz2⟩ := info_parts hinfo
  cases A with
  | none =>
    have hc0 := hA rfl
    have hm0 : m = 0 := by
      rcases Nat.eq_zero_or_pos m with h0 | h0
      · exact h0
      · obtain ⟨b, o', e', _⟩ := hr.at_ h0; cases e'
    subst hm0 hc0
    have hl0 : l = [] := List.eq_nil_of_length_eq_zero hr.len
    subst hl0
    exact wpList_append_own_none hgd s x t ho base e i0 2 ht hi v n _ hs hown.row hx (h v w (by simpa using hown) (World.grownBy.refl w _) (.inl rfl))
  | some ad =>
    refine wpList_append_own_at w hgd s x t ho base e i0 (.agg #[.int .u32 0, .int .u32 0]) 2 8 ht hi hz0 hz1 hz2 rfl (by omega) v n _ hs hown.row ad m c (valsP l) hx (by rw [valsP_length, hr.len]) ?_ (valsP_cell l) (by unfold maxLen; omega) (by omega) hbase (fun v' w' h1 h2 _ h4 => h v' w' ⟨by rw [valsP_app]; exact h1, wideP_app hown.wide hr.wide⟩ h2 h4)
    rcases Nat.eq_zero_or_pos m with h0 | h0
    · subst h0
      have hl0 : l = [] := List.eq_nil_of_length_eq_zero hr.len
      subst hl0
      intro j u hj; simp [valsP] at hj
    · obtain ⟨b, o', e', _, hc⟩ := hr.at_ h0
      cases e'
      exact news_of_rp hr.len hc
end
end Go.Proofs.Ytfglagkpknpgdaa
