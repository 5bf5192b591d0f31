/- Rows of ints: what lists of them in memory read as, and rows of the call's own (out of XSpInts). -/
import Derived.Test.YtmclffbjdkoneaaProg
import Derived.Test.YtmclffbjdkoneaaSp
import Derived.WalkKit
import Derived.WalkSpells
import Derived.WalkSmall
import Derived.Lib.Hide
import Derived.Below
import Derived.Maps.AppendAt
import Derived.Laws.AppendOwnNone
import Derived.OwnWalkIn
namespace Go.Proofs.Ytmclffbjdkoneaa
open Go.RowKit

def it (l : List Int) (i : Nat) : Int := l.getD i 0
theorem it_eq {l : List Int} {i : Nat} (h : i < l.length) : it l i = l[i] := by unfold it; rw [List.getD_eq_getElem?_getD, List.getElem?_eq_getElem h]; rfl
theorem it_mem {l : List Int} {i : Nat} (h : i < l.length) : it l i ∈ l := by rw [it_eq h]; exact List.getElem_mem h
theorem it_drop (l : List Int) (k i : Nat) : it (l.drop k) i = it l (k + i) := by
  unfold it; rw [List.getD_eq_getElem?_getD, List.getElem?_drop, List.getD_eq_getElem?_getD]
theorem it_take {l : List Int} {k i : Nat} (h : i < k) : it (l.take k) i = it l i := by
  unfold it; rw [List.getD_eq_getElem?_getD, List.getElem?_take, if_pos h, List.getD_eq_getElem?_getD]
def WideI (l : List Int) : Prop := ∀ x ∈ l, W64 x
theorem it_wide {l : List Int} (h : WideI l) (i : Nat) : W64 (it l i) := by
  by_cases hi : i < l.length
  · exact h _ (it_mem hi)
  · unfold it; rw [List.getD_eq_getElem?_getD, List.getElem?_eq_none (by omega)]; unfold W64; simp
def Rise (l : List Int) : Prop := l.Pairwise (· < ·)
theorem rise_lt {l : List Int} (h : Rise l) {i j : Nat} (hij : i < j) (hj : j < l.length) : it l i < it l j := by
  rw [it_eq (by omega), it_eq hj]
  exact List.pairwise_iff_getElem.1 h i j (by omega) hj hij

structure Ri (w : World) (A : Option Addr) (n : Nat) (l : List Int) : Prop where
  len : l.length = n
  wide : WideI l
  at_ : 0 < n → ∃ b o, A = some ⟨b, o, none⟩ ∧ b < w.heap.size ∧ ∀ i, i < n → w.cell? ⟨b, o + i, none⟩ = some (.int .i64 (it l i))
structure Si (w : World) (A : Option Addr) (n c : Nat) (l : List Int) : Prop where
  le : n ≤ c
  max : c ≤ maxLen
  nil : A = none → c = 0
  rd : Ri w A n l
section
variable {w w' : World} {A : Option Addr} {n c : Nat} {l : List Int}
theorem Ri.keep (h : Ri w A n l) (hb : Below w.heap.size w w') : Ri w' A n l :=
  ⟨h.len, h.wide, fun hn => by
    obtain ⟨b, o, e, hl, hc⟩ := h.at_ hn
    exact ⟨b, o, e, Nat.lt_of_lt_of_le hl hb.size, fun i hi => (hb.cell (p := ⟨b, o + i, none⟩) hl).trans (hc i hi)⟩⟩
theorem Ri.empty (w : World) (A : Option Addr) : Ri w A 0 [] := ⟨rfl, fun _ hx => by simp at hx, fun hn => absurd hn (by omega)⟩
theorem Si.keep (h : Si w A n c l) (hb : Below w.heap.size w w') : Si w' A n c l := ⟨h.le, h.max, h.nil, h.rd.keep hb⟩
theorem Si.none (w : World) : Si w none 0 0 [] := ⟨Nat.le_refl _, Nat.zero_le _, fun _ => rfl, Ri.empty _ _⟩
theorem Si.head {k : Nat} (h : Si w A n c l) (hk : k ≤ n) : Si w A k c (l.take k) :=
  ⟨by have := h.le; omega, h.max, h.nil, by rw [List.length_take, h.rd.len]; omega, fun x hx => h.rd.wide x (List.mem_of_mem_take hx), fun h0 => by
    obtain ⟨b, o, e, hl, hc⟩ := h.rd.at_ (by omega)
    exact ⟨b, o, e, hl, fun i hi => by rw [it_take hi]; exact hc i (by omega)⟩⟩
def cutI (A : Option Addr) (k c : Nat) : Option Addr := if c = k then A else A.map (·.add k)
theorem Si.cut {k m d : Nat} (h : Si w A n c l) (hn : n = m + k) (hc : c = d + k) : Si w (cutI A k c) m d (l.drop k) := by
  have hn' := h.nil
  have hle := h.le
  have hmx := h.max
  refine ⟨by omega, by omega, ?_, by rw [List.length_drop, h.rd.len]; omega, fun x hx => h.rd.wide x (List.mem_of_mem_drop hx), fun h0 => ?_⟩
  · intro e
    unfold cutI at e
    split at e
    · have := hn' e; omega
    · cases A with
      | none => have := hn' rfl; omega
      | some a => cases e
  · obtain ⟨b, o, e, hl, hcl⟩ := h.rd.at_ (by omega)
    refine ⟨b, o + k, ?_, hl, fun i hi => ?_⟩
    · unfold cutI; rw [if_neg (by omega), e]; simp only [Option.map_some, Addr.add]
      split <;> simp_all
    · rw [Nat.add_assoc, hcl (k + i) (by omega), it_drop]
structure Goti (w : World) (base e : Nat) (v : Value) (n : Nat) (l : List Int) : Prop where
  row : w.ownsRow base e 1 v n (l.map (Value.int .i64))
  wide : WideI l
theorem Goti.si {base e : Nat} {v : Value} (h : Goti w base e v n l) : ∃ A c, v = .slice A n c ∧ Si w A n c l := by
  have hlen : l.length = n := by have := h.row.1; simpa using this
  rcases h.row.2 with ⟨rfl, rfl⟩ | ⟨g, cap, cur, rfl, hg, hh, hnc, hcm, hcs, htake⟩
  · exact ⟨_, 0, rfl, Nat.le_refl _, Nat.zero_le _, fun _ => rfl, hlen, h.wide, fun h0 => by omega⟩
  · refine ⟨some ⟨g, 0, .none⟩, cap, rfl, hnc, hcm, (fun e => by cases e), hlen, h.wide, fun h0 => ⟨g, 0, rfl, ?_, fun i hi => ?_⟩⟩
    · rcases Nat.lt_or_ge g w.heap.size with hlt | hge
      · exact hlt
      · rw [Array.getElem?_eq_none hge] at hh; cases hh
    · rw [Nat.zero_add, h.row.cellAt i (by omega), List.getElem?_map, List.getElem?_eq_getElem (by omega), it_eq (by omega)]
      rfl

theorem wpList_appi {P : Program} (w : World) {A : Option Addr} {m c : Nat} {l : List Int} {ops : Array Oper} {rest : List Oper} {o : Oper} {a : Act} {Q : Exit → Act → World → Prop} (hgd : o.guard = .none) (s x : Operand) (t : TypeId)
    (ho : o.op = .call { callee := .builtin .append, args := #[s, x], argTypes := #[t, t] })
    (base : Nat) (e : TypeId) (ht : P.underlying t = some (.slice e)) (hinfo : (P.info? e).map (fun i => (i.zero, i.size, i.bytes)) = some (some (.int .i64 0), 1, 8))
    (v : Value) (n : Nat) (xs : List Int) (hs : a.eval s = v) (hown : Goti w base e v n xs)
    (hx : a.eval x = .slice A m c) (hA : A = .none → c = 0) (hr : Ri w A m l) (hsum : (n + m) * 8 ≤ 140737488355328) (hbase : base ≤ w.heap.size)
    (h : ∀ v' w', Goti w' base e v' (n + m) (xs ++ l) → w.grownBy w' v.ownBlock → (v'.ownBlock = v.ownBlock ∨ v'.ownBlock = some w.heap.size) → wpList P ops Q rest (a.put o.dst v') w') :
    wpList P ops Q (o :: rest) a w := by
  obtain ⟨i0, hi, hz0, hz1, hz2⟩ := info_parts hinfo
  have hw : WideI (xs ++ l) := fun y hy => (List.mem_append.1 hy).elim (hown.wide y) (hr.wide y)
  cases A with
  | none =>
    have hc0 := hA rfl
    have hm0 : m = 0 := by
      rcases Nat.eq_zero_or_pos m with h0 | h0
      · exact h0
      · obtain ⟨b, o', e', _⟩ := hr.at_ h0; cases e'
    subst hm0 hc0
    have hl0 : l = [] := List.eq_nil_of_length_eq_zero hr.len
    subst hl0
    exact wpList_append_own_none hgd s x t ho base e i0 1 ht hi v n _ hs hown.row hx (h v w (by simpa using hown) (World.grownBy.refl w _) (.inl rfl))
  | some ad =>
    refine wpList_append_own_at w hgd s x t ho base e i0 (.int .i64 0) 1 8 ht hi hz0 hz1 hz2 rfl (by omega) v n _ hs hown.row ad m c (l.map (Value.int .i64)) hx (by simp [hr.len]) ?_ (ints_oneCell _ _) (by unfold maxLen; omega) (by omega) hbase (fun v' w' h1 h2 _ h4 => h v' w' ⟨by rw [List.map_append]; exact h1, hw⟩ h2 h4)
    intro j u hj
    have hjm : j < m := by
      have := (List.getElem?_eq_some_iff.1 hj).1
      rw [List.length_map, hr.len] at this
      exact this
    obtain ⟨b, o', e', _, hc⟩ := hr.at_ (by omega)
    cases e'
    have hcell := hc j hjm
    rw [List.getElem?_map, List.getElem?_eq_getElem (by rw [hr.len]; exact hjm)] at hj
    have hu : u = .int .i64 (it l j) := by
      simp only [Option.map_some, Option.some.injEq] at hj
      rw [← hj, it_eq (by rw [hr.len]; exact hjm)]
    rw [hu, ← hcell]
    unfold Addr.add
    split
    · next h => subst h; rfl
    · rfl
theorem Goti.alloc {base e : Nat} {v : Value} (h : Goti w base e v n l) (o : Obj) : Goti (w.alloc o) base e v n l := ⟨h.row.alloc o, h.wide⟩
theorem Goti.nil (w : World) (base e : Nat) : Goti w base e (.slice .none 0 0) 0 [] := ⟨World.ownsRow_nil _ _ _ _, fun _ hx => by simp at hx⟩
theorem ri_one (w : World) {x : Int} (hx : W64 x) (t : TypeId) : Ri (w.alloc (.cells #[.int .i64 x] t)) (some ⟨w.heap.size, 0, .none⟩) 1 [x] :=
  ⟨rfl, fun y hy => by rw [List.mem_singleton] at hy; subst hy; exact hx, fun _ => ⟨w.heap.size, 0, rfl, by simp, fun i hi => by
    obtain rfl : i = 0 := by omega
    rw [Nat.zero_add, World.cell?_alloc_new]; rfl⟩⟩
end

theorem run_cutI (P : Program) (t e : TypeId) (ht : P.underlying t = some (.slice e)) (hinfo : (P.info? e).map (fun i => (i.zero, i.size, i.bytes)) = some (some (.int .i64 0), 1, 8)) (A : Option Addr) (k m d : Nat) (w : World) (hk : k ≤ 1000000) (_ : m ≤ d) :
    (Instr.slice t (.slice A (m + k) (d + k)) (some (.int .i64 (k : Int))) none none).run P w = .ok (.slice (cutI A k (d + k)) m d) w := by
  obtain ⟨i0, hi, hz0, hz1, hz2⟩ := info_parts hinfo
  have ht' : P.underlying t = some (.slice (P.elem t)) := by simp [Program.elem, ht]
  have he : P.elem t = e := by simp [Program.elem, ht]
  have hz : ∀ w, (Go.sizeOf e).run P w = .ok 1 w := fun w => by simp [Go.sizeOf, typeInfo, hi, hz1]
  rw [run_slice_l w t _ _ _ ht' .i64 _ (by omega) (by omega), he, hz]
  simp [Result.andThen, sliced, cutI]
theorem run_headI (P : Program) (t e : TypeId) (ht : P.underlying t = some (.slice e)) (hinfo : (P.info? e).map (fun i => (i.zero, i.size, i.bytes)) = some (some (.int .i64 0), 1, 8)) (A : Option Addr) (k n c : Nat) (w : World) (hk : k ≤ c) :
    (Instr.slice t (.slice A n c) none (some (.int .i64 (k : Int))) none).run P w = .ok (.slice A k c) w := by
  obtain ⟨i0, hi, hz0, hz1, hz2⟩ := info_parts hinfo
  have ht' : P.underlying t = some (.slice (P.elem t)) := by simp [Program.elem, ht]
  have he : P.elem t = e := by simp [Program.elem, ht]
  have hz : ∀ w, (Go.sizeOf e).run P w = .ok 1 w := fun w => by simp [Go.sizeOf, typeInfo, hi, hz1]
  rw [run_slice_h w t _ _ _ ht' .i64 _ (by omega) (by omega), he, hz]
  have h0 : ∀ a : Addr, a.add 0 = a := fun a => by simp [Addr.add]
  simp [Result.andThen, sliced, h0]
theorem info_int : (Try.prog.info? 3).map (fun i => (i.zero, i.size, i.bytes)) = some (some (.int .i64 0), 1, 8) := by kernel_rfl
end Go.Proofs.Ytmclffbjdkoneaa
