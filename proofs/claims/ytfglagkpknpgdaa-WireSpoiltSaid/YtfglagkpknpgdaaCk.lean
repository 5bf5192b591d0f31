/- Package check: what byte slices read as, the two sums, and appends whose source may be nil. No program. -/
import Derived.WalkKit
import Derived.WalkSpells
import Derived.Lib.Hide
import Derived.Below
import Derived.Maps.AppendAt
import Derived.Laws.AppendOwnNone
namespace Go.Proofs.Ytfglagkpknpgdaa
open Go.RowKit

/-- byte i of a list -/
def byt (l : List Int) (i : Nat) : Int := l.getD i 0
def Small (l : List Int) : Prop := ∀ x ∈ l, 0 ≤ x ∧ x < 256

theorem byt_in {l : List Int} (h : Small l) {i : Nat} (hi : i < l.length) : 0 ≤ byt l i ∧ byt l i < 256 := by
  unfold byt; rw [List.getD_eq_getElem?_getD, List.getElem?_eq_getElem hi]; exact h _ (List.getElem_mem hi)
theorem byt_bd {l : List Int} (h : Small l) (i : Nat) : 0 ≤ byt l i ∧ byt l i < 256 := by
  by_cases hi : i < l.length
  · exact byt_in h hi
  · unfold byt; rw [List.getD_eq_getElem?_getD, List.getElem?_eq_none (by omega)]; simp
theorem take_byt {l : List Int} {k : Nat} (h : k < l.length) : l.take (k + 1) = l.take k ++ [byt l k] := by
  rw [List.take_succ_eq_append_getElem h]; unfold byt; rw [List.getD_eq_getElem?_getD, List.getElem?_eq_getElem h]; rfl
theorem byt_ext {a b : List Int} (h : a.length = b.length) (he : ∀ i, i < a.length → byt a i = byt b i) : a = b := by
  apply List.ext_getElem h
  intro i h1 h2
  have := he i h1
  unfold byt at this
  rwa [List.getD_eq_getElem?_getD, List.getD_eq_getElem?_getD, List.getElem?_eq_getElem h1, List.getElem?_eq_getElem h2] at this
theorem byt_drop (l : List Int) (k i : Nat) : byt (l.drop k) i = byt l (k + i) := by
  unfold byt; rw [List.getD_eq_getElem?_getD, List.getElem?_drop, List.getD_eq_getElem?_getD]
theorem byt_take {l : List Int} {k i : Nat} (h : i < k) : byt (l.take k) i = byt l i := by
  unfold byt; rw [List.getD_eq_getElem?_getD, List.getElem?_take, if_pos h, List.getD_eq_getElem?_getD]
theorem small_app {a b : List Int} (h : Small a) (k : Small b) : Small (a ++ b) := fun x hx => (List.mem_append.1 hx).elim (h x) (k x)
theorem small_drop {l : List Int} (h : Small l) (k : Nat) : Small (l.drop k) := fun x hx => h x (List.mem_of_mem_drop hx)
theorem small_take {l : List Int} (h : Small l) (k : Nat) : Small (l.take k) := fun x hx => h x (List.mem_of_mem_take hx)

/-- The first n places from A read as the bytes l in the world w. -/
structure Rd (w : World) (A : Option Addr) (n : Nat) (l : List Int) : Prop where
  len : l.length = n
  small : Small l
  at_ : 0 < n → ∃ b o, A = some ⟨b, o, none⟩ ∧ b < w.heap.size ∧ ∀ i, i < n → w.cell? ⟨b, o + i, none⟩ = some (.int .u8 (byt l i))

section
variable {w w' : World} {A : Option Addr} {n : Nat} {l : List Int}
theorem Rd.keep (h : Rd w A n l) (hb : Below w.heap.size w w') : Rd w' A n l :=
  ⟨h.len, h.small, fun hn => by
    obtain ⟨b, o, e, hlt, hc⟩ := h.at_ hn
    exact ⟨b, o, e, Nat.lt_of_lt_of_le hlt hb.size, fun i hi => (hb.cell (p := ⟨b, o + i, none⟩) hlt).trans (hc i hi)⟩⟩
theorem Rd.keep_of {B : Nat} (h : Rd w A n l) (hb : Below B w w') (hlt : ∀ b o, A = some ⟨b, o, none⟩ → b < B) : Rd w' A n l :=
  ⟨h.len, h.small, fun hn => by
    obtain ⟨b, o, e, hl, hc⟩ := h.at_ hn
    exact ⟨b, o, e, Nat.lt_of_lt_of_le hl hb.size, fun i hi => (hb.cell (p := ⟨b, o + i, none⟩) (hlt b o e)).trans (hc i hi)⟩⟩
theorem Rd.alloc (h : Rd w A n l) (o : Obj) : Rd (w.alloc o) A n l := h.keep ((Below.refl _ _).alloc (Nat.le_refl _) o)
theorem Rd.drew (h : Rd w A n l) : Rd w.drew A n l := h.keep (Below.refl _ _).drew
theorem Rd.empty (w : World) (A : Option Addr) : Rd w A 0 [] := ⟨rfl, fun _ hx => by simp at hx, fun hn => absurd hn (by omega)⟩
/-- what a walk wants of one place -/
theorem Rd.spot (h : Rd w A n l) (hn : 0 < n) : ∃ b o, A = some ⟨b, o, none⟩ ∧ b < w.heap.size ∧ Hid (∀ i, i < n → w.cell? ⟨b, o + i, none⟩ = some (.int .u8 (byt l i))) := h.at_ hn
theorem Rd.take {k : Nat} (h : Rd w A n l) (hk : k ≤ n) : Rd w A k (l.take k) :=
  ⟨by rw [List.length_take, h.len]; omega, small_take h.small k, fun h0 => by
    obtain ⟨b, o, e, hl, hc⟩ := h.at_ (by omega)
    exact ⟨b, o, e, hl, fun i hi => by rw [hc i (by omega), byt_take hi]⟩⟩

/-- the address behind a cut of the first k places of a slice of capacity c -/
def cutA (A : Option Addr) (k c : Nat) : Option Addr := if c = k then A else A.map (·.add k)
theorem Rd.cut {k m c : Nat} (h : Rd w A n l) (hn : n = m + k) (hc : n ≤ c) : Rd w (cutA A k c) m (l.drop k) :=
  ⟨by rw [List.length_drop, h.len]; omega, small_drop h.small k, fun h0 => by
    obtain ⟨b, o, e, hl, hcl⟩ := h.at_ (by omega)
    refine ⟨b, o + k, ?_, hl, fun i hi => ?_⟩
    · unfold cutA; rw [if_neg (by omega), e]; simp only [Option.map_some, Addr.add]
      split <;> simp_all
    · rw [Nat.add_assoc, hcl (k + i) (by omega), byt_drop]⟩

theorem small_of_wf {zs : List Int} (h : ∀ n ∈ zs, (Lit.int .u8 n).wf = true) : Small zs := fun x hx => by
  have := h x hx
  simp [Lit.wf, IntKind.min, IntKind.max, IntKind.signed, IntKind.bits] at this
  omega

/-- from what the row's opening of a []byte hands over -/
theorem Rd.of_ints {a : Addr} {len cap : Nat} {zs : List Int} (hl : len ≤ cap) (hz : zs.length = cap) (hc : ∀ i, i < zs.length → w.cell? (a.add i) = some (.int .u8 (zs.getD i 0)))
    (hw : ∀ n ∈ zs, (Lit.int .u8 n).wf = true) (hb : ∀ b o, a = ⟨b, o, none⟩ → 0 < len → b < w.heap.size) : Rd w (some a) len (zs.take len) := by
  refine ⟨by rw [List.length_take]; omega, small_take (small_of_wf hw) len, fun h0 => ?_⟩
  have hsp : a.spot = none := by
    have := World.cell?_spot (hc 0 (by omega))
    simpa [Addr.add] using this
  obtain ⟨b, o, s⟩ := a
  simp only at hsp
  subst hsp
  refine ⟨b, o, rfl, hb b o rfl h0, fun i hi => ?_⟩
  have e := hc i (by omega)
  rw [byt_take hi]
  unfold byt
  rw [← e]
  unfold Addr.add
  split
  · next h => subst h; rfl
  · rfl

theorem Rd.of_own {base : Nat} {e : TypeId} {v : Value} {xs : List Int} (h : w.ownsRow base e 1 v n (xs.map (Value.int .u8))) (hs : Small xs) :
    ∃ A c, v = .slice A n c ∧ n ≤ c ∧ c ≤ maxLen ∧ (A = none → c = 0) ∧ Rd w A n xs := by
  have hlen : xs.length = n := by have := h.1; simpa using this
  rcases h.2 with ⟨rfl, rfl⟩ | ⟨g, cap, cur, rfl, hg, hh, hnc, hcm, hcs, htake⟩
  · refine ⟨none, 0, rfl, Nat.le_refl _, Nat.zero_le _, fun _ => rfl, hlen, hs, fun h0 => by omega⟩
  · refine ⟨some ⟨g, 0, none⟩, cap, rfl, hnc, hcm, (fun e => by cases e), hlen, hs, fun h0 => ⟨g, 0, rfl, ?_, fun i hi => ?_⟩⟩
    · rcases Nat.lt_or_ge g w.heap.size with hlt | hge
      · exact hlt
      · rw [Array.getElem?_eq_none hge] at hh; cases hh
    · have := h.cellAt i (by omega)
      rw [Nat.zero_add, this, List.getElem?_map, List.getElem?_eq_getElem (by omega)]
      unfold byt
      rw [List.getD_eq_getElem?_getD, List.getElem?_eq_getElem (by omega)]
      rfl

/-- append onto a row of the call's own; the source as Rd reads it, nil or not -/
theorem wpList_app {P : Program} (w : World) {A : Option Addr} {m c : Nat} {l : List Int} {ops : Array Oper} {rest : List Oper} {o : Oper} {a : Act} {Q : Exit → Act → World → Prop} (hgd : o.guard = none) (s x : Operand) (t : TypeId)
    (ho : o.op = .call { callee := .builtin .append, args := #[s, x], argTypes := #[t, t] })
    (base : Nat) (e : TypeId) (ht : P.underlying t = some (.slice e)) (hinfo : (P.info? e).map (fun i => (i.zero, i.size, i.bytes)) = some (some (.int .u8 0), 1, 1))
    (v : Value) (n : Nat) (xs : List Int) (hs : a.eval s = v) (hown : w.ownsRow base e 1 v n (xs.map (Value.int .u8)))
    (hx : a.eval x = .slice A m c) (hA : A = none → c = 0) (hr : Rd w A m l) (hsum : n + m ≤ 140737488355328) (hbase : base ≤ w.heap.size)
    (h : ∀ v' w', w'.ownsRow base e 1 v' (n + m) ((xs ++ l).map (Value.int .u8)) → w.grownBy w' v.ownBlock → (v'.ownBlock = v.ownBlock ∨ v'.ownBlock = some w.heap.size) → wpList P ops Q rest (a.put o.dst v') w') :
    wpList P ops Q (o :: rest) a w := by
  obtain ⟨i0, hi, hz0, hz1, hz2⟩ := info_parts hinfo
  rw [List.map_append] at h
  cases A with
  | none =>
    have hc0 := hA rfl
    have hm0 : m = 0 := by
      rcases Nat.eq_zero_or_pos m with h0 | h0
      · exact h0
      · obtain ⟨b, o', e', _⟩ := hr.at_ h0; cases e'
    subst hm0 hc0
    have hl0 : l = [] := List.eq_nil_of_length_eq_zero hr.len
    subst hl0
    exact wpList_append_own_none hgd s x t ho base e i0 1 ht hi v n _ hs hown hx (h v w (by simpa using hown) (World.grownBy.refl w _) (.inl rfl))
  | some ad =>
    refine wpList_append_own_at w hgd s x t ho base e i0 (.int .u8 0) 1 1 ht hi hz0 hz1 hz2 rfl (by omega) v n _ hs hown ad m c (l.map (Value.int .u8)) hx (by simp [hr.len]) ?_ (ints_oneCell _ _) (by unfold maxLen; omega) (by omega) hbase (fun v' w' h1 h2 _ h4 => h v' w' h1 h2 h4)
    intro j u hj
    have hjm : j < m := by
      have := (List.getElem?_eq_some_iff.1 hj).1
      rw [List.length_map, hr.len] at this
      exact this
    obtain ⟨b, o', e', _, hc⟩ := hr.at_ (by omega)
    cases e'
    have hcell := hc j hjm
    rw [List.getElem?_map, List.getElem?_eq_getElem (by rw [hr.len]; exact hjm)] at hj
    have hu : u = .int .u8 (byt l j) := by
      simp only [Option.map_some, Option.some.injEq] at hj
      rw [← hj]; unfold byt; rw [List.getD_eq_getElem?_getD, List.getElem?_eq_getElem (by rw [hr.len]; exact hjm)]; rfl
    rw [hu, ← hcell]
    unfold Addr.add
    split
    · next h => subst h; rfl
    · rfl

theorem run_cut (P : Program) (t e : TypeId) (ht : P.underlying t = some (.slice e)) (hinfo : (P.info? e).map (fun i => (i.zero, i.size, i.bytes)) = some (some (.int .u8 0), 1, 1)) (A : Option Addr) (m d : Nat) (w : World) :
    (Instr.slice t (.slice A (m + 4) (d + 4)) (some (.int .i64 4)) none none).run P w = .ok (.slice (cutA A 4 (d + 4)) m d) w := by
  obtain ⟨i0, hi, hz0, hz1, hz2⟩ := info_parts hinfo
  have ht' : P.underlying t = some (.slice (P.elem t)) := by simp [Program.elem, ht]
  have he : P.elem t = e := by simp [Program.elem, ht]
  have hz : ∀ w, (Go.sizeOf e).run P w = .ok 1 w := fun w => by simp [Go.sizeOf, typeInfo, hi, hz1]
  rw [run_slice_l w t _ _ _ ht' .i64 _ (by omega) (by omega), he, hz]
  simp [Result.andThen, sliced, cutA]
theorem run_head (P : Program) (t e : TypeId) (ht : P.underlying t = some (.slice e)) (hinfo : (P.info? e).map (fun i => (i.zero, i.size, i.bytes)) = some (some (.int .u8 0), 1, 1)) (A : Option Addr) (m d : Nat) (w : World) :
    (Instr.slice t (.slice A m (d + 4)) none (some (.int .i64 4)) none).run P w = .ok (.slice A 4 (d + 4)) w := by
  obtain ⟨i0, hi, hz0, hz1, hz2⟩ := info_parts hinfo
  have ht' : P.underlying t = some (.slice (P.elem t)) := by simp [Program.elem, ht]
  have he : P.elem t = e := by simp [Program.elem, ht]
  have hz : ∀ w, (Go.sizeOf e).run P w = .ok 1 w := fun w => by simp [Go.sizeOf, typeInfo, hi, hz1]
  rw [run_slice_h w t _ _ _ ht' .i64 _ (by omega) (by omega), he, hz]
  have h0 : ∀ a : Addr, a.add 0 = a := fun a => by simp [Addr.add]
  simp [Result.andThen, sliced, h0]
end

/-! the two sums -/
def stp (s : Int × Int) (c : Int) : Int × Int := ((s.1 + c) % 65521, (s.2 + (s.1 + c) % 65521) % 65521)
def run (s : Int × Int) (l : List Int) : Int × Int := l.foldl stp s
def Res (s : Int × Int) : Prop := 0 ≤ s.1 ∧ s.1 < 65521 ∧ 0 ≤ s.2 ∧ s.2 < 65521
theorem stp_res (s : Int × Int) (c : Int) : Res (stp s c) := by unfold Res stp; simp only; omega
theorem run_res {s : Int × Int} (h : Res s) (l : List Int) : Res (run s l) := by
  unfold run
  induction l generalizing s with
  | nil => exact h
  | cons c l ih => exact ih (stp_res s c)
theorem run_app (s : Int × Int) (a b : List Int) : run s (a ++ b) = run (run s a) b := by unfold run; rw [List.foldl_append]
theorem run_snoc (s : Int × Int) {l : List Int} {k : Nat} (h : k < l.length) : run s (l.take (k + 1)) = stp (run s (l.take k)) (byt l k) := by
  rw [take_byt h, run_app]; rfl
def adler (l : List Int) : Int := (run (1, 0) l).2 * 65536 + (run (1, 0) l).1
theorem res1 : Res (1, 0) := by unfold Res; decide
theorem adler_bd (l : List Int) : 0 ≤ adler l ∧ adler l < 4294967296 := by
  have := run_res res1 l
  unfold Res at this; unfold adler; omega
end Go.Proofs.Ytfglagkpknpgdaa
