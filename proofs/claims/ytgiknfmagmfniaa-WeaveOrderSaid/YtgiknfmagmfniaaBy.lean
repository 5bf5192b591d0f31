/- Byte slices: rows of slices, slice values, what the call has put together. -/
import Derived.Test.YtgiknfmagmfniaaProg
import Derived.Test.YtgiknfmagmfniaaCk
import Derived.WalkKit
import Derived.WalkSpells
import Derived.Lib.Hide
import Derived.WalkSmall
import Derived.Below
import Derived.Outline
import Derived.Deep.QuietTactic
import Derived.BigQuiet
namespace Go.Proofs.Ytgiknfmagmfniaa
open Go.RowKit

def part (ls : List (List Int)) (k : Nat) : List Int := ls.getD k []

/-- The first n places from A are byte slices that read as the lists ls. -/
structure Rds (w : World) (A : Option Addr) (n : Nat) (ls : List (List Int)) : Prop where
  len : ls.length = n
  at_ : 0 < n → ∃ b o, A = some ⟨b, o, none⟩ ∧ b < w.heap.size ∧ ∀ k, k < n → ∃ R m c, w.cell? ⟨b, o + k, none⟩ = some (.slice R m c) ∧ m ≤ c ∧ c ≤ maxLen ∧ (R = none → c = 0) ∧ Rd w R m (part ls k)

section
variable {w w' : World} {A : Option Addr} {n : Nat} {ls : List (List Int)}
theorem Rds.keep (h : Rds w A n ls) (hb : Below w.heap.size w w') : Rds w' A n ls :=
  ⟨h.len, fun hn => by
    obtain ⟨b, o, e, hlt, hc⟩ := h.at_ hn
    refine ⟨b, o, e, Nat.lt_of_lt_of_le hlt hb.size, fun k hk => ?_⟩
    obtain ⟨R, m, c, h1, h2, h3, h4, h5⟩ := hc k hk
    exact ⟨R, m, c, (hb.cell (p := ⟨b, o + k, none⟩) hlt).trans h1, h2, h3, h4, h5.keep hb⟩⟩
theorem Rds.spot (h : Rds w A n ls) (hn : 0 < n) : ∃ b o, A = some ⟨b, o, none⟩ ∧ b < w.heap.size ∧ Hid (∀ k, k < n → ∃ R m c, w.cell? ⟨b, o + k, none⟩ = some (.slice R m c) ∧ m ≤ c ∧ c ≤ maxLen ∧ (R = none → c = 0) ∧ Rd w R m (part ls k)) := h.at_ hn
theorem Rds.empty (w : World) (A : Option Addr) : Rds w A 0 [] := ⟨rfl, fun hn => absurd hn (by omega)⟩
/-- one slice in a block of its own -/
theorem Rds.one {R : Option Addr} {m c : Nat} {l : List Int} (h : Rd w R m l) (hm : m ≤ c) (hc : c ≤ maxLen) (hR : R = none → c = 0) (t : TypeId) : Rds (w.alloc (.cells #[.slice R m c] t)) (some ⟨w.heap.size, 0, none⟩) 1 [l] :=
  ⟨rfl, fun _ => ⟨w.heap.size, 0, rfl, by simp, fun k hk => ⟨R, m, c, by
    obtain rfl : k = 0 := by omega
    rw [Nat.add_zero, World.cell?_alloc_new]; rfl, hm, hc, hR, by
    obtain rfl : k = 0 := by omega
    exact h.alloc _⟩⟩⟩
end
theorem take_part {ls : List (List Int)} {k : Nat} (h : k < ls.length) : (ls.take (k + 1)).flatten = (ls.take k).flatten ++ part ls k := by
  rw [List.take_succ_eq_append_getElem h, List.flatten_append]; unfold part; rw [List.getD_eq_getElem?_getD, List.getElem?_eq_getElem h]; simp

theorem below_drewN {B : Nat} {a w : World} (h : Below B a w) (n : Nat) : Below B a (w.drewN n) := ⟨h.os, h.tape, h.output, h.size, h.block⟩

theorem ret_bool {a b : Bool} (h : a = b) : Ending.returned (.bool a) = .returned (.bool b) := by rw [h]
def sameB (l m : List Int) : Bool := decide (l = m)
/-- the first k are the same -/
def Pre (l m : List Int) (k : Nat) : Prop := ∀ i, i < k → byt l i = byt m i

/-- what the call has put together so far -/
structure Got (w : World) (base : Nat) (v : Value) (n : Nat) (l : List Int) : Prop where
  own : w.ownsRow base 5 1 v n (l.map (Value.int .u8))
  small : Small l
theorem Got.rd {w : World} {base : Nat} {v : Value} {n : Nat} {l : List Int} (h : Got w base v n l) : ∃ A c, v = .slice A n c ∧ n ≤ c ∧ c ≤ maxLen ∧ (A = none → c = 0) ∧ Rd w A n l := Rd.of_own h.own h.small
theorem info_u8 : (Try.prog.info? 5).map (fun i => (i.zero, i.size, i.bytes)) = some (some (.int .u8 0), 1, 1) := by kernel_rfl

/-- A slice value of length m and capacity d that reads as l. -/
structure Sl (w : World) (R : Option Addr) (m d : Nat) (l : List Int) : Prop where
  le : m ≤ d
  big : d ≤ maxLen
  nil : R = none → d = 0
  rd : Rd w R m l
section
variable {w w' : World} {R : Option Addr} {m d : Nat} {l : List Int}
theorem Sl.keep (h : Sl w R m d l) (hb : Below w.heap.size w w') : Sl w' R m d l := ⟨h.le, h.big, h.nil, h.rd.keep hb⟩
theorem Sl.alloc (h : Sl w R m d l) (o : Obj) : Sl (w.alloc o) R m d l := ⟨h.le, h.big, h.nil, h.rd.alloc o⟩
theorem Sl.cut {m d : Nat} (h : Sl w R (m + 4) (d + 4) l) : Sl w (cutA R 4 (d + 4)) m d (l.drop 4) :=
  ⟨by have := h.le; omega, by have := h.big; omega, (fun e => by
    unfold cutA at e
    split at e
    · omega
    · cases hR : R with
      | none => have := h.nil hR; omega
      | some a => rw [hR] at e; cases e), h.rd.cut rfl h.le⟩
theorem Sl.head {m d : Nat} (h : Sl w R (m + 4) (d + 4) l) : Sl w R 4 (d + 4) (l.take 4) := ⟨by omega, h.big, h.nil, h.rd.take (by omega)⟩
theorem Sl.one (h : Sl w R m d l) (t : TypeId) : Rds (w.alloc (.cells #[.slice R m d] t)) (some ⟨w.heap.size, 0, none⟩) 1 [l] := Rds.one h.rd h.le h.big h.nil t
theorem Sl.one_at (h : Sl w R m d l) (t : TypeId) {g : Nat} (hg : g = w.heap.size) : Rds (w.alloc (.cells #[.slice R m d] t)) (some ⟨g, 0, none⟩) 1 [l] := by subst hg; exact h.one t
theorem Rd.block (w : World) {l : List Int} (hs : Small l) (t : TypeId) : Rd (w.alloc (.cells (l.map (Value.int .u8)).toArray t)) (some ⟨w.heap.size, 0, none⟩) l.length l :=
  ⟨rfl, hs, fun _ => ⟨w.heap.size, 0, rfl, by simp, fun i hi => by
    rw [Nat.zero_add, World.cell?_alloc_new, List.getElem?_toArray, List.getElem?_map, List.getElem?_eq_getElem hi]
    unfold byt; rw [List.getD_eq_getElem?_getD, List.getElem?_eq_getElem hi]; rfl⟩⟩
end
theorem Got.sl {w : World} {base : Nat} {v : Value} {n : Nat} {l : List Int} (h : Got w base v n l) : ∃ A c, v = .slice A n c ∧ Sl w A n c l := by
  obtain ⟨A, c, e, h1, h2, h3, h4⟩ := h.rd
  exact ⟨A, c, e, h1, h2, h3, h4⟩


/-- b[k:j:j] -/
theorem Sl.cut3 {w : World} {A : Option Addr} {n c k j m : Nat} {l : List Int} (h : Sl w A n c l) (hj : j ≤ n) (hm : j = m + k) : Sl w (cutA A k j) m m ((l.take j).drop k) :=
  ⟨Nat.le_refl _, by have := h.le; have := h.big; omega, (fun e => by
    unfold cutA at e
    split at e
    · omega
    · cases hA : A with
      | none => have := h.nil hA; have := h.le; omega
      | some a => rw [hA] at e; cases e), (h.rd.take hj).cut hm (Nat.le_refl _)⟩
theorem run_cut3 (P : Program) (t e : TypeId) (ht : P.underlying t = some (.slice e)) (hinfo : (P.info? e).map (fun i => (i.zero, i.size, i.bytes)) = some (some (.int .u8 0), 1, 1)) (A : Option Addr) (n c k j m : Nat) (w : World) (hj : j ≤ c) (hm : j = m + k) :
    (Instr.slice t (.slice A n c) (some (.int .i64 (k : Int))) (some (.int .i64 (j : Int))) (some (.int .i64 (j : Int)))).run P w = .ok (.slice (cutA A k j) m m) w := by
  obtain ⟨i0, hi, hz0, hz1, hz2⟩ := info_parts hinfo
  have ht' : P.underlying t = some (.slice (P.elem t)) := by simp [Program.elem, ht]
  have he : P.elem t = e := by simp [Program.elem, ht]
  have hz : ∀ w, (Go.sizeOf e).run P w = .ok 1 w := fun w => by simp [Go.sizeOf, typeInfo, hi, hz1]
  rw [run_slice_lhm w t _ _ _ ht' .i64 .i64 .i64 _ _ _ (by omega) (by omega) (by omega) (by omega), he, hz]
  simp [Result.andThen, sliced, cutA]
  omega
theorem run_head3 (P : Program) (t e : TypeId) (ht : P.underlying t = some (.slice e)) (hinfo : (P.info? e).map (fun i => (i.zero, i.size, i.bytes)) = some (some (.int .u8 0), 1, 1)) (A : Option Addr) (n c j : Nat) (w : World) (hj : j ≤ c) :
    (Instr.slice t (.slice A n c) none (some (.int .i64 (j : Int))) (some (.int .i64 (j : Int)))).run P w = .ok (.slice A j j) w := by
  obtain ⟨i0, hi, hz0, hz1, hz2⟩ := info_parts hinfo
  have ht' : P.underlying t = some (.slice (P.elem t)) := by simp [Program.elem, ht]
  have he : P.elem t = e := by simp [Program.elem, ht]
  have hz : ∀ w, (Go.sizeOf e).run P w = .ok 1 w := fun w => by simp [Go.sizeOf, typeInfo, hi, hz1]
  rw [run_slice_hm w t _ _ _ ht' .i64 .i64 _ _ (by omega) (by omega) (by omega), he, hz]
  have h0 : ∀ a : Addr, a.add 0 = a := fun a => by simp [Addr.add]
  simp [Result.andThen, sliced, h0]
theorem Sl.head3 {w : World} {A : Option Addr} {n c j : Nat} {l : List Int} (h : Sl w A n c l) (hj : j ≤ n) : Sl w A j j (l.take j) :=
  ⟨Nat.le_refl _, by have := h.le; have := h.big; omega, fun e => by have := h.nil e; have := h.le; omega, h.rd.take hj⟩
theorem Sl.none (w : World) : Sl w .none 0 0 [] := ⟨Nat.le_refl _, by unfold maxLen; omega, fun _ => rfl, Rd.empty _ _⟩
/-- two slices in a block of their own -/
theorem rds_two {w : World} {R R' : Option Addr} {m d m' d' : Nat} {l l' : List Int} (h : Sl w R m d l) (h' : Sl w R' m' d' l') (t : TypeId) : Rds (w.alloc (.cells #[.slice R m d, .slice R' m' d'] t)) (some ⟨w.heap.size, 0, .none⟩) 2 [l, l'] :=
  ⟨rfl, fun _ => ⟨w.heap.size, 0, rfl, by simp, fun k hk => by
    match k, hk with
    | 0, _ => exact ⟨R, m, d, by rw [Nat.add_zero, World.cell?_alloc_new]; rfl, h.le, h.big, h.nil, h.rd.alloc _⟩
    | 1, _ => exact ⟨R', m', d', by rw [World.cell?_alloc_new]; rfl, h'.le, h'.big, h'.nil, h'.rd.alloc _⟩⟩⟩

/-- a slice whose row lies at or beyond base -/
structure Sb (w : World) (base : Nat) (R : Option Addr) (m d : Nat) (l : List Int) : Prop where
  sl : Sl w R m d l
  at_ : ∀ b o s, R = some ⟨b, o, s⟩ → base ≤ b
theorem Got.sb {w : World} {base : Nat} {v : Value} {n : Nat} {l : List Int} (h : Got w base v n l) : ∃ A c, v = .slice A n c ∧ Sb w base A n c l := by
  obtain ⟨A, c, e, hs⟩ := h.sl
  subst e
  refine ⟨A, c, rfl, hs, fun b o s e => ?_⟩
  subst e
  rcases h.own.2 with ⟨h1, _⟩ | ⟨g, cap, cur, h1, hg, _⟩
  · cases h1
  · cases h1; exact hg
theorem Sb.none (w : World) (base : Nat) : Sb w base .none 0 0 [] := ⟨Sl.none w, fun _ _ _ e => by cases e⟩
theorem Sb.mono {w : World} {base base' : Nat} {R : Option Addr} {m d : Nat} {l : List Int} (h : Sb w base R m d l) (hb : base' ≤ base) : Sb w base' R m d l := ⟨h.sl, fun b o s e => Nat.le_trans hb (h.at_ b o s e)⟩
theorem Sb.keep {w w' : World} {base : Nat} {R : Option Addr} {m d : Nat} {l : List Int} (h : Sb w base R m d l) (hb : Below w.heap.size w w') : Sb w' base R m d l := ⟨h.sl.keep hb, h.at_⟩
theorem Sb.set {w : World} {base : Nat} {R : Option Addr} {m d : Nat} {l : List Int} (h : Sb w base R m d l) {p : Addr} (hp : p.block < base) (u : Value) : Sb (w.setCell p u) base R m d l := by
  refine ⟨⟨h.sl.le, h.sl.big, h.sl.nil, h.sl.rd.len, h.sl.rd.small, fun h0 => ?_⟩, h.at_⟩
  obtain ⟨b, o, e, hlt, hc⟩ := h.sl.rd.at_ h0
  have hge := h.at_ b o _ e
  refine ⟨b, o, e, Nat.lt_of_lt_of_le hlt ((Below.refl 0 w).setCell (Nat.zero_le _) u).size, fun i hi => ?_⟩
  rw [← hc i hi]
  exact World.cell?_of_block (w := w) (Below.heap_setCell w p u b (by omega))
end Go.Proofs.Ytgiknfmagmfniaa
