/- Package spans: cuts of lists of spans, one span in a block of its own. -/
import Derived.Test.YtgiknfmagmfniaaSpAsk
namespace Go.Proofs.Ytgiknfmagmfniaa
open Go.RowKit

theorem info_sp : (Try.prog.info? 52).map (fun i => (i.zero, i.size, i.bytes)) = some (some (.agg #[.int .i64 0, .int .i64 0]), 2, 16) := by kernel_rfl

theorem grn_le (l : List Sp) (s : Sp) (f b : Nat) (h : f ≤ b) : (grn s f b l).2.1 ≤ (grn s f b l).2.2 ∧ (grn s f b l).2.2 ≤ b + l.length := by
  induction l generalizing s f b with
  | nil => exact ⟨h, Nat.le_refl _⟩
  | cons p t ih =>
    rw [grn]
    split
    · have := ih s (f + 1) (b + 1) (by omega)
      rw [List.length_cons]; omega
    · split
      · rw [List.length_cons]; exact ⟨h, by simp only; omega⟩
      · have := ih (min p.1 s.1, max p.2 s.2) f (b + 1) (by omega)
        rw [List.length_cons]; omega

theorem grn_wide {l : List Sp} (hl : Wide l) (s : Sp) (f b : Nat) (h : W64 s.1 ∧ W64 s.2) : W64 (grn s f b l).1.1 ∧ W64 (grn s f b l).1.2 := by
  induction l generalizing s f b with
  | nil => exact h
  | cons p t ih =>
    have hp := hl p (by simp)
    have ht : Wide t := fun x hx => hl x (by simp [hx])
    rw [grn]
    split
    · exact ih ht s _ _ h
    · split
      · exact h
      · refine ih ht _ _ _ ?_
        unfold W64 at *
        simp only
        omega

theorem run_cutS (P : Program) (t e : TypeId) (ht : P.underlying t = some (.slice e)) (hinfo : (P.info? e).map (fun i => (i.zero, i.size, i.bytes)) = some (some (.agg #[.int .i64 0, .int .i64 0]), 2, 16)) (A : Option Addr) (k m d : Nat) (w : World) (hk : k ≤ 1000000) (_ : m ≤ d) :
    (Instr.slice t (.slice A (m + k) (d + k)) (some (.int .i64 (k : Int))) none none).run P w = .ok (.slice (cutS A k (d + k)) m d) w := by
  obtain ⟨i0, hi, hz0, hz1, hz2⟩ := info_parts hinfo
  have ht' : P.underlying t = some (.slice (P.elem t)) := by simp [Program.elem, ht]
  have he : P.elem t = e := by simp [Program.elem, ht]
  have hz : ∀ w, (Go.sizeOf e).run P w = .ok 2 w := fun w => by simp [Go.sizeOf, typeInfo, hi, hz1]
  rw [run_slice_l w t _ _ _ ht' .i64 _ (by omega) (by omega), he, hz]
  simp [Result.andThen, sliced, cutS]
theorem run_headS (P : Program) (t e : TypeId) (ht : P.underlying t = some (.slice e)) (hinfo : (P.info? e).map (fun i => (i.zero, i.size, i.bytes)) = some (some (.agg #[.int .i64 0, .int .i64 0]), 2, 16)) (A : Option Addr) (k n c : Nat) (w : World) (hk : k ≤ c) :
    (Instr.slice t (.slice A n c) none (some (.int .i64 (k : Int))) none).run P w = .ok (.slice A k c) w := by
  obtain ⟨i0, hi, hz0, hz1, hz2⟩ := info_parts hinfo
  have ht' : P.underlying t = some (.slice (P.elem t)) := by simp [Program.elem, ht]
  have he : P.elem t = e := by simp [Program.elem, ht]
  have hz : ∀ w, (Go.sizeOf e).run P w = .ok 2 w := fun w => by simp [Go.sizeOf, typeInfo, hi, hz1]
  rw [run_slice_h w t _ _ _ ht' .i64 _ (by omega) (by omega), he, hz]
  have h0 : ∀ a : Addr, a.add 0 = a := fun a => by simp [Addr.add]
  simp [Result.andThen, sliced, h0]

/-- a block of one span of the call's own -/
theorem ss_one (w : World) {p q : Int} (hp : W64 p) (hq : W64 q) (t : TypeId) : Ss (w.alloc (.cells #[.int .i64 p, .int .i64 q] t)) (some ⟨w.heap.size, 0, none⟩) 1 1 [(p, q)] :=
  ⟨Nat.le_refl _, by unfold maxLen; omega, (fun e => by cases e), rfl, wide_one hp hq, fun _ => ⟨w.heap.size, 0, rfl, by simp, fun i hi => by
    obtain rfl : i = 0 := by omega
    have h := Boxed2.new w t (.int .i64 p) (.int .i64 q)
    exact ⟨h.fst, h.snd⟩⟩⟩

/-- a list of spans whose row lies at or beyond base -/
structure Sq (w : World) (base : Nat) (G : Option Addr) (m d : Nat) (l : List Sp) : Prop where
  ss : Ss w G m d l
  at_ : ∀ b o s, G = some ⟨b, o, s⟩ → base ≤ b
theorem Sq.none (w : World) (base : Nat) : Sq w base .none 0 0 [] := ⟨Ss.none w, fun _ _ _ e => by cases e⟩
theorem Sq.mono {w : World} {base base' : Nat} {G : Option Addr} {m d : Nat} {l : List Sp} (h : Sq w base G m d l) (hb : base' ≤ base) : Sq w base' G m d l := ⟨h.ss, fun b o s e => Nat.le_trans hb (h.at_ b o s e)⟩
theorem Sq.keep {w w' : World} {base : Nat} {G : Option Addr} {m d : Nat} {l : List Sp} (h : Sq w base G m d l) (hb : Below w.heap.size w w') : Sq w' base G m d l := ⟨h.ss.keep hb, h.at_⟩
theorem Sq.set {w : World} {base : Nat} {G : Option Addr} {m d : Nat} {l : List Sp} (h : Sq w base G m d l) {p : Addr} (hp : p.block < base) (u : Value) : Sq (w.setCell p u) base G m d l := by
  refine ⟨⟨h.ss.le, h.ss.max, h.ss.nil, h.ss.rd.len, h.ss.rd.wide, fun h0 => ?_⟩, h.at_⟩
  obtain ⟨b, o, e, hlt, hc⟩ := h.ss.rd.at_ h0
  have hge := h.at_ b o _ e
  have hh := Below.heap_setCell w p u b (by omega)
  refine ⟨b, o, e, Nat.lt_of_lt_of_le hlt ((Below.refl 0 w).setCell (Nat.zero_le _) u).size, fun i hi => ?_⟩
  rw [← (hc i hi).1, ← (hc i hi).2]
  exact ⟨World.cell?_of_block (w := w) hh, World.cell?_of_block (w := w) hh⟩
theorem Gots.sq {w : World} {base e : Nat} {v : Value} {n : Nat} {l : List Sp} (h : Gots w base e v n l) : ∃ A c, v = .slice A n c ∧ Sq w base A n c l := by
  obtain ⟨A, c, ev, hs⟩ := h.ss
  subst ev
  refine ⟨A, c, rfl, hs, fun b o s ea => ?_⟩
  subst ea
  rcases h.row.2 with ⟨h1, _⟩ | ⟨g, cap, cur, h1, hg, _⟩
  · cases h1
  · cases h1; exact hg
theorem Gots.set {w : World} {base e : Nat} {v : Value} {n : Nat} {l : List Sp} (h : Gots w base e v n l) {p : Addr} (hp : p.block < base) (u : Value) : Gots (w.setCell p u) base e v n l := ⟨ownsRow_setCell_below h.row hp u, h.wide⟩
theorem Gots.sq' {w : World} {base e : Nat} {R : Option Addr} {n d : Nat} {l : List Sp} (h : Gots w base e (.slice R n d) n l) : Sq w base R n d l := by
  obtain ⟨A, c, e, hs⟩ := h.sq
  cases e
  exact hs
end Go.Proofs.Ytgiknfmagmfniaa
