/- The landed package wire: what a reader has; number as a contract of the call. -/
import Derived.Test.YtfglagkpknpgdaaProg
import Derived.Test.YtfglagkpknpgdaaWi1
import Derived.WalkKit
import Derived.WalkSpells
import Derived.WalkSmall
import Derived.Lib.Hide
import Derived.Below
import Derived.Outline
namespace Go.Proofs.Ytfglagkpknpgdaa
open Go.RowKit
set_option linter.unusedVariables false
set_option linter.unusedSimpArgs false

theorem nm_drop (l : List Int) (j : Nat) : ∀ k, nm (l.drop j) 0 k = nm l j k
  | 0 => rfl
  | k + 1 => by unfold nm; rw [nm_drop l j k, byt_drop, Nat.zero_add]
theorem nm_take (l : List Int) (k : Nat) : ∀ j, j ≤ k → nm (l.take k) 0 j = nm l 0 j
  | 0, _ => rfl
  | j + 1, h => by unfold nm; rw [nm_take l k j (by omega), Nat.zero_add, byt_take (by omega)]

theorem grown_refl (w : World) (r : Option Nat) : w.grownBy w r := World.grownBy.refl w r
theorem grown_set (w : World) (a : Addr) (u : Value) : w.grownBy (w.setCell a u) (some a.block) :=
  ⟨rfl, rfl, rfl, by simp, fun i _ hne => Below.heap_setCell w a u i (fun e => hne (by rw [e]))⟩

/-- the block B is a reader that still has the n bytes l, which lie below bs -/
def Rr (w : World) (B bs n : Nat) (l : List Int) : Prop := ∃ A c, Bx w B 62 [.slice A n c] ∧ Sl w A n c l ∧ (0 < n → ∀ b o, A = some ⟨b, o, none⟩ → b < bs)
section
variable {w w' : World} {B bs n m k : Nat} {l : List Int}
theorem Rd.apart {A : Option Addr} {t : TypeId} {R : Option Addr} {x y : Nat} (h : Rd w A n l) (hB : Bx w B t [.slice R x y]) : 0 < n → ∀ b o, A = some ⟨b, o, none⟩ → b ≠ B := by
  intro hn b o e hb
  obtain ⟨b', o', e', _, hc⟩ := h.at_ hn
  rw [e] at e'; cases e'
  have h1 := hc 0 hn
  subst hb
  rw [cell_of_row w b (o + 0) _ _ _ hB] at h1
  rcases o with _ | o
  · simp at h1
  · simp at h1
theorem Rd.setB {A : Option Addr} {t : TypeId} {R : Option Addr} {x y : Nat} (h : Rd w A n l) (hB : Bx w B t [.slice R x y]) (u : Value) : Rd (w.setCell ⟨B, 0, none⟩ u) A n l :=
  ⟨h.len, h.small, fun hn => by
    have hap := h.apart hB hn
    obtain ⟨b, o, e, hl, hc⟩ := h.at_ hn
    have hne := hap b o e
    refine ⟨b, o, e, by simpa using hl, fun i hi => ?_⟩
    rw [← hc i hi]
    exact World.cell?_of_block (Below.heap_setCell w ⟨B, 0, none⟩ u b hne)⟩
theorem Sl.setB {A : Option Addr} {c : Nat} {t : TypeId} {R : Option Addr} {x y : Nat} (h : Sl w A n c l) (hB : Bx w B t [.slice R x y]) (u : Value) : Sl (w.setCell ⟨B, 0, none⟩ u) A n c l := ⟨h.le, h.big, h.nil, h.rd.setB hB u⟩
theorem Sl.cutK {A : Option Addr} {d : Nat} (h : Sl w A (m + k) (d + k) l) : Sl w (cutA A k (d + k)) m d (l.drop k) :=
  ⟨by have := h.le; omega, by have := h.big; omega, (fun e => by
    unfold cutA at e
    split at e
    · have := h.nil e; omega
    · cases hA : A with
      | none => have := h.nil hA; omega
      | some a => rw [hA] at e; cases e), h.rd.cut rfl h.le⟩
theorem Sl.headK {A : Option Addr} {c : Nat} (h : Sl w A n c l) (hk : k ≤ n) : Sl w A k c (l.take k) := ⟨by have := h.le; omega, h.big, h.nil, h.rd.take hk⟩
theorem Rr.lt (h : Rr w B bs n l) : B < w.heap.size := by obtain ⟨A, c, h1, _⟩ := h; exact h1.lt
theorem Rr.small (h : Rr w B bs n l) : Small l := by obtain ⟨A, c, _, h2, _⟩ := h; exact h2.rd.small
theorem Rr.len (h : Rr w B bs n l) : l.length = n := by obtain ⟨A, c, _, h2, _⟩ := h; exact h2.rd.len
theorem Rr.kept (h : Rr w B bs n l) (hb : Below w.heap.size w w') : Rr w' B bs n l := by
  obtain ⟨A, c, h1, h2, h3⟩ := h; exact ⟨A, c, h1.kept hb, h2.keep hb, h3⟩
theorem Rr.alloc (h : Rr w B bs n l) (o : Obj) : Rr (w.alloc o) B bs n l := h.kept ((Below.refl _ _).alloc (Nat.le_refl _) o)
theorem Rr.grown {r : Option Nat} (h : Rr w B bs n l) (hf : w.grownBy w' r) (h1 : some B ≠ r) (h2 : ∀ k, r = some k → bs ≤ k) : Rr w' B bs n l := by
  obtain ⟨A, c, h3, h4, h5⟩ := h
  refine ⟨A, c, h3.grown hf h1, ⟨h4.le, h4.big, h4.nil, h4.rd.len, h4.rd.small, fun hn => ?_⟩, h5⟩
  obtain ⟨b, o, e, hl, hc⟩ := h4.rd.at_ hn
  refine ⟨b, o, e, Nat.lt_of_lt_of_le hl hf.size, fun i hi => ?_⟩
  rw [← hc i hi]
  exact World.cell?_of_block (hf.block b hl (fun hr => by have := h2 b hr.symm; have := h5 hn b o e; omega))
/-- another box is written -/
theorem Rr.far (h : Rr w B bs n l) {p : Addr} (hne : B ≠ p.block) (hp : bs ≤ p.block) (u : Value) : Rr (w.setCell p u) B bs n l :=
  h.grown (grown_set w p u) (fun e => hne (by cases e; rfl)) (fun k hk => by cases hk; exact hp)
end

theorem shl8 {y : Int} (h0 : 0 ≤ y) (h1 : y < 16777216) {x : Int} (x0 : 0 ≤ x) (x1 : x < 256) : bits .or .u32 (y * 256) x = 256 * y + x := by
  rw [join0 (by omega) (by omega) (by omega) x0 x1]; omega

theorem take_r (B bs m k : Nat) (l : List Int) (w : World) (h : Rr w B bs (m + k) l) :
    Calls Try.prog 37 #[.pointer (some ⟨B, 0, none⟩), .int .i64 (k : Int)] w fun e w' => ∃ A c, e = .returned (.slice A k c) ∧ Sl w' A k c (l.take k) ∧ Rr w' B bs m (l.drop k) ∧ w.grownBy w' (some B) := by
  obtain ⟨A, c, h1, h2, h3⟩ := h
  obtain ⟨d, rfl⟩ : ∃ d, c = d + k := ⟨c - k, by have := h2.le; omega⟩
  refine (take_some B A m d k w h1 (by have := h2.le; omega)).mono ?_
  rintro e w' ⟨rfl, rfl⟩
  refine ⟨A, d + k, rfl, (h2.headK (by omega)).setB h1 _, ⟨cutA A k (d + k), d, ?_, h2.cutK.setB h1 _, fun hm b o e => ?_⟩, grown_set w ⟨B, 0, none⟩ _⟩
  · exact h1.set 0 _
  · unfold cutA at e
    split at e
    · exact h3 (by omega) b o e
    · cases hA : A with
      | none => rw [hA] at e; cases e
      | some a =>
        rw [hA] at e
        obtain ⟨b', o', e', _, _⟩ := h2.rd.at_ (by omega)
        rw [hA] at e'
        have hb := h3 (by omega) b' o' (hA.trans e')
        cases e'
        have : b = b' := by
          simp only [Option.map_some, Option.some.injEq, Addr.add] at e
          split at e <;> · cases e; rfl
        omega
theorem take_short (B bs n k : Nat) (l : List Int) (w : World) (h : Rr w B bs n l) (hk : n < k) :
    Calls Try.prog 37 #[.pointer (some ⟨B, 0, none⟩), .int .i64 (k : Int)] w fun e w' => e = .panicked missC ∧ w = w' := by
  obtain ⟨A, c, h1, h2, _⟩ := h
  exact take_miss B A n c k w h1 hk

set_option maxHeartbeats 1000000 in
theorem num_short (B bs n k : Nat) (l : List Int) (w : World) (h : Rr w B bs n l) (hk : n < k) :
    Calls Try.prog 35 #[.pointer (some ⟨B, 0, none⟩), .int .i64 (k : Int)] w fun e w' => e = .panicked missC ∧ w = w' := by
  go_enter Try.func35, Try.ntmps35
  go_wp2_with fail
  refine (take_short B bs n k l _ h hk).mono ?_
  rintro e w1 ⟨rfl, rfl⟩
  go_wp2_with fail
  exact ⟨rfl, rfl, rfl⟩

set_option maxHeartbeats 1000000 in
theorem num_some (B bs m k : Nat) (l : List Int) (w : World) (h : Rr w B bs (m + k) l) (hk : k ≤ 4) :
    Calls Try.prog 35 #[.pointer (some ⟨B, 0, none⟩), .int .i64 (k : Int)] w fun e w' => e = .returned (.int .u32 (nm l 0 k)) ∧ Rr w' B bs m (l.drop k) ∧ w.grownBy w' (some B) := by
  have HS := Lib.hid h.small
  go_enter Try.func35, Try.ntmps35
  go_wp2_with fail
  refine (take_r B bs m k l _ h).mono ?_
  rintro e w1 ⟨A, c, rfl, s1, r1, g1⟩
  have R1 := Lib.hid r1; clear r1
  go_wp2_with fail
  go_loopw [5, 7, 12] (fun s x i wr => ∃ q : Nat, q ≤ k ∧ i = .int .i64 (q : Int) ∧ s = .int .u32 (nm l 0 q) ∧ w1 = wr) (fun _ _ i _ => k - (intOf i).toNat)
  case atStart => exact ⟨0, Nat.zero_le _, rfl, rfl, rfl⟩
  case round =>
    obtain ⟨q, hq, rfl, rfl, rfl⟩ := hrel
    by_cases hlt : q < k
    · obtain ⟨b, o, rfl, hbl, hc⟩ := s1.rd.spot (by omega)
      have hcell := hc.out q hlt
      rw [byt_take hlt] at hcell
      have hnext : nm l 0 (q + 1) = 256 * nm l 0 q + byt l q := by show 256 * nm l 0 q + byt l (0 + q) = _; rw [Nat.zero_add]
      have hb1 := nm_bd HS.out 0 q
      have hb3 : (256 : Int) ^ q ≤ 16777216 := by
        match q, (show q ≤ 3 by omega) with
        | 0, _ => decide
        | 1, _ => decide
        | 2, _ => decide
        | 3, _ => decide
        | q + 4, h => exact absurd h (by omega)
      have hb2 := byt_bd HS.out q
      obtain ⟨x, hx⟩ : ∃ x, byt l q = x := ⟨_, rfl⟩
      rw [hx] at hcell hnext hb2
      obtain ⟨y, hy⟩ : ∃ y, nm l 0 q = y := ⟨_, rfl⟩
      rw [hy] at hnext hb1 ⊢
      obtain ⟨y0, y2⟩ := hb1
      have y1 : y < 16777216 := by omega
      obtain ⟨x0, x1⟩ := hb2
      have hj := shl8 y0 y1 x0 x1
      have HN := Lib.hid hnext; clear hnext hc hx hy y2 hb3
      go_wp2
      go_roundw
      case rel => exact ⟨q + 1, by omega, by go_num, by rw [HN.out], (by first | rfl | trivial)⟩
      case measure => simp [intOf]; omega
    · obtain rfl : k = q := by omega
      go_wp2
      go_ret
      exact ⟨rfl, R1.out, g1⟩
end Go.Proofs.Ytfglagkpknpgdaa
