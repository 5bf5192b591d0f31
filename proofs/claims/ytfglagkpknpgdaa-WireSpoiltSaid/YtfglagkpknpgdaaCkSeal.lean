/- Package check: Seal, Open, and bytes.Clone as contracts of the calls; the same of the reference. -/
import Derived.Test.YtfglagkpknpgdaaProg
import Derived.Test.YtfglagkpknpgdaaCkRef
import Derived.WalkKit
import Derived.WalkSpells
import Derived.Lib.Hide
import Derived.WalkSmall
import Derived.Below
import Derived.Outline
import Derived.Deep.QuietTactic
import Derived.BigQuiet
namespace Go.Proofs.Ytfglagkpknpgdaa
open Go.RowKit

/-- A slice value of length m and capacity d that reads as l. -/
structure Sl (w : World) (R : Option Addr) (m d : Nat) (l : List Int) : Prop where
  le : m ≤ d
  big : d ≤ maxLen
  nil : R = none → d = 0
  rd : Rd w R m l
section
variable {w w' : World} {R : Option Addr} {m d : Nat} {l : List Int}
theorem Sl.keep (h : Sl w R m d l) (hb : Below w.heap.size w w') : Sl w' R m d l := ⟨h.le, h.big, h.nil, h.rd.keep hb⟩
theorem Sl.alloc (h : Sl w R m d l) (o : Obj) : Sl (w.alloc o) R m d l := ⟨h.le, h.big, h.nil, h.rd.alloc o⟩
theorem Sl.cut {m d : Nat} (h : Sl w R (m + 4) (d + 4) l) : Sl w (cutA R 4 (d + 4)) m d (l.drop 4) :=
  ⟨by have := h.le; omega, by have := h.big; omega, (fun e => by
    unfold cutA at e
    split at e
    · omega
    · cases hR : R with
      | none => have := h.nil hR; omega
      | some a => rw [hR] at e; cases e), h.rd.cut rfl h.le⟩
theorem Sl.head {m d : Nat} (h : Sl w R (m + 4) (d + 4) l) : Sl w R 4 (d + 4) (l.take 4) := ⟨by omega, h.big, h.nil, h.rd.take (by omega)⟩
theorem Sl.one (h : Sl w R m d l) (t : TypeId) : Rds (w.alloc (.cells #[.slice R m d] t)) (some ⟨w.heap.size, 0, none⟩) 1 [l] := Rds.one h.rd h.le h.big h.nil t
theorem Sl.one_at (h : Sl w R m d l) (t : TypeId) {g : Nat} (hg : g = w.heap.size) : Rds (w.alloc (.cells #[.slice R m d] t)) (some ⟨g, 0, none⟩) 1 [l] := by subst hg; exact h.one t
theorem Rd.block (w : World) {l : List Int} (hs : Small l) (t : TypeId) : Rd (w.alloc (.cells (l.map (Value.int .u8)).toArray t)) (some ⟨w.heap.size, 0, none⟩) l.length l :=
  ⟨rfl, hs, fun _ => ⟨w.heap.size, 0, rfl, by simp, fun i hi => by
    rw [Nat.zero_add, World.cell?_alloc_new, List.getElem?_toArray, List.getElem?_map, List.getElem?_eq_getElem hi]
    unfold byt; rw [List.getD_eq_getElem?_getD, List.getElem?_eq_getElem hi]; rfl⟩⟩
end
theorem rd_four (w : World) (n : Int) : Rd (w.alloc (.cells #[.int .u8 (n / 16777216 % 256), .int .u8 (n / 65536 % 256), .int .u8 (n / 256 % 256), .int .u8 (n % 256)] 5)) (some ⟨w.heap.size, 0, none⟩) 4 (four n) := Rd.block w (four_small n) 5
theorem rd_four' (w : World) {n : Int} (h0 : 0 ≤ n) (h1 : n < 4294967296) : Rd (w.alloc (.cells #[.int .u8 (n / 16777216), .int .u8 (n / 65536 % 256), .int .u8 (n / 256 % 256), .int .u8 (n % 256)] 5)) (some ⟨w.heap.size, 0, none⟩) 4 (four n) := by
  have := rd_four w n
  rwa [show n / 16777216 % 256 = n / 16777216 by omega] at this
theorem Got.sl {w : World} {base : Nat} {v : Value} {n : Nat} {l : List Int} (h : Got w base v n l) : ∃ A c, v = .slice A n c ∧ Sl w A n c l := by
  obtain ⟨A, c, e, h1, h2, h3, h4⟩ := h.rd
  exact ⟨A, c, e, h1, h2, h3, h4⟩

/-- the checksum in four bytes, then l -/
def seal4 (l : List Int) : List Int := four (adler l) ++ l
theorem four_len (n : Int) : (four n).length = 4 := rfl
theorem seal4_len (l : List Int) : (seal4 l).length = l.length + 4 := by unfold seal4; rw [List.length_append, four_len]; omega
theorem seal4_small {l : List Int} (h : Small l) : Small (seal4 l) := small_app (four_small _) h

set_option maxHeartbeats 1000000 in
theorem sum1_any (A : Option Addr) (c : Nat) (l : List Int) (w : World) (hr : Rds w A 1 [l]) :
    Calls Try.prog 28 #[.slice A 1 c] w fun e w' => e = .returned (.int .u32 (adler l)) ∧ Below w.heap.size w w' := by
  have := sum_any A 1 c [l] w hr (by omega)
  simpa using this

set_option maxHeartbeats 1000000 in
theorem seal_any (A : Option Addr) (n c : Nat) (l : List Int) (w : World) (hr : Sl w A n c l) (hn : n ≤ 1000000) :
    Calls Try.prog 18 #[.slice A n c] w fun e w' => ∃ R d, e = .returned (.slice R (n + 4) d) ∧ Sl w' R (n + 4) d (seal4 l) ∧ Below w.heap.size w w' := by
  obtain ⟨q0, q1⟩ := adler_bd l
  obtain ⟨i0, hi, hz0, hz1, hz2⟩ := info_parts info_u8
  have hone := hr.one 24
  go_enter Try.func18, Try.ntmps18
  go_wp2_with (first
    | (go_at_call 28; refine (sum1_any _ _ l _ hone).mono ?_; rintro e w1 ⟨rfl, hb1⟩; have b1 : Below w.heap.size w w1 := ((Below.refl _ _).alloc (Nat.le_refl _) _).trans (hb1.mono (by simp)))
    | (at_make; refine wpList_make_own _ rfl _ _ 24 rfl w.heap.size 5 i0 (.int .u8 0) 1 Try.underlying24 hi hz0 hz1 _ _ _ (4 + n) rfl rfl (by omega) (by rw [hz2]; omega) (by unfold maxLen; omega) b1.size ?_; intro w2 hown2 hgrow2; have b2 : Below w.heap.size w w2 := b1.grown hgrow2 b1.size (fun k hk => by cases hk))
    | (at_builtin; refine wpList_app _ rfl (.tmp 12) (.tmp 24) 24 rfl w.heap.size 5 Try.underlying24 info_u8 _ 0 [] rfl (hown2.alloc _) rfl (fun e => by cases e) (rd_four' w2 q0 q1) (by omega) (by have := b2.size; simp; omega) ?_; intro v3 w3 hown3 hgrow3 hat3; have b3 : Below w.heap.size w w3 := (b2.alloc b2.size _).grown hgrow3 (by have := b2.size; simp; omega) (fun k hk => (hown2.lt k hk).1); simp only [Nat.zero_add, List.nil_append] at hown3)
    | (at_builtin; refine wpList_app _ rfl (.tmp 26) (.tmp 27) 24 rfl w.heap.size 5 Try.underlying24 info_u8 _ 4 (four (adler l)) rfl hown3 rfl hr.nil (hr.rd.keep b3) (by omega) b3.size ?_; intro v4 w4 hown4 hgrow4 hat4; have b4 : Below w.heap.size w w4 := b3.grown hgrow4 b3.size (fun k hk => (hown3.lt k hk).1)))
  have hg : Got w4 w.heap.size v4 (n + 4) (seal4 l) := ⟨by rw [Nat.add_comm n 4]; exact hown4, seal4_small hr.rd.small⟩
  obtain ⟨R, d, rfl, hsl⟩ := hg.sl
  go_wp2
  go_ret
  exact ⟨R, d, rfl, hsl, b4⟩
end Go.Proofs.Ytfglagkpknpgdaa
