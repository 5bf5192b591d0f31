/- The reference's ends: all ends of spans, rising, each once. -/
import Derived.Test.YtgiknfmagmfniaaSpInts
namespace Go.Proofs.Ytgiknfmagmfniaa
open Go.RowKit

/-- is it an end of one? -/
def EndOf (l : List Sp) (y : Int) : Prop := ∃ p ∈ l, y = p.1 ∨ y = p.2
theorem endOf_snoc (l : List Sp) (p : Sp) (y : Int) : EndOf (l ++ [p]) y ↔ EndOf l y ∨ y = p.1 ∨ y = p.2 := by
  unfold EndOf
  constructor
  · rintro ⟨q, hq, h⟩
    rcases List.mem_append.1 hq with h1 | h1
    · exact .inl ⟨q, h1, h⟩
    · rw [List.mem_singleton] at h1; subst h1; exact .inr h
  · rintro (⟨q, hq, h⟩ | h)
    · exact ⟨q, List.mem_append.2 (.inl hq), h⟩
    · exact ⟨p, List.mem_append.2 (.inr (by simp)), h⟩
structure IsEnds (w : World) (R : Option Addr) (m d : Nat) (e : List Int) (l : List Sp) : Prop where
  si : Si w R m d e
  rise : Rise e
  mem : ∀ y, y ∈ e ↔ EndOf l y
  len : m ≤ 2 * l.length
def HasEnds (w : World) (v : Value) (l : List Sp) : Prop := ∃ R m d e, v = .slice R m d ∧ IsEnds w R m d e l
theorem hasEnds_nil (w : World) : HasEnds w (.slice none 0 0) [] :=
  ⟨none, 0, 0, [], rfl, Si.none _, List.Pairwise.nil, fun y => ⟨fun h => (by cases h), fun ⟨p, hp, _⟩ => (by cases hp)⟩, Nat.zero_le _⟩

set_option maxRecDepth 100000 in
set_option maxHeartbeats 4000000 in
theorem rends_any (A : Option Addr) (n c : Nat) (l : List Sp) (w : World) (hs : Ss w A n c l) (hn : n ≤ 2000) :
    Calls Try.prog 59 #[.slice A n c] w fun e w' => ∃ v, e = .returned v ∧ HasEnds w' v l ∧ Below w.heap.size w w' := by
  have hl := hs.rd.len
  have HA := Lib.hid hs; clear hs
  go_enter Try.func59, Try.ntmps59
  go_wp2
  go_loopw [3, 4] (fun s i wr => ∃ k : Nat, k ≤ n ∧ i = .int .i64 k ∧ HasEnds wr s (l.take k) ∧ Below w.heap.size w wr) (fun _ i _ => n - (intOf i).toNat)
  case atStart => exact ⟨0, Nat.zero_le _, rfl, hasEnds_nil _, Below.refl _ _⟩
  case round =>
    obtain ⟨k, hk, rfl, he, hb⟩ := hrel
    by_cases hlt : k < n
    · have hk0 : (k : Int) < (n : Int) := by omega
      have hk1 : (0 : Int) ≤ (k : Int) := by omega
      obtain ⟨R, m, d, e, rfl, hie⟩ := he
      have hlen := hie.len
      have hm1 : m ≤ 4000 := by rw [List.length_take] at hlen; omega
      obtain ⟨⟨p, q⟩, hp⟩ : ∃ p, sp l k = p := ⟨_, rfl⟩
      have ht : l.take (k + 1) = l.take k ++ [(p, q)] := by rw [← hp]; exact take_sp (by omega)
      have hw := sp_wide HA.out.rd.wide k
      rw [hp] at hw
      simp only at hw
      obtain ⟨hw1, hw2⟩ := hw
      have HW1 := Lib.hid hw1
      have HW2 := Lib.hid hw2
      have HT := Lib.hid ht
      obtain ⟨bb, o, rfl, hbl, hc⟩ := HA.out.rd.at_ (by omega)
      have z1 := (hb.cell (p := ⟨bb, o + k * 2, none⟩) hbl).trans (hc k hlt).1
      have z2 := (hb.cell (p := ⟨bb, o + k * 2 + 1, none⟩) hbl).trans (hc k hlt).2
      have hbw : bb < wr.heap.size := Nat.lt_of_lt_of_le hbl hb.size
      rw [hp] at z1 z2
      simp only at z1 z2
      have hput := put_any R m d e p wr.drew (hie.si.keep ((Below.refl _ _).drew)) hw1 hie.rise (by omega)
      clear hc hp hw1 hw2 ht
      go_wp2
      go_region_held3 (fun w' => w'.cell? ⟨bb, o + k * 2, none⟩ = some (.int .i64 p) ∧ w'.cell? ⟨bb, o + k * 2 + 1, none⟩ = some (.int .i64 q))
        (first | exact ⟨x3, x4⟩ | exact ⟨x1, x2⟩ | go_keep)
        (first
          | (go_at_call_of 60 p; refine hput.mono ?_; rintro e1 w1 ⟨R1, m1, d1, rfl, r1, s1, t1, u1, v1, hb1⟩; have b1 := hb.drew.trans (hb1.mono hb.size); have x1 := (hb1.cell (p := ⟨bb, o + k * 2, none⟩) hbw).trans z1; have x2 := (hb1.cell (p := ⟨bb, o + k * 2 + 1, none⟩) hbw).trans z2; have hbw1 : bb < w1.heap.size := Nat.lt_of_lt_of_le hbw hb1.size)
          | (go_at_call_of 60 q; refine (put_any R1 m1 d1 r1 q _ s1 HW2.out t1 (by omega)).mono ?_; rintro e2 w2 ⟨R2, m2, d2, rfl, r2, s2, t2, u2, v2, hb2⟩; have b2 := b1.trans (hb2.mono b1.size); have x3 := (hb2.cell (p := ⟨bb, o + k * 2, none⟩) hbw1).trans x1; have x4 := (hb2.cell (p := ⟨bb, o + k * 2 + 1, none⟩) hbw1).trans x2))
      all_goals go_wp2
      go_roundw
      case rel =>
        refine ⟨k + 1, by omega, by go_num, ⟨R2, m2, d2, r2, rfl, s2, t2, fun y => ?_, ?_⟩, b2⟩
        · rw [HT.out, endOf_snoc, u2, u1, hie.mem, or_assoc]
        · rw [HT.out, List.length_append, List.length_singleton]; omega
      case measure => simp [intOf]; omega
    · have hkn : k = n := by omega
      subst hkn
      rw [← hl, List.take_length] at he
      go_wp2
      go_ret
      exact ⟨_, rfl, he, hb⟩
end Go.Proofs.Ytgiknfmagmfniaa
