/- Package check: Sum as a contract of the call. -/
import Derived.Test.YtfglagkpknpgdaaProg
import Derived.Test.YtfglagkpknpgdaaCkSum
import Derived.WalkKit
import Derived.WalkSpells
import Derived.Lib.Hide
import Derived.WalkSmall
import Derived.Below
import Derived.Outline
import Derived.Laws.BitsAllLaws
namespace Go.Proofs.Ytfglagkpknpgdaa
open Go.RowKit

theorem u32_join (i : Nat) (x y : Nat) (hm : x % 2 ^ i = 0) (hi : y < 2 ^ i) (hs : x + y < 4294967296) : bits .or .u32 (x : Int) (y : Int) = ((x + y : Nat) : Int) := by
  rw [u32_or_nat x y (by omega) (by omega), nat_join i x y hm hi]
theorem join16 {b a : Int} (h0 : 0 ≤ b) (h1 : b < 65536) (h2 : 0 ≤ a) (h3 : a < 65536) : bits .or .u32 (b * 65536) a = b * 65536 + a := by
  obtain ⟨b, rfl⟩ := Int.eq_ofNat_of_zero_le h0
  obtain ⟨a, rfl⟩ := Int.eq_ofNat_of_zero_le h2
  have := u32_join 16 (b * 65536) a (by omega) (by omega) (by omega)
  rw [show (b : Int) * 65536 = ((b * 65536 : Nat) : Int) by omega, this]; omega

def part (ls : List (List Int)) (k : Nat) : List Int := ls.getD k []

/-- The first n places from A are byte slices that read as the lists ls. -/
structure Rds (w : World) (A : Option Addr) (n : Nat) (ls : List (List Int)) : Prop where
  len : ls.length = n
  at_ : 0 < n → ∃ b o, A = some ⟨b, o, none⟩ ∧ b < w.heap.size ∧ ∀ k, k < n → ∃ R m c, w.cell? ⟨b, o + k, none⟩ = some (.slice R m c) ∧ m ≤ c ∧ c ≤ maxLen ∧ (R = none → c = 0) ∧ Rd w R m (part ls k)

section
variable {w w' : World} {A : Option Addr} {n : Nat} {ls : List (List Int)}
theorem Rds.keep (h : Rds w A n ls) (hb : Below w.heap.size w w') : Rds w' A n ls :=
  ⟨h.len, fun hn => by
    obtain ⟨b, o, e, hlt, hc⟩ := h.at_ hn
    refine ⟨b, o, e, Nat.lt_of_lt_of_le hlt hb.size, fun k hk => ?_⟩
    obtain ⟨R, m, c, h1, h2, h3, h4, h5⟩ := hc k hk
    exact ⟨R, m, c, (hb.cell (p := ⟨b, o + k, none⟩) hlt).trans h1, h2, h3, h4, h5.keep hb⟩⟩
theorem Rds.spot (h : Rds w A n ls) (hn : 0 < n) : ∃ b o, A = some ⟨b, o, none⟩ ∧ b < w.heap.size ∧ Hid (∀ k, k < n → ∃ R m c, w.cell? ⟨b, o + k, none⟩ = some (.slice R m c) ∧ m ≤ c ∧ c ≤ maxLen ∧ (R = none → c = 0) ∧ Rd w R m (part ls k)) := h.at_ hn
theorem Rds.empty (w : World) (A : Option Addr) : Rds w A 0 [] := ⟨rfl, fun hn => absurd hn (by omega)⟩
/-- one slice in a block of its own -/
theorem Rds.one {R : Option Addr} {m c : Nat} {l : List Int} (h : Rd w R m l) (hm : m ≤ c) (hc : c ≤ maxLen) (hR : R = none → c = 0) (t : TypeId) : Rds (w.alloc (.cells #[.slice R m c] t)) (some ⟨w.heap.size, 0, none⟩) 1 [l] :=
  ⟨rfl, fun _ => ⟨w.heap.size, 0, rfl, by simp, fun k hk => ⟨R, m, c, by
    obtain rfl : k = 0 := by omega
    rw [Nat.add_zero, World.cell?_alloc_new]; rfl, hm, hc, hR, by
    obtain rfl : k = 0 := by omega
    exact h.alloc _⟩⟩⟩
end
theorem take_part {ls : List (List Int)} {k : Nat} (h : k < ls.length) : (ls.take (k + 1)).flatten = (ls.take k).flatten ++ part ls k := by
  rw [List.take_succ_eq_append_getElem h, List.flatten_append]; unfold part; rw [List.getD_eq_getElem?_getD, List.getElem?_eq_getElem h]; simp

set_option maxHeartbeats 1000000 in
theorem sum_any (A : Option Addr) (n c : Nat) (ls : List (List Int)) (w : World) (hr : Rds w A n ls) (hn : n ≤ 9223372036854775807) :
    Calls Try.prog 28 #[.slice A n c] w fun e w' => e = .returned (.int .u32 (adler ls.flatten)) ∧ Below w.heap.size w w' := by
  go_enter Try.func28, Try.ntmps28
  go_wp2
  obtain ⟨B, hB⟩ : ∃ B, w.heap.size = B := ⟨_, rfl⟩
  have t0 : Two (w.alloc (Obj.cells #[Value.int IntKind.u32 1, Value.int IntKind.u32 0] 66)) B 1 0 := by
    rw [← hB]; exact Two.new w 1 0
  have hb0 : Below B w (w.alloc (Obj.cells #[Value.int IntKind.u32 1, Value.int IntKind.u32 0] 66)) :=
    (Below.refl _ _).alloc (by omega) _
  rw [hB]
  have HB := Lib.hid hB; clear hB
  have HR := Lib.hid hr; clear hr
  have T0 := Lib.hid t0; clear t0
  go_loopw [9] (fun i wr => ∃ k : Nat, k ≤ n ∧ i = .int .i64 k ∧ Two wr B (run (1, 0) (ls.take k).flatten).1 (run (1, 0) (ls.take k).flatten).2 ∧ Below B w wr) (fun i _ => n - (intOf i).toNat)
  case atStart => exact ⟨0, Nat.zero_le _, rfl, T0.out, hb0⟩
  case round =>
    clear T0 hb0
    obtain ⟨k, hk, rfl, u0, hb⟩ := hrel
    have hres := run_res res1 (ls.take k).flatten
    by_cases hlt : k < n
    · obtain ⟨b, o, rfl, hbl, hc⟩ := HR.out.spot (by omega)
      have hbB : b < B := by rw [← HB.out]; exact hbl
      obtain ⟨R, m, d, h1, h2, h3, h4, h5⟩ := hc.out k hlt
      have hcell := (hb.cell (p := ⟨b, o + k, none⟩) hbB).trans h1
      have hrd : Rd wr R m (part ls k) := h5.keep (by rw [HB.out]; exact hb)
      have hsn : run (1, 0) (ls.take (k + 1)).flatten = run (run (1, 0) (ls.take k).flatten) (part ls k) := by rw [take_part (by rw [HR.out.len]; exact hlt), run_app]
      have HS := Lib.hid hsn; clear hsn
      obtain ⟨p, hp⟩ : ∃ p, run (1, 0) (ls.take k).flatten = p := ⟨_, rfl⟩
      rw [hp] at u0 hres HS
      obtain ⟨a1, b1⟩ := p
      have hm : m ≤ 9223372036854775807 := by unfold maxLen at h3; omega
      simp only at u0
      clear hp h1 h2 h3 h4 h5
      have c0 := u0.c0
      have c1 := u0.c1
      have f0 := u0.free 0
      have f1 := u0.free 1
      have hsz := u0.lt
      go_wp2_with (go_at_call 34; refine (after_any _ _ _ _ _ (part ls k) _ hres hrd hm).mono ?_; rintro e w1 ⟨rfl, hb1⟩; have v0 := u0.below hb1 u0.lt; have d0 := v0.c0; have d1 := v0.c1; have g0 := v0.free 0; have g1 := v0.free 1; have hs1 := v0.lt)
      go_roundw
      case rel =>
        refine ⟨k + 1, by omega, by go_num, ?_, ?_⟩
        · rw [HS.out]; exact (v0.set0 _).set1 _
        · exact ((hb.trans (hb1.mono (by omega))).setCell (by simp) _).setCell (by simp) _
      case measure => simp [intOf]; omega
    · have hkn : k = n := by omega
      subst hkn
      have ht : ls.take k = ls := by rw [← HR.out.len]; exact List.take_length
      rw [ht] at u0 hres
      have hfin : adler ls.flatten = (run (1, 0) ls.flatten).2 * 65536 + (run (1, 0) ls.flatten).1 := rfl
      obtain ⟨p, hp⟩ : ∃ p, run (1, 0) ls.flatten = p := ⟨_, rfl⟩
      rw [hp] at u0 hres hfin
      have HF := Lib.hid hfin; clear hfin
      obtain ⟨a1, b1⟩ := p
      unfold Res at hres
      obtain ⟨r0, r1, r2, r3⟩ := hres
      simp only at u0 r0 r1 r2 r3
      clear hp ht HR
      have c0 := u0.c0
      have c1 := u0.c1
      have f0 := u0.free 0
      have f1 := u0.free 1
      have hsz := u0.lt
      go_wp2_with fail
      go_ret
      refine ⟨?_, by rw [HB.out]; exact hb⟩
      rw [HF.out, ← join16 r2 (by omega) r0 (by omega)]
      rfl
end Go.Proofs.Ytfglagkpknpgdaa
