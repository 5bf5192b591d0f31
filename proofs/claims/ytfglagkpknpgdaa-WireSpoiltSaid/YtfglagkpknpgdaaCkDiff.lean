/- Package check: what the sums say when one byte has changed, or two have changed places. No program. -/
import Derived.Test.YtfglagkpknpgdaaCkBack
import Derived.Laws.BitsAllLaws
namespace Go.Proofs.Ytfglagkpknpgdaa
open Go.RowKit

theorem mod_add_mod (a b m : Int) : (a % m + b) % m = (a + b) % m := by rw [Int.emod_add_emod]
theorem run_fst (l : List Int) : ∀ (x y : Int), (run (x % 65521, y) l).1 = (x + l.sum) % 65521 := by
  induction l with
  | nil => intro x y; show x % 65521 = (x + 0) % 65521; rw [Int.add_zero]
  | cons c l ih =>
    intro x y
    have e : run (x % 65521, y) (c :: l) = run (stp (x % 65521, y) c) l := rfl
    rw [e]
    have e2 : stp (x % 65521, y) c = ((x + c) % 65521, (y + (x % 65521 + c) % 65521) % 65521) := by
      unfold stp; simp only [mod_add_mod]
    rw [e2, ih, List.sum_cons, Int.add_assoc]
theorem adler_fst (l : List Int) : adler l % 65536 = (1 + l.sum) % 65521 := by
  have h := run_fst l 1 0
  have h1 : ((1 : Int) % 65521, (0 : Int)) = (1, 0) := rfl
  rw [h1] at h
  have hr := run_res res1 l
  unfold Res at hr
  unfold adler
  omega
theorem sum_set : ∀ (l : List Int) (i : Nat) (z : Int), i < l.length → (l.set i z).sum = l.sum + z - byt l i
  | [], i, z, h => by simp at h
  | c :: l, 0, z, _ => by
    rw [List.set_cons_zero, List.sum_cons, List.sum_cons]
    have : byt (c :: l) 0 = c := rfl
    omega
  | c :: l, i + 1, z, h => by
    rw [List.set_cons_succ, List.sum_cons, List.sum_cons, sum_set l i z (by simpa using h)]
    have : byt (c :: l) (i + 1) = byt l i := rfl
    omega
theorem small_set {l : List Int} (h : Small l) (i : Nat) {z : Int} (h0 : 0 ≤ z) (h1 : z < 256) : Small (l.set i z) := fun x hx => by
  rcases List.mem_or_eq_of_mem_set hx with h2 | h2
  · exact h x h2
  · rw [h2]; exact ⟨h0, h1⟩
theorem byt_set_self {l : List Int} {i : Nat} (z : Int) (h : i < l.length) : byt (l.set i z) i = z := by
  unfold byt; rw [List.getD_eq_getElem?_getD, List.getElem?_set_self h]; rfl
theorem byt_set_ne {l : List Int} {i j : Nat} (z : Int) (h : i ≠ j) : byt (l.set i z) j = byt l j := by
  unfold byt; rw [List.getD_eq_getElem?_getD, List.getElem?_set_ne h, List.getD_eq_getElem?_getD]
theorem byt_app4 (q : Int) (l : List Int) (i : Nat) : byt (four q ++ l) (i + 4) = byt l i := rfl

/-- one byte of what was sealed has changed: the number is not the sum -/
theorem changed {l : List Int} (hs : Small l) {i : Nat} {z : Int} (hi : i < l.length + 4) (h0 : 0 ≤ z) (h1 : z < 256) (hz : z ≠ byt (seal4 l) i) : num4 ((seal4 l).set i z) ≠ adler (((seal4 l).set i z).drop 4) := by
  have hn := num4_seal l
  have hsm := seal4_small hs
  have hlen := seal4_len l
  by_cases h4 : i < 4
  · have hd : ((seal4 l).set i z).drop 4 = l := by
      rw [List.drop_set_of_lt h4, drop4_seal]
    rw [hd, ← hn]
    have a0 := byt_bd hsm 0
    have a1 := byt_bd hsm 1
    have a2 := byt_bd hsm 2
    have a3 := byt_bd hsm 3
    unfold num4
    have hself := byt_set_self (l := seal4 l) (i := i) z (by omega)
    match i, h4 with
    | 0, _ =>
      rw [hself, byt_set_ne z (by omega), byt_set_ne z (by omega), byt_set_ne z (by omega)]; omega
    | 1, _ =>
      rw [hself, byt_set_ne z (by omega), byt_set_ne z (by omega), byt_set_ne z (by omega)]; omega
    | 2, _ =>
      rw [hself, byt_set_ne z (by omega), byt_set_ne z (by omega), byt_set_ne z (by omega)]; omega
    | 3, _ =>
      rw [hself, byt_set_ne z (by omega), byt_set_ne z (by omega), byt_set_ne z (by omega)]; omega
  · have hnum : num4 ((seal4 l).set i z) = num4 (seal4 l) := by
      unfold num4
      rw [byt_set_ne z (by omega), byt_set_ne z (by omega), byt_set_ne z (by omega), byt_set_ne z (by omega)]
    have hd : ((seal4 l).set i z).drop 4 = l.set (i - 4) z := by
      rw [List.drop_set, if_neg (by omega), drop4_seal]
    rw [hnum, hn, hd]
    intro he
    obtain ⟨k, rfl⟩ : ∃ k, i = k + 4 := ⟨i - 4, by omega⟩
    have hb : byt (seal4 l) (k + 4) = byt l k := rfl
    rw [hb] at hz
    rw [show k + 4 - 4 = k by omega] at he
    have e1 := adler_fst l
    have e2 := adler_fst (l.set k z)
    have e3 := sum_set l k z (by omega)
    have e4 := byt_bd hs k
    rw [← he, e1] at e2
    omega

theorem xor_facts {z y : Int} (h0 : 0 ≤ z) (h1 : z < 256) (h2 : 0 ≤ y) (h3 : y < 256) (hy : y ≠ 0) : 0 ≤ bits .xor .u8 z y ∧ bits .xor .u8 z y < 256 ∧ bits .xor .u8 z y ≠ z := by
  obtain ⟨z, rfl⟩ := Int.eq_ofNat_of_zero_le h0
  obtain ⟨y, rfl⟩ := Int.eq_ofNat_of_zero_le h2
  rw [u8_xor_nat z y (by omega) (by omega)]
  have hlt : z ^^^ y < 2 ^ 8 := Nat.xor_lt_two_pow (by omega) (by omega)
  refine ⟨by omega, by omega, fun e => hy ?_⟩
  have e' : z ^^^ y = z := by omega
  have : z ^^^ (z ^^^ y) = z ^^^ z := by rw [e']
  rw [← Nat.xor_assoc, Nat.xor_self, Nat.zero_xor] at this
  omega

theorem Got.sl_at {w : World} {base : Nat} {R : Option Addr} {n d : Nat} {l : List Int} (h : Got w base (.slice R n d) n l) : Sl w R n d l := by
  obtain ⟨A, c, e, hs⟩ := h.sl
  injection e with e1 e2 e3
  subst e1 e3
  exact hs
theorem got_set {w : World} {base g n d i : Nat} {l : List Int} (h : Got w base (.slice (some ⟨g, 0, none⟩) n d) n l) {z : Int} (h0 : 0 ≤ z) (h1 : z < 256) :
    Got (w.setCell ⟨g, i, none⟩ (.int .u8 z)) base (.slice (some ⟨g, 0, none⟩) n d) n (l.set i z) :=
  ⟨by rw [List.map_set]; exact (h.own.stored i (.int .u8 z)).1, small_set h.small i h0 h1⟩
end Go.Proofs.Ytfglagkpknpgdaa
