/- Package ecf: choices, room, the one that is picked. No program of the stage. -/
import Derived.Test.YtmclffbjdkoneaaRo
namespace Go.Proofs.Ytmclffbjdkoneaa
open Go.RowKit
set_option linter.unusedVariables false
set_option linter.unusedSimpArgs false

/-- a choice -/
structure Chv where
  up : Bool
  cwnd : Int
  flight : Int
  srtt : Int
  vr : Int
def w64c (x : Int) : Prop := -9223372036854775808 ≤ x ∧ x ≤ 9223372036854775807
structure ChW (x : Chv) : Prop where
  a : w64c x.cwnd
  b : w64c x.flight
  c : w64c x.srtt
  d : w64c x.vr
instance : El Chv where
  k := 5
  pos := by decide
  cells x := [.bool x.up, .int .i64 x.cwnd, .int .i64 x.flight, .int .i64 x.srtt, .int .i64 x.vr]
  len _ := rfl
  one x u hu := by simp at hu; rcases hu with rfl | rfl | rfl | rfl | rfl <;> rfl
  dft := ⟨false, 0, 0, 0, 0⟩
  ok := ChW
def brB (n : Int) : Bool := decide (0 ≤ n ∧ n ≤ 1099511627776)
theorem brB_iff (n : Int) : brB n = true ↔ 0 ≤ n ∧ n ≤ 1099511627776 := decide_eq_true_iff
structure ChOk (x : Chv) : Prop where
  up : x.up = true
  c0 : 1 ≤ x.cwnd
  c1 : x.cwnd ≤ 1073741824
  f0 : 0 ≤ x.flight
  f1 : x.flight ≤ 1099511627776
  s0 : 0 ≤ x.srtt
  s1 : x.srtt ≤ 1099511627776
  v0 : 0 ≤ x.vr
  v1 : x.vr ≤ 1099511627776
def chB (x : Chv) : Bool := x.up && decide (1 ≤ x.cwnd ∧ x.cwnd ≤ 1073741824 ∧ 0 ≤ x.flight ∧ x.flight ≤ 1099511627776 ∧ 0 ≤ x.srtt ∧ x.srtt ≤ 1099511627776 ∧ 0 ≤ x.vr ∧ x.vr ≤ 1099511627776)
theorem chB_iff (x : Chv) : chB x = true ↔ ChOk x := by
  unfold chB
  rw [Bool.and_eq_true, decide_eq_true_eq]
  exact ⟨fun ⟨a, b, c, d, e, f, g, h, i⟩ => ⟨a, b, c, d, e, f, g, h, i⟩, fun h => ⟨h.up, h.c0, h.c1, h.f0, h.f1, h.s0, h.s1, h.v0, h.v1⟩⟩
def roomB (x : Chv) (mss : Int) : Bool := chB x && decide (1 ≤ mss ∧ mss ≤ 1460 ∧ x.flight + mss ≤ x.cwnd)
theorem roomB_iff (x : Chv) (mss : Int) : roomB x mss = true ↔ ChOk x ∧ 1 ≤ mss ∧ mss ≤ 1460 ∧ x.flight + mss ≤ x.cwnd := by unfold roomB; rw [Bool.and_eq_true, chB_iff, decide_eq_true_eq]
/-- the first one with the least time among the first k for which p holds; -1 -/
def bestI (p : Chv → Bool) (l : List Chv) : Nat → Int
  | 0 => -1
  | k + 1 => if p (ge l k) = true ∧ (bestI p l k < 0 ∨ (ge l k).srtt < (ge l (bestI p l k).toNat).srtt) then (k : Int) else bestI p l k
theorem best_succ (p : Chv → Bool) (l : List Chv) (k : Nat) : bestI p l (k + 1) = if p (ge l k) = true ∧ (bestI p l k < 0 ∨ (ge l k).srtt < (ge l (bestI p l k).toNat).srtt) then (k : Int) else bestI p l k := rfl
theorem best_bd (p : Chv → Bool) (l : List Chv) : ∀ k : Nat, -1 ≤ bestI p l k ∧ bestI p l k < (k : Int) ∨ (k = 0 ∧ bestI p l k = -1) := by
  intro k
  induction k with
  | zero => exact .inr ⟨rfl, rfl⟩
  | succ k ih =>
    left
    rw [best_succ]
    split
    · omega
    · rcases ih with h | h
      · omega
      · omega
structure BestOk (p : Chv → Bool) (l : List Chv) (k : Nat) (i : Int) : Prop where
  lo : -1 ≤ i
  hi : i < (k : Int)
  holds : 0 ≤ i → p (ge l i.toNat) = true
  least : 0 ≤ i → ∀ j, j < k → p (ge l j) = true → (ge l i.toNat).srtt ≤ (ge l j).srtt
  first : 0 ≤ i → ∀ j, j < i.toNat → p (ge l j) = true → (ge l i.toNat).srtt < (ge l j).srtt
  none : i < 0 → ∀ j, j < k → p (ge l j) = false
theorem best_ok (p : Chv → Bool) (l : List Chv) : ∀ k : Nat, BestOk p l k (bestI p l k) := by
  intro k
  induction k with
  | zero => exact ⟨by show -1 ≤ (-1 : Int); omega, by show (-1 : Int) < 0; omega, fun h => absurd h (by show ¬ (0 : Int) ≤ -1; omega), fun h => absurd h (by show ¬ (0 : Int) ≤ -1; omega), fun h => absurd h (by show ¬ (0 : Int) ≤ -1; omega), fun _ j hj => absurd hj (by omega)⟩
  | succ k ih =>
    rw [best_succ]
    split
    · next h =>
      refine ⟨by omega, by omega, fun _ => by rw [Int.toNat_natCast]; exact h.1, fun _ j hj hp => ?_, fun _ j hj hp => ?_, fun hn => absurd hn (by omega)⟩
      · rw [Int.toNat_natCast]
        by_cases e : j = k
        · subst e; exact Int.le_refl _
        · rcases h.2 with h2 | h2
          · rw [ih.none h2 j (by omega)] at hp; cases hp
          · by_cases h3 : bestI p l k < 0
            · rw [ih.none h3 j (by omega)] at hp; cases hp
            · have := ih.least (by omega) j (by omega) hp; omega
      · rw [Int.toNat_natCast] at hj ⊢
        rcases h.2 with h2 | h2
        · rw [ih.none h2 j hj] at hp; cases hp
        · by_cases h3 : bestI p l k < 0
          · rw [ih.none h3 j hj] at hp; cases hp
          · have := ih.least (by omega) j hj hp; omega
    · next h =>
      refine ⟨ih.lo, by have := ih.hi; omega, ih.holds, fun h0 j hj hp => ?_, ih.first, fun hn j hj => ?_⟩
      · by_cases e : j = k
        · subst e
          refine Int.not_lt.1 (fun h2 => h ⟨hp, .inr h2⟩)
        · exact ih.least h0 j (by omega) hp
      · by_cases e : j = k
        · subst e
          exact Bool.eq_false_iff.2 (fun h2 => h ⟨h2, .inl hn⟩)
        · exact ih.none hn j (by omega)
/-- is it waited -/
def waitB (f s : Chv) (bytes : Int) (waits : Bool) : Bool :=
  decide ((4 * (1 + bytes / f.cwnd)) * f.srtt < (if waits then 5 else 4) * (s.srtt + max f.vr s.vr) ∧ ¬ (1 + bytes / s.cwnd) * s.srtt < 1 * (2 * f.srtt + max f.vr s.vr))
def PkOk (l : List Chv) (bytes mss : Int) : Prop := l.length ≤ 4 ∧ 1 ≤ bytes ∧ bytes ≤ 1099511627776 ∧ 1 ≤ mss ∧ mss ≤ 1460
instance (l : List Chv) (b m : Int) : Decidable (PkOk l b m) := inferInstanceAs (Decidable (_ ∧ _ ∧ _ ∧ _ ∧ _))
def pickR (l : List Chv) (bytes mss : Int) (waits : Bool) : Int × Bool :=
  if PkOk l bytes mss then
    (if bestI (fun x => roomB x mss) l l.length < 0 then (-1, false)
     else if roomB (ge l (bestI chB l l.length).toNat) mss = true then (bestI (fun x => roomB x mss) l l.length, false)
     else if waitB (ge l (bestI chB l l.length).toNat) (ge l (bestI (fun x => roomB x mss) l l.length).toNat) bytes waits = true then (-1, true)
     else (bestI (fun x => roomB x mss) l l.length, false))
  else (-1, false)
/-! products by halves -/
theorem mul_parts {a b p q r s : Int} (ha : a = p * 4194304 + q) (hb : b = r * 4194304 + s) : a * b = p * r * 17592186044416 + (p * s + q * r) * 4194304 + q * s := by
  subst ha hb
  rw [Int.add_mul, Int.mul_add, Int.mul_add]
  have e1 : p * 4194304 * (r * 4194304) = p * r * 17592186044416 := by rw [Int.mul_assoc, Int.mul_left_comm 4194304, ← Int.mul_assoc]; rfl
  have e2 : p * 4194304 * s = p * s * 4194304 := by rw [Int.mul_assoc, Int.mul_comm 4194304, ← Int.mul_assoc]
  have e3 : q * (r * 4194304) = q * r * 4194304 := by rw [← Int.mul_assoc]
  rw [e1, e2, e3, Int.add_mul]
  omega
def hiP (a b : Int) : Int := a / 4194304 * (b / 4194304) + (a / 4194304 * (b % 4194304) + a % 4194304 * (b / 4194304)) / 4194304 + (a % 4194304 * (b % 4194304) + (a / 4194304 * (b % 4194304) + a % 4194304 * (b / 4194304)) % 4194304 * 4194304) / 17592186044416
def loP (a b : Int) : Int := (a % 4194304 * (b % 4194304) + (a / 4194304 * (b % 4194304) + a % 4194304 * (b / 4194304)) % 4194304 * 4194304) % 17592186044416
theorem echalves (a b : Int) : a * b = hiP a b * 17592186044416 + loP a b ∧ 0 ≤ loP a b ∧ loP a b < 17592186044416 := by
  have h := mul_parts (a := a) (b := b) (p := a / 4194304) (q := a % 4194304) (r := b / 4194304) (s := b % 4194304) (by omega) (by omega)
  unfold hiP loP
  generalize a / 4194304 * (b / 4194304) = x at *
  generalize a / 4194304 * (b % 4194304) + a % 4194304 * (b / 4194304) = m at *
  generalize a % 4194304 * (b % 4194304) = z at *
  omega
theorem below_iff (a b c d : Int) : (if hiP a b ≠ hiP c d then decide (hiP a b < hiP c d) else decide (loP a b < loP c d)) = decide (a * b < c * d) := by
  obtain ⟨h1, h2, h3⟩ := echalves a b
  obtain ⟨g1, g2, g3⟩ := echalves c d
  rw [Bool.eq_iff_iff]
  split
  · rw [decide_eq_true_eq, decide_eq_true_eq]; omega
  · rw [decide_eq_true_eq, decide_eq_true_eq]; omega
/-- the parts are numbers that may be -/
theorem part_bd {x y M N : Int} (hx : 0 ≤ x ∧ x ≤ M) (hy : 0 ≤ y ∧ y ≤ N) : 0 ≤ x * y ∧ x * y ≤ M * N :=
  ⟨Int.mul_nonneg hx.1 hy.1, Int.mul_le_mul hx.2 hy.2 hy.1 (by omega)⟩
end Go.Proofs.Ytmclffbjdkoneaa
