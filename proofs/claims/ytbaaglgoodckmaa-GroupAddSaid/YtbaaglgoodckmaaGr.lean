/- Package group: delays, products, lists that are alike, groups. No program of the stage. -/
import Derived.Test.YtbaaglgoodckmaaLl
namespace Go.Proofs.Ytbaaglgoodckmaa
set_option linter.unusedVariables false
set_option linter.unusedSimpArgs false

def d18 (x : Int) : Bool := decide (0 ≤ x ∧ x ≤ 262144)
theorem d18_iff (x : Int) : d18 x = true ↔ 0 ≤ x ∧ x ≤ 262144 := decide_eq_true_iff
def AllD (l : List Int) (k : Nat) : Prop := ∀ i, i < k → d18 (it l i) = true
theorem alld_snoc {l : List Int} {k : Nat} (h : AllD l k) (hk : d18 (it l k) = true) : AllD l (k + 1) := fun i hi => by
  by_cases e : i = k
  · subst e; exact hk
  · exact h i (by omega)
def allD (l : List Int) : Bool := l.all d18
theorem allD_iff (l : List Int) : allD l = true ↔ AllD l l.length := by
  unfold allD
  rw [List.all_eq_true]
  constructor
  · intro h i hi; exact h _ (it_mem hi)
  · intro h x hx
    obtain ⟨i, hi, rfl⟩ := List.getElem_of_mem hx
    have := h i hi
    rwa [it_eq hi] at this
def mayG (l : List Int) : Bool := allD l && decide (l.length ≤ 16)
theorem mayG_iff (l : List Int) : mayG l = true ↔ AllD l l.length ∧ l.length ≤ 16 := by unfold mayG; rw [Bool.and_eq_true, allD_iff, decide_eq_true_eq]
def AddOk (l : List Int) (d : Int) : Prop := mayG l = true ∧ 0 ≤ d ∧ d ≤ 262144
instance (l : List Int) (d : Int) : Decidable (AddOk l d) := inferInstanceAs (Decidable (_ ∧ _ ∧ _))
def pushG (l : List Int) (d : Int) : List Int := if 16 < l.length + 1 then (l ++ [d]).drop 1 else l ++ [d]
def addG (l : List Int) (d : Int) : List Int × Int := if AddOk l d then (pushG l d, 0) else ([], 1)
theorem add_no {l : List Int} {d : Int} (h : ¬ AddOk l d) : addG l d = ([], 1) := if_neg h
theorem add_ok {l : List Int} {d : Int} (h : AddOk l d) : addG l d = (pushG l d, 0) := if_pos h
/-- the sum of the first k of the last n -/
def sumTo (l : List Int) (n : Nat) : Nat → Int
  | 0 => 0
  | k + 1 => sumTo l n k + it l (l.length - n + k)
def devG (l : List Int) (n : Nat) (x : Int) (i : Nat) : Int := (n : Int) * it l (l.length - n + i) - x
def prodTo (a b : List Int) (n : Nat) (x y : Int) : Nat → Int
  | 0 => 0
  | k + 1 => prodTo a b n x y k + devG a n x k * devG b n y k
def prodG (a b : List Int) (n : Nat) : Int := prodTo a b n (sumTo a n n) (sumTo b n n) n
def alikeG (a b : List Int) : Bool := mayG a && (mayG b && decide (4 ≤ a.length ∧ 4 ≤ b.length ∧ 0 < prodG a b (min a.length b.length) ∧ prodG a a (min a.length b.length) ≤ 2 * prodG a b (min a.length b.length) ∧ prodG b b (min a.length b.length) ≤ 2 * prodG a b (min a.length b.length)))
theorem alike_iff (a b : List Int) : alikeG a b = true ↔ mayG a = true ∧ mayG b = true ∧ 4 ≤ a.length ∧ 4 ≤ b.length ∧ 0 < prodG a b (min a.length b.length) ∧ prodG a a (min a.length b.length) ≤ 2 * prodG a b (min a.length b.length) ∧ prodG b b (min a.length b.length) ≤ 2 * prodG a b (min a.length b.length) := by
  unfold alikeG; rw [Bool.and_eq_true, Bool.and_eq_true, decide_eq_true_eq]
/-! bounds -/
theorem mul_bd {p q : Int} (hp : -4194304 ≤ p ∧ p ≤ 4194304) (hq : -4194304 ≤ q ∧ q ≤ 4194304) : -17592186044416 ≤ p * q ∧ p * q ≤ 17592186044416 := by
  have h1 : (p * q).natAbs = p.natAbs * q.natAbs := Int.natAbs_mul p q
  have h2 : p.natAbs * q.natAbs ≤ 4194304 * 4194304 := Nat.mul_le_mul (by omega) (by omega)
  omega
theorem it_d {l : List Int} (h : mayG l = true) (i : Nat) : 0 ≤ it l i ∧ it l i ≤ 262144 := by
  by_cases hi : i < l.length
  · exact (d18_iff _).1 (((mayG_iff l).1 h).1 i hi)
  · unfold it; rw [List.getD_eq_getElem?_getD, List.getElem?_eq_none (by omega)]; simp
theorem sum_bd {l : List Int} (h : mayG l = true) (n : Nat) : ∀ k : Nat, 0 ≤ sumTo l n k ∧ sumTo l n k ≤ 262144 * (k : Int) := by
  intro k
  induction k with
  | zero => simp [sumTo]
  | succ k ih =>
    have := it_d h (l.length - n + k)
    show 0 ≤ sumTo l n k + it l (l.length - n + k) ∧ sumTo l n k + it l (l.length - n + k) ≤ _
    omega
theorem nit_bd {l : List Int} (h : mayG l = true) {n : Nat} (hn : n ≤ 16) (i : Nat) : 0 ≤ (n : Int) * it l i ∧ (n : Int) * it l i ≤ 4194304 := by
  have h1 := it_d h i
  have h2 : (n : Int) * it l i ≤ 16 * it l i := Int.mul_le_mul_of_nonneg_right (by omega) h1.1
  exact ⟨Int.mul_nonneg (by omega) h1.1, by omega⟩
theorem dev_bd {l : List Int} (h : mayG l = true) {n : Nat} (hn : n ≤ 16) (i : Nat) : -4194304 ≤ devG l n (sumTo l n n) i ∧ devG l n (sumTo l n n) i ≤ 4194304 := by
  have h1 := nit_bd h hn (l.length - n + i)
  have h2 := sum_bd h n n
  unfold devG
  omega
theorem prod_bd {a b : List Int} (ha : mayG a = true) (hb : mayG b = true) {n : Nat} (hn : n ≤ 16) : ∀ k : Nat, -(17592186044416 * (k : Int)) ≤ prodTo a b n (sumTo a n n) (sumTo b n n) k ∧ prodTo a b n (sumTo a n n) (sumTo b n n) k ≤ 17592186044416 * (k : Int) := by
  intro k
  induction k with
  | zero => simp [prodTo]
  | succ k ih =>
    have := mul_bd (dev_bd ha hn k) (dev_bd hb hn k)
    show _ ≤ prodTo a b n (sumTo a n n) (sumTo b n n) k + devG a n (sumTo a n n) k * devG b n (sumTo b n n) k ∧ prodTo a b n (sumTo a n n) (sumTo b n n) k + devG a n (sumTo a n n) k * devG b n (sumTo b n n) k ≤ _
    omega
/-! what is alike is so either way -/
theorem prod_comm (a b : List Int) (n : Nat) (x y : Int) : ∀ k, prodTo a b n x y k = prodTo b a n y x k := by
  intro k
  induction k with
  | zero => rfl
  | succ k ih => show prodTo a b n x y k + devG a n x k * devG b n y k = prodTo b a n y x k + devG b n y k * devG a n x k; rw [ih, Int.mul_comm (devG a n x k)]
theorem prodG_comm (a b : List Int) (n : Nat) : prodG a b n = prodG b a n := prod_comm a b n _ _ n
theorem alike_comm (a b : List Int) : alikeG a b = alikeG b a := by
  rw [Bool.eq_iff_iff, alike_iff, alike_iff, Nat.min_comm b.length a.length, prodG_comm b a]
  exact ⟨fun ⟨h1, h2, h3, h4, h5, h6, h7⟩ => ⟨h2, h1, h4, h3, h5, h7, h6⟩, fun ⟨h1, h2, h3, h4, h5, h6, h7⟩ => ⟨h2, h1, h4, h3, h5, h7, h6⟩⟩
/-! groups: of a matrix that tells which are alike -/
def stepK (m : Nat → Nat → Bool) (i : Nat) (o : List Int) (k : Nat) : List Int := if it o k < it o i ∧ m i k = true then o.set i (it o k) else o
def rowK (m : Nat → Nat → Bool) (i k : Nat) (o : List Int) : List Int := (List.range k).foldl (stepK m i) o
def rowsI (m : Nat → Nat → Bool) (n i : Nat) (o : List Int) : List Int := (List.range i).foldl (fun o i => rowK m i n o) o
def rndsG (m : Nat → Nat → Bool) (n r : Nat) (o : List Int) : List Int := (List.range r).foldl (fun o _ => rowsI m n n o) o
def iotaG (n : Nat) : List Int := (List.range n).map fun (i : Nat) => (i : Int)
def ofG (m : Nat → Nat → Bool) (n : Nat) : List Int := rndsG m n 5 (iotaG n)
theorem rowK_succ (m : Nat → Nat → Bool) (i k : Nat) (o : List Int) : rowK m i (k + 1) o = stepK m i (rowK m i k o) k := by unfold rowK; rw [List.range_succ, List.foldl_append]; rfl
theorem rowsI_succ (m : Nat → Nat → Bool) (n i : Nat) (o : List Int) : rowsI m n (i + 1) o = rowK m i n (rowsI m n i o) := by unfold rowsI; rw [List.range_succ, List.foldl_append]; rfl
theorem rnds_succ (m : Nat → Nat → Bool) (n r : Nat) (o : List Int) : rndsG m n (r + 1) o = rowsI m n n (rndsG m n r o) := by unfold rndsG; rw [List.range_succ, List.foldl_append]; rfl
theorem iota_succ (n : Nat) : iotaG (n + 1) = iotaG n ++ [(n : Int)] := by unfold iotaG; rw [List.range_succ, List.map_append]; rfl
theorem iota_len (n : Nat) : (iotaG n).length = n := by unfold iotaG; simp
theorem step_len (m : Nat → Nat → Bool) (i : Nat) (o : List Int) (k : Nat) : (stepK m i o k).length = o.length := by unfold stepK; split <;> simp
theorem fold_len {α : Type} (f : List Int → α → List Int) (hf : ∀ o x, (f o x).length = o.length) (xs : List α) (o : List Int) : (xs.foldl f o).length = o.length := by
  induction xs generalizing o with
  | nil => rfl
  | cons x t ih => rw [List.foldl_cons, ih, hf]
theorem rowK_len (m : Nat → Nat → Bool) (i k : Nat) (o : List Int) : (rowK m i k o).length = o.length := fold_len _ (fun o x => step_len m i o x) _ _
theorem rowsI_len (m : Nat → Nat → Bool) (n i : Nat) (o : List Int) : (rowsI m n i o).length = o.length := fold_len _ (fun o x => rowK_len m x n o) _ _
theorem rnds_len (m : Nat → Nat → Bool) (n r : Nat) (o : List Int) : (rndsG m n r o).length = o.length := fold_len _ (fun o _ => rowsI_len m n n o) _ _
theorem of_len (m : Nat → Nat → Bool) (n : Nat) : (ofG m n).length = n := by unfold ofG; rw [rnds_len, iota_len]
/-- the groups of lists -/
def matG (L : List (List Int)) (i k : Nat) : Bool := alikeG (li L i) (li L k)
def groupsG (L : List (List Int)) : List Int := if 4 < L.length then [] else ofG (matG L) L.length
end Go.Proofs.Ytbaaglgoodckmaa
