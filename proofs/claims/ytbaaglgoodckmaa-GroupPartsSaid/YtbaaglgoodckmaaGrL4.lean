/- Package group as it landed: merge as contracts of the calls. -/
import Derived.Test.YtbaaglgoodckmaaGrL1
import Derived.Test.YtbaaglgoodckmaaGrMath
import Derived.WalkKit
import Derived.Lib.MinMax
import Derived.Laws.OwnMore
import Derived.WalkSpells
import Derived.WalkSmall
import Derived.Lib.Hide
import Derived.Below
import Derived.Outline
import Derived.OrdersHeld
import Derived.Deep.QuietTactic
import Derived.BigQuiet
import Derived.IntWalk
import Derived.Deep.DeepCutAuto
import Derived.Deep.AppendLies
namespace Go.Proofs.Ytbaaglgoodckmaa
open Go.RowKit
set_option linter.unusedVariables false
set_option linter.unusedSimpArgs false

/-- one group of a and b, among the first k -/
def mgTo (l : List Int) (a b : Int) : Nat → List Int
  | 0 => l
  | k + 1 => if it l k = max a b then (mgTo l a b k).set k (min a b) else mgTo l a b k
theorem mg_len (l : List Int) (a b : Int) : ∀ k, (mgTo l a b k).length = l.length := by
  intro k
  induction k with
  | zero => rfl
  | succ k ih => unfold mgTo; split <;> simp [ih]
theorem it_set (l : List Int) (i j : Nat) (x : Int) (h : i ≠ j) : it (l.set i x) j = it l j := by
  unfold it; rw [List.getD_eq_getElem?_getD, List.getElem?_set_ne h, List.getD_eq_getElem?_getD]
theorem mg_later (l : List Int) (a b : Int) : ∀ k j, k ≤ j → it (mgTo l a b k) j = it l j := by
  intro k
  induction k with
  | zero => intro j _; rfl
  | succ k ih =>
    intro j hj
    unfold mgTo
    split
    · rw [it_set _ _ _ _ (by omega), ih j (by omega)]
    · exact ih j (by omega)
def stepG (m : Nat → Nat → Bool) (i : Nat) (s : List Int × Int) (k : Nat) : List Int × Int :=
  if s.2 = 1 ∨ it s.1 i = it s.1 k ∨ m i k = false then s else (mgTo s.1 (it s.1 i) (it s.1 k) s.1.length, s.2 - 1)
def rowG (m : Nat → Nat → Bool) (i k : Nat) (s : List Int × Int) : List Int × Int := (List.range k).foldl (stepG m i) s
def rowsG (m : Nat → Nat → Bool) (i : Nat) (s : List Int × Int) : List Int × Int := (List.range i).foldl (fun s i => rowG m i i s) s
theorem rowG_succ (m : Nat → Nat → Bool) (i k : Nat) (s : List Int × Int) : rowG m i (k + 1) s = stepG m i (rowG m i k s) k := by unfold rowG; rw [List.range_succ, List.foldl_append]; rfl
theorem rowsG_succ (m : Nat → Nat → Bool) (i : Nat) (s : List Int × Int) : rowsG m (i + 1) s = rowG m i i (rowsG m i s) := by unfold rowsG; rw [List.range_succ, List.foldl_append]; rfl
theorem step_one (m : Nat → Nat → Bool) (i : Nat) (s : List Int × Int) (k : Nat) (h : s.2 = 1) : stepG m i s k = s := if_pos (.inl h)
theorem row_one (m : Nat → Nat → Bool) (i k : Nat) (s t : List Int × Int) (h : rowG m i k s = t) (ht : t.2 = 1) : ∀ d, rowG m i (k + d) s = t := by
  intro d
  induction d with
  | zero => exact h
  | succ d ih => rw [← Nat.add_assoc, rowG_succ, ih, step_one _ _ _ _ ht]
theorem row_stay (m : Nat → Nat → Bool) (i k : Nat) (t : List Int × Int) (ht : t.2 = 1) : rowG m i k t = t := by
  have := row_one m i 0 t t rfl ht k
  rwa [Nat.zero_add] at this
theorem rows_one (m : Nat → Nat → Bool) (i : Nat) (s t : List Int × Int) (h : rowsG m i s = t) (ht : t.2 = 1) : ∀ d, rowsG m (i + d) s = t := by
  intro d
  induction d with
  | zero => exact h
  | succ d ih => rw [← Nat.add_assoc, rowsG_succ, ih, row_stay _ _ _ _ ht]
/-- all in one group: the rest changes nothing -/
theorem rows_done {m : Nat → Nat → Bool} {n i k : Nat} {s t : List Int × Int} (hk : k < i) (hi : i < n) (h : rowG m i (k + 1) (rowsG m i s) = t) (ht : t.2 = 1) : rowsG m n s = t := by
  have h1 := row_one m i (k + 1) _ t h ht (i - (k + 1))
  rw [show k + 1 + (i - (k + 1)) = i by omega, ← rowsG_succ] at h1
  have h2 := rows_one m (i + 1) s t h1 ht (n - (i + 1))
  rwa [show i + 1 + (n - (i + 1)) = n by omega] at h2
theorem stepG_len (m : Nat → Nat → Bool) (i : Nat) (s : List Int × Int) (k : Nat) : (stepG m i s k).1.length = s.1.length := by
  unfold stepG; split
  · rfl
  · exact mg_len _ _ _ _
theorem rowG_len (m : Nat → Nat → Bool) (i k : Nat) (s : List Int × Int) : (rowG m i k s).1.length = s.1.length := by
  induction k with
  | zero => rfl
  | succ k ih => rw [rowG_succ, stepG_len, ih]
theorem rowsG_len (m : Nat → Nat → Bool) (i : Nat) (s : List Int × Int) : (rowsG m i s).1.length = s.1.length := by
  induction i with
  | zero => rfl
  | succ i ih => rw [rowsG_succ, rowG_len, ih]
def Gb (x : Int) : Prop := 1 ≤ x ∧ x ≤ 4
theorem stepG_gb (m : Nat → Nat → Bool) (i : Nat) (s : List Int × Int) (k : Nat) (h : Gb s.2) : Gb (stepG m i s k).2 := by
  unfold stepG
  split
  · exact h
  · next hn =>
    have h1 : s.2 ≠ 1 := fun e => hn (.inl e)
    have h2 : 1 ≤ s.2 ∧ s.2 ≤ 4 := h
    exact ⟨by show 1 ≤ s.2 - 1; omega, by show s.2 - 1 ≤ 4; omega⟩
theorem rowG_gb (m : Nat → Nat → Bool) (i k : Nat) (s : List Int × Int) (h : Gb s.2) : Gb (rowG m i k s).2 := by
  induction k with
  | zero => exact h
  | succ k ih => rw [rowG_succ]; exact stepG_gb _ _ _ _ ih
theorem rowsG_gb (m : Nat → Nat → Bool) (i : Nat) (s : List Int × Int) (h : Gb s.2) : Gb (rowsG m i s).2 := by
  induction i with
  | zero => exact h
  | succ i ih => rw [rowsG_succ]; exact rowG_gb _ _ _ _ ih
def startG (n : Nat) : List Int × Int := (iotaG n, (n : Int))
/-- they depend on which of two lists are alike, the second one the earlier -/
theorem rowsG_congr {m m' : Nat → Nat → Bool} {n : Nat} (h : ∀ i k, i < n → k < i → m i k = m' i k) (s : List Int × Int) : ∀ i, i ≤ n → rowsG m i s = rowsG m' i s := by
  have hs : ∀ i k t, i < n → k < i → stepG m i t k = stepG m' i t k := fun i k t hi hk => by unfold stepG; rw [h i k hi hk]
  have hr : ∀ i t, i < n → ∀ k, k ≤ i → rowG m i k t = rowG m' i k t := by
    intro i t hi k
    induction k with
    | zero => intro _; rfl
    | succ k ih => intro hk; rw [rowG_succ, rowG_succ, ih (by omega), hs i k _ hi (by omega)]
  intro i
  induction i with
  | zero => intro _; rfl
  | succ i ih => intro hi; rw [rowsG_succ, rowsG_succ, ih (by omega), hr i _ (by omega) i (Nat.le_refl _)]
set_option maxRecDepth 100000 in
theorem rows_chk : ∀ a b c d e f : Bool, (List.range 5).all (fun n => decide ((rowsG (matB a b c d e f) n (startG n)).1 = ofG (matB a b c d e f) n)) = true := by decide +kernel
theorem rows_of {m : Nat → Nat → Bool} {n : Nat} (hn : n ≤ 4) (hs : ∀ i k, m i k = m k i) : (rowsG m n (startG n)).1 = ofG m n := by
  have h := List.all_eq_true.1 (rows_chk (m 0 1) (m 0 2) (m 0 3) (m 1 2) (m 1 3) (m 2 3)) n (List.mem_range.2 (by omega))
  rw [decide_eq_true_eq] at h
  rw [ofG_mat hn hs, ← h, rowsG_congr (fun i k hi hk => (mat_ne hs (by omega) (by omega) (by omega)).symm) _ n (Nat.le_refl _)]

def ini (n : Nat) : Nat → List Int
  | 0 => List.replicate n 0
  | k + 1 => (ini n k).set k (k : Int)
theorem ini_iota {n : Nat} (h : n ≤ 4) : ini n n = iotaG n := by
  match n, h with
  | 0, _ => rfl
  | 1, _ => rfl
  | 2, _ => rfl
  | 3, _ => rfl
  | 4, _ => rfl
theorem Goti.zeros {w : World} {B g n cap : Nat} (hr : w.ownsRow B 3 1 (.slice (some ⟨g, 0, .none⟩) n cap) n (madeCells (Value.int .i64 0).cells (n * 1)).toList) : Goti w B 3 (.slice (some ⟨g, 0, .none⟩) n cap) n (ini n 0) := by
  have e : (madeCells (Value.int .i64 0).cells (n * 1)).toList = (ini n 0).map (Value.int .i64) := by
    rw [Nat.mul_one]
    show _ = (List.replicate n (0 : Int)).map _
    rw [List.map_replicate]; exact toList_madeCells_one _ n
  rw [e] at hr
  exact ⟨hr, fun x hx => by have := (List.mem_replicate.1 hx).2; subst this; unfold W64; omega⟩
theorem goti_at {w : World} {B g n cap : Nat} {l : List Int} (h : Goti w B 3 (.slice (some ⟨g, 0, .none⟩) n cap) n l) {j : Nat} (hj : j < n) : w.cell? ⟨g, j, .none⟩ = some (.int .i64 (it l j)) := by
  have hl : l.length = n := by have := h.row.1; simpa using this
  rw [h.row.cellAt j (by omega), List.getElem?_map, List.getElem?_eq_getElem (by omega), it_eq (by omega)]; rfl

set_option maxRecDepth 100000 in
set_option maxHeartbeats 8000000 in
theorem gmerge_any (B g n cap : Nat) (l : List Int) (a b : Int) (w : World) (hg : Goti w B 3 (.slice (some ⟨g, 0, none⟩) n cap) n l) (hgb : B ≤ g) (hn : n ≤ 4) (ha : W64 a) (hb : W64 b) (hB : B ≤ w.heap.size) :
    Calls Try.prog 22 #[.slice (some ⟨g, 0, none⟩) n cap, .int .i64 a, .int .i64 b] w fun e w' => e = .returned (.tuple #[]) ∧ Goti w' B 3 (.slice (some ⟨g, 0, none⟩) n cap) n (mgTo l a b n) ∧ Below B w w' := by
  have hl : l.length = n := by have := hg.row.1; simpa using this
  have wl := hg.wide
  obtain ⟨y, hy⟩ : ∃ y, max a b = y := ⟨_, rfl⟩
  obtain ⟨z, hz⟩ : ∃ z, min a b = z := ⟨_, rfl⟩
  have WZ : Hid (W64 z) := Lib.hid (by unfold W64 at *; omega)
  have HG := Lib.hid hg; have HL := Lib.hid hl; have HY := Lib.hid hy; have HZ := Lib.hid hz; have HW := Lib.hid wl
  clear hg hl ha hb wl
  go_enter Try.func22, Try.ntmps22
  go_wp2_with fail
  go_loopw [10] (fun i wr => ∃ k : Nat, k ≤ n ∧ i = .int .i64 (k : Int) ∧ Goti wr B 3 (.slice (some ⟨g, 0, none⟩) n cap) n (mgTo l a b k) ∧ Below B w wr) (fun i _ => n - (intOf i).toNat)
  case atStart => exact ⟨0, Nat.zero_le _, rfl, HG.out, Below.refl _ _⟩
  case round =>
    obtain ⟨k, hk, rfl, hg, br⟩ := hrel
    by_cases hlt : k < n
    · have dlt : decide (k < n) = true := decide_eq_true hlt
      have hol := mg_len l a b k
      have hla := mg_later l a b k k (Nat.le_refl _)
      have c1 := hg.row.cellAt k (by omega)
      rw [List.getElem?_map, List.getElem?_eq_getElem (by rw [hol, HL.out]; exact hlt), ← it_eq (by rw [hol, HL.out]; exact hlt), hla] at c1
      obtain ⟨p, hp⟩ : ∃ p, it l k = p := ⟨_, rfl⟩
      rw [hp] at c1
      have c1 : wr.cell? ⟨g, k, none⟩ = some (.int .i64 p) := c1
      have f1 := hg.row.frozenAt k
      have hst : mgTo l a b (k + 1) = if p = y then (mgTo l a b k).set k z else mgTo l a b k := by rw [← hp, ← HY.out, ← HZ.out]; rfl
      by_cases hpy : p = y
      · have dp : decide (p = y) = true := decide_eq_true hpy
        have dp' : (p == y) = true := by simp [hpy]
        rw [if_pos hpy] at hst
        obtain ⟨g2, _⟩ := hg.set k WZ.out
        rw [← hst] at g2
        have b2 := br.setCell (p := ⟨g, k, none⟩) hgb (.int .i64 z)
        have G2 := Lib.hid g2
        clear hg g2 hst hol hla hp
        go_wp2_with fail
        go_roundw
        case rel => exact ⟨k + 1, by omega, by go_num, G2.out, b2⟩
        case measure => simp [intOf]; omega
      · have dp : decide (p = y) = false := decide_eq_false hpy
        have dp' : (p == y) = false := by simp [hpy]
        rw [if_neg hpy] at hst
        rw [← hst] at hg
        have G2 := Lib.hid hg
        clear hg hst hol hla hp
        go_wp2_with fail
        go_roundw
        case rel => exact ⟨k + 1, by omega, by go_num, G2.out, br⟩
        case measure => simp [intOf]; omega
    · obtain rfl : k = n := by omega
      have dlt : decide (k < k) = false := decide_eq_false (by omega)
      have HG2 := Lib.hid hg
      clear hg
      go_wp2_with fail
      go_end0
      exact ⟨rfl, HG2.out, br⟩
end Go.Proofs.Ytbaaglgoodckmaa
