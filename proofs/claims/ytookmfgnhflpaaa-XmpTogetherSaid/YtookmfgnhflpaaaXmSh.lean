/- Package xmp: ways that change places, shares in their order, and what all shares come to. No program of the stage. -/
import Derived.Test.YtookmfgnhflpaaaXm
import Derived.Test.YtookmfgnhflpaaaRo
namespace Go.Proofs.Ytookmfgnhflpaaa
open Go.RowKit
set_option linter.unusedVariables false
set_option linter.unusedSimpArgs false

instance : El Sp where
  k := 2
  pos := by decide
  cells p := [.int .i64 p.1, .int .i64 p.2]
  len _ := rfl
  one p u hu := by simp at hu; rcases hu with rfl | rfl <;> rfl
  dft := (0, 0)
  ok p := W64 p.1 ∧ W64 p.2
theorem ge_sp (l : List Sp) (i : Nat) : ge l i = sp l i := rfl
theorem ss_re {w : World} {A : Option Addr} {n c : Nat} {l : List Sp} (h : Ss w A n c l) : Re w A n l :=
  ⟨h.rd.len, h.rd.wide, fun h0 => by
    obtain ⟨b, o, e, hb, hc⟩ := h.rd.at_ h0
    refine ⟨b, o, e, hb, fun i hi j u hu => ?_⟩
    obtain ⟨h1, h2⟩ := hc i hi
    match j, hu with
    | 0, hu => cases hu; exact h1
    | 1, hu => cases hu; exact h2⟩
theorem se_ss {w : World} {A : Option Addr} {n c : Nat} {l : List Sp} (h : Se w A n c l) : Ss w A n c l :=
  ⟨h.le, h.max, h.nil, h.rd.len, h.rd.ok, fun h0 => by
    obtain ⟨b, o, e, hb, hc⟩ := h.rd.at_ h0
    exact ⟨b, o, e, hb, fun i hi => ⟨hc i hi 0 _ rfl, hc i hi 1 _ rfl⟩⟩⟩
/-- two ways change places -/
def swapL (l : List Sp) (i k : Nat) : List Sp := (l.set i (sp l k)).set k (sp l i)
theorem swap_len (l : List Sp) (i k : Nat) : (swapL l i k).length = l.length := by unfold swapL; simp
theorem sp_set {l : List Sp} {i j : Nat} {y : Sp} (h : i < l.length) : sp (l.set i y) j = if i = j then y else sp l j := ge_set (α := Sp) h
theorem swap_k {l : List Sp} {i k : Nat} (hk : k < l.length) : sp (swapL l i k) k = sp l i := by
  unfold swapL; rw [sp_set (by simpa using hk), if_pos rfl]
theorem swap_i {l : List Sp} {i k : Nat} (hi : i < l.length) (hk : k < l.length) : sp (swapL l i k) i = sp l k := by
  unfold swapL; rw [sp_set (by simpa using hk)]
  split
  · next h => rw [h]
  · rw [sp_set hi, if_pos rfl]
theorem fold_wt (l : List Sp) (a : Int) : l.foldl (fun s x => s + wt x) a = a + l.foldl (fun s x => s + wt x) 0 := by
  induction l generalizing a with
  | nil => simp
  | cons p t ih => simp only [List.foldl_cons]; rw [ih (a + wt p), ih (0 + wt p)]; omega
theorem sumW_app (a b : List Sp) : sumW (a ++ b) = sumW a + sumW b := by unfold sumW; rw [List.foldl_append, fold_wt]
theorem sumW_one (x : Sp) : sumW [x] = wt x := by unfold sumW; simp
theorem sumW_set {l : List Sp} {i : Nat} (x : Sp) (h : i < l.length) : sumW (l.set i x) = sumW l - wt (sp l i) + wt x := by
  have h1 : l.set i x = l.take i ++ ([x] ++ l.drop (i + 1)) := by rw [List.set_eq_take_append_cons_drop, if_pos h]; rfl
  have h2 : l = l.take i ++ ([sp l i] ++ l.drop (i + 1)) := by
    conv => lhs; rw [← List.take_append_drop i l, drop_sp h]
    rfl
  have h3 := congrArg sumW h1
  have h4 := congrArg sumW h2
  rw [sumW_app, sumW_app, sumW_one] at h3 h4
  omega
theorem sumW_swap {l : List Sp} {i k : Nat} (hi : i < l.length) (hk : k < l.length) : sumW (swapL l i k) = sumW l := by
  unfold swapL
  rw [sumW_set _ (by simpa using hk), sumW_set _ hi, sp_set hi]
  split
  · next h => rw [h]; omega
  · omega
theorem share_swap {l : List Sp} {i k j j' : Nat} {mss : Int} (hi : i < l.length) (hk : k < l.length) (hj : j < l.length) (hj' : j' < l.length) (he : sp (swapL l i k) j = sp l j') : shareR (swapL l i k) (j : Int) mss = shareR l (j' : Int) mss := by
  by_cases h : ShOk l (j' : Int) mss
  · have h' : ShOk (swapL l i k) (j : Int) mss := ⟨h.1, h.2.1, by omega, by rw [swap_len]; omega, by rw [swap_len]; exact h.2.2.2.2⟩
    by_cases hz : sumW l = 0
    · rw [share_none hz, share_none (by rw [sumW_swap hi hk]; exact hz)]
    · rw [share_ok h hz, share_ok h' (by rw [sumW_swap hi hk]; exact hz), Int.toNat_natCast, Int.toNat_natCast, he, sumW_swap hi hk]
  · rw [share_no h, share_no (fun h' => h ⟨h'.1, h'.2.1, by omega, by omega, by have := h'.2.2.2.2; rwa [swap_len] at this⟩)]
theorem wt_mono {p q r : Int} (hp : 1 ≤ p ∧ p ≤ 1073741824) (hr : 1 ≤ r ∧ r ≤ 1099511627776) (h : q ≤ p) : wt (q, r) ≤ wt (p, r) := by
  by_cases hq : 1 ≤ q
  · rw [wt_yes (by dsimp only; omega), wt_yes (by dsimp only; omega)]
    exact Int.ediv_le_ediv (by dsimp only; omega) (by dsimp only; omega)
  · rw [wt_no (by dsimp only; omega)]; exact (wt_bd _).1
theorem share_mono {l : List Sp} {i k : Nat} {p q r mss : Int} (hi : i < l.length) (hk : k < l.length) (e1 : sp l i = (p, r)) (e2 : sp l k = (q, r)) (hp : 1 ≤ p ∧ p ≤ 1073741824) (hr : 1 ≤ r ∧ r ≤ 1099511627776) (h : q ≤ p) : shareR l (k : Int) mss ≤ shareR l (i : Int) mss := by
  by_cases ho : ShOk l (i : Int) mss
  · have h' : ShOk l (k : Int) mss := ⟨ho.1, ho.2.1, by omega, by omega, ho.2.2.2.2⟩
    by_cases hz : sumW l = 0
    · rw [share_none hz, share_none hz]; exact Int.le_refl _
    · have := sumW_all l
      rw [share_ok ho hz, share_ok h' hz, Int.toNat_natCast, Int.toNat_natCast, e1, e2]
      exact Int.ediv_le_ediv (by omega) (Int.mul_le_mul_of_nonneg_left (wt_mono hp hr h) (by have := ho.1; omega))
  · rw [share_no (i := (k : Int)) (fun h' => ho ⟨h'.1, h'.2.1, by omega, by omega, h'.2.2.2.2⟩), share_no ho]; exact Int.le_refl _
theorem share_nowt {l : List Sp} {i : Nat} {mss : Int} (h : wt (sp l i) = 0) : shareR l (i : Int) mss = 0 := by
  unfold shareR
  split
  · split
    · rfl
    · rw [Int.toNat_natCast, h, Int.mul_zero, Int.zero_ediv]
  · rfl
/-- what the first shares come to -/
def shSum (l : List Sp) (mss : Int) : Nat → Int
  | 0 => 0
  | k + 1 => shSum l mss k + shareR l (k : Int) mss
theorem share_bd {l : List Sp} {i : Nat} {mss : Int} (h0 : 1 ≤ mss) : 0 ≤ shareR l (i : Int) mss ∧ shareR l (i : Int) mss ≤ mss := by
  by_cases ho : ShOk l (i : Int) mss
  · by_cases hz : sumW l = 0
    · rw [share_none hz]; omega
    · have hs := sumW_all l
      have hb := wt_bd (sp l i)
      have hl := wt_le_sum (l := l) (i := i) (by have := ho.2.2.2.1; omega)
      rw [share_ok ho hz, Int.toNat_natCast]
      exact ⟨Int.ediv_nonneg (Int.mul_nonneg (by omega) hb.1) hs.1, Int.ediv_le_of_le_mul (by omega) (Int.mul_le_mul_of_nonneg_left hl (by omega))⟩
  · rw [share_no ho]; omega
theorem sh_parts {l : List Sp} {mss : Int} (h0 : 1 ≤ mss) (h1 : mss ≤ 1460) (h4 : l.length ≤ 4) (hz : sumW l ≠ 0) : ∀ k, k ≤ l.length → sumW l * shSum l mss k ≤ mss * sumW (l.take k) ∧ mss * sumW (l.take k) + (k : Int) ≤ sumW l * shSum l mss k + sumW l * (k : Int) := by
  intro k
  induction k with
  | zero => intro _; simp [shSum, sumW]
  | succ k ih =>
    intro hk
    obtain ⟨i1, i2⟩ := ih (by omega)
    have hS := (sumW_all l).1
    have ho : ShOk l (k : Int) mss := ⟨h0, h1, by omega, by omega, h4⟩
    have he := share_ok ho hz
    rw [Int.toNat_natCast] at he
    have d1 := Int.mul_ediv_self_le (x := mss * wt (sp l k)) (k := sumW l) hz
    have d2 := Int.lt_mul_ediv_self_add (x := mss * wt (sp l k)) (k := sumW l) (by omega)
    rw [← he] at d1 d2
    rw [sumW_take (by omega)]
    show sumW l * (shSum l mss k + shareR l (k : Int) mss) ≤ _ ∧ _
    rw [show shSum l mss (k + 1) = shSum l mss k + shareR l (k : Int) mss from rfl, Int.mul_add, Int.mul_add, Int.natCast_add, Int.mul_add]
    simp only [Int.natCast_one, Int.mul_one]
    omega
theorem sh_sum_le {l : List Sp} {mss : Int} (h0 : 1 ≤ mss) (h1 : mss ≤ 1460) (h4 : l.length ≤ 4) : shSum l mss l.length ≤ mss := by
  by_cases hz : sumW l = 0
  · have : ∀ k, shSum l mss k = 0 := fun k => by
      induction k with
      | zero => rfl
      | succ k ih => show shSum l mss k + shareR l (k : Int) mss = 0; rw [ih, share_none hz]; rfl
    rw [this]; omega
  · have h := (sh_parts h0 h1 h4 hz l.length (Nat.le_refl _)).1
    rw [List.take_length, Int.mul_comm mss] at h
    exact Int.le_of_mul_le_mul_left h (by have := (sumW_all l).1; omega)
theorem sh_bd {l : List Sp} {mss : Int} (h0 : 1 ≤ mss) : ∀ k, 0 ≤ shSum l mss k ∧ shSum l mss k ≤ mss * (k : Int) := by
  intro k
  induction k with
  | zero => simp [shSum]
  | succ k ih =>
    have := share_bd (l := l) (i := k) h0
    show 0 ≤ shSum l mss k + shareR l (k : Int) mss ∧ shSum l mss k + shareR l (k : Int) mss ≤ _
    rw [Int.natCast_add, Int.mul_add]
    simp only [Int.natCast_one, Int.mul_one]
    omega
/-- all ways have a weight, for their times are short -/
def OkW (x : Sp) : Prop := 1 ≤ x.1 ∧ x.1 ≤ 1073741824 ∧ 1 ≤ x.2 ∧ x.2 ≤ 1048576
theorem wt_one {x : Sp} (h : OkW x) : 1 ≤ wt x := by
  obtain ⟨a, b, c, d⟩ := h
  rw [wt_yes (by omega)]
  exact (Int.le_ediv_iff_mul_le (by omega)).2 (by omega)
theorem sh_sum_ge {l : List Sp} {mss : Int} (h0 : 1 ≤ mss) (h1 : mss ≤ 1460) (h4 : l.length ≤ 4) (hl : 0 < l.length) (hok : ∀ j, j < l.length → OkW (sp l j)) : mss < shSum l mss l.length + (l.length : Int) := by
  have hw := wt_one (hok 0 hl)
  have hle := wt_le_sum (l := l) (i := 0) hl
  have hz : sumW l ≠ 0 := by omega
  have h := (sh_parts h0 h1 h4 hz l.length (Nat.le_refl _)).2
  rw [List.take_length, Int.mul_comm mss, ← Int.mul_add] at h
  exact Int.lt_of_mul_lt_mul_left (a := sumW l) (by omega) (by omega)
theorem share_same {l : List Sp} {i k : Nat} {mss : Int} (hi : i < l.length) (hk : k < l.length) (h : sp l i = sp l k) : shareR l (i : Int) mss = shareR l (k : Int) mss := by
  by_cases ho : ShOk l (i : Int) mss
  · have h' : ShOk l (k : Int) mss := ⟨ho.1, ho.2.1, by omega, by omega, ho.2.2.2.2⟩
    by_cases hz : sumW l = 0
    · rw [share_none hz, share_none hz]
    · rw [share_ok ho hz, share_ok h' hz, Int.toNat_natCast, Int.toNat_natCast, h]
  · rw [share_no ho, share_no (fun h' => ho ⟨h'.1, h'.2.1, by omega, by omega, h'.2.2.2.2⟩)]
end Go.Proofs.Ytookmfgnhflpaaa
