/- Package xmp: windows, when they are valid, and what the answers are. No program of the stage. -/
import Derived.Test.YtjlomjdghmjkmaaSp
namespace Go.Proofs.Ytjlomjdghmjkmaa
open Go.RowKit
set_option linter.unusedVariables false
set_option linter.unusedSimpArgs false

/-- mss and most are valid; a window is valid for them -/
def limB (mss most : Int) : Bool := decide (1 ≤ mss ∧ mss ≤ 1460 ∧ mss ≤ most ∧ most ≤ 1073741824)
theorem limB_iff (mss most : Int) : limB mss most = true ↔ 1 ≤ mss ∧ mss ≤ 1460 ∧ mss ≤ most ∧ most ≤ 1073741824 := decide_eq_true_iff
def xmB (c t mss most : Int) : Bool := decide (1 ≤ mss ∧ mss ≤ 1460 ∧ mss ≤ most ∧ most ≤ 1073741824 ∧ mss ≤ c ∧ c ≤ most ∧ mss ≤ t ∧ t ≤ most)
theorem xmB_iff (c t mss most : Int) : xmB c t mss most = true ↔ 1 ≤ mss ∧ mss ≤ 1460 ∧ mss ≤ most ∧ most ≤ 1073741824 ∧ mss ≤ c ∧ c ≤ most ∧ mss ≤ t ∧ t ≤ most := decide_eq_true_iff
/-- a way's weight -/
def wt (x : Sp) : Int := if 1 ≤ x.1 ∧ x.1 ≤ 1073741824 ∧ 1 ≤ x.2 ∧ x.2 ≤ 1099511627776 then 1048576 * x.1 / x.2 else 0
theorem wt_yes {x : Sp} (h : 1 ≤ x.1 ∧ x.1 ≤ 1073741824 ∧ 1 ≤ x.2 ∧ x.2 ≤ 1099511627776) : wt x = 1048576 * x.1 / x.2 := if_pos h
theorem wt_no {x : Sp} (h : ¬ (1 ≤ x.1 ∧ x.1 ≤ 1073741824 ∧ 1 ≤ x.2 ∧ x.2 ≤ 1099511627776)) : wt x = 0 := if_neg h
theorem wt_bd (x : Sp) : 0 ≤ wt x ∧ wt x ≤ 1125899906842624 := by
  by_cases h : 1 ≤ x.1 ∧ x.1 ≤ 1073741824 ∧ 1 ≤ x.2 ∧ x.2 ≤ 1099511627776
  · rw [wt_yes h]
    refine ⟨Int.ediv_nonneg (by omega) (by omega), ?_⟩
    have h1 : 1048576 * x.1 / x.2 ≤ 1048576 * x.1 := Int.ediv_le_self _ (by omega)
    omega
  · rw [wt_no h]; omega
def sumW (l : List Sp) : Int := l.foldl (fun s x => s + wt x) 0
theorem sumW_snoc (l : List Sp) (x : Sp) : sumW (l ++ [x]) = sumW l + wt x := by unfold sumW; rw [List.foldl_append]; rfl
theorem sumW_take {l : List Sp} {k : Nat} (h : k < l.length) : sumW (l.take (k + 1)) = sumW (l.take k) + wt (sp l k) := by
  rw [take_sp h, sumW_snoc]
theorem sumW_bd (l : List Sp) : ∀ k, k ≤ l.length → 0 ≤ sumW (l.take k) ∧ sumW (l.take k) ≤ 1125899906842624 * (k : Int) := by
  intro k
  induction k with
  | zero => intro _; rw [List.take_zero]; exact ⟨Int.le_refl _, by simp [sumW]⟩
  | succ k ih =>
    intro h
    have := ih (by omega)
    have h2 := wt_bd (sp l k)
    rw [sumW_take (by omega)]
    omega
/-- one way's weight is at most all of them -/
theorem sumW_mono (l : List Sp) {j k : Nat} (hjk : j ≤ k) (hk : k ≤ l.length) : sumW (l.take j) ≤ sumW (l.take k) := by
  induction k with
  | zero => rw [show j = 0 by omega]; exact Int.le_refl _
  | succ k ih =>
    by_cases e : j = k + 1
    · rw [e]; exact Int.le_refl _
    · have := ih (by omega) (by omega)
      have h2 := wt_bd (sp l k)
      rw [sumW_take (by omega)]
      omega
theorem wt_le_sum {l : List Sp} {i : Nat} (h : i < l.length) : wt (sp l i) ≤ sumW l := by
  have h1 := sumW_mono l (j := i + 1) (k := l.length) (by omega) (Nat.le_refl _)
  have h2 := (sumW_bd l i (by omega)).1
  rw [sumW_take h, List.take_length] at h1
  omega
theorem sumW_all (l : List Sp) : 0 ≤ sumW l ∧ sumW l ≤ 1125899906842624 * (l.length : Int) := by
  have := sumW_bd l l.length (Nat.le_refl _)
  rwa [List.take_length] at this
/-- a way's share -/
def ShOk (l : List Sp) (i mss : Int) : Prop := 1 ≤ mss ∧ mss ≤ 1460 ∧ 0 ≤ i ∧ i < (l.length : Int) ∧ l.length ≤ 4
instance (l : List Sp) (i mss : Int) : Decidable (ShOk l i mss) := inferInstanceAs (Decidable (_ ∧ _ ∧ _ ∧ _ ∧ _))
def shareR (l : List Sp) (i mss : Int) : Int := if ShOk l i mss then (if sumW l = 0 then 0 else mss * wt (sp l i.toNat) / sumW l) else 0
theorem share_no {l : List Sp} {i mss : Int} (h : ¬ ShOk l i mss) : shareR l i mss = 0 := if_neg h
theorem share_none {l : List Sp} {i mss : Int} (h : sumW l = 0) : shareR l i mss = 0 := by unfold shareR; rw [if_pos h]; exact ite_self _
theorem share_ok {l : List Sp} {i mss : Int} (h : ShOk l i mss) (k : sumW l ≠ 0) : shareR l i mss = mss * wt (sp l i.toNat) / sumW l := by unfold shareR; rw [if_pos h, if_neg k]
/-- the windows behind: how it goes, and what is told -/
def slowR (c t bytes mss most : Int) : Int × Int × Int := if xmB c t mss most = true ∧ 0 ≤ bytes ∧ bytes ≤ 1099511627776 then (if t ≤ c then (c, t, 0) else (min (c + bytes) t, t, 0)) else (0, 0, 1)
def rndR (c t growth mss most : Int) : Int × Int × Int := if xmB c t mss most = true ∧ 0 ≤ growth ∧ growth ≤ mss then (if c < t then (c, t, 0) else (min (c + growth) most, t, 0)) else (0, 0, 1)
def cutR (c t part mss most : Int) : Int × Int × Int := if xmB c t mss most = true ∧ 0 ≤ part ∧ part ≤ 1024 then (max mss (c - c * part / 2048), max mss (c - c * part / 2048), 0) else (0, 0, 1)
def lossN (c mss most : Int) : Int := min (max (c / 2) (2 * mss)) most
def lossR (c t : Int) (all : Bool) (mss most : Int) : Int × Int × Int := if xmB c t mss most = true then (if all then mss else lossN c mss most, lossN c mss most, 0) else (0, 0, 1)
theorem slow_no {c t b mss most : Int} (h : ¬ (xmB c t mss most = true ∧ 0 ≤ b ∧ b ≤ 1099511627776)) : slowR c t b mss most = (0, 0, 1) := if_neg h
theorem slow_stay {c t b mss most : Int} (h : xmB c t mss most = true ∧ 0 ≤ b ∧ b ≤ 1099511627776) (k : t ≤ c) : slowR c t b mss most = (c, t, 0) := by unfold slowR; rw [if_pos h, if_pos k]
theorem slow_ok {c t b mss most : Int} (h : xmB c t mss most = true ∧ 0 ≤ b ∧ b ≤ 1099511627776) (k : ¬ t ≤ c) : slowR c t b mss most = (min (c + b) t, t, 0) := by unfold slowR; rw [if_pos h, if_neg k]
theorem rnd_no {c t b mss most : Int} (h : ¬ (xmB c t mss most = true ∧ 0 ≤ b ∧ b ≤ mss)) : rndR c t b mss most = (0, 0, 1) := if_neg h
theorem rnd_stay {c t b mss most : Int} (h : xmB c t mss most = true ∧ 0 ≤ b ∧ b ≤ mss) (k : c < t) : rndR c t b mss most = (c, t, 0) := by unfold rndR; rw [if_pos h, if_pos k]
theorem rnd_ok {c t b mss most : Int} (h : xmB c t mss most = true ∧ 0 ≤ b ∧ b ≤ mss) (k : ¬ c < t) : rndR c t b mss most = (min (c + b) most, t, 0) := by unfold rndR; rw [if_pos h, if_neg k]
theorem cut_no {c t b mss most : Int} (h : ¬ (xmB c t mss most = true ∧ 0 ≤ b ∧ b ≤ 1024)) : cutR c t b mss most = (0, 0, 1) := if_neg h
theorem cut_ok {c t b mss most : Int} (h : xmB c t mss most = true ∧ 0 ≤ b ∧ b ≤ 1024) : cutR c t b mss most = (max mss (c - c * b / 2048), max mss (c - c * b / 2048), 0) := if_pos h
theorem loss_no {c t mss most : Int} {all : Bool} (h : ¬ xmB c t mss most = true) : lossR c t all mss most = (0, 0, 1) := if_neg h
theorem loss_ok {c t mss most : Int} {all : Bool} (h : xmB c t mss most = true) : lossR c t all mss most = (if all then mss else lossN c mss most, lossN c mss most, 0) := if_pos h
/-- what is cut off -/
theorem cut_bd {c b : Int} (h0 : 0 ≤ c) (h1 : 0 ≤ b) (h2 : b ≤ 1024) : 0 ≤ c * b / 2048 ∧ 2 * (c * b / 2048) ≤ c ∧ c * b ≤ c * 1024 ∧ 0 ≤ c * b := by
  have h3 : c * b ≤ c * 1024 := Int.mul_le_mul_of_nonneg_left h2 h0
  have h4 : 0 ≤ c * b := Int.mul_nonneg h0 h1
  omega
/-- a literal of two ways -/
theorem ways_two (w : World) {a b c d : Int} (ha : W64 a) (hb : W64 b) (hc : W64 c) (hd : W64 d) (t : TypeId) : Ss (w.alloc (.cells #[.int .i64 a, .int .i64 b, .int .i64 c, .int .i64 d] t)) (some ⟨w.heap.size, 0, none⟩) 2 2 [(a, b), (c, d)] :=
  ⟨Nat.le_refl _, by unfold maxLen; omega, (fun e => by cases e), rfl, fun p hp => by
    rcases List.mem_cons.1 hp with rfl | hp
    · exact ⟨ha, hb⟩
    · rw [List.mem_singleton] at hp; subst hp; exact ⟨hc, hd⟩, fun _ => ⟨w.heap.size, 0, rfl, by simp, fun i hi => by
    match i, hi with
    | 0, _ => exact ⟨by rw [World.cell?_alloc_new]; rfl, by rw [World.cell?_alloc_new]; rfl⟩
    | 1, _ => exact ⟨by rw [World.cell?_alloc_new]; rfl, by rw [World.cell?_alloc_new]; rfl⟩⟩⟩
end Go.Proofs.Ytjlomjdghmjkmaa
