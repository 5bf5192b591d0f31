/- Package rate: rates, when they are valid, and what the answers are. No program of the stage. -/
import Derived.Test.YtphkenicbbcjjaaT60
import Derived.Test.YtphkenicbbcjjaaIt
namespace Go.Proofs.Ytphkenicbbcjjaa
set_option linter.unusedVariables false
set_option linter.unusedSimpArgs false

/-- a rate -/
structure Rv where
  total : Int
  last : Int
  l : List Int
def zrv : Rv := ⟨0, 0, []⟩
def AllB (l : List Int) (k : Nat) : Prop := ∀ i, i < k → t60 (it l i) = true
theorem all_snoc {l : List Int} {k : Nat} (h : AllB l k) (hk : t60 (it l k) = true) : AllB l (k + 1) := fun i hi => by
  by_cases e : i = k
  · subst e; exact hk
  · exact h i (by omega)
def allB (l : List Int) : Bool := l.all t60
theorem allB_iff (l : List Int) : allB l = true ↔ AllB l l.length := by
  unfold allB
  rw [List.all_eq_true]
  constructor
  · intro h i hi; exact h _ (it_mem hi)
  · intro h x hx
    obtain ⟨i, hi, rfl⟩ := List.getElem_of_mem hx
    have := h i hi
    rwa [it_eq hi] at this
def ramay (v : Rv) : Bool := allB v.l && (t60 v.total && (t60 v.last && decide (v.l.length ≤ 10)))
structure RaOk (v : Rv) : Prop where
  all : AllB v.l v.l.length
  t0 : 0 ≤ v.total
  t1 : v.total ≤ 1152921504606846976
  a0 : 0 ≤ v.last
  a1 : v.last ≤ 1152921504606846976
  len : v.l.length ≤ 10
theorem ramay_iff (v : Rv) : ramay v = true ↔ RaOk v := by
  unfold ramay
  rw [Bool.and_eq_true, Bool.and_eq_true, Bool.and_eq_true, allB_iff, t60_iff, t60_iff, decide_eq_true_eq]
  exact ⟨fun ⟨a, ⟨b, c⟩, ⟨d, e⟩, f⟩ => ⟨a, b, c, d, e, f⟩, fun h => ⟨h.all, ⟨h.t0, h.t1⟩, ⟨h.a0, h.a1⟩, h.len⟩⟩
/-- Came -/
def CameOk (v : Rv) (at_ bytes : Int) : Prop := ramay v = true ∧ v.last ≤ at_ ∧ t60 at_ = true ∧ 0 ≤ bytes ∧ bytes ≤ 1099511627776
instance (v : Rv) (a b : Int) : Decidable (CameOk v a b) := inferInstanceAs (Decidable (_ ∧ _ ∧ _ ∧ _ ∧ _))
def cameR (v : Rv) (at_ bytes : Int) : Rv × Int := if CameOk v at_ bytes then (if v.total + bytes ≤ 1152921504606846976 then (⟨v.total + bytes, at_, v.l⟩, 0) else (zrv, 5)) else (zrv, 1)
theorem came_no {v : Rv} {a b : Int} (h : ¬ CameOk v a b) : cameR v a b = (zrv, 1) := if_neg h
theorem came_over {v : Rv} {a b : Int} (h : CameOk v a b) (k : ¬ v.total + b ≤ 1152921504606846976) : cameR v a b = (zrv, 5) := by unfold cameR; rw [if_pos h, if_neg k]
theorem came_ok {v : Rv} {a b : Int} (h : CameOk v a b) (k : v.total + b ≤ 1152921504606846976) : cameR v a b = (⟨v.total + b, a, v.l⟩, 0) := by unfold cameR; rw [if_pos h, if_pos k]
/-- Sample -/
def SampOk (v : Rv) (total last : Int) : Prop := ramay v = true ∧ 0 ≤ total ∧ total ≤ v.total ∧ 0 ≤ last ∧ last ≤ v.last
instance (v : Rv) (a b : Int) : Decidable (SampOk v a b) := inferInstanceAs (Decidable (_ ∧ _ ∧ _ ∧ _ ∧ _))
def numR (a d : Int) : Int := if 1152921504606846976 < 1000000 * a / d then 1152921504606846976 else 1000000 * a / d
def pushR (l : List Int) (n : Int) : List Int := if 10 < l.length + 1 then (l ++ [n]).drop 1 else l ++ [n]
def sampR (v : Rv) (total last : Int) : Rv × Int × Int :=
  if SampOk v total last then
    (if v.last - last ≤ 0 then (v, 0, 0) else (⟨v.total, v.last, pushR v.l (numR (v.total - total) (v.last - last))⟩, numR (v.total - total) (v.last - last), 0))
  else (zrv, 0, 1)
theorem push_full {l : List Int} {n : Int} (h : l.length = 10) : pushR l n = (l ++ [n]).drop 1 := if_pos (by omega)
theorem push_room {l : List Int} {n : Int} (h : l.length < 10) : pushR l n = l ++ [n] := if_neg (by omega)
theorem samp_no {v : Rv} {a b : Int} (h : ¬ SampOk v a b) : sampR v a b = (zrv, 0, 1) := if_neg h
theorem samp_same {v : Rv} {a b : Int} (h : SampOk v a b) (k : v.last - b ≤ 0) : sampR v a b = (v, 0, 0) := by unfold sampR; rw [if_pos h, if_pos k]
theorem samp_ok {v : Rv} {a b : Int} (h : SampOk v a b) (k : ¬ v.last - b ≤ 0) : sampR v a b = (⟨v.total, v.last, pushR v.l (numR (v.total - a) (v.last - b))⟩, numR (v.total - a) (v.last - b), 0) := by unfold sampR; rw [if_pos h, if_neg k]
/-- Best -/
def mx (l : List Int) : Int := l.foldl (fun n x => if n < x then x else n) 0
theorem mx_snoc (l : List Int) (x : Int) : mx (l ++ [x]) = if mx l < x then x else mx l := by unfold mx; rw [List.foldl_append]; rfl
def bestR (v : Rv) : Int := if ramay v = true then mx v.l else 0

/-! bounds -/
theorem num_bd {a d : Int} (h0 : 0 ≤ a) (h1 : 0 < d) : 0 ≤ numR a d ∧ numR a d ≤ 1152921504606846976 := by
  have hq : 0 ≤ 1000000 * a / d := Int.ediv_nonneg (by omega) (by omega)
  unfold numR
  generalize 1000000 * a / d = q at *
  split <;> omega
theorem mx_nn (l : List Int) : 0 ≤ mx l := by
  suffices h : ∀ (l : List Int) (n : Int), 0 ≤ n → 0 ≤ l.foldl (fun n x => if n < x then x else n) n from h l 0 (Int.le_refl _)
  intro l
  induction l with
  | nil => intro n hn; exact hn
  | cons x t ih => intro n hn; exact ih _ (by dsimp only; split <;> omega)
theorem push_len {l : List Int} {n : Int} (h : l.length ≤ 10) : (pushR l n).length ≤ 10 := by
  unfold pushR; split
  · rw [List.length_drop, List.length_append]; simp; omega
  · rw [List.length_append]; simp; omega
theorem push_mem {l : List Int} {n x : Int} (h : x ∈ pushR l n) : x ∈ l ∨ x = n := by
  unfold pushR at h
  split at h
  · have := List.mem_of_mem_drop h
    simpa using this
  · simpa using h
theorem all_mem (l : List Int) : AllB l l.length ↔ ∀ x ∈ l, t60 x = true := by rw [← allB_iff]; unfold allB; exact List.all_eq_true
theorem came_valid {v : Rv} {a b : Int} (h : CameOk v a b) (k : v.total + b ≤ 1152921504606846976) : RaOk ⟨v.total + b, a, v.l⟩ := by
  have hv := (ramay_iff v).1 h.1
  obtain ⟨_, h2, h3, h4, h5⟩ := h
  have h6 := (t60_iff a).1 h3
  have := hv.t0
  exact ⟨hv.all, by dsimp only; omega, k, h6.1, h6.2, hv.len⟩
theorem samp_valid {v : Rv} {a b : Int} (h : SampOk v a b) : RaOk (sampR v a b).1 := by
  have hv := (ramay_iff v).1 h.1
  by_cases k : v.last - b ≤ 0
  · rw [samp_same h k]; exact hv
  · rw [samp_ok h k]
    have hn := num_bd (a := v.total - a) (d := v.last - b) (by have := h.2.2.1; omega) (by omega)
    refine ⟨?_, hv.t0, hv.t1, hv.a0, hv.a1, push_len hv.len⟩
    rw [all_mem]
    intro x hx
    rcases push_mem hx with hx | hx
    · exact (all_mem v.l).1 hv.all x hx
    · subst hx; exact (t60_iff _).2 hn
end Go.Proofs.Ytphkenicbbcjjaa
