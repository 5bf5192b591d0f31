/- Package rate: the cases of Came and Sample. No program. -/
import Derived.Test.YtphkenicbbcjjaaRa
namespace Go.Proofs.Ytphkenicbbcjjaa
set_option linter.unusedVariables false
theorem came_cases {v : Rv} {a b : Int} : cameR v a b = (zrv, 1) ∨ cameR v a b = (zrv, 5) ∨ (cameR v a b = (⟨v.total + b, a, v.l⟩, 0) ∧ CameOk v a b ∧ v.total + b ≤ 1152921504606846976) := by
  by_cases h : CameOk v a b
  · by_cases k : v.total + b ≤ 1152921504606846976
    · exact .inr (.inr ⟨came_ok h k, h, k⟩)
    · exact .inr (.inl (came_over h k))
  · exact .inl (came_no h)
theorem came_max {v : Rv} {a b : Int} (h : CameOk v a b) (k : v.total + b ≤ 1152921504606846976) : ramay ⟨v.total + b, a, v.l⟩ = true := (ramay_iff _).2 (came_valid h k)
theorem best_eq {v u : Rv} (hv : ramay v = true) (hu : ramay u = true) (h : u.l = v.l) : bestR u = bestR v := by unfold bestR; rw [if_pos hv, if_pos hu, h]
theorem mx_ge {l : List Int} {x : Int} (h : x ∈ l) : x ≤ mx l := by
  suffices hh : ∀ (l : List Int) (n : Int), (n ≤ l.foldl (fun n x => if n < x then x else n) n) ∧ ∀ x ∈ l, x ≤ l.foldl (fun n x => if n < x then x else n) n from (hh l 0).2 x h
  intro l
  induction l with
  | nil => intro n; exact ⟨Int.le_refl _, fun x hx => by cases hx⟩
  | cons y t ih =>
    intro n
    have h1 := ih (if n < y then y else n)
    have h2 : n ≤ (if n < y then y else n) := by split <;> omega
    have h3 : y ≤ (if n < y then y else n) := by split <;> omega
    refine ⟨Int.le_trans h2 h1.1, fun x hx => ?_⟩
    rcases List.mem_cons.1 hx with e | hx
    · subst e; exact Int.le_trans h3 h1.1
    · exact h1.2 x hx
theorem push_in {l : List Int} {n : Int} : n ∈ pushR l n := by
  unfold pushR
  split
  · rename_i h
    cases l with
    | nil => simp at h
    | cons x t => simp
  · simp
end Go.Proofs.Ytphkenicbbcjjaa
