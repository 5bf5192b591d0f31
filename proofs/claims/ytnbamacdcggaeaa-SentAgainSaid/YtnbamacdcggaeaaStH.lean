/- Package sent: what is heard of parts. No program. -/
import Derived.Test.YtnbamacdcggaeaaSt
import Derived.Test.YtnbamacdcggaeaaSpAns
namespace Go.Proofs.Ytnbamacdcggaeaa
open Go.RowKit
set_option linter.unusedVariables false
set_option linter.unusedSimpArgs false

def hasP (sk : List Sp) (x : Prt) : Bool := hasB sk x.seq (endP x)
def toldC (got : Int) (sk : List Sp) (x : Prt) : Bool := (hasP sk x || decide (endP x ≤ got)) && !x.came
def toldL (got : Int) (sk : List Sp) (l : List Prt) : List Prt := l.filter (toldC got sk)
def cameP (x : Prt) : Prt := { x with came := true, lost := false }
def comeP (sk : List Sp) (x : Prt) : Prt := if hasP sk x = true then cameP x else x
def leftL (got : Int) (sk : List Sp) (l : List Prt) : List Prt := (l.filter fun x => !decide (endP x ≤ got)).map (comeP sk)
def outP (s : Int × Int) (p : Sp) : Bool := decide (p.1 < s.1) || decide (s.2 < p.2)
def outB (s : Int × Int) (sk : List Sp) : Bool := sk.any (outP s)
def heardR (l : List Prt) (got : Int) (sk : List Sp) : List Prt × List Prt × Int :=
  if smayB l = true ∧ mayB sk = true then
    (if l.length = 0 ∨ got < (spanR l).1 ∨ (spanR l).2 < got ∨ outB (spanR l) sk = true then ([], [], 3)
     else (leftL got sk l, toldL got sk l, 0))
  else ([], [], 1)
theorem heard_no {l : List Prt} {got : Int} {sk : List Sp} (h : ¬ (smayB l = true ∧ mayB sk = true)) : heardR l got sk = ([], [], 1) := if_neg h
theorem heard_none {l : List Prt} {got : Int} {sk : List Sp} (h : smayB l = true ∧ mayB sk = true) (k : l.length = 0 ∨ got < (spanR l).1 ∨ (spanR l).2 < got ∨ outB (spanR l) sk = true) : heardR l got sk = ([], [], 3) := by unfold heardR; rw [if_pos h, if_pos k]
theorem heard_ok {l : List Prt} {got : Int} {sk : List Sp} (h : smayB l = true ∧ mayB sk = true) (k : ¬ (l.length = 0 ∨ got < (spanR l).1 ∨ (spanR l).2 < got ∨ outB (spanR l) sk = true)) : heardR l got sk = (leftL got sk l, toldL got sk l, 0) := by unfold heardR; rw [if_pos h, if_neg k]
theorem toldL_snoc (got : Int) (sk : List Sp) (l : List Prt) (x : Prt) : toldL got sk (l ++ [x]) = toldL got sk l ++ (if toldC got sk x = true then [x] else []) := by
  unfold toldL; rw [List.filter_append]; cases h : toldC got sk x <;> simp [List.filter_cons, h]
theorem leftL_snoc (got : Int) (sk : List Sp) (l : List Prt) (x : Prt) : leftL got sk (l ++ [x]) = leftL got sk l ++ (if endP x ≤ got then [] else [comeP sk x]) := by
  unfold leftL
  rw [List.filter_append, List.map_append]
  by_cases h : endP x ≤ got
  · rw [if_pos h]; simp [List.filter_cons, h]
  · rw [if_neg h]; simp [List.filter_cons, h]
theorem told_len (got : Int) (sk : List Sp) (l : List Prt) : (toldL got sk l).length ≤ l.length := List.length_filter_le _ _
theorem left_lenP (got : Int) (sk : List Sp) (l : List Prt) : (leftL got sk l).length ≤ l.length := by unfold leftL; rw [List.length_map]; exact List.length_filter_le _ _
theorem outB_at {s : Int × Int} {l : List Sp} {i : Nat} (hi : i < l.length) (h : outP s (sp l i) = true) : outB s l = true := by
  unfold outB
  rw [List.any_eq_true]
  exact ⟨sp l i, by rw [sp_eq hi]; exact List.getElem_mem hi, h⟩
theorem outB_no {s : Int × Int} {l : List Sp} (h : ∀ i, i < l.length → outP s (sp l i) = false) : outB s l = false := by
  unfold outB
  rw [List.any_eq_false]
  intro x hx
  obtain ⟨i, hi, rfl⟩ := List.getElem_of_mem hx
  have := h i hi
  rw [sp_eq hi] at this
  simp [this]
theorem cameP_w {x : Prt} (h : PrtW x) : PrtW (cameP x) := ⟨h.seq, h.len, h.dsn, h.at_, h.tries, h.total, h.last⟩
end Go.Proofs.Ytnbamacdcggaeaa
