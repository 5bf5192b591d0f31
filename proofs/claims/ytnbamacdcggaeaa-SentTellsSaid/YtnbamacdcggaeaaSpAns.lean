/- Package spans: what the answers are. No program. -/
import Derived.Test.YtnbamacdcggaeaaSpPure
namespace Go.Proofs.Ytnbamacdcggaeaa

theorem mayB_parts {l : List Sp} (h : mayB l = true) : l.length ≤ 1000 ∧ chain (-1) l = true := by unfold mayB at h; simpa using h

/-- what Add and Cut tell -/
def told (ok : Bool) (x : List Sp) : List Sp × Int := if ok = true then (if x.length ≤ 1000 then (x, 0) else ([], 4)) else ([], 1)
def addR (l : List Sp) (s : Sp) : List Sp × Int := told (mayB l && vld s.1 s.2) (addL l s)
def cutR (l : List Sp) (s : Sp) : List Sp × Int := told (mayB l && vld s.1 s.2) (cutL l s)

/-- has a list a number? -/
def inB (l : List Sp) (n : Int) : Bool := l.any fun p => decide (p.1 ≤ n) && decide (n < p.2)
theorem inB_snoc (l : List Sp) (p : Sp) (n : Int) : inB (l ++ [p]) n = (inB l n || (decide (p.1 ≤ n) && decide (n < p.2))) := by unfold inB; simp
theorem inB_cut {l : List Sp} {k : Nat} {n : Int} (h : inB (l.take k) n = true) : inB l n = true := by
  have e : l = l.take k ++ l.drop k := (List.take_append_drop _ _).symm
  unfold inB at *
  rw [e, List.any_append, h]; rfl
end Go.Proofs.Ytnbamacdcggaeaa
