/- Package fix: checked, with whatever it is given to run, and Add, as contracts of the calls: every number. -/
import Derived.Test.YtbkmadlekigjfaaProg
import Derived.Test.YtbkmadlekigjfaaLow
import Derived.WalkKit
import Derived.WalkSpells
import Derived.Deep.QuietTactic
import Derived.BigQuiet
import Derived.Lib.Hide
import Derived.WalkSmall
import Derived.Shelf.Abstract
namespace Go.Proofs.Ytbkmadlekigjfaa
open Go.RowKit


/-- what checked reads: the numbers that came, in a row -/
def RowOf (B : Nat) (zs : List Int) (w : World) : Prop := ∀ i (h : i < zs.length), w.cell? ⟨B, i, none⟩ = some (.int .i64 zs[i])


theorem wrap_add (a b : Int) (ha : inB a = true) (hb : inB b = true) : inB (wrap64 (a + b)) = inB (a + b) ∧ (inB (a + b) = true → wrap64 (a + b) = a + b) := by
  rw [inB_iff] at ha hb
  by_cases h : a + b ≤ 9223372036854775807
  · have e : wrap64 (a + b) = a + b := IntWalk.wrap64_in _ ⟨by omega, by omega⟩
    rw [e]; exact ⟨rfl, fun _ => rfl⟩
  · have e : wrap64 (a + b) = -9223372036854775808 := by
      have : a + b = 9223372036854775808 := by omega
      simp only [wrap64]; omega
    have e2 : inB (a + b) = false := by rw [inB_not]; omega
    rw [e, e2]
    exact ⟨by decide, fun h => by cases h⟩

/-- the number that a call tells: 0 where there is none -/
def tell (r : Int) (ok : Bool) : Int := if ok then r else 0

def okAll (zs : List Int) (r : Int) (ok : Bool) : Bool := zs.all inB && ok && inB r

def addOk (a b : Int) : Bool := inB a && inB b && inB (a + b)

theorem add_eq (a b : Int) : okAll [a, b] (wrap64 (a + b)) true = addOk a b ∧ tell (wrap64 (a + b)) (addOk a b) = tell (a + b) (addOk a b) := by
  by_cases h1 : inB a = true
  · by_cases h2 : inB b = true
    · obtain ⟨e1, e2⟩ := wrap_add a b h1 h2
      refine ⟨by simp [okAll, addOk, h1, h2, e1], ?_⟩
      by_cases h3 : inB (a + b) = true
      · rw [e2 h3]
      · simp [tell, addOk, h3]
    · simp [okAll, addOk, h2, tell]
  · simp [okAll, addOk, h1, tell]

theorem row1 (a : Int) (w : World) (T B : Nat) (hB : B = w.heap.size) : RowOf B [a] (w.alloc (.cells #[.int .i64 a] T)) := by
  subst hB
  intro i h
  match i, h with
  | 0, _ => go_simp
theorem row2 (a b : Int) (w : World) (T B : Nat) (hB : B = w.heap.size) : RowOf B [a, b] (w.alloc (.cells #[.int .i64 a, .int .i64 b] T)) := by
  subst hB
  intro i h
  match i, h with
  | 0, _ => go_simp
  | 1, _ => go_simp
theorem row3 (a b c : Int) (w : World) (T B : Nat) (hB : B = w.heap.size) : RowOf B [a, b, c] (w.alloc (.cells #[.int .i64 a, .int .i64 b, .int .i64 c] T)) := by
  subst hB
  intro i h
  match i, h with
  | 0, _ => go_simp
  | 1, _ => go_simp
  | 2, _ => go_simp

end Go.Proofs.Ytbkmadlekigjfaa
