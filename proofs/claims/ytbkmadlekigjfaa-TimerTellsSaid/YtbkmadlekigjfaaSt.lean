/- Package sent: parts, when they are valid, and what the answers are. No program. -/
import Derived.Test.YtbkmadlekigjfaaRo
import Derived.Test.YtbkmadlekigjfaaT60
namespace Go.Proofs.Ytbkmadlekigjfaa
open Go.RowKit
set_option linter.unusedVariables false
set_option linter.unusedSimpArgs false

/-- a part -/
structure Prt where
  seq : Int
  len : Int
  dsn : Int
  at_ : Int
  tries : Int
  came : Bool
  lost : Bool
  total : Int
  last : Int
deriving DecidableEq
def i64 (x : Int) : Prop := -9223372036854775808 ≤ x ∧ x ≤ 9223372036854775807
structure PrtW (x : Prt) : Prop where
  seq : i64 x.seq
  len : i64 x.len
  dsn : i64 x.dsn
  at_ : i64 x.at_
  tries : i64 x.tries
  total : i64 x.total
  last : i64 x.last
def zprt : Prt := ⟨0, 0, 0, 0, 0, false, false, 0, 0⟩
instance : El Prt where
  k := 9
  pos := by omega
  cells x := [.int .i64 x.seq, .int .i64 x.len, .int .i64 x.dsn, .int .i64 x.at_, .int .i64 x.tries, .bool x.came, .bool x.lost, .int .i64 x.total, .int .i64 x.last]
  len _ := rfl
  one x u hu := by
    simp only [List.mem_cons, List.mem_nil_iff, or_false] at hu
    rcases hu with rfl | rfl | rfl | rfl | rfl | rfl | rfl | rfl | rfl <;> rfl
  dft := zprt
  ok := PrtW
/-- the cells of a part in memory -/
structure PrtAt (w : World) (b o : Nat) (x : Prt) : Prop where
  c0 : w.cell? ⟨b, o, none⟩ = some (.int .i64 x.seq)
  c1 : w.cell? ⟨b, o + 1, none⟩ = some (.int .i64 x.len)
  c2 : w.cell? ⟨b, o + 2, none⟩ = some (.int .i64 x.dsn)
  c3 : w.cell? ⟨b, o + 3, none⟩ = some (.int .i64 x.at_)
  c4 : w.cell? ⟨b, o + 4, none⟩ = some (.int .i64 x.tries)
  c5 : w.cell? ⟨b, o + 5, none⟩ = some (.bool x.came)
  c6 : w.cell? ⟨b, o + 6, none⟩ = some (.bool x.lost)
  c7 : w.cell? ⟨b, o + 7, none⟩ = some (.int .i64 x.total)
  c8 : w.cell? ⟨b, o + 8, none⟩ = some (.int .i64 x.last)
theorem prt_at {w : World} {b o n : Nat} {l : List Prt} (hc : ∀ i, i < n → ∀ j u, (El.cells (ge l i))[j]? = some u → w.cell? ⟨b, o + i * El.k Prt + j, none⟩ = some u) {i : Nat} (hi : i < n) : PrtAt w b (o + i * 9) (ge l i) :=
  ⟨hc i hi 0 _ rfl, hc i hi 1 _ rfl, hc i hi 2 _ rfl, hc i hi 3 _ rfl, hc i hi 4 _ rfl, hc i hi 5 _ rfl, hc i hi 6 _ rfl, hc i hi 7 _ rfl, hc i hi 8 _ rfl⟩
theorem PrtAt.keep {w w' : World} {b o : Nat} {x : Prt} (h : PrtAt w b o x) (hb : Below w.heap.size w w') (hlt : b < w.heap.size) : PrtAt w' b o x :=
  ⟨(hb.cell (p := ⟨b, o, none⟩) hlt).trans h.c0, (hb.cell (p := ⟨b, o + 1, none⟩) hlt).trans h.c1, (hb.cell (p := ⟨b, o + 2, none⟩) hlt).trans h.c2, (hb.cell (p := ⟨b, o + 3, none⟩) hlt).trans h.c3, (hb.cell (p := ⟨b, o + 4, none⟩) hlt).trans h.c4, (hb.cell (p := ⟨b, o + 5, none⟩) hlt).trans h.c5, (hb.cell (p := ⟨b, o + 6, none⟩) hlt).trans h.c6, (hb.cell (p := ⟨b, o + 7, none⟩) hlt).trans h.c7, (hb.cell (p := ⟨b, o + 8, none⟩) hlt).trans h.c8⟩

/-- Words: may a part be -/
structure POk (x : Prt) : Prop where
  seq : t60 x.seq = true
  dsn : t60 x.dsn = true
  at_ : t60 x.at_ = true
  total : t60 x.total = true
  last : t60 x.last = true
  not : (x.came && x.lost) = false
  l1 : 1 ≤ x.len
  l2 : x.len ≤ 1460
  t1 : 1 ≤ x.tries
  t2 : x.tries ≤ 1000
def oneB (x : Prt) : Bool := t60 x.seq && (t60 x.dsn && (t60 x.at_ && (t60 x.total && (t60 x.last && (!(x.came && x.lost) && decide (1 ≤ x.len ∧ x.len ≤ 1460 ∧ 1 ≤ x.tries ∧ x.tries ≤ 1000))))))
theorem oneB_iff (x : Prt) : oneB x = true ↔ POk x := by
  unfold oneB
  simp only [Bool.and_eq_true, Bool.not_eq_true', decide_eq_true_eq]
  exact ⟨fun ⟨a, b, c, d, e, f, g, h, i, j⟩ => ⟨a, b, c, d, e, f, g, h, i, j⟩, fun h => ⟨h.seq, h.dsn, h.at_, h.total, h.last, h.not, h.l1, h.l2, h.t1, h.t2⟩⟩
/-- where a part ends -/
def endP (x : Prt) : Int := x.seq + x.len
/-- the part at i is valid, and begins where the one ahead of it ends -/
def LinkOk (l : List Prt) (i : Nat) : Prop := POk (ge l i) ∧ (0 < i → (ge l i).seq = endP (ge l (i - 1)))
def linkB (l : List Prt) (i : Nat) : Bool := oneB (ge l i) && decide (0 < i → (ge l i).seq = endP (ge l (i - 1)))
theorem linkB_iff (l : List Prt) (i : Nat) : linkB l i = true ↔ LinkOk l i := by
  unfold linkB LinkOk; rw [Bool.and_eq_true, oneB_iff, decide_eq_true_eq]
def ChainTo (l : List Prt) (n : Nat) : Prop := ∀ i, i < n → LinkOk l i
def chainB (l : List Prt) : Bool := (List.range l.length).all fun i => linkB l i
theorem chainB_iff (l : List Prt) : chainB l = true ↔ ChainTo l l.length := by
  unfold chainB ChainTo
  rw [List.all_eq_true]
  exact ⟨fun h i hi => (linkB_iff l i).1 (h i (List.mem_range.2 hi)), fun h i hi => (linkB_iff l i).2 (h i (List.mem_range.1 hi))⟩
theorem link_snoc {l : List Prt} {k : Nat} (h : ChainTo l k) (hk : LinkOk l k) : ChainTo l (k + 1) := fun i hi => by
  by_cases e : i = k
  · subst e; exact hk
  · exact h i (by omega)
def smayB (l : List Prt) : Bool := decide (l.length ≤ 500) && chainB l
theorem smay_iff (l : List Prt) : smayB l = true ↔ l.length ≤ 500 ∧ ChainTo l l.length := by unfold smayB; rw [Bool.and_eq_true, decide_eq_true_eq, chainB_iff]

/-- P12.1 -/
def spanR (l : List Prt) : Int × Int := if 0 < l.length ∧ smayB l = true then ((ge l 0).seq, endP (ge l (l.length - 1))) else (0, 0)
def flyL (x : Prt) : Int := if (!x.came && !x.lost) = true then x.len else 0
def flySum (l : List Prt) : Int := l.foldl (fun n x => n + flyL x) 0
theorem flySum_snoc (l : List Prt) (x : Prt) : flySum (l ++ [x]) = flySum l + flyL x := by unfold flySum; simp
def flightR (l : List Prt) : Int := if smayB l = true then flySum l else 0
/-- P12.2 -/
def sendR (l : List Prt) (x : Prt) : List Prt × Int :=
  if chainB (l ++ [x]) = true ∧ l.length ≤ 500 then (if l.length = 500 then ([], 4) else (l ++ [x], 0)) else ([], 1)
def againP (x : Prt) (a : Int) : Prt := { x with at_ := a, tries := x.tries + 1, lost := false }
/-- where the part with this seq stands: behind all, if there is none -/
def findSeq (l : List Prt) (seq : Int) : Nat := l.findIdx fun x => decide (x.seq = seq)
def againR (l : List Prt) (seq a : Int) : List Prt × Int :=
  if smayB l = true ∧ t60 a = true then
    (if findSeq l seq < l.length then
      (if (ge l (findSeq l seq)).came = true ∨ 1000 ≤ (ge l (findSeq l seq)).tries then ([], 3) else (l.set (findSeq l seq) (againP (ge l (findSeq l seq)) a), 0))
    else ([], 3))
  else ([], 1)
end Go.Proofs.Ytbkmadlekigjfaa
