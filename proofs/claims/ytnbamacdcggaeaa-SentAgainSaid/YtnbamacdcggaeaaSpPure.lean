/- Package spans: what the functions of the package answer, as functions of lists. No program. -/
import Derived.Test.YtnbamacdcggaeaaSp
namespace Go.Proofs.Ytnbamacdcggaeaa

/-- may a span be? -/
def vld (a b : Int) : Bool := decide (0 ≤ a) && (decide (a < b) && decide (b ≤ 4611686018427387904))
/-- a list whose spans may be, each beginning behind the end of the one before, the first behind d -/
def chain : Int → List Sp → Bool
  | _, [] => true
  | d, p :: t => decide (d < p.1) && (vld p.1 p.2 && chain p.2 t)
def lastOf (d : Int) (l : List Sp) : Int := l.foldl (fun _ p => p.2) d
def mayB (l : List Sp) : Bool := decide (l.length ≤ 1000) && chain (-1) l

theorem vld_iff {a b : Int} : vld a b = true ↔ 0 ≤ a ∧ a < b ∧ b ≤ 4611686018427387904 := by unfold vld; simp
theorem lastOf_nil (d : Int) : lastOf d [] = d := rfl
theorem lastOf_snoc (d : Int) (l : List Sp) (p : Sp) : lastOf d (l ++ [p]) = p.2 := by unfold lastOf; simp
theorem chain_app (d : Int) (a b : List Sp) : chain d (a ++ b) = (chain d a && chain (lastOf d a) b) := by
  induction a generalizing d with
  | nil => simp [chain, lastOf]
  | cons p t ih =>
    have : lastOf d (p :: t) = lastOf p.2 t := rfl
    rw [List.cons_append, this]
    simp only [chain, ih, Bool.and_assoc]
theorem chain_snoc (d : Int) (a : List Sp) (p : Sp) : chain d (a ++ [p]) = (chain d a && (decide (lastOf d a < p.1) && vld p.1 p.2)) := by
  rw [chain_app]; simp [chain]
theorem chain_cut {d : Int} {l : List Sp} {k : Nat} (h : chain d (l.take (k + 1)) = false) : chain d l = false := by
  have e : l = l.take (k + 1) ++ l.drop (k + 1) := (List.take_append_drop _ _).symm
  rw [e, chain_app, h]; rfl

/-- the sum of the sizes -/
def size (l : List Sp) : Int := l.foldl (fun n p => n + (p.2 - p.1)) 0
theorem size_snoc (l : List Sp) (p : Sp) : size (l ++ [p]) = size l + (p.2 - p.1) := by unfold size; simp
theorem foldl_add (l : List Sp) (n : Int) : l.foldl (fun n p => n + (p.2 - p.1)) n = n + size l := by
  unfold size
  induction l generalizing n with
  | nil => simp
  | cons p t ih => simp only [List.foldl_cons]; rw [ih (n + _), ih (0 + _)]; omega
theorem size_nil : size [] = 0 := rfl
theorem size_cons (p : Sp) (t : List Sp) : size (p :: t) = p.2 - p.1 + size t := by
  show List.foldl _ (0 + (p.2 - p.1)) t = _
  rw [foldl_add]; omega
theorem chain_bd {d : Int} {l : List Sp} (h : chain d l = true) (hd : d ≤ 4611686018427387904) : lastOf d l ≤ 4611686018427387904 ∧ (-1 ≤ d → 0 ≤ size l ∧ size l ≤ lastOf d l - d) := by
  induction l generalizing d with
  | nil => rw [lastOf_nil, size_nil]; omega
  | cons p t ih =>
    simp only [chain, Bool.and_eq_true, decide_eq_true_eq] at h
    obtain ⟨h1, h2, h3⟩ := h
    have hv := vld_iff.1 h2
    have := ih h3 hv.2.2
    have e : lastOf d (p :: t) = lastOf p.2 t := rfl
    rw [e, size_cons]
    refine ⟨this.1, fun hd' => ?_⟩
    have := this.2 (by omega)
    omega
theorem chain_take {d : Int} {l : List Sp} (h : chain d l = true) (k : Nat) : chain d (l.take k) = true := by
  have e : l = l.take k ++ l.drop k := (List.take_append_drop _ _).symm
  rw [e, chain_app, Bool.and_eq_true] at h
  exact h.1
theorem size_take {l : List Sp} (h : chain (-1) l = true) (k : Nat) : 0 ≤ size (l.take k) ∧ size (l.take k) ≤ 4611686018427387905 := by
  have := chain_bd (chain_take h k) (by omega)
  omega

/-- is all of one in one? -/
def hasIn (l : List Sp) (a b : Int) : Bool := l.any fun p => decide (p.1 ≤ a) && decide (b ≤ p.2)
def hasB (l : List Sp) (a b : Int) : Bool := mayB l && (vld a b && hasIn l a b)
theorem hasIn_snoc (l : List Sp) (p : Sp) (a b : Int) : hasIn (l ++ [p]) a b = (hasIn l a b || (decide (p.1 ≤ a) && decide (b ≤ p.2))) := by unfold hasIn; simp
theorem hasIn_cut {l : List Sp} {k : Nat} {a b : Int} (h : hasIn (l.take k) a b = true) : hasIn l a b = true := by
  have e : l = l.take k ++ l.drop k := (List.take_append_drop _ _).symm
  unfold hasIn at *
  rw [e, List.any_append, h]; rfl

/-- the number that is told -/
def gapIn : List Sp → Int → Int
  | [], n => n
  | p :: t, n => if p.1 ≤ n ∧ n < p.2 then p.2 else gapIn t n
def gapF (l : List Sp) (n : Int) : Int := if mayB l = true then gapIn l (max n 0) else 0
theorem gapIn_app (a b : List Sp) (n : Int) (h : ∀ p ∈ a, ¬ (p.1 ≤ n ∧ n < p.2)) : gapIn (a ++ b) n = gapIn b n := by
  induction a with
  | nil => rfl
  | cons p t ih =>
    rw [List.cons_append]
    have := h p (by simp)
    rw [gapIn, if_neg this]
    exact ih fun q hq => h q (by simp [hq])

/-- grown: the span, how many lie before, how many are done with -/
def grn (s : Sp) (f b : Nat) : List Sp → Sp × Nat × Nat
  | [] => (s, f, b)
  | p :: t => if p.2 < s.1 then grn s (f + 1) (b + 1) t else if s.2 < p.1 then (s, f, b) else grn (min p.1 s.1, max p.2 s.2) f (b + 1) t
def addL (l : List Sp) (s : Sp) : List Sp := l.take (grn s 0 0 l).2.1 ++ ((grn s 0 0 l).1 :: l.drop (grn s 0 0 l).2.2)

/-- what a span leaves of another one -/
def lft (s p : Sp) : List Sp := (if p.1 < min p.2 s.1 then [(p.1, min p.2 s.1)] else []) ++ (if max p.1 s.2 < p.2 then [(max p.1 s.2, p.2)] else [])
def cutL (l : List Sp) (s : Sp) : List Sp := l.flatMap (lft s)
theorem cutL_snoc (l : List Sp) (s p : Sp) : cutL (l ++ [p]) s = cutL l s ++ lft s p := by unfold cutL; simp
end Go.Proofs.Ytnbamacdcggaeaa
