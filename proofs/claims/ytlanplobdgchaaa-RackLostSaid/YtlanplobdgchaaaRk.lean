/- Package rack: states, when they are valid, and what the answers are. No program. -/
import Derived.Test.YtlanplobdgchaaaSt
namespace Go.Proofs.Ytlanplobdgchaaa
set_option linter.unusedVariables false
set_option linter.unusedSimpArgs false

/-- a state -/
structure Rkv where
  at_ : Int
  end_ : Int
  took : Int
  far : Int
  mixed : Bool
  quarters : Int
deriving DecidableEq
def zrk : Rkv := ⟨0, 0, 0, 0, false, 0⟩
def brief (x : Int) : Bool := decide (0 ≤ x ∧ x ≤ 1099511627776)
theorem brief_iff (x : Int) : brief x = true ↔ 0 ≤ x ∧ x ≤ 1099511627776 := by unfold brief; exact decide_eq_true_iff
structure RkOk (v : Rkv) : Prop where
  a0 : 0 ≤ v.at_
  a1 : v.at_ ≤ 1152921504606846976
  k0 : 0 ≤ v.took
  k1 : v.took ≤ 1152921504606846976
  e0 : 0 ≤ v.end_
  f0 : 0 ≤ v.far
  e1 : v.end_ ≤ 2305843009213693952
  f1 : v.far ≤ 2305843009213693952
  q0 : 0 ≤ v.quarters
  q1 : v.quarters ≤ 20
def rkmay (v : Rkv) : Bool := t60 v.at_ && (t60 v.took && (decide (0 ≤ v.end_) && (decide (0 ≤ v.far) && (decide (v.end_ ≤ 2305843009213693952) && (decide (v.far ≤ 2305843009213693952) && (decide (0 ≤ v.quarters) && decide (v.quarters ≤ 20)))))))
theorem rkmay_iff (v : Rkv) : rkmay v = true ↔ RkOk v := by
  unfold rkmay
  simp only [Bool.and_eq_true, decide_eq_true_eq, t60_iff]
  exact ⟨fun ⟨⟨a, b⟩, ⟨c, d⟩, e, f, g, h, i, j⟩ => ⟨a, b, c, d, e, f, g, h, i, j⟩, fun h => ⟨⟨h.a0, h.a1⟩, ⟨h.k0, h.k1⟩, h.e0, h.f0, h.e1, h.f1, h.q0, h.q1⟩⟩
/-- sent before -/
def aheadB (a e b u : Int) : Bool := decide (a < b ∨ a = b ∧ e < u)
theorem ahead_iff (a e b u : Int) : aheadB a e b u = true ↔ a < b ∨ a = b ∧ e < u := by unfold aheadB; exact decide_eq_true_iff
/-- Came -/
def RkCameOk (v : Rkv) (x : Prt) (now least : Int) : Prop := rkmay v = true ∧ oneB x = true ∧ x.at_ ≤ now ∧ t60 now = true ∧ brief least = true
instance (v : Rkv) (x : Prt) (a b : Int) : Decidable (RkCameOk v x a b) := inferInstanceAs (Decidable (_ ∧ _ ∧ _ ∧ _ ∧ _))
def mixR (v : Rkv) (x : Prt) : Bool := if x.tries = 1 ∧ endP x < v.far then true else v.mixed
def farR (v : Rkv) (x : Prt) : Int := if v.far < endP x then endP x else v.far
def soonR (x : Prt) (now least : Int) : Bool := decide (1 < x.tries ∧ now - x.at_ < least)
def newR (v : Rkv) (x : Prt) (now least : Int) : Rkv :=
  if soonR x now least = true then ⟨v.at_, v.end_, v.took, farR v x, mixR v x, v.quarters⟩
  else if aheadB v.at_ v.end_ x.at_ (endP x) = true then ⟨x.at_, endP x, now - x.at_, farR v x, mixR v x, v.quarters⟩
  else ⟨v.at_, v.end_, v.took, farR v x, mixR v x, v.quarters⟩
def rkcameR (v : Rkv) (x : Prt) (now least : Int) : Rkv × Int := if RkCameOk v x now least then (newR v x now least, 0) else (zrk, 1)
/-- Twice -/
def moreQ (q : Int) : Int := if q < 20 then q + 1 else q
def twiceR (v : Rkv) : Rkv × Int := if rkmay v = true then (⟨v.at_, v.end_, v.took, v.far, v.mixed, moreQ v.quarters⟩, 0) else (zrk, 1)
/-- Slack -/
def SlackOk (v : Rkv) (least srtt : Int) : Prop := rkmay v = true ∧ v.mixed = true ∧ brief least = true ∧ brief srtt = true
instance (v : Rkv) (a b : Int) : Decidable (SlackOk v a b) := inferInstanceAs (Decidable (_ ∧ _ ∧ _ ∧ _))
def slackN (q least : Int) : Int := (q + 1) * least / 4
def slackR (v : Rkv) (least srtt : Int) : Int := if SlackOk v least srtt then (if srtt < slackN v.quarters least then srtt else slackN v.quarters least) else 0
/-- Lost -/
def seenB (v : Rkv) (x : Prt) : Bool := !x.came && !x.lost && aheadB x.at_ (endP x) v.at_ v.end_
def dueR (v : Rkv) (slack : Int) (x : Prt) : Int := x.at_ + v.took + slack
def lateB (v : Rkv) (now slack : Int) (x : Prt) : Bool := seenB v x && decide (dueR v slack x ≤ now)
def waitB (v : Rkv) (now slack : Int) (x : Prt) : Bool := seenB v x && !decide (dueR v slack x ≤ now)
def lostP (v : Rkv) (now slack : Int) (x : Prt) : Prt := if lateB v now slack x = true then { x with lost := true } else x
def lostL (v : Rkv) (now slack : Int) (l : List Prt) : List Prt := l.map (lostP v now slack)
def lostN (v : Rkv) (now slack : Int) (l : List Prt) : Int := l.foldl (fun n x => if lateB v now slack x = true then n + 1 else n) 0
def nextStep (n a : Int) : Int := if n = 0 ∨ a < n then a else n
def nextN (v : Rkv) (now slack : Int) (l : List Prt) : Int := l.foldl (fun n x => if waitB v now slack x = true then nextStep n (dueR v slack x) else n) 0
def LostOk (v : Rkv) (l : List Prt) (now slack : Int) : Prop := rkmay v = true ∧ smayB l = true ∧ t60 now = true ∧ brief slack = true
instance (v : Rkv) (l : List Prt) (a b : Int) : Decidable (LostOk v l a b) := inferInstanceAs (Decidable (_ ∧ _ ∧ _ ∧ _))
def lostR (v : Rkv) (l : List Prt) (now slack : Int) : List Prt × Int × Int × Int :=
  if LostOk v l now slack then (lostL v now slack l, lostN v now slack l, nextN v now slack l, 0) else ([], 0, 0, 1)
theorem lostN_snoc (v : Rkv) (now slack : Int) (l : List Prt) (x : Prt) : lostN v now slack (l ++ [x]) = if lateB v now slack x = true then lostN v now slack l + 1 else lostN v now slack l := by unfold lostN; rw [List.foldl_append]; rfl
theorem nextN_snoc (v : Rkv) (now slack : Int) (l : List Prt) (x : Prt) : nextN v now slack (l ++ [x]) = if waitB v now slack x = true then nextStep (nextN v now slack l) (dueR v slack x) else nextN v now slack l := by unfold nextN; rw [List.foldl_append]; rfl
theorem lostN_take {l : List Prt} {k : Nat} (v : Rkv) (now slack : Int) (h : k < l.length) : lostN v now slack (l.take (k + 1)) = if lateB v now slack (ge l k) = true then lostN v now slack (l.take k) + 1 else lostN v now slack (l.take k) := by rw [take_ge h, lostN_snoc]
theorem nextN_take {l : List Prt} {k : Nat} (v : Rkv) (now slack : Int) (h : k < l.length) : nextN v now slack (l.take (k + 1)) = if waitB v now slack (ge l k) = true then nextStep (nextN v now slack (l.take k)) (dueR v slack (ge l k)) else nextN v now slack (l.take k) := by rw [take_ge h, nextN_snoc]
theorem lostL_len (v : Rkv) (now slack : Int) (l : List Prt) : (lostL v now slack l).length = l.length := by unfold lostL; rw [List.length_map]
theorem lostL_ge (v : Rkv) (now slack : Int) (l : List Prt) {i : Nat} (h : i < l.length) : ge (lostL v now slack l) i = lostP v now slack (ge l i) := by
  have h' : i < (lostL v now slack l).length := by rw [lostL_len]; exact h
  rw [ge_eq h', ge_eq h]; exact List.getElem_map _
/-- the list in the making: the first k are done -/
def lostTo (v : Rkv) (now slack : Int) (l : List Prt) (k : Nat) : List Prt := lostL v now slack (l.take k) ++ l.drop k
theorem lostTo_zero (v : Rkv) (now slack : Int) (l : List Prt) : lostTo v now slack l 0 = l := rfl
theorem lostTo_all (v : Rkv) (now slack : Int) (l : List Prt) : lostTo v now slack l l.length = lostL v now slack l := by
  unfold lostTo; rw [List.take_length, List.drop_length, List.append_nil]
theorem lostTo_len (v : Rkv) (now slack : Int) (l : List Prt) {k : Nat} (h : k ≤ l.length) : (lostTo v now slack l k).length = l.length := by
  unfold lostTo; rw [List.length_append, lostL_len, List.length_take, List.length_drop]; omega
theorem lostTo_set (v : Rkv) (now slack : Int) (l : List Prt) {k : Nat} (h : k < l.length) : (lostTo v now slack l k).set k (lostP v now slack (ge l k)) = lostTo v now slack l (k + 1) := by
  have e : (lostL v now slack (l.take k)).length = k := by rw [lostL_len, List.length_take]; omega
  unfold lostTo
  rw [List.set_append_right k _ (by omega), e, Nat.sub_self, drop_ge h, List.set_cons_zero, take_ge h]
  unfold lostL
  rw [List.map_append, List.append_assoc]; rfl
theorem lostTo_same (v : Rkv) (now slack : Int) (l : List Prt) {k : Nat} (h : k < l.length) (hb : lateB v now slack (ge l k) = false) : lostTo v now slack l k = lostTo v now slack l (k + 1) := by
  have hp : lostP v now slack (ge l k) = ge l k := by unfold lostP; rw [hb]; rfl
  unfold lostTo
  rw [take_ge h, drop_ge h]
  unfold lostL
  rw [List.map_append, List.append_assoc, List.map_cons, hp]; rfl
end Go.Proofs.Ytlanplobdgchaaa
