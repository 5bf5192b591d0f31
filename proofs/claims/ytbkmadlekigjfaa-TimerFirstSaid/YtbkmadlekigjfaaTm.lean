/- Package timer: timers, when they are valid, and what the answers are. No program. -/
import Derived.Test.YtbkmadlekigjfaaRt
import Derived.Test.YtbkmadlekigjfaaSt
namespace Go.Proofs.Ytbkmadlekigjfaa
open Go.RowKit
set_option linter.unusedVariables false
set_option linter.unusedSimpArgs false

/-- a timer -/
structure Tmr where
  kd : Int
  at_ : Int
deriving DecidableEq
structure TmW (x : Tmr) : Prop where
  kd : i64 x.kd
  at_ : i64 x.at_
def ztm : Tmr := ⟨0, 0⟩
instance : El Tmr where
  k := 2
  pos := by omega
  cells x := [.int .i64 x.kd, .int .i64 x.at_]
  len _ := rfl
  one x u hu := by
    simp only [List.mem_cons, List.mem_nil_iff, or_false] at hu
    rcases hu with rfl | rfl <;> rfl
  dft := ztm
  ok := TmW
/-- the cells of a timer in memory -/
structure TmAt (w : World) (b o : Nat) (x : Tmr) : Prop where
  c0 : w.cell? ⟨b, o, none⟩ = some (.int .i64 x.kd)
  c1 : w.cell? ⟨b, o + 1, none⟩ = some (.int .i64 x.at_)
theorem tm_at {w : World} {b o n : Nat} {l : List Tmr} (hc : ∀ i, i < n → ∀ j u, (El.cells (ge l i))[j]? = some u → w.cell? ⟨b, o + i * El.k Tmr + j, none⟩ = some u) {i : Nat} (hi : i < n) : TmAt w b (o + i * 2) (ge l i) :=
  ⟨hc i hi 0 _ rfl, hc i hi 1 _ rfl⟩

structure TmOk (t : Tmr) : Prop where
  k0 : 0 ≤ t.kd
  k1 : t.kd ≤ 2
  a0 : 0 ≤ t.at_
  a1 : t.at_ ≤ 2305843009213693952
  z : 0 < t.kd ∨ t.at_ = 0
def tmB (t : Tmr) : Bool := decide (0 ≤ t.kd ∧ t.kd ≤ 2 ∧ 0 ≤ t.at_ ∧ t.at_ ≤ 2305843009213693952 ∧ (0 < t.kd ∨ t.at_ = 0))
theorem tmB_iff (t : Tmr) : tmB t = true ↔ TmOk t := by
  unfold tmB
  rw [decide_eq_true_eq]
  exact ⟨fun ⟨a, b, c, d, e⟩ => ⟨a, b, c, d, e⟩, fun h => ⟨h.k0, h.k1, h.a0, h.a1, h.z⟩⟩
theorem tmB_no {t : Tmr} (h : ¬ TmOk t) : tmB t = false := by
  cases hk : tmB t with
  | false => rfl
  | true => exact absurd ((tmB_iff t).1 hk) h
/-- Due -/
def tdueR (t : Tmr) (now : Int) : Int := if tmB t = true ∧ t.at_ ≤ now then t.kd else 0
/-- First -/
def tmStep (out t : Tmr) : Tmr := if tmB t = true ∧ 0 < t.kd ∧ (out.kd = 0 ∨ t.at_ ≤ out.at_) then t else out
def firstTo (y : Tmr) (l : List Tmr) : Tmr := l.foldr (fun t out => tmStep out t) y
def firstR (l : List Tmr) : Tmr := firstTo ztm l
theorem firstTo_cons (y t : Tmr) (l : List Tmr) : firstTo y (t :: l) = tmStep (firstTo y l) t := rfl
theorem firstR_drop {l : List Tmr} {k : Nat} (h : k < l.length) : firstR (l.drop k) = tmStep (firstR (l.drop (k + 1))) (ge l k) := by
  rw [drop_ge h]; rfl
theorem firstR_end (l : List Tmr) : firstR (l.drop l.length) = ztm := by rw [List.drop_length]; rfl
/-- Set -/
def outB (x : Prt) : Bool := !x.came && !x.lost
def lastStep (a : Int) (x : Prt) : Int := if outB x = true ∧ a < x.at_ then x.at_ else a
def lastR (l : List Prt) : Int := l.foldl lastStep (-1)
theorem lastR_take {l : List Prt} {k : Nat} (h : k < l.length) : lastR (l.take (k + 1)) = lastStep (lastR (l.take k)) (ge l k) := by
  unfold lastR; rw [take_ge h, List.foldl_append]; rfl
def SetOk (r : Rt) (l : List Prt) (now most : Int) : Prop := rtB r = true ∧ smayB l = true ∧ 0 ≤ now ∧ now ≤ 1152921504606846976 ∧ 1 ≤ most ∧ most ≤ 1099511627776
instance (r : Rt) (l : List Prt) (a b : Int) : Decidable (SetOk r l a b) := inferInstanceAs (Decidable (_ ∧ _ ∧ _ ∧ _ ∧ _ ∧ _))
def endAt (l : List Prt) (now : Int) : Int := if now < lastR l then now else lastR l
def soonT (r : Rt) : Int := if 2 * r.srtt < 1000 then 1000 else 2 * r.srtt
def probeT (r : Rt) (most : Int) : Int := if soonT r < wt r most then soonT r else wt r most
def setT (r : Rt) (l : List Prt) (probed : Bool) (now most : Int) : Tmr :=
  if lastR l < 0 then ztm
  else if (probed || !r.has) = true then ⟨2, endAt l now + wt r most⟩
  else ⟨1, endAt l now + probeT r most⟩
def setR (r : Rt) (l : List Prt) (probed : Bool) (now most : Int) : Tmr × Int := if SetOk r l now most then (setT r l probed now most, 0) else (ztm, 1)
theorem set_no {r : Rt} {l : List Prt} {p : Bool} {now most : Int} (h : ¬ SetOk r l now most) : setR r l p now most = (ztm, 1) := if_neg h
theorem set_ok {r : Rt} {l : List Prt} {p : Bool} {now most : Int} (h : SetOk r l now most) : setR r l p now most = (setT r l p now most, 0) := if_pos h
theorem lastR_bd {l : List Prt} (h : ∀ x ∈ l, 0 ≤ x.at_ ∧ x.at_ ≤ 1152921504606846976) : -1 ≤ lastR l ∧ lastR l ≤ 1152921504606846976 := by
  suffices hh : ∀ (l : List Prt) (a : Int), (∀ x ∈ l, 0 ≤ x.at_ ∧ x.at_ ≤ 1152921504606846976) → -1 ≤ a → a ≤ 1152921504606846976 → -1 ≤ l.foldl lastStep a ∧ l.foldl lastStep a ≤ 1152921504606846976 from hh l (-1) h (by omega) (by omega)
  intro l
  induction l with
  | nil => intro a _ h1 h2; exact ⟨h1, h2⟩
  | cons y t ih =>
    intro a h h1 h2
    rw [List.foldl_cons]
    have := h y (by simp)
    refine ih _ (fun x hx => h x (by simp [hx])) ?_ ?_ <;> unfold lastStep <;> split <;> omega
end Go.Proofs.Ytbkmadlekigjfaa
