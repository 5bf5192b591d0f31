/- Package rtt: estimates, when they are valid, a sample, doubling and waiting. No program. -/
import Derived.WalkKit
namespace Go.Proofs.Ytbkmadlekigjfaa
set_option linter.unusedVariables false

/-- an estimate -/
structure Rt where
  has : Bool
  srtt : Int
  vr : Int
  rto : Int
  shift : Int
def zrt : Rt := ⟨false, 0, 0, 0, 0⟩
def rtB (r : Rt) : Bool := decide (0 ≤ r.srtt ∧ r.srtt ≤ 1152921504606846976 ∧ 0 ≤ r.vr ∧ r.vr ≤ 1152921504606846976 ∧ 0 ≤ r.rto ∧ r.rto ≤ 1152921504606846976 ∧ 0 ≤ r.shift ∧ r.shift ≤ 16 ∧ (r.has = true ∨ (r.srtt = 0 ∧ r.vr = 0)))
structure RtOk (r : Rt) : Prop where
  s0 : 0 ≤ r.srtt
  s1 : r.srtt ≤ 1152921504606846976
  v0 : 0 ≤ r.vr
  v1 : r.vr ≤ 1152921504606846976
  o0 : 0 ≤ r.rto
  o1 : r.rto ≤ 1152921504606846976
  h0 : 0 ≤ r.shift
  h1 : r.shift ≤ 16
  z : r.has = true ∨ (r.srtt = 0 ∧ r.vr = 0)
theorem rtB_iff (r : Rt) : rtB r = true ↔ RtOk r := by
  unfold rtB
  rw [decide_eq_true_eq]
  exact ⟨fun ⟨a, b, c, d, e, f, g, h, i⟩ => ⟨a, b, c, d, e, f, g, h, i⟩, fun h => ⟨h.s0, h.s1, h.v0, h.v1, h.o0, h.o1, h.h0, h.h1, h.z⟩⟩
theorem rtB_false {r : Rt} (h : ¬ RtOk r) : rtB r = false := by
  cases hk : rtB r with
  | false => rfl
  | true => exact absurd ((rtB_iff r).1 hk) h
def ArgOk (took least most : Int) : Prop := 0 ≤ took ∧ took ≤ 1099511627776 ∧ 1 ≤ least ∧ least ≤ most ∧ most ≤ 1099511627776
instance (a b c : Int) : Decidable (ArgOk a b c) := inferInstanceAs (Decidable (_ ∧ _ ∧ _ ∧ _ ∧ _))
def offI (a b : Int) : Int := if a - b < 0 then -(a - b) else a - b
def clI (n low high : Int) : Int := if n < low ∨ high < low then low else if high < n then high else n
def smS (r : Rt) (took : Int) : Int := if r.has = true then (7 * r.srtt + took) / 8 else took
def smV (r : Rt) (took : Int) : Int := if r.has = true then (3 * r.vr + offI r.srtt took) / 4 else took / 2
def smM (r : Rt) (took : Int) : Int := if 4 * smV r took < 1000 then 1000 else 4 * smV r took
def smp (r : Rt) (took least most : Int) : Rt × Int := if rtB r = true ∧ ArgOk took least most then (⟨true, smS r took, smV r took, clI (smS r took + smM r took) least most, 0⟩, 0) else (zrt, 1)
def upS (n : Int) : Int := if n < 16 then n + 1 else n
def dbl (r : Rt) : Rt × Int := if rtB r = true then (⟨r.has, r.srtt, r.vr, r.rto, upS r.shift⟩, 0) else (zrt, 1)
def base (r : Rt) : Int := if r.has = true then r.rto else 1000000
def mostOk (most : Int) : Prop := 1 ≤ most ∧ most ≤ 1099511627776
instance (a : Int) : Decidable (mostOk a) := inferInstanceAs (Decidable (_ ∧ _))
def minI (a b : Int) : Int := if b < a then b else a
def wt (r : Rt) (most : Int) : Int := if rtB r = true ∧ mostOk most then minI (base r * 2 ^ r.shift.toNat) most else 0

/-! what follows -/
theorem off_nn (a b : Int) : 0 ≤ offI a b := by unfold offI; split <;> omega
theorem smV_bd {r : Rt} (h : RtOk r) {took : Int} (h0 : 0 ≤ took) (h1 : took ≤ 1099511627776) : 0 ≤ smV r took ∧ smV r took ≤ 1152921504606846976 := by
  have := h.v0; have := h.v1; have := h.s0; have := h.s1
  unfold smV offI
  split
  · split <;> omega
  · omega
theorem smS_bd {r : Rt} (h : RtOk r) {took : Int} (h0 : 0 ≤ took) (h1 : took ≤ 1099511627776) : 0 ≤ smS r took ∧ smS r took ≤ 1152921504606846976 := by
  have := h.s0; have := h.s1
  unfold smS
  split <;> omega
theorem cl_bd {n low high : Int} (h : low ≤ high) : low ≤ clI n low high ∧ clI n low high ≤ high := by
  unfold clI
  split
  · omega
  · split <;> omega
theorem smp_ok {r : Rt} {took least most : Int} (h : rtB r = true) (ha : ArgOk took least most) : smp r took least most = (⟨true, smS r took, smV r took, clI (smS r took + smM r took) least most, 0⟩, 0) := if_pos ⟨h, ha⟩
theorem smp_no {r : Rt} {took least most : Int} (h : ¬ (rtB r = true ∧ ArgOk took least most)) : smp r took least most = (zrt, 1) := if_neg h
/-- what a sample gives is valid -/
theorem smp_valid {r : Rt} (h : RtOk r) {took least most : Int} (ha : ArgOk took least most) : RtOk ⟨true, smS r took, smV r took, clI (smS r took + smM r took) least most, 0⟩ := by
  obtain ⟨a0, a1, a2, a3, a4⟩ := ha
  have hv := smV_bd h a0 a1
  have hs := smS_bd h a0 a1
  have hc := cl_bd (n := smS r took + smM r took) a3
  exact ⟨hs.1, hs.2, hv.1, hv.2, by dsimp only; omega, by dsimp only; omega, by dsimp only; omega, by dsimp only; omega, Or.inl rfl⟩
/-- the smoothed time lies between -/
theorem smS_between {r : Rt} {took : Int} (hh : r.has = true) (h0 : 0 ≤ r.srtt) (h1 : 0 ≤ took) : (r.srtt ≤ smS r took ∨ took ≤ smS r took) ∧ (smS r took ≤ r.srtt ∨ smS r took ≤ took) := by
  unfold smS
  rw [if_pos hh]
  omega
theorem smS_mono (r : Rt) {a b : Int} (h : a ≤ b) : smS r a ≤ smS r b ∧ smS r b - smS r a ≤ b - a := by
  unfold smS
  split <;> omega
theorem pow_pos2 (n : Nat) : (1 : Int) ≤ 2 ^ n := by
  have : (0 : Int) < 2 ^ n := Int.pow_pos (by decide)
  omega
theorem base_nn {r : Rt} (h : RtOk r) : 0 ≤ base r := by have := h.o0; unfold base; split <;> omega
theorem wt_bd {r : Rt} {most : Int} (h : RtOk r) (hm : mostOk most) : 0 ≤ wt r most ∧ wt r most ≤ most := by
  have hb := base_nn h
  have hp := pow_pos2 r.shift.toNat
  have hn : 0 ≤ base r * 2 ^ r.shift.toNat := Int.mul_nonneg hb (by omega)
  unfold wt minI
  rw [if_pos ⟨(rtB_iff r).2 h, hm⟩]
  unfold mostOk at hm
  split <;> omega
theorem wt_now {r : Rt} {most : Int} (h : RtOk r) (hm : mostOk most) (hs : r.shift = 0) (hh : r.has = true) (hr : r.rto ≤ most) : wt r most = r.rto := by
  unfold wt minI base
  rw [if_pos ⟨(rtB_iff r).2 h, hm⟩, hs, if_pos hh]
  show (if most < r.rto * 2 ^ 0 then most else r.rto * 2 ^ 0) = r.rto
  rw [Int.pow_zero, Int.mul_one, if_neg (by omega)]
theorem dbl_valid {r : Rt} (h : RtOk r) : RtOk ⟨r.has, r.srtt, r.vr, r.rto, upS r.shift⟩ := by
  have := h.h0; have := h.h1
  exact ⟨h.s0, h.s1, h.v0, h.v1, h.o0, h.o1, by dsimp only; unfold upS; split <;> omega, by dsimp only; unfold upS; split <;> omega, h.z⟩
/-- doubled it is no less, and at most twice as long -/
theorem wt_dbl {r : Rt} {most : Int} (h : RtOk r) (hm : mostOk most) : wt r most ≤ wt ⟨r.has, r.srtt, r.vr, r.rto, upS r.shift⟩ most ∧ wt ⟨r.has, r.srtt, r.vr, r.rto, upS r.shift⟩ most ≤ 2 * wt r most := by
  have hb := base_nn h
  have h0 := h.h0; have h1 := h.h1
  have hd := dbl_valid h
  unfold wt
  rw [if_pos ⟨(rtB_iff r).2 h, hm⟩, if_pos ⟨(rtB_iff _).2 hd, hm⟩]
  unfold mostOk at hm
  have hbe : base ⟨r.has, r.srtt, r.vr, r.rto, upS r.shift⟩ = base r := rfl
  rw [hbe]
  dsimp only
  have hp := pow_pos2 r.shift.toNat
  have hn : 0 ≤ base r * 2 ^ r.shift.toNat := Int.mul_nonneg hb (by omega)
  obtain ⟨X, hX⟩ : ∃ X, base r * 2 ^ r.shift.toNat = X := ⟨_, rfl⟩
  by_cases c : r.shift < 16
  · have e : (upS r.shift).toNat = r.shift.toNat + 1 := by unfold upS; rw [if_pos c]; omega
    have e2 : base r * 2 ^ (upS r.shift).toNat = 2 * X := by rw [e, Int.pow_succ, ← Int.mul_assoc, hX, Int.mul_comm]
    rw [e2, hX]
    rw [hX] at hn
    unfold minI
    split <;> split <;> omega
  · have e : upS r.shift = r.shift := by unfold upS; rw [if_neg c]
    rw [e, hX]
    rw [hX] at hn
    unfold minI
    split <;> omega
/-- more that is allowed makes what is waited no less -/
theorem wt_most {r : Rt} {a b : Int} (hm : mostOk a) (hm2 : mostOk b) (h : a ≤ b) : wt r a ≤ wt r b := by
  unfold wt
  by_cases c : rtB r = true
  · rw [if_pos ⟨c, hm⟩, if_pos ⟨c, hm2⟩]; unfold minI; split <;> split <;> omega
  · rw [if_neg (fun k => c k.1), if_neg (fun k => c k.1)]; exact Int.le_refl _
theorem sum8 (s t : Int) : (7 * s + t) / 8 = s * 7 / 8 + (7 * (s % 8) % 8 + t) / 8 := by omega
end Go.Proofs.Ytbkmadlekigjfaa
