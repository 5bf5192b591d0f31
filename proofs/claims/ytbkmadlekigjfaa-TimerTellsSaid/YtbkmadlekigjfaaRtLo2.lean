/- Package rtt as landed: moved, measured, timeout, Double, Wait, Sample, as contracts of the calls. -/
import Derived.Test.YtbkmadlekigjfaaRtLo1
import Derived.WalkKit
import Derived.WalkSpells
import Derived.WalkSmall
import Derived.Lib.Hide
import Derived.Below
import Derived.Outline
namespace Go.Proofs.Ytbkmadlekigjfaa
open Go.RowKit
set_option linter.unusedVariables false
set_option linter.unusedSimpArgs false

theorem ew_in (old sample : Int) (k : Nat) (hk : k ≤ 30) (h0 : 0 ≤ old) (h1 : old ≤ 1152921504606846976) (h2 : 0 ≤ sample) (h3 : sample ≤ 1152921504606846976) : tell (ewR old sample (k : Int)) (ewOk old sample (k : Int)) = old + (sample - old) / 2 ^ k := by
  have hb := ew_between old sample k
  have hin : inB (old + (sample - old) / 2 ^ k) = true := by
    rw [inB_iff]
    rcases Int.le_total old sample with h | h
    · have := hb.1 h; omega
    · have := hb.2 h; omega
  have hr : ewR old sample (k : Int) = old + (sample - old) / 2 ^ k := by unfold ewR; rw [Int.toNat_natCast]
  have ho : ewOk old sample (k : Int) = true := by
    unfold ewOk
    rw [(inB_iff old).2 (by omega), (inB_iff sample).2 (by omega), (inB_iff (sample - old)).2 (by omega)]
    simp only [Bool.true_and, Bool.and_eq_true, decide_eq_true_eq]
    omega
  rw [ho, hr]; rfl

theorem rgrown_set (W : World) (p : Addr) (u : Value) : W.grownBy (W.setCell p u) (some p.block) :=
  ⟨rfl, rfl, rfl, by simp, fun i hi hne => Below.heap_setCell W p u i (fun e => hne (by rw [e]))⟩

theorem smS_move (srtt took : Int) : srtt + (took - srtt) / 2 ^ 3 = (7 * srtt + took) / 8 := by
  have : (2 : Int) ^ 3 = 8 := rfl
  rw [this]; omega
theorem smV_move (vr off : Int) : vr + (off - vr) / 2 ^ 2 = (3 * vr + off) / 4 := by
  have : (2 : Int) ^ 2 = 4 := rfl
  rw [this]; omega

end Go.Proofs.Ytbkmadlekigjfaa
