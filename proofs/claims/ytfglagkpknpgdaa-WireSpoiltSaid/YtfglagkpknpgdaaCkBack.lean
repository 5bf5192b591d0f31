/- Package check: what was sealed is opened (for stages without the law's awake). -/
import Derived.Test.YtfglagkpknpgdaaProg
import Derived.Test.YtfglagkpknpgdaaCkOpen
import Derived.WalkKit
import Derived.WalkSpells
import Derived.Lib.Hide
import Derived.WalkSmall
import Derived.Below
import Derived.Outline
namespace Go.Proofs.Ytfglagkpknpgdaa
open Go.RowKit

theorem num4_seal (l : List Int) : num4 (seal4 l) = adler l := by
  obtain ⟨h0, h1⟩ := adler_bd l
  unfold num4 seal4
  have e0 : byt (four (adler l) ++ l) 0 = adler l / 16777216 % 256 := rfl
  have e1 : byt (four (adler l) ++ l) 1 = adler l / 65536 % 256 := rfl
  have e2 : byt (four (adler l) ++ l) 2 = adler l / 256 % 256 := rfl
  have e3 : byt (four (adler l) ++ l) 3 = adler l % 256 := rfl
  rw [e0, e1, e2, e3]; omega
theorem drop4_seal (l : List Int) : (seal4 l).drop 4 = l := rfl

/-- what was sealed is opened -/
theorem open_sealed (R : Option Addr) (m d : Nat) (l : List Int) (w : World) (hr : Sl w R (m + 4) (d + 4) (seal4 l)) (hm : m ≤ 1000000) :
    Calls Try.prog 24 #[.slice R (m + 4) (d + 4)] w fun e w' => ∃ R' d', e = .returned (.tuple #[.slice R' m d', .int .i64 0]) ∧ Sl w' R' m d' l ∧ Below w.heap.size w w' := by
  have h := open_ok R m d (seal4 l) w hr hm (by rw [drop4_seal]; exact num4_seal l)
  rw [drop4_seal] at h
  exact h
end Go.Proofs.Ytfglagkpknpgdaa
