/- The laws of package check: small contracts that several laws use. -/
import Derived.Test.YtfglagkpknpgdaaProg
import Derived.Test.YtfglagkpknpgdaaCkBack
import Derived.WalkKit
import Derived.WalkSpells
import Derived.Lib.Hide
import Derived.Below
namespace Go.Proofs.Ytfglagkpknpgdaa
open Go.RowKit

theorem same_yes (A B : Option Addr) (n c c' : Nat) (l : List Int) (w : World) (hr : Rd w A n l) (hs : Rd w B n l) (hn : n ≤ 9223372036854775807) :
    Calls Try.prog 12 #[.slice A n c, .slice B n c'] w fun e w' => e = .returned (.bool true) ∧ Below w.heap.size w w' :=
  (same_any A B n c n c' l l w hr hs hn).mono fun e w' ⟨he, q, hw⟩ => ⟨by rw [he]; unfold sameB; simp, by rw [hw]; exact below_drewN (Below.refl _ _) q⟩
theorem same_no (A B : Option Addr) (n c n' c' : Nat) (l m : List Int) (w : World) (hr : Rd w A n l) (hs : Rd w B n' m) (hn : n ≤ 9223372036854775807) (hne : l ≠ m) :
    Calls Try.prog 12 #[.slice A n c, .slice B n' c'] w fun e w' => e = .returned (.bool false) ∧ Below w.heap.size w w' :=
  (same_any A B n c n' c' l m w hr hs hn).mono fun e w' ⟨he, q, hw⟩ => ⟨by rw [he]; unfold sameB; simp [hne], by rw [hw]; exact below_drewN (Below.refl _ _) q⟩

theorem cap4 {w : World} {R : Option Addr} {m d : Nat} {l : List Int} (h : Sl w R (m + 4) d l) : ∃ e, d = e + 4 := ⟨d - 4, by have := h.le; omega⟩
end Go.Proofs.Ytfglagkpknpgdaa
