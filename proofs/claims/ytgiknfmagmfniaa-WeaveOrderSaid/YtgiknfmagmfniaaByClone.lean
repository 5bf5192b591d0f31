/- bytes.Clone as a contract of the call. -/
import Derived.Test.YtgiknfmagmfniaaProg
import Derived.Test.YtgiknfmagmfniaaBy
import Derived.WalkKit
import Derived.WalkSpells
import Derived.Lib.Hide
import Derived.WalkSmall
import Derived.Below
import Derived.Outline
import Derived.Deep.QuietTactic
import Derived.BigQuiet
namespace Go.Proofs.Ytgiknfmagmfniaa
open Go.RowKit

set_option maxHeartbeats 1000000 in
theorem clone_any (A : Option Addr) (n c : Nat) (l : List Int) (w : World) (hr : Sl w A n c l) (hn : n ≤ 1000000) :
    Calls Try.prog 42 #[.slice A n c] w fun e w' => ∃ R d, e = .returned (.slice R n d) ∧ Sb w' w.heap.size R n d l ∧ Below w.heap.size w w' := by
  have qn := fun (w : World) (a : Option Addr) (n c n' c' : Nat) => Lib.run_eql_slice_nil (P := Try.prog) w _ _ a n c n' c' Try.underlying22
  cases A with
  | none =>
    have hc := hr.nil rfl
    have hle := hr.le
    obtain rfl : n = 0 := by omega
    have hz := hr.rd.len
    obtain rfl : l = [] := List.eq_nil_of_length_eq_zero hz
    clear hc hle hz
    go_enter Try.func42, Try.ntmps42
    go_wp2
    go_ret
    exact ⟨none, 0, rfl, Sb.none _ _, Below.refl _ _⟩
  | some a =>
    have hmade : (w.alloc (.cells #[] 5)).ownsRow w.heap.size 5 1 (.slice (some ⟨w.heap.size, 0, none⟩) 0 0) 0 (List.map (Value.int .u8) []) := World.ownsRow_made w #[] 0 (Nat.le_refl _) (Nat.zero_le _) rfl
    go_enter Try.func42, Try.ntmps42
    go_wp2_with (at_builtin; refine wpList_app _ rfl (.tmp 5) (.tmp 6) 22 rfl w.heap.size 5 Try.underlying22 info_u8 _ 0 [] rfl hmade rfl hr.nil (hr.rd.alloc _) (by omega) (by simp) ?_; intro v1 w1 hown1 hgrow1 hat1)
    have b1 : Below w.heap.size w w1 := ((Below.refl _ _).alloc (Nat.le_refl _) _).grown hgrow1 (by simp) (fun k hk => (hmade.lt k hk).1)
    have hg : Got w1 w.heap.size v1 n l := ⟨by simpa using hown1, hr.rd.small⟩
    obtain ⟨R, d, rfl, hsl⟩ := hg.sb
    go_wp2
    go_ret
    exact ⟨R, d, rfl, hsl, b1⟩

end Go.Proofs.Ytgiknfmagmfniaa
