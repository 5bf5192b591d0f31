/- Package keep: what a buffer is; blocks of four cells; between as a contract of the call. -/
import Derived.Test.YtmnedaholdacnaaProg
import Derived.Test.YtmnedaholdacnaaKe
import Derived.WalkKit
import Derived.WalkSpells
import Derived.WalkSmall
import Derived.Lib.Hide
import Derived.Below
import Derived.Outline
import Derived.Deep.RegionHeld3
namespace Go.Proofs.Ytmnedaholdacnaa
open Go.RowKit

theorem idx_le (base : Int) (n : Nat) (p : Int) : idx base n p ≤ n := by unfold idx; omega
theorem idx_mono (base : Int) (n : Nat) {p q : Int} (h : p ≤ q) : idx base n p ≤ idx base n q := by unfold idx; omega

set_option maxHeartbeats 1000000 in
theorem between_any (base : Int) (A : Option Addr) (n c : Nat) (cap : Int) (sh : Bool) (l : List Int) (p q : Int) (k j m : Nat) (w : World) (h0 : 0 ≤ base) (h1 : base ≤ 2305843009213693952) (hp : p ≤ 9223372036854775807) (hq : q ≤ 9223372036854775807) (hn : n ≤ 1000000) (hs : Sl w A n c l)
    (ek : idx base n p = k) (ej : idx base n q = j) (em : j = m + k) :
    Calls Try.prog 24 #[.slice A n c, .func (.func 25) #[.agg #[.int .i64 base, .slice A n c, .int .i64 cap, .bool sh]] #[], .int .i64 p, .int .i64 q] w fun e w' => ∃ R d, e = .returned (.slice R m d) ∧ Sb w' w.heap.size R m d ((l.take j).drop k) ∧ Below w.heap.size w w' := by
  have hj : j ≤ n := by rw [← ej]; exact idx_le _ _ _
  have hcut := fun w => run_cut3 Try.prog 22 5 Try.underlying22 info_u8 A n c k j m w (by have := hs.le; omega) em
  have HM : m ≤ n := by omega
  have EM := Lib.hid em; clear em
  go_enter Try.func24, Try.ntmps24
  go_wp2_with fail
  refine (index_any base A n c cap sh p _ h0 h1 hp (by omega)).mono ?_
  rintro e w1 ⟨rfl, hb1⟩
  rw [ek]
  go_wp2_with fail
  refine (index_any base A n c cap sh q _ h0 h1 hq (by omega)).mono ?_
  rintro e w2 ⟨rfl, hb2⟩
  rw [ej]
  have b2 := hb1.trans (hb2.mono hb1.size)
  have s3 := (hs.keep b2).cut3 hj EM.out
  go_wp2_with fail
  refine (clone_any _ _ _ _ _ s3 (by omega)).mono ?_
  rintro e w3 ⟨R, d, rfl, s4, hb3⟩
  go_wp2_with fail
  go_ret
  exact ⟨R, d, rfl, s4.mono b2.size, b2.trans (hb3.mono b2.size)⟩
end Go.Proofs.Ytmnedaholdacnaa
