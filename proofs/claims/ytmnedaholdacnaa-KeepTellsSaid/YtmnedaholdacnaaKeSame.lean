/- The reference of package keep: Same of two that are the same. -/
import Derived.Test.YtmnedaholdacnaaProg
import Derived.Test.YtmnedaholdacnaaKe
import Derived.Test.YtmnedaholdacnaaBySame
import Derived.WalkKit
import Derived.WalkSpells
import Derived.WalkSmall
import Derived.Lib.Hide
import Derived.Below
import Derived.Outline
namespace Go.Proofs.Ytmnedaholdacnaa
open Go.RowKit

set_option maxHeartbeats 1000000 in
theorem ksame_yes (base : Int) (A : Option Addr) (n c : Nat) (cap : Int) (sh : Bool) (A' : Option Addr) (c' : Nat) (l : List Int) (w : World) (hr : Rd w A n l) (hs : Rd w A' n l) (hn : n ≤ 9223372036854775807) :
    Calls Try.prog 11 #[.agg #[.int .i64 base, .slice A n c, .int .i64 cap, .bool sh], .agg #[.int .i64 base, .slice A' n c', .int .i64 cap, .bool sh]] w fun e w' => e = .returned (.bool true) ∧ Below w.heap.size w w' := by
  have e0 := (Boxed4.new w 24 (.int .i64 base) (.slice A n c) (.int .i64 cap) (.bool sh)).alloc (.cells #[.int .i64 base, .slice A' n c', .int .i64 cap, .bool sh] 24)
  have r0 := Boxed4.new (w.alloc (.cells #[.int .i64 base, .slice A n c, .int .i64 cap, .bool sh] 24)) 24 (.int .i64 base) (.slice A' n c') (.int .i64 cap) (.bool sh)
  have hb : Below w.heap.size w ((w.alloc (.cells #[.int .i64 base, .slice A n c, .int .i64 cap, .bool sh] 24)).alloc (.cells #[.int .i64 base, .slice A' n c', .int .i64 cap, .bool sh] 24)) := ((Below.refl _ _).alloc (Nat.le_refl _) _).alloc (by simp) _
  rw [World.size_alloc] at r0
  have h1 := hr.keep hb
  have h2 := hs.keep hb
  have x1 := e0.c1
  have y1 := r0.c1
  go_enter Try.func11, Try.ntmps11
  go_wp2_with fail
  refine (same_yes _ _ _ _ _ l _ h1 h2 hn).mono ?_
  rintro e w1 ⟨rfl, hb1⟩
  clear x1 y1
  have e1 := e0.kept hb1
  have r1 := r0.kept hb1
  have x0 := e1.c0
  have x2 := e1.c2
  have x3 := e1.c3
  have y0 := r1.c0
  have y2 := r1.c2
  have y3 := r1.c3
  cases sh
  all_goals go_wp2_with fail
  all_goals go_ret
  all_goals exact ⟨rfl, hb.trans (hb1.mono hb.size)⟩
end Go.Proofs.Ytmnedaholdacnaa
