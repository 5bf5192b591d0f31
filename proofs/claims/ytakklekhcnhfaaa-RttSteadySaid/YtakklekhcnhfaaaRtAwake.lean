/- Package rtt: awake as a contract of the call. -/
import Derived.Test.YtakklekhcnhfaaaRtLo4
import Derived.WalkKit
import Derived.WalkSpells
import Derived.WalkSmall
import Derived.Lib.Hide
import Derived.Below
import Derived.Outline
namespace Go.Proofs.Ytakklekhcnhfaaa
open Go.RowKit
set_option linter.unusedVariables false
set_option linter.unusedSimpArgs false

theorem smp0 : smp zrt 80000 1 1000000 = ((⟨true, 80000, 40000, 240000, 0⟩ : Rt), 0) := by
  have h : rtB zrt = true := (rtB_iff _).2 ⟨by decide, by decide, by decide, by decide, by decide, by decide, by decide, by decide, Or.inr ⟨rfl, rfl⟩⟩
  rw [smp_ok h ⟨by decide, by decide, by decide, by decide, by decide⟩]
  rfl
theorem ok0 : RtOk (⟨true, 80000, 40000, 240000, 0⟩ : Rt) := ⟨by decide, by decide, by decide, by decide, by decide, by decide, by decide, by decide, Or.inl rfl⟩
theorem wt0 : wt (⟨true, 80000, 40000, 240000, 0⟩ : Rt) 1000000 = 240000 := wt_now ok0 ⟨by decide, by decide⟩ rfl rfl (by decide)
set_option maxRecDepth 100000 in
set_option maxHeartbeats 2000000 in
theorem awake_any (w : World) :
    Calls Try.prog 9 #[] w fun e w' => e = .returned (.bool true) ∧ Below w.heap.size w w' := by
  have hs := Lib.hid smp0; have hw := Lib.hid wt0; have hm := Lib.hid ((rtB_iff _).2 ok0)
  go_enter Try.func9, Try.ntmps9
  go_wp2_with fail
  refine (rtsample_any false 0 0 0 0 80000 1 1000000 _).mono ?_
  rintro e w1 ⟨he, b1⟩
  have he' : e = .returned (.tuple #[.agg #[.bool (smp zrt 80000 1 1000000).1.has, .int .i64 (smp zrt 80000 1 1000000).1.srtt, .int .i64 (smp zrt 80000 1 1000000).1.vr, .int .i64 (smp zrt 80000 1 1000000).1.rto, .int .i64 (smp zrt 80000 1 1000000).1.shift], .int .i64 (smp zrt 80000 1 1000000).2]) := he
  rw [hs.out] at he'
  dsimp only at he'
  subst he'
  have e2 := Bx.new w1 23 [.bool true, .int .i64 80000, .int .i64 40000, .int .i64 240000, .int .i64 0]
  have b2 := b1.alloc b1.size (.cells #[.bool true, .int .i64 80000, .int .i64 40000, .int .i64 240000, .int .i64 0] 23)
  go_wp2_with (first
    | (refine rt_load rfl (.tmp 1) rfl rfl e2 rfl ?_)
    | (go_at_call 14; refine (rtwait_any true 80000 40000 240000 0 1000000 _).mono ?_; rintro e w3 ⟨he3, hb3⟩; rw [hw.out] at he3; subst he3; have e3 := e2.kept hb3; have b3 := b2.trans (hb3.mono b2.size); have x0 := e3.cell 0 rfl; have x1 := e3.cell 1 rfl; have x2 := e3.cell 2 rfl; have x3 := e3.cell 3 rfl; have x4 := e3.cell 4 rfl)
    | (go_at_call 16; refine (rtmay_any true 80000 40000 240000 0 _).mono ?_; rintro e w4 ⟨he4, hb4⟩; rw [hm.out] at he4; subst he4))
  go_ret
  exact ⟨rfl, b3.trans (hb4.mono b3.size)⟩
end Go.Proofs.Ytakklekhcnhfaaa
