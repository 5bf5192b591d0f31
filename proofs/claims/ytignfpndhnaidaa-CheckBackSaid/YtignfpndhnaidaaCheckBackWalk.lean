/- The walk of the law CheckBack: every byte slice, every place, every byte. -/
import Derived.Test.YtignfpndhnaidaaProg
import Derived.Test.YtignfpndhnaidaaCkLaw
import Derived.Test.YtignfpndhnaidaaCkDiff
import Derived.WalkKit
import Derived.WalkSpells
import Derived.Lib.Hide
import Derived.Below
import Derived.Outline
import Derived.Deep.AppendLies
namespace Go.Proofs.Ytignfpndhnaidaa.checkBack
open Go.RowKit

set_option linter.unusedVariables false

set_option maxRecDepth 100000 in
set_option maxHeartbeats 4000000 in
theorem walk (a0 : Option Addr) (n0 c0 : Nat) (l0 : List Int) (i y : Int) (w : World) (h0 : Sl w a0 n0 c0 l0) (hi : (Lit.int .i64 i).wf = true) (hy : (Lit.int .u8 y).wf = true) :
    Calls Try.prog 4 #[.slice a0 n0 c0, .int .i64 i, .int .u8 y] w fun e w' => e = .returned (.bool true) ∧ Below w.heap.size w w' := by
  have hy2 : 0 ≤ y ∧ y < 256 := by
    simp [Lit.wf, IntKind.min, IntKind.max, IntKind.signed, IntKind.bits] at hy
    omega
  clear hi hy
  obtain ⟨y0, y1⟩ := hy2
  by_cases hn : n0 ≤ 3000
  · go_enter Try.func4, Try.ntmps4
    go_wp2_with fail
    refine (awake_any _).mono ?_
    rintro e w1 ⟨rfl, b1⟩
    go_wp2_with fail
    refine (seal_any _ _ _ l0 _ (h0.keep b1) (by omega)).mono ?_
    rintro e w2 ⟨R, d, rfl, s2, hb2⟩
    obtain ⟨d, rfl⟩ := cap4 s2
    have b2 := b1.trans (hb2.mono b1.size)
    go_wp2_with fail
    refine (open_sealed _ _ _ l0 _ s2 (by omega)).mono ?_
    rintro e w3 ⟨R3, d3, rfl, s3, hb3⟩
    have b3 := b2.trans (hb3.mono b2.size)
    go_wp2_with fail
    refine (same_yes _ _ _ _ _ l0 _ s3.rd (h0.keep b3).rd (by omega)).mono ?_
    rintro e w4 ⟨rfl, hb4⟩
    have b4 := b3.trans (hb4.mono b3.size)
    have s4 := (s2.keep hb3).keep hb4
    have hx : ((n0 : Int) + 4 != (n0 : Int) + 4) = false := by simp
    clear s2 s3 hb2 hb3 hb4 b1 b2 b3
    by_cases q1 : i < 0
    · go_wp2_with fail
      go_ret
      exact ⟨rfl, b4⟩
    · by_cases q2 : (n0 : Int) + 4 ≤ i
      · go_wp2_with fail
        go_ret
        exact ⟨rfl, b4⟩
      · by_cases q3 : y = 0
        · subst q3
          go_wp2_with fail
          go_ret
          exact ⟨rfl, b4⟩
        · have q3' : (y == 0) = false := by simpa using q3
          obtain ⟨k, rfl⟩ := Int.eq_ofNat_of_zero_le (show 0 ≤ i by omega)
          obtain ⟨z, hz⟩ : ∃ z, byt (seal4 l0) k = z := ⟨_, rfl⟩
          have hzb := byt_bd s4.rd.small k
          rw [hz] at hzb
          obtain ⟨z0, z1⟩ := hzb
          obtain ⟨f0, f1, f2⟩ := xor_facts z0 z1 y0 y1 q3
          obtain ⟨x, hxx⟩ : ∃ x, bits BinOp.xor IntKind.u8 z y = x := ⟨_, rfl⟩
          rw [hxx] at f0 f1 f2
          have hch := changed h0.rd.small (i := k) (z := x) (by rw [h0.rd.len]; omega) f0 f1 (by rw [hz]; exact f2)
          have HC := Lib.hid hch; clear hch
          have HZ := Lib.hid hz; clear hz
          have hf2 := Lib.hid f2; clear f2
          have hq3 := Lib.hid q3; clear q3
          have k1 : k < n0 + 4 := by omega
          go_wp2_with (at_builtin; refine wpList_app _ rfl (.const (.slice none 0 0)) (.tmp 60) 23 rfl w4.heap.size 5 Try.underlying23 info_u8 (.slice none 0 0) 0 [] rfl (World.ownsRow_nil _ _ _ _) rfl s4.nil s4.rd (by omega) (Nat.le_refl _) ?_; intro v5 w5 hown5 hgrow5 hat5; simp only [Nat.zero_add, List.nil_append] at hown5; obtain ⟨g, cp, rfl, hg5, hlt5⟩ := hown5.form (by omega); have got5 : Got w5 w4.heap.size (.slice (some ⟨g, 0, none⟩) (n0 + 4) cp) (n0 + 4) (seal4 l0) := ⟨hown5, s4.rd.small⟩; obtain ⟨b', o', hbo, _, hcl⟩ := got5.sl_at.rd.at_ (by omega); cases hbo; have hce := hcl k k1; rw [HZ.out, Nat.zero_add] at hce; have hfr := hown5.frozenAt k; clear hcl; have b5 : Below w4.heap.size w4 w5 := (Below.refl _ _).grown hgrow5 (Nat.le_refl _) (fun k hk => by cases hk))
          have s6 := (got_set (i := k) got5 f0 f1).sl_at
          obtain ⟨cp, rfl⟩ := cap4 s6
          refine (open_bad _ _ _ ((seal4 l0).set k x) _ s6 (by omega) HC.out).mono ?_
          rintro e w7 ⟨rfl, hb7⟩
          have b6 : Below w4.heap.size w4 (w5.setCell ⟨g, k, none⟩ (.int .u8 x)) := b5.setCell (by exact hg5) _
          have b7 := b6.trans (hb7.mono b6.size)
          go_wp2_with fail
          go_ret
          exact ⟨rfl, b4.trans (b7.mono b4.size)⟩
  · have hn' : (3000 : Int) < (n0 : Int) := by omega
    go_enter Try.func4, Try.ntmps4
    go_wp2_with fail
    refine (awake_any _).mono ?_
    rintro e w1 ⟨rfl, b1⟩
    go_wp2_with fail
    go_ret
    exact ⟨rfl, b1⟩
end Go.Proofs.Ytignfpndhnaidaa.checkBack
