/- Package rate as it landed: perSecond and joined as contracts of the call. -/
import Derived.Test.YtphkenicbbcjjaaRaL1
import Derived.Test.YtphkenicbbcjjaaRaRef3
import Derived.Test.YtphkenicbbcjjaaMul
import Derived.Test.YtphkenicbbcjjaaRaTell
namespace Go.Proofs.Ytphkenicbbcjjaa
open Go.RowKit
set_option linter.unusedVariables false
set_option linter.unusedSimpArgs false

theorem raret_i {a b : Int} (h : a = b) : Ending.returned (.int .i64 a) = .returned (.int .i64 b) := by rw [h]

set_option maxRecDepth 100000 in
set_option maxHeartbeats 4000000 in
theorem persec_any (aa dd : Int) (w : World) (h0 : 0 ≤ aa) (h1 : aa ≤ 1152921504606846976) (h2 : 0 < dd) (h3 : dd ≤ 1152921504606846976) :
    Calls Try.prog 23 #[.int .i64 aa, .int .i64 dd] w fun e w' => e = .returned (.int .i64 (numR aa dd)) ∧ Below w.heap.size w w' := by
  have hmd := num_md h0 h1 h2 h3
  obtain ⟨q, hq⟩ : ∃ q, 1000000 * aa / dd = q := ⟨_, rfl⟩
  have hnr : numR aa dd = if 1152921504606846976 < q then 1152921504606846976 else q := by unfold numR; rw [hq]
  rw [hq] at hmd
  obtain ⟨nr, hnre⟩ : ∃ nr, numR aa dd = nr := ⟨_, rfl⟩
  rw [hnre] at hnr
  rw [hnre]
  obtain ⟨ok, hokd⟩ : ∃ ok, mdOk 1000000 aa dd = ok := ⟨_, rfl⟩
  rw [hokd] at hmd
  have mm := md_any 1000000 aa dd w
  rw [hq, hokd] at mm
  obtain ⟨tq, htq⟩ : ∃ tq, tell q ok = tq := ⟨_, rfl⟩
  rw [htq] at mm
  have hcase : (ok = false ∧ nr = 1152921504606846976) ∨ (ok = true ∧ 1152921504606846976 < tq ∧ nr = 1152921504606846976) ∨ (ok = true ∧ tq ≤ 1152921504606846976 ∧ nr = tq) := by
    rcases hmd with ⟨g1, g3⟩ | ⟨g1, g3⟩
    · rw [htq] at g3
      subst g3
      split at hnr
      · exact .inr (.inl ⟨g1, by assumption, hnr⟩)
      · exact .inr (.inr ⟨g1, by omega, hnr⟩)
    · rw [if_pos g3] at hnr
      exact .inl ⟨g1, hnr⟩
  clear htq hmd hnr hq hnre hokd h0 h1 h2 h3
  rcases hcase with ⟨k1, k2⟩ | ⟨k1, k3, k2⟩ | ⟨k1, k3, k2⟩
  · subst k1; subst k2
    go_enter Try.func23, Try.ntmps23
    go_wp2_with (go_at_call 28; refine mm.mono ?_; rintro e wx ⟨rfl, hb⟩)
    go_ret
    exact ⟨rfl, hb⟩
  · subst k1; subst k2
    have d1 : ¬ tq ≤ 1152921504606846976 := by omega
    have d2 : (1152921504606846976 : Int) ≤ tq := by omega
    have d3 : (1152921504606846976 : Int) < tq := by omega
    clear k3
    go_enter Try.func23, Try.ntmps23
    go_wp2_with (go_at_call 28; refine mm.mono ?_; rintro e wx ⟨rfl, hb⟩)
    all_goals (go_ret; exact ⟨raret_i (by omega), hb⟩)
  · subst k1; subst k2
    have d1 : nr ≤ 1152921504606846976 := by omega
    clear k3
    go_enter Try.func23, Try.ntmps23
    go_wp2_with (go_at_call 28; refine mm.mono ?_; rintro e wx ⟨rfl, hb⟩)
    all_goals (go_ret; exact ⟨raret_i (by omega), hb⟩)

set_option maxRecDepth 100000 in
set_option maxHeartbeats 4000000 in
theorem joined_any (A : Option Addr) (n c : Nat) (l : List Int) (x : Int) (w : World) (hs : Si w A n c l) (hn : n ≤ 10) (hx : Hid (W64 x)) :
    Calls Try.prog 24 #[.slice A n c, .int .i64 x] w fun e w' => ∃ R m d, e = .returned (.slice R m d) ∧ Goti w' w.heap.size 3 (.slice R m d) m (pushR l x) ∧ Below w.heap.size w w' := by
  obtain ⟨B, hB⟩ : ∃ B, w.heap.size = B := ⟨_, rfl⟩
  rw [hB]
  have HB := Lib.hid hB
  have hl := hs.rd.len
  have hle := hs.le
  have hmax := hs.max
  have HL := Lib.hid hl; have HS := Lib.hid hs
  clear hl hs hB
  have hsplit : n = 10 ∨ n < 10 := by omega
  rcases hsplit with h10 | h10
  · obtain ⟨d, rfl⟩ : ∃ d, c = d + 1 := ⟨c - 1, by omega⟩
    have hd9 : 9 ≤ d := by omega
    subst h10
    have hcut : ∀ w, (Instr.slice 22 (.slice A 10 (d + 1)) (some (.int .i64 1)) none none).run Try.prog w = .ok (.slice (cutI A 1 (d + 1)) 9 d) w := fun w => run_cutI Try.prog 22 3 Try.underlying22 info_int A 1 9 d w (by omega) hd9
    have sc : Si w (cutI A 1 (d + 1)) 9 d (l.drop 1) := HS.out.cut (k := 1) (m := 9) (d := d) rfl rfl
    have HC := Lib.hid sc; clear sc
    have hm1 : max (0 : Int) 1 = 1 := rfl
    go_enter Try.func24, Try.ntmps24
    go_upto_region 2 with fail
    go_wp2_with fail
    refine (raclone_any _ 9 d _ w HC.out (by omega)).mono ?_
    rintro e w2 ⟨R, d2, rfl, hg, hb⟩
    rw [HB.out] at hg hb
    have h2 : B ≤ w2.heap.size := by have := hb.size; rw [HB.out] at this; exact this
    have HG := Lib.hid hg; have HW := Lib.hid hb
    clear hg hb
    go_wp2_with (at_builtin; go_loud (refine wpList_appi _ rfl (.tmp 14) (.tmp 16) 22 rfl B 3 Try.underlying22 info_int _ _ _ rfl (HG.out.alloc (.cells #[.int .i64 x] 3)) rfl (fun h => by cases h) (ri_one w2 hx.out 3) (by omega) (by simp; omega) ?_; intro v' w5 hg' hgrow' hown'))
    obtain ⟨R2, c2, hv', hs2⟩ := hg'.si
    subst hv'
    have b5 : Below B w w5 := (HW.out.alloc h2 (.cells #[.int .i64 x] 3)).grown hgrow' (by simp; omega) (fun k h => by have := (HG.out.row.lt k h).1; omega)
    have hpush : pushR l x = l.drop 1 ++ [x] := by rw [push_full HL.out, List.drop_append_of_le_length (by rw [HL.out]; omega)]
    rw [hpush]
    go_ret
    exact ⟨R2, _, c2, rfl, hg', b5⟩
  · have hm0 : max (0 : Int) ((n : Int) - 9) = 0 := by omega
    have hm1 : max (0 : Int) ((n : Int) + 1 - 10) = 0 := by omega
    have hcut : ∀ w, (Instr.slice 22 (.slice A n c) (some (.int .i64 0)) none none).run Try.prog w = .ok (.slice (cutI A 0 c) n c) w := fun w => run_cutI Try.prog 22 3 Try.underlying22 info_int A 0 n c w (by omega) hle
    have sc : Si w (cutI A 0 c) n c (l.drop 0) := HS.out.cut (k := 0) (m := n) (d := c) rfl rfl
    rw [List.drop_zero] at sc
    have HC := Lib.hid sc; clear sc
    have i1 : IntKind.i64.wrap ((n : Int) + 1) = (n : Int) + 1 := IntWalk.i64_in _ (by omega)
    have i2 : IntKind.i64.wrap ((n : Int) + 1 - 10) = (n : Int) + 1 - 10 := IntWalk.i64_in _ (by omega)
    go_enter Try.func24, Try.ntmps24
    go_upto_region 2 with fail
    go_wp2_with fail
    refine (raclone_any _ n c _ w HC.out (by omega)).mono ?_
    rintro e w2 ⟨R, d2, rfl, hg, hb⟩
    rw [HB.out] at hg hb
    have h2 : B ≤ w2.heap.size := by have := hb.size; rw [HB.out] at this; exact this
    have HG := Lib.hid hg; have HW := Lib.hid hb
    clear hg hb
    go_wp2_with (at_builtin; go_loud (refine wpList_appi _ rfl (.tmp 14) (.tmp 16) 22 rfl B 3 Try.underlying22 info_int _ _ _ rfl (HG.out.alloc (.cells #[.int .i64 x] 3)) rfl (fun h => by cases h) (ri_one w2 hx.out 3) (by omega) (by simp; omega) ?_; intro v' w5 hg' hgrow' hown'))
    obtain ⟨R2, c2, hv', hs2⟩ := hg'.si
    subst hv'
    have b5 : Below B w w5 := (HW.out.alloc h2 (.cells #[.int .i64 x] 3)).grown hgrow' (by simp; omega) (fun k h => by have := (HG.out.row.lt k h).1; omega)
    have hpush : pushR l x = l ++ [x] := push_room (by rw [HL.out]; exact h10)
    rw [hpush]
    go_ret
    exact ⟨R2, _, c2, rfl, hg', b5⟩
end Go.Proofs.Ytphkenicbbcjjaa
