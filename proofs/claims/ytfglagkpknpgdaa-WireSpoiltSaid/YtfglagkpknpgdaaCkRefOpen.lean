/- The reference of package check: Seal and Open as contracts of the calls. -/
import Derived.Test.YtfglagkpknpgdaaProg
import Derived.Test.YtfglagkpknpgdaaCkLaw
import Derived.Test.YtfglagkpknpgdaaCkDiff
import Derived.WalkKit
import Derived.WalkSpells
import Derived.Lib.Hide
import Derived.Below
import Derived.Outline
import Derived.Deep.RegionWith
import Derived.Deep.DrawnRows
namespace Go.Proofs.Ytfglagkpknpgdaa
open Go.RowKit
set_option linter.unusedVariables false

theorem seal_back {l : List Int} {m : Nat} (hl : l.length = m + 4) (hs : Small l) (h : num4 l = adler (l.drop 4)) : seal4 (l.drop 4) = l := by
  match l, hl with
  | b0 :: b1 :: b2 :: b3 :: t, _ =>
    have h0 := hs b0 (by simp)
    have h1 := hs b1 (by simp)
    have h2 := hs b2 (by simp)
    have h3 := hs b3 (by simp)
    show four (adler t) ++ t = _
    have h' : b0 * 16777216 + b1 * 65536 + b2 * 256 + b3 = adler t := h
    rw [← h']
    unfold four
    simp only [List.cons_append, List.nil_append, List.cons.injEq, and_true]
    omega
theorem head_yes {l : List Int} {m : Nat} (hl : l.length = m + 4) (hs : Small l) (h : num4 l = adler (l.drop 4)) : sameB (four (adler (l.drop 4))) (l.take 4) = true := by
  refine decide_eq_true ?_
  have e := congrArg (List.take 4) (seal_back hl hs h)
  exact e
theorem head_no {l : List Int} (h : num4 l ≠ adler (l.drop 4)) : sameB (four (adler (l.drop 4))) (l.take 4) = false := by
  refine decide_eq_false (fun e => h ?_)
  have e2 : seal4 (l.drop 4) = l := by unfold seal4; rw [e, List.take_append_drop]
  have := num4_seal (l.drop 4)
  rwa [e2] at this

theorem own_four (w : World) (q : Int) (base : Nat) (hb : base ≤ w.heap.size) : (w.alloc (.cells ((four q).map (Value.int .u8)).toArray 5)).ownsRow base 5 1 (.slice (some ⟨w.heap.size, 0, none⟩) 4 4) 4 ((four q).map (Value.int .u8)) :=
  World.ownsRow_lit w _ 4 hb (by unfold maxLen; omega) rfl

set_option maxHeartbeats 1000000 in
theorem rseal_any (A : Option Addr) (n c : Nat) (l : List Int) (w : World) (hr : Sl w A n c l) (hn : n ≤ 1000000) :
    Calls Try.prog 19 #[.slice A n c] w fun e w' => ∃ R d, e = .returned (.slice R (n + 4) d) ∧ Sl w' R (n + 4) d (seal4 l) ∧ Below w.heap.size w w' := by
  obtain ⟨q0, q1⟩ := adler_bd l
  go_enter Try.func19, Try.ntmps19
  go_wp2_with fail
  refine (rsum_any _ _ _ l _ hr.rd hn).mono ?_
  rintro e w1 ⟨rfl, rfl⟩
  go_wp2_with fail
  refine (four_any (adler l) q0 q1 _).mono ?_
  rintro e w2 ⟨rfl, hw2⟩
  have hown := own_four w (adler l) w.heap.size (Nat.le_refl _)
  have b2 : Below w.heap.size w w2 := by rw [← hw2]; exact (Below.refl _ _).alloc (Nat.le_refl _) _
  rw [hw2] at hown
  clear hw2
  go_wp2_with (at_builtin; refine wpList_app _ rfl (.tmp 5) (.tmp 6) 24 rfl w.heap.size 5 Try.underlying24 info_u8 _ 4 (four (adler l)) rfl hown rfl hr.nil (hr.keep b2).rd (by omega) b2.size ?_; intro v3 w3 hown3 hgrow3 hat3; have b3 : Below w.heap.size w w3 := b2.grown hgrow3 b2.size (fun k hk => (hown.lt k hk).1))
  have hg : Got w3 w.heap.size v3 (n + 4) (seal4 l) := ⟨by rw [Nat.add_comm n 4]; exact hown3, seal4_small hr.rd.small⟩
  obtain ⟨R, d, rfl, hsl⟩ := hg.sl
  go_wp2
  go_ret
  exact ⟨R, d, rfl, hsl, b3⟩

set_option maxHeartbeats 1000000 in
theorem ropen_short (A : Option Addr) (n c : Nat) (w : World) (hn : n < 4) :
    Calls Try.prog 26 #[.slice A n c] w fun e w' => e = .returned (.tuple #[.slice none 0 0, .int .i64 7]) ∧ w = w' := by
  go_enter Try.func26, Try.ntmps26
  go_wp2
  go_ret2
  exact ⟨rfl, rfl⟩

attribute [local go_sem ↓] Go.wp_at_zero Go.wp_at_succ

set_option maxHeartbeats 2000000 in
theorem ropen_ok (A : Option Addr) (m d : Nat) (l : List Int) (w : World) (hr : Sl w A (m + 4) (d + 4) l) (hn : m ≤ 1000000) (hne : num4 l = adler (l.drop 4)) :
    Calls Try.prog 26 #[.slice A (m + 4) (d + 4)] w fun e w' => ∃ R d', e = .returned (.tuple #[.slice R m d', .int .i64 0]) ∧ Sl w' R m d' (l.drop 4) ∧ Below w.heap.size w w' := by
  have hb := head_yes hr.rd.len hr.rd.small hne
  have hcut := fun w => run_cut Try.prog 24 5 Try.underlying24 info_u8 A m d w
  have hhead := fun w => run_head Try.prog 24 5 Try.underlying24 info_u8 A (m + 4) d w
  have m1 : decide ((m : Int) + 4 < 4) = false := by simp; omega
  have HB := Lib.hid hb; clear hb hne
  obtain ⟨q0, q1⟩ := adler_bd (l.drop 4)
  go_enter Try.func26, Try.ntmps26
  go_wp2_with (at_builtin; refine wpList_app _ rfl (.const (.slice none 0 0)) (.tmp 10) 24 rfl w.heap.size 5 Try.underlying24 info_u8 (.slice none 0 0) 0 [] rfl (World.ownsRow_nil _ _ _ _) rfl hr.cut.nil hr.cut.rd (by omega) (Nat.le_refl _) ?_; intro v5 w5 hown5 hgrow5 hat5; simp only [Nat.zero_add, List.nil_append] at hown5; have got5 : Got w5 w.heap.size v5 m (l.drop 4) := ⟨hown5, small_drop hr.rd.small 4⟩; obtain ⟨R, dd, rfl, s5⟩ := got5.sl; have b5 : Below w.heap.size w w5 := (Below.refl _ w).grown hgrow5 (Nat.le_refl _) (fun k hk => by cases hk))
  have hh := (hr.keep b5).head
  go_region_with (first
    | (go_at_call 29; refine (rsum_any _ _ _ (l.drop 4) _ (by exact s5.rd.drew) hn).mono ?_; rintro e w' ⟨rfl, rfl⟩)
    | (go_at_call 22; refine (four_any _ q0 q1 _).mono ?_; rintro e w6 ⟨rfl, hw6⟩; have f6 : Rd w6 (some ⟨w5.heap.size, 0, none⟩) 4 (four (adler (l.drop 4))) := (by rw [← hw6]; exact Rd.block w5.drew (four_small _) 5); have b6 : Below w5.heap.size w5 w6 := (by rw [← hw6]; exact ((Below.refl _ w5).drew).alloc (Nat.le_refl _) _); have h6 := hh.rd.keep b6; clear hw6)
    | (go_at_call 12; refine (same_any _ _ _ _ _ _ (four (adler (l.drop 4))) (l.take 4) _ (by exact f6) (by exact h6) (by omega)).mono ?_; rintro e w7 ⟨he, q, hw7⟩; rw [HB.out] at he; subst he; have b7 : Below w6.heap.size w6 w7 := (by rw [hw7]; exact below_drewN (Below.refl _ _) q); clear hw7))
  all_goals go_wp2_with fail
  all_goals go_ret2
  all_goals exact ⟨R, dd, rfl, (s5.keep b6).keep b7, (b5.trans (b6.mono b5.size)).trans (b7.mono (Nat.le_trans b5.size b6.size))⟩

set_option maxHeartbeats 2000000 in
theorem ropen_bad (A : Option Addr) (m d : Nat) (l : List Int) (w : World) (hr : Sl w A (m + 4) (d + 4) l) (hn : m ≤ 1000000) (hne : num4 l ≠ adler (l.drop 4)) :
    Calls Try.prog 26 #[.slice A (m + 4) (d + 4)] w fun e w' => e = .returned (.tuple #[.slice none 0 0, .int .i64 8]) ∧ Below w.heap.size w w' := by
  have hb := head_no hne
  have hcut := fun w => run_cut Try.prog 24 5 Try.underlying24 info_u8 A m d w
  have hhead := fun w => run_head Try.prog 24 5 Try.underlying24 info_u8 A (m + 4) d w
  have m1 : decide ((m : Int) + 4 < 4) = false := by simp; omega
  have HB := Lib.hid hb; clear hb hne
  obtain ⟨q0, q1⟩ := adler_bd (l.drop 4)
  go_enter Try.func26, Try.ntmps26
  go_wp2_with (at_builtin; refine wpList_app _ rfl (.const (.slice none 0 0)) (.tmp 10) 24 rfl w.heap.size 5 Try.underlying24 info_u8 (.slice none 0 0) 0 [] rfl (World.ownsRow_nil _ _ _ _) rfl hr.cut.nil hr.cut.rd (by omega) (Nat.le_refl _) ?_; intro v5 w5 hown5 hgrow5 hat5; simp only [Nat.zero_add, List.nil_append] at hown5; have got5 : Got w5 w.heap.size v5 m (l.drop 4) := ⟨hown5, small_drop hr.rd.small 4⟩; obtain ⟨R, dd, rfl, s5⟩ := got5.sl; have b5 : Below w.heap.size w w5 := (Below.refl _ w).grown hgrow5 (Nat.le_refl _) (fun k hk => by cases hk))
  have hh := (hr.keep b5).head
  go_region_with (first
    | (go_at_call 29; refine (rsum_any _ _ _ (l.drop 4) _ (by exact s5.rd.drew) hn).mono ?_; rintro e w' ⟨rfl, rfl⟩)
    | (go_at_call 22; refine (four_any _ q0 q1 _).mono ?_; rintro e w6 ⟨rfl, hw6⟩; have f6 : Rd w6 (some ⟨w5.heap.size, 0, none⟩) 4 (four (adler (l.drop 4))) := (by rw [← hw6]; exact Rd.block w5.drew (four_small _) 5); have b6 : Below w5.heap.size w5 w6 := (by rw [← hw6]; exact ((Below.refl _ w5).drew).alloc (Nat.le_refl _) _); have h6 := hh.rd.keep b6; clear hw6)
    | (go_at_call 12; refine (same_any _ _ _ _ _ _ (four (adler (l.drop 4))) (l.take 4) _ (by exact f6) (by exact h6) (by omega)).mono ?_; rintro e w7 ⟨he, q, hw7⟩; rw [HB.out] at he; subst he; have b7 : Below w6.heap.size w6 w7 := (by rw [hw7]; exact below_drewN (Below.refl _ _) q); clear hw7))
  all_goals go_wp2_with fail
  all_goals go_ret2
  all_goals exact ⟨rfl, (b5.trans (b6.mono b5.size)).trans (b7.mono (Nat.le_trans b5.size b6.size))⟩

end Go.Proofs.Ytfglagkpknpgdaa
