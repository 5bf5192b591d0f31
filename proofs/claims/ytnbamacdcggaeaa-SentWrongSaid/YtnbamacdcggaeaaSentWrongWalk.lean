/- SentWrong: the walk. -/
import Derived.Test.YtnbamacdcggaeaaStAwake
import Derived.Test.YtnbamacdcggaeaaStMath
import Derived.WalkKit
import Derived.WalkSpells
import Derived.WalkSmall
import Derived.Lib.Hide
import Derived.Below
import Derived.Outline
import Derived.Deep.QuietTactic
import Derived.BigQuiet
import Derived.IntWalk
import Derived.Deep.DeepCutAuto
import Derived.OwnWalk
namespace Go.Proofs.Ytnbamacdcggaeaa.sentWrong
open Go.RowKit
set_option linter.unusedVariables false
set_option linter.unusedSimpArgs false

theorem heard_wrong {l : List Prt} {got : Int} {sk : List Sp} (h : l.length = 0 ∨ got < (spanR l).1 ∨ (spanR l).2 < got ∨ outB (spanR l) sk = true) : ∃ e, e ≠ 0 ∧ heardR l got sk = ([], [], e) := by
  by_cases k : smayB l = true ∧ mayB sk = true
  · exact ⟨3, by decide, heard_none k h⟩
  · exact ⟨1, by decide, heard_no k⟩
theorem outB_snoc (s : Int × Int) (l : List Sp) (p : Sp) : outB s (l ++ [p]) = (outB s l || outP s p) := by unfold outB; simp

set_option maxRecDepth 100000 in
set_option maxHeartbeats 8000000 in
theorem walk (A : Option Addr) (n c : Nat) (l : List Prt) (got : Int) (A' : Option Addr) (n' c' : Nat) (sk : List Sp) (w : World) (hs : Se w A n c l) (hk : Ss w A' n' c' sk) :
    Calls Try.prog 6 #[.slice A n c, .int .i64 got, .slice A' n' c'] w fun e w' => e = .returned (.bool true) ∧ Below w.heap.size w w' := by
  obtain ⟨B, hB⟩ : ∃ B, w.heap.size = B := ⟨_, rfl⟩
  rw [hB]
  have hl := hs.rd.len; have hkl := hk.rd.len
  have m1 := hs.le; have m2 := hs.max; have m4 := hk.le; have m5 := hk.max
  unfold maxLen at m2 m5
  have HL := Lib.hid hl; have HKL := Lib.hid hkl; have HA := Lib.hid hs; have HK := Lib.hid hk; have HB := Lib.hid hB
  clear hl hkl hs hk
  go_enter Try.func6, Try.ntmps6
  by_cases hn : 520 < n
  · have d1 : decide ((520 : Int) < (n : Int)) = true := decide_eq_true (by omega)
    have d2 : decide (520 < n) = true := decide_eq_true hn
    go_wp2_with (go_at_call 9; refine (staw_any _).mono ?_; rintro e w1 ⟨rfl, hb1⟩)
    go_ret
    exact ⟨rfl, hB ▸ hb1⟩
  have d1 : decide ((520 : Int) < (n : Int)) = false := decide_eq_false (by omega)
  have d2 : decide (520 < n) = false := decide_eq_false hn
  by_cases hn' : 50 < n'
  · have d3 : decide ((50 : Int) < (n' : Int)) = true := decide_eq_true (by omega)
    have d4 : decide (50 < n') = true := decide_eq_true hn'
    clear hn
    go_wp2_with (go_at_call 9; refine (staw_any _).mono ?_; rintro e w1 ⟨rfl, hb1⟩)
    go_ret
    exact ⟨rfl, hB ▸ hb1⟩
  have d3 : decide ((50 : Int) < (n' : Int)) = false := decide_eq_false (by omega)
  have d4 : decide (50 < n') = false := decide_eq_false hn'
  have hn520 : n ≤ 1000 := by omega
  have hn50 : n' ≤ 1000 := by omega
  clear hn hn' m1 m2 m4 m5
  obtain ⟨r, hr⟩ : ∃ r, heardR l got sk = r := ⟨_, rfl⟩
  have HR := Lib.hid hr
  clear hr
  go_upto_region 5 with (first
    | (go_at_call 9; refine (staw_any _).mono ?_; rintro e w1 ⟨rfl, hb1⟩)
    | (have hsA := HA.out.keep hb1; have hkA := HK.out.keep hb1; go_at_call 15; refine (stheard_any A n c l got A' n' c' sk _ hsA hkA hn520 hn50).mono ?_; rintro e w2 ⟨G, m, d, G', m', d', he, ht1, ht2, hb2⟩; rw [HR.out] at he ht1 ht2; subst he))
  (try dsimp only)
  have b1 : Below B w w1 := hB ▸ hb1
  have b2 : Below B w w2 := b1.trans (hb2.mono (by have := hb1.size; omega))
  have hs2 : Se w2 A n c l := HA.out.keep (by rw [HB.out]; exact b2)
  have hB2 : B ≤ w2.heap.size := by have := b2.size; omega
  have hm := ht1.se.rd.len; have hm' := ht2.se.rd.len
  obtain ⟨sx, hsx⟩ : ∃ s, spanR l = s := ⟨_, rfl⟩
  have hspan := stspan_any A n c l w2 hs2
  rw [hsx] at hspan
  have HSX := Lib.hid hsx
  obtain ⟨sfrom, supto⟩ := sx
  dsimp only at hspan
  have HM := Lib.hid hm; have HM' := Lib.hid hm'
  clear hsx ht1 ht2 hm hm'
  go_upto_region 6 with (go_at_call 21; refine hspan.mono ?_; rintro e w4 ⟨rfl, hb4⟩; have b4 : Below B w w4 := b2.trans (hb4.mono hB2); have hB4 : B ≤ w4.heap.size := Nat.le_trans hB2 hb4.size)
  have yS := Bx.new w4 37 [.int .i64 sfrom, .int .i64 supto]
  have b5 : Below B w (w4.alloc (.cells #[.int .i64 sfrom, .int .i64 supto] 37)) := b4.alloc hB4 _
  obtain ⟨SB, hSB⟩ : ∃ S, w4.heap.size = S := ⟨_, rfl⟩
  rw [hSB] at yS ⊢
  generalize w4.alloc (.cells #[.int .i64 sfrom, .int .i64 supto] 37) = w5 at yS b5 ⊢
  have c0 := yS.cell 0 rfl; have c1 := yS.cell 1 rfl
  have hB5 : B ≤ w5.heap.size := by have := yS.lt; omega
  clear hspan hs2 b2 b4 b1 hb1 hb2 hb4 hB2 hB4
  obtain ⟨wr0, hw0⟩ : ∃ q, (decide (l.length = 0) || (decide (got < sfrom) || decide (supto < got))) = q := ⟨_, rfl⟩
  have HW0 := Lib.hid hw0
  clear hw0
  have key : ∀ q, (q = (wr0 || outB (sfrom, supto) sk)) → q = true → ∃ e, e ≠ 0 ∧ heardR l got sk = ([], [], e) := fun q hq ht => by
    refine heard_wrong ?_
    rw [hq, ← HW0.out] at ht
    rw [HSX.out]
    simp only [Bool.or_eq_true, decide_eq_true_eq] at ht
    rcases ht with (h | h | h) | h
    · exact .inl h
    · exact .inr (.inl h)
    · exact .inr (.inr (.inl h))
    · exact .inr (.inr (.inr h))
  have HKEY := Lib.hid key
  clear key
  have tail : ∃ u12, u12 = Value.bool wr0 := ⟨_, rfl⟩
  clear tail
  by_cases g0 : n = 0
  · have hw : wr0 = true := by rw [← HW0.out, HL.out, decide_eq_true g0]; rfl
    subst g0
    go_wp2_with fail
    go_loopw [12, 13] (fun s i wr => ∃ k q : Nat, k ≤ n' ∧ i = .int .i64 (k : Int) ∧ s = .bool (wr0 || outB (sfrom, supto) (sk.take k)) ∧ wr = w5.drewN q) (fun _ i _ => n' - (intOf i).toNat)
    case atStart => exact ⟨0, 0, Nat.zero_le _, rfl, by rw [show outB (sfrom, supto) (sk.take 0) = false from rfl, Bool.or_false, ← HW0.out]; rw [HL.out]; rfl, rfl⟩
    case round =>
      obtain ⟨k, q, hkn, rfl, rfl, rfl⟩ := hrel
      by_cases hlt : k < n'
      · have hk5 : Ss w5 A' n' c' sk := HK.out.keep (by rw [HB.out]; exact b5)
        obtain ⟨b, o, rfl, hbl, hc⟩ := hk5.rd.at_ (by omega)
        obtain ⟨z1, z2⟩ := hc k hlt
        have hsn := outB_snoc (sfrom, supto) (sk.take k) (sp sk k)
        rw [← take_sp (by rw [HKL.out]; exact hlt)] at hsn
        obtain ⟨⟨p, m9⟩, hp⟩ : ∃ p, sp sk k = p := ⟨_, rfl⟩
        rw [hp] at z1 z2 hsn
        simp only at z1 z2
        have HSN := Lib.hid hsn
        have hk0 : (k : Int) < (n' : Int) := by omega
        obtain ⟨ob, hob⟩ : ∃ x, outB (sfrom, supto) (sk.take k) = x := ⟨_, rfl⟩
        rw [hob]
        have HOB := Lib.hid hob
        obtain ⟨wk, hwk⟩ : ∃ x, (wr0 || ob) = x := ⟨_, rfl⟩
        rw [hwk]
        have HWK := Lib.hid hwk
        clear hc hk5 hp hsn hob hwk
        go_upto_region 10 with fail
        cases wk with
        | true =>
          go_quiet (fail)
          go_wp2_with fail
          go_roundw
          case rel => exact ⟨k + 1, _, by omega, by go_num, by rw [HSN.out, HOB.out, ← Bool.or_assoc, HWK.out]; rfl, rfl⟩
          case measure => simp [intOf]; omega
        | false =>
        by_cases hx1 : p < sfrom
        · have e1 : decide (p < sfrom) = true := decide_eq_true hx1
          have HE := Lib.hid e1
          go_quiet (fail)
          go_wp2_with fail
          go_roundw
          case rel => exact ⟨k + 1, _, by omega, by go_num, by rw [HSN.out, HOB.out, ← Bool.or_assoc, HWK.out]; unfold outP; dsimp only; rw [HE.out]; rfl, rfl⟩
          case measure => simp [intOf]; omega
        have e1 : decide (p < sfrom) = false := decide_eq_false hx1
        have HE := Lib.hid e1
        clear hx1
        by_cases hx2 : supto < m9
        · have e2 : decide (supto < m9) = true := decide_eq_true hx2
          have HE2 := Lib.hid e2
          go_quiet (fail)
          go_wp2_with fail
          go_roundw
          case rel => exact ⟨k + 1, _, by omega, by go_num, by rw [HSN.out, HOB.out, ← Bool.or_assoc, HWK.out]; unfold outP; dsimp only; rw [HE.out, HE2.out]; rfl, rfl⟩
          case measure => simp [intOf]; omega
        · have e2 : decide (supto < m9) = false := decide_eq_false hx2
          have HE2 := Lib.hid e2
          clear hx2
          go_quiet (fail)
          go_wp2_with fail
          go_roundw
          case rel => exact ⟨k + 1, _, by omega, by go_num, by rw [HSN.out, HOB.out, ← Bool.or_assoc, HWK.out]; unfold outP; dsimp only; rw [HE.out, HE2.out]; rfl, rfl⟩
          case measure => simp [intOf]; omega
      · obtain rfl : k = n' := by omega
        have hd : decide (k < k) = false := decide_eq_false (by omega)
        have hfull : sk.take k = sk := by rw [← HKL.out, List.take_length]
        rw [hfull]
        obtain ⟨wq, hwq⟩ : ∃ x, (wr0 || outB (sfrom, supto) sk) = x := ⟨_, rfl⟩
        rw [hwq]
        have HWQ := Lib.hid hwq
        clear hfull hwq
        cases wq with
        | false =>
          go_wp2_with fail
          go_ret
          exact ⟨rfl, below_drewN b5 _⟩
        | true =>
          obtain ⟨er, her, hre⟩ := HKEY.out true HWQ.out.symm rfl
          rw [HR.out] at hre
          obtain rfl : m = 0 := by rw [← HM.out, hre]; rfl
          obtain rfl : m' = 0 := by rw [← HM'.out, hre]; rfl
          have he3 : (r.2.2 != 0) = true := by rw [hre]; simpa using her
          have he4 : (r.2.2 == 0) = false := by rw [hre]; simpa using her
          clear her hre
          go_wp2_with fail
          go_ret
          exact ⟨rfl, below_drewN b5 _⟩
  have f0 : ((n : Int) == 0) = false := by simp; omega
  have f1 : (n == 0) = false := by simpa using g0
  have HG0 := Lib.hid g0
  clear g0
  by_cases g1 : got < sfrom
  · have f2 : decide (got < sfrom) = true := decide_eq_true g1
    have HF2 := Lib.hid f2
    clear g1
    go_wp2_with fail
    go_loopw [12, 13] (fun s i wr => ∃ k q : Nat, k ≤ n' ∧ i = .int .i64 (k : Int) ∧ s = .bool (wr0 || outB (sfrom, supto) (sk.take k)) ∧ wr = w5.drewN q) (fun _ i _ => n' - (intOf i).toNat)
    case atStart => exact ⟨0, 0, Nat.zero_le _, rfl, by rw [show outB (sfrom, supto) (sk.take 0) = false from rfl, Bool.or_false, ← HW0.out]; rw [HF2.out]; simp, rfl⟩
    case round =>
      obtain ⟨k, q, hkn, rfl, rfl, rfl⟩ := hrel
      by_cases hlt : k < n'
      · have hk5 : Ss w5 A' n' c' sk := HK.out.keep (by rw [HB.out]; exact b5)
        obtain ⟨b, o, rfl, hbl, hc⟩ := hk5.rd.at_ (by omega)
        obtain ⟨z1, z2⟩ := hc k hlt
        have hsn := outB_snoc (sfrom, supto) (sk.take k) (sp sk k)
        rw [← take_sp (by rw [HKL.out]; exact hlt)] at hsn
        obtain ⟨⟨p, m9⟩, hp⟩ : ∃ p, sp sk k = p := ⟨_, rfl⟩
        rw [hp] at z1 z2 hsn
        simp only at z1 z2
        have HSN := Lib.hid hsn
        have hk0 : (k : Int) < (n' : Int) := by omega
        obtain ⟨ob, hob⟩ : ∃ x, outB (sfrom, supto) (sk.take k) = x := ⟨_, rfl⟩
        rw [hob]
        have HOB := Lib.hid hob
        obtain ⟨wk, hwk⟩ : ∃ x, (wr0 || ob) = x := ⟨_, rfl⟩
        rw [hwk]
        have HWK := Lib.hid hwk
        clear hc hk5 hp hsn hob hwk
        go_upto_region 10 with fail
        cases wk with
        | true =>
          go_quiet (fail)
          go_wp2_with fail
          go_roundw
          case rel => exact ⟨k + 1, _, by omega, by go_num, by rw [HSN.out, HOB.out, ← Bool.or_assoc, HWK.out]; rfl, rfl⟩
          case measure => simp [intOf]; omega
        | false =>
        by_cases hx1 : p < sfrom
        · have e1 : decide (p < sfrom) = true := decide_eq_true hx1
          have HE := Lib.hid e1
          go_quiet (fail)
          go_wp2_with fail
          go_roundw
          case rel => exact ⟨k + 1, _, by omega, by go_num, by rw [HSN.out, HOB.out, ← Bool.or_assoc, HWK.out]; unfold outP; dsimp only; rw [HE.out]; rfl, rfl⟩
          case measure => simp [intOf]; omega
        have e1 : decide (p < sfrom) = false := decide_eq_false hx1
        have HE := Lib.hid e1
        clear hx1
        by_cases hx2 : supto < m9
        · have e2 : decide (supto < m9) = true := decide_eq_true hx2
          have HE2 := Lib.hid e2
          go_quiet (fail)
          go_wp2_with fail
          go_roundw
          case rel => exact ⟨k + 1, _, by omega, by go_num, by rw [HSN.out, HOB.out, ← Bool.or_assoc, HWK.out]; unfold outP; dsimp only; rw [HE.out, HE2.out]; rfl, rfl⟩
          case measure => simp [intOf]; omega
        · have e2 : decide (supto < m9) = false := decide_eq_false hx2
          have HE2 := Lib.hid e2
          clear hx2
          go_quiet (fail)
          go_wp2_with fail
          go_roundw
          case rel => exact ⟨k + 1, _, by omega, by go_num, by rw [HSN.out, HOB.out, ← Bool.or_assoc, HWK.out]; unfold outP; dsimp only; rw [HE.out, HE2.out]; rfl, rfl⟩
          case measure => simp [intOf]; omega
      · obtain rfl : k = n' := by omega
        have hd : decide (k < k) = false := decide_eq_false (by omega)
        have hfull : sk.take k = sk := by rw [← HKL.out, List.take_length]
        rw [hfull]
        obtain ⟨wq, hwq⟩ : ∃ x, (wr0 || outB (sfrom, supto) sk) = x := ⟨_, rfl⟩
        rw [hwq]
        have HWQ := Lib.hid hwq
        clear hfull hwq
        cases wq with
        | false =>
          go_wp2_with fail
          go_ret
          exact ⟨rfl, below_drewN b5 _⟩
        | true =>
          obtain ⟨er, her, hre⟩ := HKEY.out true HWQ.out.symm rfl
          rw [HR.out] at hre
          obtain rfl : m = 0 := by rw [← HM.out, hre]; rfl
          obtain rfl : m' = 0 := by rw [← HM'.out, hre]; rfl
          have he3 : (r.2.2 != 0) = true := by rw [hre]; simpa using her
          have he4 : (r.2.2 == 0) = false := by rw [hre]; simpa using her
          clear her hre
          go_wp2_with fail
          go_ret
          exact ⟨rfl, below_drewN b5 _⟩
  have f2 : decide (got < sfrom) = false := decide_eq_false g1
  have HF2 := Lib.hid f2
  clear g1
  by_cases g2 : supto < got
  · have f3 : decide (supto < got) = true := decide_eq_true g2
    have HF3 := Lib.hid f3
    clear g2
    go_wp2_with fail
    go_loopw [12, 13] (fun s i wr => ∃ k q : Nat, k ≤ n' ∧ i = .int .i64 (k : Int) ∧ s = .bool (wr0 || outB (sfrom, supto) (sk.take k)) ∧ wr = w5.drewN q) (fun _ i _ => n' - (intOf i).toNat)
    case atStart => exact ⟨0, 0, Nat.zero_le _, rfl, by rw [show outB (sfrom, supto) (sk.take 0) = false from rfl, Bool.or_false, ← HW0.out]; rw [HF3.out]; simp, rfl⟩
    case round =>
      obtain ⟨k, q, hkn, rfl, rfl, rfl⟩ := hrel
      by_cases hlt : k < n'
      · have hk5 : Ss w5 A' n' c' sk := HK.out.keep (by rw [HB.out]; exact b5)
        obtain ⟨b, o, rfl, hbl, hc⟩ := hk5.rd.at_ (by omega)
        obtain ⟨z1, z2⟩ := hc k hlt
        have hsn := outB_snoc (sfrom, supto) (sk.take k) (sp sk k)
        rw [← take_sp (by rw [HKL.out]; exact hlt)] at hsn
        obtain ⟨⟨p, m9⟩, hp⟩ : ∃ p, sp sk k = p := ⟨_, rfl⟩
        rw [hp] at z1 z2 hsn
        simp only at z1 z2
        have HSN := Lib.hid hsn
        have hk0 : (k : Int) < (n' : Int) := by omega
        obtain ⟨ob, hob⟩ : ∃ x, outB (sfrom, supto) (sk.take k) = x := ⟨_, rfl⟩
        rw [hob]
        have HOB := Lib.hid hob
        obtain ⟨wk, hwk⟩ : ∃ x, (wr0 || ob) = x := ⟨_, rfl⟩
        rw [hwk]
        have HWK := Lib.hid hwk
        clear hc hk5 hp hsn hob hwk
        go_upto_region 10 with fail
        cases wk with
        | true =>
          go_quiet (fail)
          go_wp2_with fail
          go_roundw
          case rel => exact ⟨k + 1, _, by omega, by go_num, by rw [HSN.out, HOB.out, ← Bool.or_assoc, HWK.out]; rfl, rfl⟩
          case measure => simp [intOf]; omega
        | false =>
        by_cases hx1 : p < sfrom
        · have e1 : decide (p < sfrom) = true := decide_eq_true hx1
          have HE := Lib.hid e1
          go_quiet (fail)
          go_wp2_with fail
          go_roundw
          case rel => exact ⟨k + 1, _, by omega, by go_num, by rw [HSN.out, HOB.out, ← Bool.or_assoc, HWK.out]; unfold outP; dsimp only; rw [HE.out]; rfl, rfl⟩
          case measure => simp [intOf]; omega
        have e1 : decide (p < sfrom) = false := decide_eq_false hx1
        have HE := Lib.hid e1
        clear hx1
        by_cases hx2 : supto < m9
        · have e2 : decide (supto < m9) = true := decide_eq_true hx2
          have HE2 := Lib.hid e2
          go_quiet (fail)
          go_wp2_with fail
          go_roundw
          case rel => exact ⟨k + 1, _, by omega, by go_num, by rw [HSN.out, HOB.out, ← Bool.or_assoc, HWK.out]; unfold outP; dsimp only; rw [HE.out, HE2.out]; rfl, rfl⟩
          case measure => simp [intOf]; omega
        · have e2 : decide (supto < m9) = false := decide_eq_false hx2
          have HE2 := Lib.hid e2
          clear hx2
          go_quiet (fail)
          go_wp2_with fail
          go_roundw
          case rel => exact ⟨k + 1, _, by omega, by go_num, by rw [HSN.out, HOB.out, ← Bool.or_assoc, HWK.out]; unfold outP; dsimp only; rw [HE.out, HE2.out]; rfl, rfl⟩
          case measure => simp [intOf]; omega
      · obtain rfl : k = n' := by omega
        have hd : decide (k < k) = false := decide_eq_false (by omega)
        have hfull : sk.take k = sk := by rw [← HKL.out, List.take_length]
        rw [hfull]
        obtain ⟨wq, hwq⟩ : ∃ x, (wr0 || outB (sfrom, supto) sk) = x := ⟨_, rfl⟩
        rw [hwq]
        have HWQ := Lib.hid hwq
        clear hfull hwq
        cases wq with
        | false =>
          go_wp2_with fail
          go_ret
          exact ⟨rfl, below_drewN b5 _⟩
        | true =>
          obtain ⟨er, her, hre⟩ := HKEY.out true HWQ.out.symm rfl
          rw [HR.out] at hre
          obtain rfl : m = 0 := by rw [← HM.out, hre]; rfl
          obtain rfl : m' = 0 := by rw [← HM'.out, hre]; rfl
          have he3 : (r.2.2 != 0) = true := by rw [hre]; simpa using her
          have he4 : (r.2.2 == 0) = false := by rw [hre]; simpa using her
          clear her hre
          go_wp2_with fail
          go_ret
          exact ⟨rfl, below_drewN b5 _⟩
  have f3 : decide (supto < got) = false := decide_eq_false g2
  have HF3 := Lib.hid f3
  clear g2
  go_wp2_with fail
  go_loopw [12, 13] (fun s i wr => ∃ k q : Nat, k ≤ n' ∧ i = .int .i64 (k : Int) ∧ s = .bool (wr0 || outB (sfrom, supto) (sk.take k)) ∧ wr = w5.drewN q) (fun _ i _ => n' - (intOf i).toNat)
  case atStart => exact ⟨0, 0, Nat.zero_le _, rfl, by rw [show outB (sfrom, supto) (sk.take 0) = false from rfl, Bool.or_false, ← HW0.out]; rw [HF2.out, HF3.out, HL.out, decide_eq_false HG0.out]; rfl, rfl⟩
  case round =>
    obtain ⟨k, q, hkn, rfl, rfl, rfl⟩ := hrel
    by_cases hlt : k < n'
    · have hk5 : Ss w5 A' n' c' sk := HK.out.keep (by rw [HB.out]; exact b5)
      obtain ⟨b, o, rfl, hbl, hc⟩ := hk5.rd.at_ (by omega)
      obtain ⟨z1, z2⟩ := hc k hlt
      have hsn := outB_snoc (sfrom, supto) (sk.take k) (sp sk k)
      rw [← take_sp (by rw [HKL.out]; exact hlt)] at hsn
      obtain ⟨⟨p, m9⟩, hp⟩ : ∃ p, sp sk k = p := ⟨_, rfl⟩
      rw [hp] at z1 z2 hsn
      simp only at z1 z2
      have HSN := Lib.hid hsn
      have hk0 : (k : Int) < (n' : Int) := by omega
      obtain ⟨ob, hob⟩ : ∃ x, outB (sfrom, supto) (sk.take k) = x := ⟨_, rfl⟩
      rw [hob]
      have HOB := Lib.hid hob
      obtain ⟨wk, hwk⟩ : ∃ x, (wr0 || ob) = x := ⟨_, rfl⟩
      rw [hwk]
      have HWK := Lib.hid hwk
      clear hc hk5 hp hsn hob hwk
      go_upto_region 10 with fail
      cases wk with
      | true =>
        go_quiet (fail)
        go_wp2_with fail
        go_roundw
        case rel => exact ⟨k + 1, _, by omega, by go_num, by rw [HSN.out, HOB.out, ← Bool.or_assoc, HWK.out]; rfl, rfl⟩
        case measure => simp [intOf]; omega
      | false =>
      by_cases hx1 : p < sfrom
      · have e1 : decide (p < sfrom) = true := decide_eq_true hx1
        have HE := Lib.hid e1
        go_quiet (fail)
        go_wp2_with fail
        go_roundw
        case rel => exact ⟨k + 1, _, by omega, by go_num, by rw [HSN.out, HOB.out, ← Bool.or_assoc, HWK.out]; unfold outP; dsimp only; rw [HE.out]; rfl, rfl⟩
        case measure => simp [intOf]; omega
      have e1 : decide (p < sfrom) = false := decide_eq_false hx1
      have HE := Lib.hid e1
      clear hx1
      by_cases hx2 : supto < m9
      · have e2 : decide (supto < m9) = true := decide_eq_true hx2
        have HE2 := Lib.hid e2
        go_quiet (fail)
        go_wp2_with fail
        go_roundw
        case rel => exact ⟨k + 1, _, by omega, by go_num, by rw [HSN.out, HOB.out, ← Bool.or_assoc, HWK.out]; unfold outP; dsimp only; rw [HE.out, HE2.out]; rfl, rfl⟩
        case measure => simp [intOf]; omega
      · have e2 : decide (supto < m9) = false := decide_eq_false hx2
        have HE2 := Lib.hid e2
        clear hx2
        go_quiet (fail)
        go_wp2_with fail
        go_roundw
        case rel => exact ⟨k + 1, _, by omega, by go_num, by rw [HSN.out, HOB.out, ← Bool.or_assoc, HWK.out]; unfold outP; dsimp only; rw [HE.out, HE2.out]; rfl, rfl⟩
        case measure => simp [intOf]; omega
    · obtain rfl : k = n' := by omega
      have hd : decide (k < k) = false := decide_eq_false (by omega)
      have hfull : sk.take k = sk := by rw [← HKL.out, List.take_length]
      rw [hfull]
      obtain ⟨wq, hwq⟩ : ∃ x, (wr0 || outB (sfrom, supto) sk) = x := ⟨_, rfl⟩
      rw [hwq]
      have HWQ := Lib.hid hwq
      clear hfull hwq
      cases wq with
      | false =>
        go_wp2_with fail
        go_ret
        exact ⟨rfl, below_drewN b5 _⟩
      | true =>
        obtain ⟨er, her, hre⟩ := HKEY.out true HWQ.out.symm rfl
        rw [HR.out] at hre
        obtain rfl : m = 0 := by rw [← HM.out, hre]; rfl
        obtain rfl : m' = 0 := by rw [← HM'.out, hre]; rfl
        have he3 : (r.2.2 != 0) = true := by rw [hre]; simpa using her
        have he4 : (r.2.2 == 0) = false := by rw [hre]; simpa using her
        clear her hre
        go_wp2_with fail
        go_ret
        exact ⟨rfl, below_drewN b5 _⟩
end Go.Proofs.Ytnbamacdcggaeaa.sentWrong
