/- Package group as it landed: within, May, Add as contracts of the calls. -/
import Derived.Test.YtbaaglgoodckmaaGrRef1
import Derived.Test.YtbaaglgoodckmaaSni
import Derived.WalkKit
import Derived.WalkSpells
import Derived.WalkSmall
import Derived.Lib.Hide
import Derived.Below
import Derived.Outline
import Derived.OrdersHeld
import Derived.Deep.QuietTactic
import Derived.BigQuiet
import Derived.IntWalk
import Derived.Deep.DeepCutAuto
import Derived.Deep.AppendLies
namespace Go.Proofs.Ytbaaglgoodckmaa
open Go.RowKit
set_option linter.unusedVariables false
set_option linter.unusedSimpArgs false

theorem gin_any (x : Int) (w : World) : Calls Try.prog 19 #[.int .i64 x] w fun e w' => e = .returned (.bool (d18 x)) ∧ w = w' := by
  by_cases h1 : 0 ≤ x
  · have e1 : d18 x = decide (x ≤ 262144) := by unfold d18; rw [Bool.eq_iff_iff]; simp [h1]
    rw [e1]
    clear e1
    have d1 : decide (0 ≤ x) = true := decide_eq_true h1
    go_enter Try.func19, Try.ntmps19
    go_wp2
    go_ret
    exact ⟨rfl, rfl⟩
  · have e1 : d18 x = false := by unfold d18; rw [decide_eq_false (fun h => h1 h.1)]
    rw [e1]
    clear e1
    have d1 : decide (0 ≤ x) = false := decide_eq_false h1
    go_enter Try.func19, Try.ntmps19
    go_wp2
    go_ret
    exact ⟨rfl, rfl⟩

set_option maxRecDepth 100000 in
set_option maxHeartbeats 8000000 in
theorem gmay_same (A : Option Addr) (n c : Nat) (l : List Int) (w : World) (hs : Si w A n c l) : Calls Try.prog 13 #[.slice A n c] w fun e w' => e = .returned (.bool (mayG l)) ∧ w = w' := by
  have hl := hs.rd.len
  have m1 := hs.le
  have m2 := hs.max
  unfold maxLen at m2
  by_cases c2 : 16 < n
  · have hF : mayG l = false := by unfold mayG; rw [hl, decide_eq_false (by omega), Bool.and_false]
    rw [hF]
    clear hF
    have d2 : decide (16 < n) = true := decide_eq_true c2
    go_enter Try.func13, Try.ntmps13
    go_wp2
    go_ret
    exact ⟨rfl, rfl⟩
  have d2 : decide (16 < n) = false := decide_eq_false c2
  have hn : n ≤ 16 := by omega
  have hmay : mayG l = allD l := by unfold mayG; rw [hl, decide_eq_true hn, Bool.and_true]
  obtain ⟨q, hq⟩ : ∃ q, allD l = q := ⟨_, rfl⟩
  rw [hmay, hq]
  have HQ := Lib.hid hq; clear hq hmay
  have HL := Lib.hid hl
  have HS := Lib.hid hs
  clear hl hs m1 m2 c2
  go_enter Try.func13, Try.ntmps13
  go_wp2_with fail
  go_loopw [10] (fun i wr => ∃ k : Nat, k ≤ n ∧ i = .int .i64 (k : Int) ∧ Hid (AllD l k) ∧ w = wr) (fun i _ => n - (intOf i).toNat)
  case atStart => exact ⟨0, Nat.zero_le _, rfl, (fun i hi => absurd hi (by omega)), rfl⟩
  case round =>
    obtain ⟨k, hk, rfl, hok, rfl⟩ := hrel
    by_cases hlt : k < n
    · have dlt : decide (k < n) = true := decide_eq_true hlt
      obtain ⟨b, o, hA, hbl, hc⟩ := HS.out.rd.at_ (by omega)
      subst hA
      have y1 := hc k hlt
      obtain ⟨p, hp⟩ : ∃ p, it l k = p := ⟨_, rfl⟩
      rw [hp] at y1
      have HP := Lib.hid hp
      clear hc hp
      cases ht : d18 p with
      | true =>
        have hall := alld_snoc hok.out (by rw [HP.out]; exact ht)
        have HA := Lib.hid hall; clear hall
        go_wp2_with (go_at_call 19; refine (gin_any _ _).mono ?_; rintro e wx ⟨rfl, rfl⟩)
        go_roundw
        case rel => exact ⟨k + 1, by omega, by go_num, HA, by first | rfl | trivial⟩
        case measure => simp [intOf]; omega
      | false =>
        have hF : q = false := by
          rw [← HQ.out]
          refine Bool.eq_false_iff.2 (fun h => ?_)
          have h1 := (allD_iff l).1 h k (by rw [HL.out]; exact hlt)
          rw [HP.out, ht] at h1; cases h1
        subst hF
        go_wp2_with (go_at_call 19; refine (gin_any _ _).mono ?_; rintro e wx ⟨rfl, rfl⟩)
        go_ret
        exact ⟨rfl, rfl⟩
    · obtain rfl : k = n := by omega
      have dlt : decide (k < k) = false := decide_eq_false (by omega)
      have hT : q = true := by rw [← HQ.out, allD_iff, HL.out]; exact hok.out
      subst hT
      go_wp2_with fail
      go_ret
      exact ⟨rfl, rfl⟩

theorem ggmay_any (A : Option Addr) (n c : Nat) (l : List Int) (w : World) (hs : Si w A n c l) : Calls Try.prog 13 #[.slice A n c] w fun e w' => e = .returned (.bool (mayG l)) ∧ Below w.heap.size w w' :=
  (gmay_same A n c l w hs).mono fun _ _ h => ⟨h.1, h.2 ▸ Below.refl _ _⟩

set_option maxRecDepth 100000 in
set_option maxHeartbeats 8000000 in
theorem ggadd_any (A : Option Addr) (n c : Nat) (l : List Int) (d : Int) (w : World) (hs : Si w A n c l) : Calls Try.prog 10 #[.slice A n c, .int .i64 d] w fun e w' => ∃ R m f, e = .returned (.tuple #[.slice R m f, .int .i64 (addG l d).2]) ∧ Si w' R m f (addG l d).1 ∧ Below w.heap.size w w' := by
  obtain ⟨B, hB⟩ : ∃ B, w.heap.size = B := ⟨_, rfl⟩
  rw [hB]
  have HB := Lib.hid hB
  have hl := hs.rd.len
  have m1 := hs.le; have m2 := hs.max
  unfold maxLen at m2
  obtain ⟨i0, hi, hz0, hz1, hz2⟩ := info_parts info_int
  obtain ⟨x, hx⟩ : ∃ x, addG l d = x := ⟨_, rfl⟩
  rw [hx]
  have HX := Lib.hid hx; have HL := Lib.hid hl; have HS := Lib.hid hs; have HN := Lib.hid hs.nil
  clear hx hl hs hB
  cases hk : mayG l with
  | false =>
    have hx := HX.out
    rw [add_no (fun h => by have h1 := h.1; rw [hk] at h1; cases h1)] at hx
    subst hx
    clear HX
    go_enter Try.func10, Try.ntmps10
    go_wp2_with (first | (go_at_call 13; refine (gmay_same A n c l _ HS.out).mono ?_; rintro e wy ⟨rfl, rfl⟩) | (go_at_call 19; refine (gin_any _ _).mono ?_; rintro e wx ⟨rfl, rfl⟩))
    go_ret2
    exact ⟨none, 0, 0, rfl, Si.none _, Below.refl _ _⟩
  | true =>
  cases hd : d18 d with
  | false =>
    have hx := HX.out
    rw [add_no (fun h => by have h1 := (d18_iff d).2 h.2; rw [hd] at h1; cases h1)] at hx
    subst hx
    clear HX
    go_enter Try.func10, Try.ntmps10
    go_wp2_with (first | (go_at_call 13; refine (gmay_same A n c l _ HS.out).mono ?_; rintro e wy ⟨rfl, rfl⟩) | (go_at_call 19; refine (gin_any _ _).mono ?_; rintro e wx ⟨rfl, rfl⟩))
    go_ret2
    exact ⟨none, 0, 0, rfl, Si.none _, Below.refl _ _⟩
  | true =>
  have hd' := (d18_iff d).1 hd
  have hok : AddOk l d := ⟨hk, hd'⟩
  have hx := HX.out
  rw [add_ok hok] at hx
  subst hx
  have hn : n ≤ 16 := by have := ((mayG_iff l).1 hk).2; rw [HL.out] at this; exact this
  have WD : Hid (W64 d) := Lib.hid (by unfold W64; omega)
  have HZ := Lib.hid hd'
  clear HX hok m1 m2 hd'
  have hBs : B ≤ w.heap.size := by have := HB.out; omega
  by_cases h16 : n = 16
  case pos =>
    subst h16
    have hle := HS.out.le
    obtain ⟨d2, rfl⟩ : ∃ d2, c = d2 + 1 := ⟨c - 1, by omega⟩
    have hcut : ∀ w, (Instr.slice 25 (.slice A 16 (d2 + 1)) (some (.int .i64 1)) none none).run Try.prog w = .ok (.slice (cutI A 1 (d2 + 1)) 15 d2) w := fun w => run_cutI Try.prog 25 3 Try.underlying25 info_int A 1 15 d2 w (by omega) (by omega)
    have hs2 := Lib.hid (HS.out.cut (k := 1) (m := 15) (d := d2) rfl rfl)
    have hn2 := Lib.hid hs2.out.nil
    have hp : pushG l d = l.drop 1 ++ [d] := by
      unfold pushG
      rw [if_pos (by rw [HL.out]; omega), List.drop_append_of_le_length (by rw [HL.out]; omega)]
    go_enter Try.func10, Try.ntmps10
    go_wp2_with (first
      | (go_at_call 13; refine (gmay_same A 16 (d2 + 1) l _ HS.out).mono ?_; rintro e wy ⟨rfl, rfl⟩) | (go_at_call 19; refine (gin_any _ _).mono ?_; rintro e wx ⟨rfl, rfl⟩)
      | (at_make; refine wpList_make_own _ rfl _ _ 25 rfl B 3 i0 (.int .i64 0) 1 Try.underlying25 hi hz0 hz1 _ _ _ (15 + 1) rfl rfl (by omega) (by rw [hz2]; omega) (by unfold maxLen; omega) hBs ?_; intro w1 hown1 hgrow1; have hb1 : Below B w w1 := (Below.refl _ _).grown hgrow1 hBs (fun k hk => by cases hk); have hz1' : B ≤ w1.heap.size := Nat.le_trans hBs hgrow1.size; have g1 : Goti w1 B 3 (.slice (some ⟨w.heap.size, 0, none⟩) 0 (15 + 1)) 0 [] := ⟨hown1, fun _ hx => by simp at hx⟩; have RL := (hs2.out).rd.keep ((Below.refl _ _).grown hgrow1 (Nat.le_refl _) (fun k hk => by cases hk)))
      | (at_builtin; (refine wpList_appi _ rfl (.tmp 24) (.tmp 25) 25 rfl B 3 Try.underlying25 info_int _ 0 [] rfl g1 rfl hn2.out RL (by omega) hz1' ?_; intro v1 w2 hg2 hgr2 _; have hb2 : Below B w w2 := hb1.grown hgr2 hz1' (fun k h => by have := (g1.row.lt k h).1; omega); have hz2' : B ≤ w2.heap.size := Nat.le_trans hz1' hgr2.size; have g2 : Goti w2 B 3 v1 15 (l.drop 1) := by simpa using hg2))
      | (at_builtin; (refine wpList_appi _ rfl (.tmp 26) (.tmp 28) 25 rfl B 3 Try.underlying25 info_int _ _ _ rfl (g2.alloc (.cells #[.int .i64 d] 3)) rfl (fun h => by cases h) (ri_one w2 WD.out 3) (by omega) (by simp; omega) ?_; intro v2 w3 hg3 hgr3 _)))
    have b3 : Below B w w3 := (hb2.alloc hz2' (.cells #[.int .i64 d] 3)).grown hgr3 (by simp; omega) (fun k h => by have := (g2.row.lt k h).1; omega)
    obtain ⟨R, c2, hv, hsn⟩ := hg3.si
    subst hv
    go_ret2
    exact ⟨R, 15 + 1, c2, rfl, by rw [hp]; exact hsn, b3⟩
  case neg =>
    have d16 : decide (n = 16) = false := decide_eq_false h16
    have d16' : decide ((n : Int) = 16) = false := decide_eq_false (by omega)
    have d16'' : (n == 16) = false := by simp; omega
    have hp : pushG l d = l ++ [d] := by
      unfold pushG
      rw [if_neg (by rw [HL.out]; omega)]
    go_enter Try.func10, Try.ntmps10
    go_wp2_with (first
      | (go_at_call 13; refine (gmay_same A n c l _ HS.out).mono ?_; rintro e wy ⟨rfl, rfl⟩) | (go_at_call 19; refine (gin_any _ _).mono ?_; rintro e wx ⟨rfl, rfl⟩)
      | (at_make; refine wpList_make_own _ rfl _ _ 25 rfl B 3 i0 (.int .i64 0) 1 Try.underlying25 hi hz0 hz1 _ _ _ (n + 1) rfl rfl (by omega) (by rw [hz2]; omega) (by unfold maxLen; omega) hBs ?_; intro w1 hown1 hgrow1; have hb1 : Below B w w1 := (Below.refl _ _).grown hgrow1 hBs (fun k hk => by cases hk); have hz1' : B ≤ w1.heap.size := Nat.le_trans hBs hgrow1.size; have g1 : Goti w1 B 3 (.slice (some ⟨w.heap.size, 0, none⟩) 0 (n + 1)) 0 [] := ⟨hown1, fun _ hx => by simp at hx⟩; have RL := (HS.out).rd.keep ((Below.refl _ _).grown hgrow1 (Nat.le_refl _) (fun k hk => by cases hk)))
      | (at_builtin; (refine wpList_appi _ rfl (.tmp 24) (.tmp 25) 25 rfl B 3 Try.underlying25 info_int _ 0 [] rfl g1 rfl HN.out RL (by omega) hz1' ?_; intro v1 w2 hg2 hgr2 _; have hb2 : Below B w w2 := hb1.grown hgr2 hz1' (fun k h => by have := (g1.row.lt k h).1; omega); have hz2' : B ≤ w2.heap.size := Nat.le_trans hz1' hgr2.size; have g2 : Goti w2 B 3 v1 n l := by simpa using hg2))
      | (at_builtin; (refine wpList_appi _ rfl (.tmp 26) (.tmp 28) 25 rfl B 3 Try.underlying25 info_int _ _ _ rfl (g2.alloc (.cells #[.int .i64 d] 3)) rfl (fun h => by cases h) (ri_one w2 WD.out 3) (by omega) (by simp; omega) ?_; intro v2 w3 hg3 hgr3 _)))
    have b3 : Below B w w3 := (hb2.alloc hz2' (.cells #[.int .i64 d] 3)).grown hgr3 (by simp; omega) (fun k h => by have := (g2.row.lt k h).1; omega)
    obtain ⟨R, c2, hv, hsn⟩ := hg3.si
    subst hv
    go_ret2
    exact ⟨R, n + 1, c2, rfl, by rw [hp]; exact hsn, b3⟩

end Go.Proofs.Ytbaaglgoodckmaa
