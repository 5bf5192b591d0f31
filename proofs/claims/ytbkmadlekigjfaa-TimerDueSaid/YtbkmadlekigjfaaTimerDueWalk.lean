/- TimerDue: the walk. -/
import Derived.Test.YtbkmadlekigjfaaProg
import Derived.Test.YtbkmadlekigjfaaTmAwake
import Derived.Test.YtbkmadlekigjfaaTmMath
import Derived.Test.YtbkmadlekigjfaaTail2
import Derived.WalkKit
import Derived.WalkSpells
import Derived.WalkSmall
import Derived.Lib.Hide
import Derived.Below
import Derived.Outline
import Derived.Deep.QuietTactic
import Derived.BigQuiet
import Derived.IntWalk
import Derived.Deep.DeepCutAuto
import Derived.OrdersHeld
import Derived.StillTail
import Derived.Test.YtbkmadlekigjfaaTail
import Derived.Laws.Rows
import Derived.Laws.Tables
namespace Go.Proofs.Ytbkmadlekigjfaa.timerDue
open Go.RowKit
set_option linter.unusedVariables false
set_option linter.unusedSimpArgs false
set_option maxRecDepth 100000 in
set_option maxHeartbeats 8000000 in
theorem walk (T : Option Addr) (m d : Nat) (t : List Tmr) (now : Int) (w : World) (ht : Se w T m d t) :
    Calls Try.prog 5 #[.slice T m d, .int .i64 now] w fun e w' => e = .returned (.bool true) ∧ Below w.heap.size w w' := by
  obtain ⟨B, hB⟩ : ∃ B, w.heap.size = B := ⟨_, rfl⟩
  rw [hB]
  have m4 := ht.le; have m5 := ht.max
  have m6 : m ≤ 9223372036854775807 := by unfold maxLen at m5; omega
  clear m4 m5
  have HL := Lib.hid ht.rd.len
  go_enter Try.func5, Try.ntmps5
  go_wp2_with fail
  refine (tiawake_any _).mono ?_
  rintro e w2 ⟨rfl, b2⟩
  have t2 := ht.keep b2
  have bs2 := b2.size
  rw [hB] at b2 bs2
  clear ht hB
  by_cases c1 : 50 < m
  case pos =>
    have d1 : decide ((50 : Int) < (m : Int)) = true := decide_eq_true (by omega)
    have d1' : decide (50 < m) = true := decide_eq_true c1
    go_wp2_with fail
    go_ret
    exact ⟨rfl, b2⟩
  have d1 : decide ((50 : Int) < (m : Int)) = false := decide_eq_false (by omega)
  have d1' : decide (50 < m) = false := decide_eq_false c1
  obtain ⟨F, hF⟩ : ∃ F, firstR t = F := ⟨_, rfl⟩
  have hFm : tmB F = true := by rw [← hF]; exact first_may t
  have hFle : ∀ x, x ∈ t → TmV x → F.kd ≠ 0 ∧ F.at_ ≤ x.at_ := fun x hx hv => by rw [← hF]; exact first_le hx hv
  have hFd : anyD now t = !(tdueR F now == 0) := by rw [← hF]; exact any_first t now
  have HF := Lib.hid hF; have HFM := Lib.hid hFm; have HFLE := Lib.hid hFle; have HFD := Lib.hid hFd
  clear hF hFm hFle hFd
  go_wp2_with fail
  refine (tifirst_any T m d t _ t2).mono ?_
  rintro e u3 ⟨rfl, hb3⟩
  rw [HF.out]
  have t3 := (t2.keep hb3).alloc (.cells #[.int .i64 F.kd, .int .i64 F.at_] 28)
  have b3 := (b2.trans (hb3.mono bs2)).alloc (Nat.le_trans bs2 hb3.size) (.cells #[.int .i64 F.kd, .int .i64 F.at_] 28)
  have bs3 : B ≤ (u3.alloc (.cells #[.int .i64 F.kd, .int .i64 F.at_] 28)).heap.size := by rw [World.size_alloc]; exact Nat.le_trans bs2 (Nat.le_trans hb3.size (Nat.le_succ _))
  have f3 := Bx.new u3 28 [.int .i64 F.kd, .int .i64 F.at_]
  clear t2 b2 bs2 hb3 HF
  go_upto_region 5 with fail
  obtain ⟨Q, hQ⟩ : ∃ Q, u3.heap.size = Q := ⟨_, rfl⟩
  rw [hQ] at f3 ⊢
  generalize u3.alloc (.cells #[.int .i64 F.kd, .int .i64 F.at_] 28) = w3 at f3 t3 b3 bs3 ⊢
  clear hQ
  go_wp2_with fail
  go_loopw [7, 8, 9] (fun s7 s8 s9 wr => ∃ k : Nat, k ≤ m ∧ s8 = .int .i64 (k : Int) ∧ s7 = .bool (anyD now (t.take k)) ∧ Below w3.heap.size w3 wr) (fun _ i _ _ => m - (intOf i).toNat)
  case atStart => exact ⟨0, Nat.zero_le _, rfl, rfl, Below.refl _ _⟩
  case round =>
    obtain ⟨k, hkm, rfl, rfl, hbr⟩ := hrel
    have fr := f3.kept hbr; have br := b3.trans (hbr.mono bs3)
    have bsr := Nat.le_trans bs3 hbr.size
    by_cases hlt : k < m
    case neg =>
      obtain rfl : k = m := by omega
      have hd : decide (k < k) = false := decide_eq_false (by omega)
      rw [show t.take k = t by rw [← HL.out]; exact List.take_length, HFD.out]
      clear f3 t3 b3 bs3 hbr HFD HFLE
      obtain ⟨D, hD⟩ : ∃ D, tdueR F now = D := ⟨_, rfl⟩
      have HD := Lib.hid hD
      rw [hD]
      clear hD
      have x0 := fr.cell 0 rfl; have x1 := fr.cell 1 rfl
      by_cases z : D = 0
      case pos =>
        subst z
        have hb0 : (!((0:Int) == 0)) = false := rfl
        rw [hb0]
        go_wp2_with (first
          | (go_at_call 13; refine (tidue_any F now _).mono ?_; rintro e w6 ⟨rfl, hb6⟩; rw [HD.out]; have f6 := fr.kept hb6; have z0 := f6.cell 0 rfl; have z1 := f6.cell 1 rfl; have b6 : Below B w w6 := br.trans (hb6.mono bsr); have hB6 : B ≤ w6.heap.size := Nat.le_trans bsr hb6.size)
          | (go_at_call 11; refine (timay_any F _).mono ?_; rintro e w7 ⟨rfl, hb7⟩; rw [HFM.out]; have b7 : Below B w w7 := b6.trans (hb7.mono hB6)))
        go_ret
        exact ⟨rfl, b7⟩
      case neg =>
        have dz : (D == 0) = false := by simpa using z
        have dzn : (D != 0) = true := by simpa using z
        rw [dz, Bool.not_false]
        go_wp2_with (first
          | (go_at_call 13; refine (tidue_any F now _).mono ?_; rintro e w6 ⟨rfl, hb6⟩; rw [HD.out]; have f6 := fr.kept hb6; have z0 := f6.cell 0 rfl; have z1 := f6.cell 1 rfl; have b6 : Below B w w6 := br.trans (hb6.mono bsr); have hB6 : B ≤ w6.heap.size := Nat.le_trans bsr hb6.size)
          | (go_at_call 11; refine (timay_any F _).mono ?_; rintro e w7 ⟨rfl, hb7⟩; rw [HFM.out]; have b7 : Below B w w7 := b6.trans (hb7.mono hB6)))
        go_ret
        exact ⟨rfl, b7⟩
    case pos =>
    have hd : decide (k < m) = true := decide_eq_true hlt
    have hkl : k < t.length := by rw [HL.out]; exact hlt
    have hany := anyD_take now hkl
    have hmem := ge_mem hkl
    obtain ⟨tb, tof, rfl, htl, hc⟩ := t3.rd.at_ (by omega)
    have X := tm_below (tm_at hc hlt) hbr htl
    have htr : tb < wr.heap.size := Nat.lt_of_lt_of_le htl hbr.size
    obtain ⟨p, hp⟩ : ∃ p, ge t k = p := ⟨_, rfl⟩
    rw [hp] at X hany hmem
    have hple := HFLE.out p hmem
    obtain ⟨D, hD⟩ : ∃ D, tdueR p now = D := ⟨_, rfl⟩
    have hDf : D ≠ 0 → D = p.kd ∧ tmB p = true ∧ p.at_ ≤ now ∧ TmV p := fun h => by rw [← hD] at h ⊢; exact due_facts h
    rw [hD] at hany
    obtain ⟨an, han⟩ : ∃ an, anyD now (t.take k) = an := ⟨_, rfl⟩
    rw [han] at hany ⊢
    have HANY := Lib.hid hany; have HD := Lib.hid hD; have HPLE := Lib.hid hple; have HDF := Lib.hid hDf
    clear hc hp hD hkl hmem hany han hple hDf
    have x0 := X.c0; have x1 := X.c1
    go_wp2_with fail
    refine (tidue_any p now _).mono ?_
    rintro e w5 ⟨rfl, hb5⟩
    rw [HD.out]
    have f5 := fr.kept hb5; have X5 := tm_below X hb5 htr; have b5 := hbr.trans (hb5.mono hbr.size)
    have ht5 : tb < w5.heap.size := Nat.lt_of_lt_of_le htr hb5.size
    clear fr X x0 x1 hbr htr hb5 br bsr
    have x0 := X5.c0; have x1 := X5.c1
    by_cases z : D = 0
    case neg =>
      obtain ⟨hDk, hq, hat, hv⟩ := HDF.out z
      subst hDk
      have dz : (p.kd == 0) = false := by simpa using z
      have dzn : (p.kd != 0) = true := by simpa using z
      have dat : decide (now < p.at_) = false := decide_eq_false (by omega)
      have hany := HANY.out
      rw [dz] at hany
      clear HANY
      have HANY := Lib.hid hany
      clear hany
      have HM := Lib.hid hq
      clear hat HD HDF
      cases an with
      | true =>
        go_upto_region 13 with (go_at_call 11; refine (timay_any p _).mono ?_; rintro e w6 ⟨rfl, hb6⟩; rw [HM.out]; have f6 := f5.kept hb6; have X6 := tm_below X5 hb6 ht5; have b6 := b5.trans (hb6.mono b5.size); have ht6 : tb < w6.heap.size := Nat.lt_of_lt_of_le ht5 hb6.size; clear x0 x1; have x0 := X6.c0; have x1 := X6.c1)
        clear x0 x1 f5 X5 b5 ht5 hb6
        have g1 : (F.kd == 0) = false := by have := (HPLE.out hv).1; simpa using this
        have g2 : decide (p.at_ < F.at_) = false := decide_eq_false (by have := (HPLE.out hv).2; omega)
        have hds := due_self hq
        have HDS := Lib.hid hds
        clear hds hv hq
        have dd : Below w6.heap.size w6 w6.drew := (Below.refl _ _).drew
        refine wp_region_tail 45 46 (fun (W : World) => Bx W Q 28 [.int .i64 F.kd, .int .i64 F.at_] ∧ TmAt W tb (tof + k * 2) p ∧ Below w6.heap.size w6 W) (by kernel_rfl) (by rfl) (by decide) ?_
        have HS : ((fun (W : World) => Bx W Q 28 [.int .i64 F.kd, .int .i64 F.at_] ∧ TmAt W tb (tof + k * 2) p ∧ Below w6.heap.size w6 W)) _ := ⟨f6.kept dd, tm_below X6 dd ht6, dd⟩
        refine wpAnyT_take (i := 0) (v := ?vv1) rfl (by kernel_rfl) (fun _ _ _ h => h) (Or.inl ⟨by rfl, fun w hSw => ?yy1⟩) HS ?rr1
        case yy1 =>
          (try dsimp only at hSw); go_simp
          try with_reducible rfl
        try simp only [Act.put, List.setIfInBounds_toArray, List.set_cons_zero, List.set_cons_succ]
        refine wpAnyT_take (i := 1) (v := ?vv2) rfl (by kernel_rfl) (fun _ _ _ h => h) (Or.inl ⟨by rfl, fun w hSw => ?yy2⟩) HS ?rr2
        case yy2 =>
          (try dsimp only at hSw); go_simp
          try with_reducible rfl
        try simp only [Act.put, List.setIfInBounds_toArray, List.set_cons_zero, List.set_cons_succ]
        refine wpAnyT_take (i := 2) (v := ?vv3) rfl (by kernel_rfl) (fun _ _ _ h => h) (Or.inl ⟨by rfl, fun w hSw => ?yy3⟩) HS ?rr3
        case yy3 =>
          (try dsimp only at hSw); go_simp
          try with_reducible rfl
        try simp only [Act.put, List.setIfInBounds_toArray, List.set_cons_zero, List.set_cons_succ]
        refine wpAnyT_take (i := 3) (v := .agg #[.int .i64 p.kd, .int .i64 p.at_]) rfl (by kernel_rfl) (fun _ _ _ h => h) (Or.inl ⟨by rfl, fun w hSw => ?_⟩) HS ?_
        · obtain ⟨⟨c0, c1⟩, hbw⟩ := hSw.2; have g0 := hSw.1.cell 0 rfl; have g1 := hSw.1.cell 1 rfl; go_simp
        try simp only [Act.put, List.setIfInBounds_toArray, List.set_cons_zero, List.set_cons_succ]
        refine wpAnyT_one (k := 4) rfl (by kernel_rfl) (by decide) (fun K hK => ?_)
        go_simp
        refine (timay_any p _).mono ?_
        rintro e y1 ⟨rfl, hy1⟩
        rw [HM.out]
        have HS : ((fun (W : World) => Bx W Q 28 [.int .i64 F.kd, .int .i64 F.at_] ∧ TmAt W tb (tof + k * 2) p ∧ Below w6.heap.size w6 W)) _ := ⟨HS.1.kept hy1, tm_below HS.2.1 hy1 (Nat.lt_of_lt_of_le ht6 HS.2.2.size), HS.2.2.trans (hy1.mono HS.2.2.size)⟩
        refine hK _ _ HS ?_
        clear hK K
        try simp only [Act.put, List.setIfInBounds_toArray, List.set_cons_zero, List.set_cons_succ]
        refine wpAnyT_take (i := 5) (v := ?vv4) rfl (by kernel_rfl) (fun _ _ _ h => h) (Or.inl ⟨by rfl, fun w hSw => ?yy4⟩) HS ?rr4
        case yy4 =>
          (try dsimp only at hSw); go_simp
          try with_reducible rfl
        try simp only [Act.put, List.setIfInBounds_toArray, List.set_cons_zero, List.set_cons_succ]
        refine wpAnyT_take (i := 6) (v := ?vv5) rfl (by kernel_rfl) (fun _ _ _ h => h) (Or.inl ⟨by rfl, fun w hSw => ?yy5⟩) HS ?rr5
        case yy5 =>
          (try dsimp only at hSw); go_simp
          try with_reducible rfl
        try simp only [Act.put, List.setIfInBounds_toArray, List.set_cons_zero, List.set_cons_succ]
        refine wpAnyT_take (i := 7) (v := ?vv6) rfl (by kernel_rfl) (fun _ _ _ h => h) (Or.inl ⟨by rfl, fun w hSw => ?yy6⟩) HS ?rr6
        case yy6 =>
          (try dsimp only at hSw); go_simp
          try with_reducible rfl
        try simp only [Act.put, List.setIfInBounds_toArray, List.set_cons_zero, List.set_cons_succ]
        refine wpAnyT_take (i := 8) (v := ?vv7) rfl (by kernel_rfl) (fun _ _ _ h => h) (Or.inl ⟨by rfl, fun w hSw => ?yy7⟩) HS ?rr7
        case yy7 =>
          (try dsimp only at hSw); go_simp
          try with_reducible rfl
        try simp only [Act.put, List.setIfInBounds_toArray, List.set_cons_zero, List.set_cons_succ]
        refine wpAnyT_take (i := 9) (v := ?vv8) rfl (by kernel_rfl) (fun _ _ _ h => h) (Or.inl ⟨by rfl, fun w hSw => ?yy8⟩) HS ?rr8
        case yy8 =>
          (try dsimp only at hSw); go_simp
          try with_reducible rfl
        try simp only [Act.put, List.setIfInBounds_toArray, List.set_cons_zero, List.set_cons_succ]
        refine wpAnyT_take (i := 10) (v := .int .i64 p.kd) rfl (by kernel_rfl) (fun _ _ _ h => h) (Or.inl ⟨by rfl, fun w hSw => ?_⟩) HS ?_
        · obtain ⟨⟨c0, c1⟩, hbw⟩ := hSw.2; have g0 := hSw.1.cell 0 rfl; have g1 := hSw.1.cell 1 rfl; go_simp
        try simp only [Act.put, List.setIfInBounds_toArray, List.set_cons_zero, List.set_cons_succ]
        refine wpAnyT_take (i := 11) (v := ?vv9) rfl (by kernel_rfl) (fun _ _ _ h => h) (Or.inl ⟨by rfl, fun w hSw => ?yy9⟩) HS ?rr9
        case yy9 =>
          (try dsimp only at hSw); go_simp
          try with_reducible rfl
        try simp only [Act.put, List.setIfInBounds_toArray, List.set_cons_zero, List.set_cons_succ]
        refine wpAnyT_take (i := 12) (v := ?vv10) rfl (by kernel_rfl) (fun _ _ _ h => h) (Or.inl ⟨by rfl, fun w hSw => ?yy10⟩) HS ?rr10
        case yy10 =>
          (try dsimp only at hSw); go_simp
          try with_reducible rfl
        try simp only [Act.put, List.setIfInBounds_toArray, List.set_cons_zero, List.set_cons_succ]
        refine wpAnyT_take (i := 13) (v := ?vv11) rfl (by kernel_rfl) (fun _ _ _ h => h) (Or.inl ⟨by rfl, fun w hSw => ?yy11⟩) HS ?rr11
        case yy11 =>
          (try dsimp only at hSw); go_simp
          try with_reducible rfl
        try simp only [Act.put, List.setIfInBounds_toArray, List.set_cons_zero, List.set_cons_succ]
        refine wpAnyT_take (i := 14) (v := ?vv12) rfl (by kernel_rfl) (fun _ _ _ h => h) (Or.inl ⟨by rfl, fun w hSw => ?yy12⟩) HS ?rr12
        case yy12 =>
          (try dsimp only at hSw); go_simp
          try with_reducible rfl
        try simp only [Act.put, List.setIfInBounds_toArray, List.set_cons_zero, List.set_cons_succ]
        refine wpAnyT_take (i := 15) (v := ?vv13) rfl (by kernel_rfl) (fun _ _ _ h => h) (Or.inl ⟨by rfl, fun w hSw => ?yy13⟩) HS ?rr13
        case yy13 =>
          (try dsimp only at hSw); go_simp
          try with_reducible rfl
        try simp only [Act.put, List.setIfInBounds_toArray, List.set_cons_zero, List.set_cons_succ]
        refine wpAnyT_take (i := 16) (v := ?vv14) rfl (by kernel_rfl) (fun _ _ _ h => h) (Or.inl ⟨by rfl, fun w hSw => ?yy14⟩) HS ?rr14
        case yy14 =>
          (try dsimp only at hSw); go_simp
          try with_reducible rfl
        try simp only [Act.put, List.setIfInBounds_toArray, List.set_cons_zero, List.set_cons_succ]
        refine wpAnyT_take (i := 17) (v := .agg #[.int .i64 p.kd, .int .i64 p.at_]) rfl (by kernel_rfl) (fun _ _ _ h => h) (Or.inl ⟨by rfl, fun w hSw => ?_⟩) HS ?_
        · obtain ⟨⟨c0, c1⟩, hbw⟩ := hSw.2; have g0 := hSw.1.cell 0 rfl; have g1 := hSw.1.cell 1 rfl; go_simp
        try simp only [Act.put, List.setIfInBounds_toArray, List.set_cons_zero, List.set_cons_succ]
        refine wpAnyT_take (i := 18) (v := ?vv15) rfl (by kernel_rfl) (fun _ _ _ h => h) (Or.inl ⟨by rfl, fun w hSw => ?yy15⟩) HS ?rr15
        case yy15 =>
          (try dsimp only at hSw); go_simp
          try with_reducible rfl
        try simp only [Act.put, List.setIfInBounds_toArray, List.set_cons_zero, List.set_cons_succ]
        refine wpAnyT_take (i := 19) (v := ?vv16) rfl (by kernel_rfl) (fun _ _ _ h => h) (Or.inl ⟨by rfl, fun w hSw => ?yy16⟩) HS ?rr16
        case yy16 =>
          (try dsimp only at hSw); go_simp
          try with_reducible rfl
        try simp only [Act.put, List.setIfInBounds_toArray, List.set_cons_zero, List.set_cons_succ]
        refine wpAnyT_take (i := 20) (v := ?vv17) rfl (by kernel_rfl) (fun _ _ _ h => h) (Or.inl ⟨by rfl, fun w hSw => ?yy17⟩) HS ?rr17
        case yy17 =>
          (try dsimp only at hSw); go_simp
          try with_reducible rfl
        try simp only [Act.put, List.setIfInBounds_toArray, List.set_cons_zero, List.set_cons_succ]
        refine wpAnyT_take (i := 21) (v := ?vv18) rfl (by kernel_rfl) (fun _ _ _ h => h) (Or.inl ⟨by rfl, fun w hSw => ?yy18⟩) HS ?rr18
        case yy18 =>
          (try dsimp only at hSw); go_simp
          try with_reducible rfl
        try simp only [Act.put, List.setIfInBounds_toArray, List.set_cons_zero, List.set_cons_succ]
        refine wpAnyT_take (i := 22) (v := .int .i64 p.at_) rfl (by kernel_rfl) (fun _ _ _ h => h) (Or.inl ⟨by rfl, fun w hSw => ?_⟩) HS ?_
        · obtain ⟨⟨c0, c1⟩, hbw⟩ := hSw.2; have g0 := hSw.1.cell 0 rfl; have g1 := hSw.1.cell 1 rfl; go_simp
        try simp only [Act.put, List.setIfInBounds_toArray, List.set_cons_zero, List.set_cons_succ]
        refine wpAnyT_take (i := 24) (v := ?vv19) rfl (by kernel_rfl) (fun _ _ _ h => h) (Or.inl ⟨by rfl, fun w hSw => ?yy19⟩) HS ?rr19
        case yy19 =>
          (try dsimp only at hSw); go_simp
          try with_reducible rfl
        try simp only [Act.put, List.setIfInBounds_toArray, List.set_cons_zero, List.set_cons_succ]
        refine wpAnyT_take (i := 25) (v := ?vv20) rfl (by kernel_rfl) (fun _ _ _ h => h) (Or.inl ⟨by rfl, fun w hSw => ?yy20⟩) HS ?rr20
        case yy20 =>
          (try dsimp only at hSw); go_simp
          try with_reducible rfl
        try simp only [Act.put, List.setIfInBounds_toArray, List.set_cons_zero, List.set_cons_succ]
        refine wpAnyT_take (i := 26) (v := ?vv21) rfl (by kernel_rfl) (fun _ _ _ h => h) (Or.inl ⟨by rfl, fun w hSw => ?yy21⟩) HS ?rr21
        case yy21 =>
          (try dsimp only at hSw); go_simp
          try with_reducible rfl
        try simp only [Act.put, List.setIfInBounds_toArray, List.set_cons_zero, List.set_cons_succ]
        refine wpAnyT_take (i := 27) (v := ?vv22) rfl (by kernel_rfl) (fun _ _ _ h => h) (Or.inl ⟨by rfl, fun w hSw => ?yy22⟩) HS ?rr22
        case yy22 =>
          (try dsimp only at hSw); go_simp
          try with_reducible rfl
        try simp only [Act.put, List.setIfInBounds_toArray, List.set_cons_zero, List.set_cons_succ]
        refine wpAnyT_take (i := 28) (v := .int .i64 p.kd) rfl (by kernel_rfl) (fun _ _ _ h => h) (Or.inl ⟨by rfl, fun w hSw => ?_⟩) HS ?_
        · obtain ⟨⟨c0, c1⟩, hbw⟩ := hSw.2; have g0 := hSw.1.cell 0 rfl; have g1 := hSw.1.cell 1 rfl; go_simp
        try simp only [Act.put, List.setIfInBounds_toArray, List.set_cons_zero, List.set_cons_succ]
        refine wpAnyT_one (k := 23) rfl (by kernel_rfl) (by decide) (fun K hK => ?_)
        go_simp
        refine (tidue_any p p.at_ _).mono ?_
        rintro e y2 ⟨rfl, hy2⟩
        rw [HDS.out]
        have HS : ((fun (W : World) => Bx W Q 28 [.int .i64 F.kd, .int .i64 F.at_] ∧ TmAt W tb (tof + k * 2) p ∧ Below w6.heap.size w6 W)) _ := ⟨HS.1.kept hy2, tm_below HS.2.1 hy2 (Nat.lt_of_lt_of_le ht6 HS.2.2.size), HS.2.2.trans (hy2.mono HS.2.2.size)⟩
        refine hK _ _ HS ?_
        clear hK K
        try simp only [Act.put, List.setIfInBounds_toArray, List.set_cons_zero, List.set_cons_succ]
        refine wpAnyT_take (i := 29) (v := ?vv23) rfl (by kernel_rfl) (fun _ _ _ h => h) (Or.inl ⟨by rfl, fun w hSw => ?yy23⟩) HS ?rr23
        case yy23 =>
          (try dsimp only at hSw); go_simp
          try with_reducible rfl
        try simp only [Act.put, List.setIfInBounds_toArray, List.set_cons_zero, List.set_cons_succ]
        refine wpAnyT_take (i := 30) (v := ?vv24) rfl (by kernel_rfl) (fun _ _ _ h => h) (Or.inl ⟨by rfl, fun w hSw => ?yy24⟩) HS ?rr24
        case yy24 =>
          (try dsimp only at hSw); go_simp
          try with_reducible rfl
        try simp only [Act.put, List.setIfInBounds_toArray, List.set_cons_zero, List.set_cons_succ]
        refine wpAnyT_take (i := 31) (v := ?vv25) rfl (by kernel_rfl) (fun _ _ _ h => h) (Or.inl ⟨by rfl, fun w hSw => ?yy25⟩) HS ?rr25
        case yy25 =>
          (try dsimp only at hSw); go_simp
          try with_reducible rfl
        try simp only [Act.put, List.setIfInBounds_toArray, List.set_cons_zero, List.set_cons_succ]
        refine wpAnyT_take (i := 32) (v := .int .i64 F.kd) rfl (by kernel_rfl) (fun _ _ _ h => h) (Or.inl ⟨by rfl, fun w hSw => ?_⟩) HS ?_
        · obtain ⟨⟨c0, c1⟩, hbw⟩ := hSw.2; have g0 := hSw.1.cell 0 rfl; have g1 := hSw.1.cell 1 rfl; go_simp
        try simp only [Act.put, List.setIfInBounds_toArray, List.set_cons_zero, List.set_cons_succ]
        refine wpAnyT_take (i := 33) (v := ?vv26) rfl (by kernel_rfl) (fun _ _ _ h => h) (Or.inl ⟨by rfl, fun w hSw => ?yy26⟩) HS ?rr26
        case yy26 =>
          (try dsimp only at hSw); go_simp
          try with_reducible rfl
        try simp only [Act.put, List.setIfInBounds_toArray, List.set_cons_zero, List.set_cons_succ]
        refine wpAnyT_take (i := 34) (v := ?vv27) rfl (by kernel_rfl) (fun _ _ _ h => h) (Or.inl ⟨by rfl, fun w hSw => ?yy27⟩) HS ?rr27
        case yy27 =>
          (try dsimp only at hSw); go_simp
          try with_reducible rfl
        try simp only [Act.put, List.setIfInBounds_toArray, List.set_cons_zero, List.set_cons_succ]
        refine wpAnyT_take (i := 35) (v := ?vv28) rfl (by kernel_rfl) (fun _ _ _ h => h) (Or.inl ⟨by rfl, fun w hSw => ?yy28⟩) HS ?rr28
        case yy28 =>
          (try dsimp only at hSw); go_simp
          try with_reducible rfl
        try simp only [Act.put, List.setIfInBounds_toArray, List.set_cons_zero, List.set_cons_succ]
        refine wpAnyT_take (i := 36) (v := ?vv29) rfl (by kernel_rfl) (fun _ _ _ h => h) (Or.inl ⟨by rfl, fun w hSw => ?yy29⟩) HS ?rr29
        case yy29 =>
          (try dsimp only at hSw); go_simp
          try with_reducible rfl
        try simp only [Act.put, List.setIfInBounds_toArray, List.set_cons_zero, List.set_cons_succ]
        refine wpAnyT_take (i := 37) (v := .int .i64 F.at_) rfl (by kernel_rfl) (fun _ _ _ h => h) (Or.inl ⟨by rfl, fun w hSw => ?_⟩) HS ?_
        · obtain ⟨⟨c0, c1⟩, hbw⟩ := hSw.2; have g0 := hSw.1.cell 0 rfl; have g1 := hSw.1.cell 1 rfl; go_simp
        try simp only [Act.put, List.setIfInBounds_toArray, List.set_cons_zero, List.set_cons_succ]
        refine wpAnyT_take (i := 38) (v := ?vv30) rfl (by kernel_rfl) (fun _ _ _ h => h) (Or.inl ⟨by rfl, fun w hSw => ?yy30⟩) HS ?rr30
        case yy30 =>
          (try dsimp only at hSw); go_simp
          try with_reducible rfl
        try simp only [Act.put, List.setIfInBounds_toArray, List.set_cons_zero, List.set_cons_succ]
        refine wpAnyT_take (i := 39) (v := ?vv31) rfl (by kernel_rfl) (fun _ _ _ h => h) (Or.inl ⟨by rfl, fun w hSw => ?yy31⟩) HS ?rr31
        case yy31 =>
          (try dsimp only at hSw); go_simp
          try with_reducible rfl
        try simp only [Act.put, List.setIfInBounds_toArray, List.set_cons_zero, List.set_cons_succ]
        refine wpAnyT_take (i := 40) (v := ?vv32) rfl (by kernel_rfl) (fun _ _ _ h => h) (Or.inl ⟨by rfl, fun w hSw => ?yy32⟩) HS ?rr32
        case yy32 =>
          (try dsimp only at hSw); go_simp
          try with_reducible rfl
        try simp only [Act.put, List.setIfInBounds_toArray, List.set_cons_zero, List.set_cons_succ]
        refine wpAnyT_take (i := 41) (v := ?vv33) rfl (by kernel_rfl) (fun _ _ _ h => h) (Or.inl ⟨by rfl, fun w hSw => ?yy33⟩) HS ?rr33
        case yy33 =>
          (try dsimp only at hSw); go_simp
          try with_reducible rfl
        try simp only [Act.put, List.setIfInBounds_toArray, List.set_cons_zero, List.set_cons_succ]
        refine wpAnyT_take (i := 42) (v := .int .i64 p.at_) rfl (by kernel_rfl) (fun _ _ _ h => h) (Or.inl ⟨by rfl, fun w hSw => ?_⟩) HS ?_
        · obtain ⟨⟨c0, c1⟩, hbw⟩ := hSw.2; have g0 := hSw.1.cell 0 rfl; have g1 := hSw.1.cell 1 rfl; go_simp
        try simp only [Act.put, List.setIfInBounds_toArray, List.set_cons_zero, List.set_cons_succ]
        refine wpAnyT_take (i := 43) (v := ?vv34) rfl (by kernel_rfl) (fun _ _ _ h => h) (Or.inl ⟨by rfl, fun w hSw => ?yy34⟩) HS ?rr34
        case yy34 =>
          (try dsimp only at hSw); go_simp
          try with_reducible rfl
        try simp only [Act.put, List.setIfInBounds_toArray, List.set_cons_zero, List.set_cons_succ]
        refine wpAnyT_take (i := 44) (v := ?vv35) rfl (by kernel_rfl) (fun _ _ _ h => h) (Or.inl ⟨by rfl, fun w hSw => ?yy35⟩) HS ?rr35
        case yy35 =>
          (try dsimp only at hSw); go_simp
          try with_reducible rfl
        try simp only [Act.put, List.setIfInBounds_toArray, List.set_cons_zero, List.set_cons_succ]
        refine ⟨by kernel_rfl, ?_⟩
        simp only [List.drop_succ_cons, List.drop_zero]
        have hbz := b6.trans (HS.2.2.mono (b6.size))
        clear HS dd X6 f6
        go_wp2_with fail
        go_roundw
        case rel => exact ⟨k + 1, by omega, by go_num, by rw [HANY.out]; rfl, hbz⟩
        case measure => simp [intOf]; omega
      | false =>
        go_upto_region 13 with (go_at_call 11; refine (timay_any p _).mono ?_; rintro e w6 ⟨rfl, hb6⟩; rw [HM.out]; have f6 := f5.kept hb6; have X6 := tm_below X5 hb6 ht5; have b6 := b5.trans (hb6.mono b5.size); have ht6 : tb < w6.heap.size := Nat.lt_of_lt_of_le ht5 hb6.size; clear x0 x1; have x0 := X6.c0; have x1 := X6.c1)
        clear x0 x1 f5 X5 b5 ht5 hb6
        have g1 : (F.kd == 0) = false := by have := (HPLE.out hv).1; simpa using this
        have g2 : decide (p.at_ < F.at_) = false := decide_eq_false (by have := (HPLE.out hv).2; omega)
        have hds := due_self hq
        have HDS := Lib.hid hds
        clear hds hv hq
        have dd : Below w6.heap.size w6 w6.drew := (Below.refl _ _).drew
        refine wp_region_tail 45 46 (fun (W : World) => Bx W Q 28 [.int .i64 F.kd, .int .i64 F.at_] ∧ TmAt W tb (tof + k * 2) p ∧ Below w6.heap.size w6 W) (by kernel_rfl) (by rfl) (by decide) ?_
        have HS : ((fun (W : World) => Bx W Q 28 [.int .i64 F.kd, .int .i64 F.at_] ∧ TmAt W tb (tof + k * 2) p ∧ Below w6.heap.size w6 W)) _ := ⟨f6.kept dd, tm_below X6 dd ht6, dd⟩
        refine wpAnyT_take (i := 0) (v := ?vv36) rfl (by kernel_rfl) (fun _ _ _ h => h) (Or.inl ⟨by rfl, fun w hSw => ?yy36⟩) HS ?rr36
        case yy36 =>
          (try dsimp only at hSw); go_simp
          try with_reducible rfl
        try simp only [Act.put, List.setIfInBounds_toArray, List.set_cons_zero, List.set_cons_succ]
        refine wpAnyT_take (i := 1) (v := ?vv37) rfl (by kernel_rfl) (fun _ _ _ h => h) (Or.inl ⟨by rfl, fun w hSw => ?yy37⟩) HS ?rr37
        case yy37 =>
          (try dsimp only at hSw); go_simp
          try with_reducible rfl
        try simp only [Act.put, List.setIfInBounds_toArray, List.set_cons_zero, List.set_cons_succ]
        refine wpAnyT_take (i := 2) (v := ?vv38) rfl (by kernel_rfl) (fun _ _ _ h => h) (Or.inl ⟨by rfl, fun w hSw => ?yy38⟩) HS ?rr38
        case yy38 =>
          (try dsimp only at hSw); go_simp
          try with_reducible rfl
        try simp only [Act.put, List.setIfInBounds_toArray, List.set_cons_zero, List.set_cons_succ]
        refine wpAnyT_take (i := 3) (v := .agg #[.int .i64 p.kd, .int .i64 p.at_]) rfl (by kernel_rfl) (fun _ _ _ h => h) (Or.inl ⟨by rfl, fun w hSw => ?_⟩) HS ?_
        · obtain ⟨⟨c0, c1⟩, hbw⟩ := hSw.2; have g0 := hSw.1.cell 0 rfl; have g1 := hSw.1.cell 1 rfl; go_simp
        try simp only [Act.put, List.setIfInBounds_toArray, List.set_cons_zero, List.set_cons_succ]
        refine wpAnyT_one (k := 4) rfl (by kernel_rfl) (by decide) (fun K hK => ?_)
        go_simp
        refine (timay_any p _).mono ?_
        rintro e y1 ⟨rfl, hy1⟩
        rw [HM.out]
        have HS : ((fun (W : World) => Bx W Q 28 [.int .i64 F.kd, .int .i64 F.at_] ∧ TmAt W tb (tof + k * 2) p ∧ Below w6.heap.size w6 W)) _ := ⟨HS.1.kept hy1, tm_below HS.2.1 hy1 (Nat.lt_of_lt_of_le ht6 HS.2.2.size), HS.2.2.trans (hy1.mono HS.2.2.size)⟩
        refine hK _ _ HS ?_
        clear hK K
        try simp only [Act.put, List.setIfInBounds_toArray, List.set_cons_zero, List.set_cons_succ]
        refine wpAnyT_take (i := 5) (v := ?vv39) rfl (by kernel_rfl) (fun _ _ _ h => h) (Or.inl ⟨by rfl, fun w hSw => ?yy39⟩) HS ?rr39
        case yy39 =>
          (try dsimp only at hSw); go_simp
          try with_reducible rfl
        try simp only [Act.put, List.setIfInBounds_toArray, List.set_cons_zero, List.set_cons_succ]
        refine wpAnyT_take (i := 6) (v := ?vv40) rfl (by kernel_rfl) (fun _ _ _ h => h) (Or.inl ⟨by rfl, fun w hSw => ?yy40⟩) HS ?rr40
        case yy40 =>
          (try dsimp only at hSw); go_simp
          try with_reducible rfl
        try simp only [Act.put, List.setIfInBounds_toArray, List.set_cons_zero, List.set_cons_succ]
        refine wpAnyT_take (i := 7) (v := ?vv41) rfl (by kernel_rfl) (fun _ _ _ h => h) (Or.inl ⟨by rfl, fun w hSw => ?yy41⟩) HS ?rr41
        case yy41 =>
          (try dsimp only at hSw); go_simp
          try with_reducible rfl
        try simp only [Act.put, List.setIfInBounds_toArray, List.set_cons_zero, List.set_cons_succ]
        refine wpAnyT_take (i := 8) (v := ?vv42) rfl (by kernel_rfl) (fun _ _ _ h => h) (Or.inl ⟨by rfl, fun w hSw => ?yy42⟩) HS ?rr42
        case yy42 =>
          (try dsimp only at hSw); go_simp
          try with_reducible rfl
        try simp only [Act.put, List.setIfInBounds_toArray, List.set_cons_zero, List.set_cons_succ]
        refine wpAnyT_take (i := 9) (v := ?vv43) rfl (by kernel_rfl) (fun _ _ _ h => h) (Or.inl ⟨by rfl, fun w hSw => ?yy43⟩) HS ?rr43
        case yy43 =>
          (try dsimp only at hSw); go_simp
          try with_reducible rfl
        try simp only [Act.put, List.setIfInBounds_toArray, List.set_cons_zero, List.set_cons_succ]
        refine wpAnyT_take (i := 10) (v := .int .i64 p.kd) rfl (by kernel_rfl) (fun _ _ _ h => h) (Or.inl ⟨by rfl, fun w hSw => ?_⟩) HS ?_
        · obtain ⟨⟨c0, c1⟩, hbw⟩ := hSw.2; have g0 := hSw.1.cell 0 rfl; have g1 := hSw.1.cell 1 rfl; go_simp
        try simp only [Act.put, List.setIfInBounds_toArray, List.set_cons_zero, List.set_cons_succ]
        refine wpAnyT_take (i := 11) (v := ?vv44) rfl (by kernel_rfl) (fun _ _ _ h => h) (Or.inl ⟨by rfl, fun w hSw => ?yy44⟩) HS ?rr44
        case yy44 =>
          (try dsimp only at hSw); go_simp
          try with_reducible rfl
        try simp only [Act.put, List.setIfInBounds_toArray, List.set_cons_zero, List.set_cons_succ]
        refine wpAnyT_take (i := 12) (v := ?vv45) rfl (by kernel_rfl) (fun _ _ _ h => h) (Or.inl ⟨by rfl, fun w hSw => ?yy45⟩) HS ?rr45
        case yy45 =>
          (try dsimp only at hSw); go_simp
          try with_reducible rfl
        try simp only [Act.put, List.setIfInBounds_toArray, List.set_cons_zero, List.set_cons_succ]
        refine wpAnyT_take (i := 13) (v := ?vv46) rfl (by kernel_rfl) (fun _ _ _ h => h) (Or.inl ⟨by rfl, fun w hSw => ?yy46⟩) HS ?rr46
        case yy46 =>
          (try dsimp only at hSw); go_simp
          try with_reducible rfl
        try simp only [Act.put, List.setIfInBounds_toArray, List.set_cons_zero, List.set_cons_succ]
        refine wpAnyT_take (i := 14) (v := ?vv47) rfl (by kernel_rfl) (fun _ _ _ h => h) (Or.inl ⟨by rfl, fun w hSw => ?yy47⟩) HS ?rr47
        case yy47 =>
          (try dsimp only at hSw); go_simp
          try with_reducible rfl
        try simp only [Act.put, List.setIfInBounds_toArray, List.set_cons_zero, List.set_cons_succ]
        refine wpAnyT_take (i := 15) (v := ?vv48) rfl (by kernel_rfl) (fun _ _ _ h => h) (Or.inl ⟨by rfl, fun w hSw => ?yy48⟩) HS ?rr48
        case yy48 =>
          (try dsimp only at hSw); go_simp
          try with_reducible rfl
        try simp only [Act.put, List.setIfInBounds_toArray, List.set_cons_zero, List.set_cons_succ]
        refine wpAnyT_take (i := 16) (v := ?vv49) rfl (by kernel_rfl) (fun _ _ _ h => h) (Or.inl ⟨by rfl, fun w hSw => ?yy49⟩) HS ?rr49
        case yy49 =>
          (try dsimp only at hSw); go_simp
          try with_reducible rfl
        try simp only [Act.put, List.setIfInBounds_toArray, List.set_cons_zero, List.set_cons_succ]
        refine wpAnyT_take (i := 17) (v := .agg #[.int .i64 p.kd, .int .i64 p.at_]) rfl (by kernel_rfl) (fun _ _ _ h => h) (Or.inl ⟨by rfl, fun w hSw => ?_⟩) HS ?_
        · obtain ⟨⟨c0, c1⟩, hbw⟩ := hSw.2; have g0 := hSw.1.cell 0 rfl; have g1 := hSw.1.cell 1 rfl; go_simp
        try simp only [Act.put, List.setIfInBounds_toArray, List.set_cons_zero, List.set_cons_succ]
        refine wpAnyT_take (i := 18) (v := ?vv50) rfl (by kernel_rfl) (fun _ _ _ h => h) (Or.inl ⟨by rfl, fun w hSw => ?yy50⟩) HS ?rr50
        case yy50 =>
          (try dsimp only at hSw); go_simp
          try with_reducible rfl
        try simp only [Act.put, List.setIfInBounds_toArray, List.set_cons_zero, List.set_cons_succ]
        refine wpAnyT_take (i := 19) (v := ?vv51) rfl (by kernel_rfl) (fun _ _ _ h => h) (Or.inl ⟨by rfl, fun w hSw => ?yy51⟩) HS ?rr51
        case yy51 =>
          (try dsimp only at hSw); go_simp
          try with_reducible rfl
        try simp only [Act.put, List.setIfInBounds_toArray, List.set_cons_zero, List.set_cons_succ]
        refine wpAnyT_take (i := 20) (v := ?vv52) rfl (by kernel_rfl) (fun _ _ _ h => h) (Or.inl ⟨by rfl, fun w hSw => ?yy52⟩) HS ?rr52
        case yy52 =>
          (try dsimp only at hSw); go_simp
          try with_reducible rfl
        try simp only [Act.put, List.setIfInBounds_toArray, List.set_cons_zero, List.set_cons_succ]
        refine wpAnyT_take (i := 21) (v := ?vv53) rfl (by kernel_rfl) (fun _ _ _ h => h) (Or.inl ⟨by rfl, fun w hSw => ?yy53⟩) HS ?rr53
        case yy53 =>
          (try dsimp only at hSw); go_simp
          try with_reducible rfl
        try simp only [Act.put, List.setIfInBounds_toArray, List.set_cons_zero, List.set_cons_succ]
        refine wpAnyT_take (i := 22) (v := .int .i64 p.at_) rfl (by kernel_rfl) (fun _ _ _ h => h) (Or.inl ⟨by rfl, fun w hSw => ?_⟩) HS ?_
        · obtain ⟨⟨c0, c1⟩, hbw⟩ := hSw.2; have g0 := hSw.1.cell 0 rfl; have g1 := hSw.1.cell 1 rfl; go_simp
        try simp only [Act.put, List.setIfInBounds_toArray, List.set_cons_zero, List.set_cons_succ]
        refine wpAnyT_take (i := 24) (v := ?vv54) rfl (by kernel_rfl) (fun _ _ _ h => h) (Or.inl ⟨by rfl, fun w hSw => ?yy54⟩) HS ?rr54
        case yy54 =>
          (try dsimp only at hSw); go_simp
          try with_reducible rfl
        try simp only [Act.put, List.setIfInBounds_toArray, List.set_cons_zero, List.set_cons_succ]
        refine wpAnyT_take (i := 25) (v := ?vv55) rfl (by kernel_rfl) (fun _ _ _ h => h) (Or.inl ⟨by rfl, fun w hSw => ?yy55⟩) HS ?rr55
        case yy55 =>
          (try dsimp only at hSw); go_simp
          try with_reducible rfl
        try simp only [Act.put, List.setIfInBounds_toArray, List.set_cons_zero, List.set_cons_succ]
        refine wpAnyT_take (i := 26) (v := ?vv56) rfl (by kernel_rfl) (fun _ _ _ h => h) (Or.inl ⟨by rfl, fun w hSw => ?yy56⟩) HS ?rr56
        case yy56 =>
          (try dsimp only at hSw); go_simp
          try with_reducible rfl
        try simp only [Act.put, List.setIfInBounds_toArray, List.set_cons_zero, List.set_cons_succ]
        refine wpAnyT_take (i := 27) (v := ?vv57) rfl (by kernel_rfl) (fun _ _ _ h => h) (Or.inl ⟨by rfl, fun w hSw => ?yy57⟩) HS ?rr57
        case yy57 =>
          (try dsimp only at hSw); go_simp
          try with_reducible rfl
        try simp only [Act.put, List.setIfInBounds_toArray, List.set_cons_zero, List.set_cons_succ]
        refine wpAnyT_take (i := 28) (v := .int .i64 p.kd) rfl (by kernel_rfl) (fun _ _ _ h => h) (Or.inl ⟨by rfl, fun w hSw => ?_⟩) HS ?_
        · obtain ⟨⟨c0, c1⟩, hbw⟩ := hSw.2; have g0 := hSw.1.cell 0 rfl; have g1 := hSw.1.cell 1 rfl; go_simp
        try simp only [Act.put, List.setIfInBounds_toArray, List.set_cons_zero, List.set_cons_succ]
        refine wpAnyT_one (k := 23) rfl (by kernel_rfl) (by decide) (fun K hK => ?_)
        go_simp
        refine (tidue_any p p.at_ _).mono ?_
        rintro e y2 ⟨rfl, hy2⟩
        rw [HDS.out]
        have HS : ((fun (W : World) => Bx W Q 28 [.int .i64 F.kd, .int .i64 F.at_] ∧ TmAt W tb (tof + k * 2) p ∧ Below w6.heap.size w6 W)) _ := ⟨HS.1.kept hy2, tm_below HS.2.1 hy2 (Nat.lt_of_lt_of_le ht6 HS.2.2.size), HS.2.2.trans (hy2.mono HS.2.2.size)⟩
        refine hK _ _ HS ?_
        clear hK K
        try simp only [Act.put, List.setIfInBounds_toArray, List.set_cons_zero, List.set_cons_succ]
        refine wpAnyT_take (i := 29) (v := ?vv58) rfl (by kernel_rfl) (fun _ _ _ h => h) (Or.inl ⟨by rfl, fun w hSw => ?yy58⟩) HS ?rr58
        case yy58 =>
          (try dsimp only at hSw); go_simp
          try with_reducible rfl
        try simp only [Act.put, List.setIfInBounds_toArray, List.set_cons_zero, List.set_cons_succ]
        refine wpAnyT_take (i := 30) (v := ?vv59) rfl (by kernel_rfl) (fun _ _ _ h => h) (Or.inl ⟨by rfl, fun w hSw => ?yy59⟩) HS ?rr59
        case yy59 =>
          (try dsimp only at hSw); go_simp
          try with_reducible rfl
        try simp only [Act.put, List.setIfInBounds_toArray, List.set_cons_zero, List.set_cons_succ]
        refine wpAnyT_take (i := 31) (v := ?vv60) rfl (by kernel_rfl) (fun _ _ _ h => h) (Or.inl ⟨by rfl, fun w hSw => ?yy60⟩) HS ?rr60
        case yy60 =>
          (try dsimp only at hSw); go_simp
          try with_reducible rfl
        try simp only [Act.put, List.setIfInBounds_toArray, List.set_cons_zero, List.set_cons_succ]
        refine wpAnyT_take (i := 32) (v := .int .i64 F.kd) rfl (by kernel_rfl) (fun _ _ _ h => h) (Or.inl ⟨by rfl, fun w hSw => ?_⟩) HS ?_
        · obtain ⟨⟨c0, c1⟩, hbw⟩ := hSw.2; have g0 := hSw.1.cell 0 rfl; have g1 := hSw.1.cell 1 rfl; go_simp
        try simp only [Act.put, List.setIfInBounds_toArray, List.set_cons_zero, List.set_cons_succ]
        refine wpAnyT_take (i := 33) (v := ?vv61) rfl (by kernel_rfl) (fun _ _ _ h => h) (Or.inl ⟨by rfl, fun w hSw => ?yy61⟩) HS ?rr61
        case yy61 =>
          (try dsimp only at hSw); go_simp
          try with_reducible rfl
        try simp only [Act.put, List.setIfInBounds_toArray, List.set_cons_zero, List.set_cons_succ]
        refine wpAnyT_take (i := 34) (v := ?vv62) rfl (by kernel_rfl) (fun _ _ _ h => h) (Or.inl ⟨by rfl, fun w hSw => ?yy62⟩) HS ?rr62
        case yy62 =>
          (try dsimp only at hSw); go_simp
          try with_reducible rfl
        try simp only [Act.put, List.setIfInBounds_toArray, List.set_cons_zero, List.set_cons_succ]
        refine wpAnyT_take (i := 35) (v := ?vv63) rfl (by kernel_rfl) (fun _ _ _ h => h) (Or.inl ⟨by rfl, fun w hSw => ?yy63⟩) HS ?rr63
        case yy63 =>
          (try dsimp only at hSw); go_simp
          try with_reducible rfl
        try simp only [Act.put, List.setIfInBounds_toArray, List.set_cons_zero, List.set_cons_succ]
        refine wpAnyT_take (i := 36) (v := ?vv64) rfl (by kernel_rfl) (fun _ _ _ h => h) (Or.inl ⟨by rfl, fun w hSw => ?yy64⟩) HS ?rr64
        case yy64 =>
          (try dsimp only at hSw); go_simp
          try with_reducible rfl
        try simp only [Act.put, List.setIfInBounds_toArray, List.set_cons_zero, List.set_cons_succ]
        refine wpAnyT_take (i := 37) (v := .int .i64 F.at_) rfl (by kernel_rfl) (fun _ _ _ h => h) (Or.inl ⟨by rfl, fun w hSw => ?_⟩) HS ?_
        · obtain ⟨⟨c0, c1⟩, hbw⟩ := hSw.2; have g0 := hSw.1.cell 0 rfl; have g1 := hSw.1.cell 1 rfl; go_simp
        try simp only [Act.put, List.setIfInBounds_toArray, List.set_cons_zero, List.set_cons_succ]
        refine wpAnyT_take (i := 38) (v := ?vv65) rfl (by kernel_rfl) (fun _ _ _ h => h) (Or.inl ⟨by rfl, fun w hSw => ?yy65⟩) HS ?rr65
        case yy65 =>
          (try dsimp only at hSw); go_simp
          try with_reducible rfl
        try simp only [Act.put, List.setIfInBounds_toArray, List.set_cons_zero, List.set_cons_succ]
        refine wpAnyT_take (i := 39) (v := ?vv66) rfl (by kernel_rfl) (fun _ _ _ h => h) (Or.inl ⟨by rfl, fun w hSw => ?yy66⟩) HS ?rr66
        case yy66 =>
          (try dsimp only at hSw); go_simp
          try with_reducible rfl
        try simp only [Act.put, List.setIfInBounds_toArray, List.set_cons_zero, List.set_cons_succ]
        refine wpAnyT_take (i := 40) (v := ?vv67) rfl (by kernel_rfl) (fun _ _ _ h => h) (Or.inl ⟨by rfl, fun w hSw => ?yy67⟩) HS ?rr67
        case yy67 =>
          (try dsimp only at hSw); go_simp
          try with_reducible rfl
        try simp only [Act.put, List.setIfInBounds_toArray, List.set_cons_zero, List.set_cons_succ]
        refine wpAnyT_take (i := 41) (v := ?vv68) rfl (by kernel_rfl) (fun _ _ _ h => h) (Or.inl ⟨by rfl, fun w hSw => ?yy68⟩) HS ?rr68
        case yy68 =>
          (try dsimp only at hSw); go_simp
          try with_reducible rfl
        try simp only [Act.put, List.setIfInBounds_toArray, List.set_cons_zero, List.set_cons_succ]
        refine wpAnyT_take (i := 42) (v := .int .i64 p.at_) rfl (by kernel_rfl) (fun _ _ _ h => h) (Or.inl ⟨by rfl, fun w hSw => ?_⟩) HS ?_
        · obtain ⟨⟨c0, c1⟩, hbw⟩ := hSw.2; have g0 := hSw.1.cell 0 rfl; have g1 := hSw.1.cell 1 rfl; go_simp
        try simp only [Act.put, List.setIfInBounds_toArray, List.set_cons_zero, List.set_cons_succ]
        refine wpAnyT_take (i := 43) (v := ?vv69) rfl (by kernel_rfl) (fun _ _ _ h => h) (Or.inl ⟨by rfl, fun w hSw => ?yy69⟩) HS ?rr69
        case yy69 =>
          (try dsimp only at hSw); go_simp
          try with_reducible rfl
        try simp only [Act.put, List.setIfInBounds_toArray, List.set_cons_zero, List.set_cons_succ]
        refine wpAnyT_take (i := 44) (v := ?vv70) rfl (by kernel_rfl) (fun _ _ _ h => h) (Or.inl ⟨by rfl, fun w hSw => ?yy70⟩) HS ?rr70
        case yy70 =>
          (try dsimp only at hSw); go_simp
          try with_reducible rfl
        try simp only [Act.put, List.setIfInBounds_toArray, List.set_cons_zero, List.set_cons_succ]
        refine ⟨by kernel_rfl, ?_⟩
        simp only [List.drop_succ_cons, List.drop_zero]
        have hbz := b6.trans (HS.2.2.mono (b6.size))
        clear HS dd X6 f6
        go_wp2_with fail
        go_roundw
        case rel => exact ⟨k + 1, by omega, by go_num, by rw [HANY.out]; rfl, hbz⟩
        case measure => simp [intOf]; omega
    case pos =>
    subst z
    clear HD HDF
    cases hq : tmB p with
    | false =>
      have HM := Lib.hid hq
      clear hq
      cases an with
      | true =>
        go_upto_region 13 with fail
        obtain ⟨w6, hw6⟩ : ∃ W, w5 = W := ⟨_, rfl⟩
        rw [hw6] at f5 X5 b5 ht5 ⊢
        clear x0 x1 hw6
        have f6 := f5; have X6 := X5; have b6 := b5; have ht6 := ht5
        clear f5 X5 b5 ht5
        have dd : Below w6.heap.size w6 w6.drew := (Below.refl _ _).drew
        refine wp_region_tail 45 46 (fun (W : World) => Bx W Q 28 [.int .i64 F.kd, .int .i64 F.at_] ∧ TmAt W tb (tof + k * 2) p ∧ Below w6.heap.size w6 W) (by kernel_rfl) (by rfl) (by decide) ?_
        have HS : ((fun (W : World) => Bx W Q 28 [.int .i64 F.kd, .int .i64 F.at_] ∧ TmAt W tb (tof + k * 2) p ∧ Below w6.heap.size w6 W)) _ := ⟨f6.kept dd, tm_below X6 dd ht6, dd⟩
        refine wpAnyT_take (i := 0) (v := ?vv71) rfl (by kernel_rfl) (fun _ _ _ h => h) (Or.inl ⟨by rfl, fun w hSw => ?yy71⟩) HS ?rr71
        case yy71 =>
          (try dsimp only at hSw); go_simp
          try with_reducible rfl
        try simp only [Act.put, List.setIfInBounds_toArray, List.set_cons_zero, List.set_cons_succ]
        refine wpAnyT_take (i := 1) (v := ?vv72) rfl (by kernel_rfl) (fun _ _ _ h => h) (Or.inl ⟨by rfl, fun w hSw => ?yy72⟩) HS ?rr72
        case yy72 =>
          (try dsimp only at hSw); go_simp
          try with_reducible rfl
        try simp only [Act.put, List.setIfInBounds_toArray, List.set_cons_zero, List.set_cons_succ]
        refine wpAnyT_take (i := 2) (v := ?vv73) rfl (by kernel_rfl) (fun _ _ _ h => h) (Or.inl ⟨by rfl, fun w hSw => ?yy73⟩) HS ?rr73
        case yy73 =>
          (try dsimp only at hSw); go_simp
          try with_reducible rfl
        try simp only [Act.put, List.setIfInBounds_toArray, List.set_cons_zero, List.set_cons_succ]
        refine wpAnyT_take (i := 3) (v := .agg #[.int .i64 p.kd, .int .i64 p.at_]) rfl (by kernel_rfl) (fun _ _ _ h => h) (Or.inl ⟨by rfl, fun w hSw => ?_⟩) HS ?_
        · obtain ⟨⟨c0, c1⟩, hbw⟩ := hSw.2; have g0 := hSw.1.cell 0 rfl; have g1 := hSw.1.cell 1 rfl; go_simp
        try simp only [Act.put, List.setIfInBounds_toArray, List.set_cons_zero, List.set_cons_succ]
        refine wpAnyT_one (k := 4) rfl (by kernel_rfl) (by decide) (fun K hK => ?_)
        go_simp
        refine (timay_any p _).mono ?_
        rintro e y1 ⟨rfl, hy1⟩
        rw [HM.out]
        have HS : ((fun (W : World) => Bx W Q 28 [.int .i64 F.kd, .int .i64 F.at_] ∧ TmAt W tb (tof + k * 2) p ∧ Below w6.heap.size w6 W)) _ := ⟨HS.1.kept hy1, tm_below HS.2.1 hy1 (Nat.lt_of_lt_of_le ht6 HS.2.2.size), HS.2.2.trans (hy1.mono HS.2.2.size)⟩
        refine hK _ _ HS ?_
        clear hK K
        try simp only [Act.put, List.setIfInBounds_toArray, List.set_cons_zero, List.set_cons_succ]
        refine wpAnyT_take (i := 5) (v := ?vv74) rfl (by kernel_rfl) (fun _ _ _ h => h) (Or.inl ⟨by rfl, fun w hSw => ?yy74⟩) HS ?rr74
        case yy74 =>
          (try dsimp only at hSw); go_simp
          try with_reducible rfl
        try simp only [Act.put, List.setIfInBounds_toArray, List.set_cons_zero, List.set_cons_succ]
        refine wpAnyT_take (i := 6) (v := undef) rfl (by kernel_rfl) (fun _ _ _ h => h) (Or.inr ⟨by kernel_rfl, rfl⟩) HS ?_
        try simp only [Act.put, List.setIfInBounds_toArray, List.set_cons_zero, List.set_cons_succ]
        refine wpAnyT_take (i := 7) (v := undef) rfl (by kernel_rfl) (fun _ _ _ h => h) (Or.inr ⟨by kernel_rfl, rfl⟩) HS ?_
        try simp only [Act.put, List.setIfInBounds_toArray, List.set_cons_zero, List.set_cons_succ]
        refine wpAnyT_take (i := 8) (v := undef) rfl (by kernel_rfl) (fun _ _ _ h => h) (Or.inr ⟨by kernel_rfl, rfl⟩) HS ?_
        try simp only [Act.put, List.setIfInBounds_toArray, List.set_cons_zero, List.set_cons_succ]
        refine wpAnyT_take (i := 9) (v := undef) rfl (by kernel_rfl) (fun _ _ _ h => h) (Or.inr ⟨by kernel_rfl, rfl⟩) HS ?_
        try simp only [Act.put, List.setIfInBounds_toArray, List.set_cons_zero, List.set_cons_succ]
        refine wpAnyT_take (i := 10) (v := undef) rfl (by kernel_rfl) (fun _ _ _ h => h) (Or.inr ⟨by kernel_rfl, rfl⟩) HS ?_
        try simp only [Act.put, List.setIfInBounds_toArray, List.set_cons_zero, List.set_cons_succ]
        refine wpAnyT_take (i := 11) (v := undef) rfl (by kernel_rfl) (fun _ _ _ h => h) (Or.inr ⟨by kernel_rfl, rfl⟩) HS ?_
        try simp only [Act.put, List.setIfInBounds_toArray, List.set_cons_zero, List.set_cons_succ]
        refine wpAnyT_take (i := 12) (v := ?vv75) rfl (by kernel_rfl) (fun _ _ _ h => h) (Or.inl ⟨by rfl, fun w hSw => ?yy75⟩) HS ?rr75
        case yy75 =>
          (try dsimp only at hSw); go_simp
          try with_reducible rfl
        try simp only [Act.put, List.setIfInBounds_toArray, List.set_cons_zero, List.set_cons_succ]
        refine wpAnyT_take (i := 13) (v := ?vv76) rfl (by kernel_rfl) (fun _ _ _ h => h) (Or.inl ⟨by rfl, fun w hSw => ?yy76⟩) HS ?rr76
        case yy76 =>
          (try dsimp only at hSw); go_simp
          try with_reducible rfl
        try simp only [Act.put, List.setIfInBounds_toArray, List.set_cons_zero, List.set_cons_succ]
        refine wpAnyT_take (i := 14) (v := undef) rfl (by kernel_rfl) (fun _ _ _ h => h) (Or.inr ⟨by kernel_rfl, rfl⟩) HS ?_
        try simp only [Act.put, List.setIfInBounds_toArray, List.set_cons_zero, List.set_cons_succ]
        refine wpAnyT_take (i := 15) (v := undef) rfl (by kernel_rfl) (fun _ _ _ h => h) (Or.inr ⟨by kernel_rfl, rfl⟩) HS ?_
        try simp only [Act.put, List.setIfInBounds_toArray, List.set_cons_zero, List.set_cons_succ]
        refine wpAnyT_take (i := 16) (v := undef) rfl (by kernel_rfl) (fun _ _ _ h => h) (Or.inr ⟨by kernel_rfl, rfl⟩) HS ?_
        try simp only [Act.put, List.setIfInBounds_toArray, List.set_cons_zero, List.set_cons_succ]
        refine wpAnyT_take (i := 17) (v := undef) rfl (by kernel_rfl) (fun _ _ _ h => h) (Or.inr ⟨by kernel_rfl, rfl⟩) HS ?_
        try simp only [Act.put, List.setIfInBounds_toArray, List.set_cons_zero, List.set_cons_succ]
        refine wpAnyT_take (i := 18) (v := undef) rfl (by kernel_rfl) (fun _ _ _ h => h) (Or.inr ⟨by kernel_rfl, rfl⟩) HS ?_
        try simp only [Act.put, List.setIfInBounds_toArray, List.set_cons_zero, List.set_cons_succ]
        refine wpAnyT_take (i := 19) (v := undef) rfl (by kernel_rfl) (fun _ _ _ h => h) (Or.inr ⟨by kernel_rfl, rfl⟩) HS ?_
        try simp only [Act.put, List.setIfInBounds_toArray, List.set_cons_zero, List.set_cons_succ]
        refine wpAnyT_take (i := 20) (v := undef) rfl (by kernel_rfl) (fun _ _ _ h => h) (Or.inr ⟨by kernel_rfl, rfl⟩) HS ?_
        try simp only [Act.put, List.setIfInBounds_toArray, List.set_cons_zero, List.set_cons_succ]
        refine wpAnyT_take (i := 21) (v := undef) rfl (by kernel_rfl) (fun _ _ _ h => h) (Or.inr ⟨by kernel_rfl, rfl⟩) HS ?_
        try simp only [Act.put, List.setIfInBounds_toArray, List.set_cons_zero, List.set_cons_succ]
        refine wpAnyT_take (i := 22) (v := undef) rfl (by kernel_rfl) (fun _ _ _ h => h) (Or.inr ⟨by kernel_rfl, rfl⟩) HS ?_
        try simp only [Act.put, List.setIfInBounds_toArray, List.set_cons_zero, List.set_cons_succ]
        refine wpAnyT_take (i := 23) (v := undef) rfl (by kernel_rfl) (fun _ _ _ h => h) (Or.inr ⟨by kernel_rfl, rfl⟩) HS ?_
        try simp only [Act.put, List.setIfInBounds_toArray, List.set_cons_zero, List.set_cons_succ]
        refine wpAnyT_take (i := 24) (v := undef) rfl (by kernel_rfl) (fun _ _ _ h => h) (Or.inr ⟨by kernel_rfl, rfl⟩) HS ?_
        try simp only [Act.put, List.setIfInBounds_toArray, List.set_cons_zero, List.set_cons_succ]
        refine wpAnyT_take (i := 25) (v := undef) rfl (by kernel_rfl) (fun _ _ _ h => h) (Or.inr ⟨by kernel_rfl, rfl⟩) HS ?_
        try simp only [Act.put, List.setIfInBounds_toArray, List.set_cons_zero, List.set_cons_succ]
        refine wpAnyT_take (i := 26) (v := undef) rfl (by kernel_rfl) (fun _ _ _ h => h) (Or.inr ⟨by kernel_rfl, rfl⟩) HS ?_
        try simp only [Act.put, List.setIfInBounds_toArray, List.set_cons_zero, List.set_cons_succ]
        refine wpAnyT_take (i := 27) (v := undef) rfl (by kernel_rfl) (fun _ _ _ h => h) (Or.inr ⟨by kernel_rfl, rfl⟩) HS ?_
        try simp only [Act.put, List.setIfInBounds_toArray, List.set_cons_zero, List.set_cons_succ]
        refine wpAnyT_take (i := 28) (v := undef) rfl (by kernel_rfl) (fun _ _ _ h => h) (Or.inr ⟨by kernel_rfl, rfl⟩) HS ?_
        try simp only [Act.put, List.setIfInBounds_toArray, List.set_cons_zero, List.set_cons_succ]
        refine wpAnyT_take (i := 29) (v := undef) rfl (by kernel_rfl) (fun _ _ _ h => h) (Or.inr ⟨by kernel_rfl, rfl⟩) HS ?_
        try simp only [Act.put, List.setIfInBounds_toArray, List.set_cons_zero, List.set_cons_succ]
        refine wpAnyT_take (i := 30) (v := undef) rfl (by kernel_rfl) (fun _ _ _ h => h) (Or.inr ⟨by kernel_rfl, rfl⟩) HS ?_
        try simp only [Act.put, List.setIfInBounds_toArray, List.set_cons_zero, List.set_cons_succ]
        refine wpAnyT_take (i := 31) (v := undef) rfl (by kernel_rfl) (fun _ _ _ h => h) (Or.inr ⟨by kernel_rfl, rfl⟩) HS ?_
        try simp only [Act.put, List.setIfInBounds_toArray, List.set_cons_zero, List.set_cons_succ]
        refine wpAnyT_take (i := 32) (v := undef) rfl (by kernel_rfl) (fun _ _ _ h => h) (Or.inr ⟨by kernel_rfl, rfl⟩) HS ?_
        try simp only [Act.put, List.setIfInBounds_toArray, List.set_cons_zero, List.set_cons_succ]
        refine wpAnyT_take (i := 33) (v := undef) rfl (by kernel_rfl) (fun _ _ _ h => h) (Or.inr ⟨by kernel_rfl, rfl⟩) HS ?_
        try simp only [Act.put, List.setIfInBounds_toArray, List.set_cons_zero, List.set_cons_succ]
        refine wpAnyT_take (i := 34) (v := undef) rfl (by kernel_rfl) (fun _ _ _ h => h) (Or.inr ⟨by kernel_rfl, rfl⟩) HS ?_
        try simp only [Act.put, List.setIfInBounds_toArray, List.set_cons_zero, List.set_cons_succ]
        refine wpAnyT_take (i := 35) (v := undef) rfl (by kernel_rfl) (fun _ _ _ h => h) (Or.inr ⟨by kernel_rfl, rfl⟩) HS ?_
        try simp only [Act.put, List.setIfInBounds_toArray, List.set_cons_zero, List.set_cons_succ]
        refine wpAnyT_take (i := 36) (v := undef) rfl (by kernel_rfl) (fun _ _ _ h => h) (Or.inr ⟨by kernel_rfl, rfl⟩) HS ?_
        try simp only [Act.put, List.setIfInBounds_toArray, List.set_cons_zero, List.set_cons_succ]
        refine wpAnyT_take (i := 37) (v := undef) rfl (by kernel_rfl) (fun _ _ _ h => h) (Or.inr ⟨by kernel_rfl, rfl⟩) HS ?_
        try simp only [Act.put, List.setIfInBounds_toArray, List.set_cons_zero, List.set_cons_succ]
        refine wpAnyT_take (i := 38) (v := undef) rfl (by kernel_rfl) (fun _ _ _ h => h) (Or.inr ⟨by kernel_rfl, rfl⟩) HS ?_
        try simp only [Act.put, List.setIfInBounds_toArray, List.set_cons_zero, List.set_cons_succ]
        refine wpAnyT_take (i := 39) (v := undef) rfl (by kernel_rfl) (fun _ _ _ h => h) (Or.inr ⟨by kernel_rfl, rfl⟩) HS ?_
        try simp only [Act.put, List.setIfInBounds_toArray, List.set_cons_zero, List.set_cons_succ]
        refine wpAnyT_take (i := 40) (v := undef) rfl (by kernel_rfl) (fun _ _ _ h => h) (Or.inr ⟨by kernel_rfl, rfl⟩) HS ?_
        try simp only [Act.put, List.setIfInBounds_toArray, List.set_cons_zero, List.set_cons_succ]
        refine wpAnyT_take (i := 41) (v := undef) rfl (by kernel_rfl) (fun _ _ _ h => h) (Or.inr ⟨by kernel_rfl, rfl⟩) HS ?_
        try simp only [Act.put, List.setIfInBounds_toArray, List.set_cons_zero, List.set_cons_succ]
        refine wpAnyT_take (i := 42) (v := undef) rfl (by kernel_rfl) (fun _ _ _ h => h) (Or.inr ⟨by kernel_rfl, rfl⟩) HS ?_
        try simp only [Act.put, List.setIfInBounds_toArray, List.set_cons_zero, List.set_cons_succ]
        refine wpAnyT_take (i := 43) (v := undef) rfl (by kernel_rfl) (fun _ _ _ h => h) (Or.inr ⟨by kernel_rfl, rfl⟩) HS ?_
        try simp only [Act.put, List.setIfInBounds_toArray, List.set_cons_zero, List.set_cons_succ]
        refine wpAnyT_take (i := 44) (v := undef) rfl (by kernel_rfl) (fun _ _ _ h => h) (Or.inr ⟨by kernel_rfl, rfl⟩) HS ?_
        try simp only [Act.put, List.setIfInBounds_toArray, List.set_cons_zero, List.set_cons_succ]
        refine ⟨by kernel_rfl, ?_⟩
        simp only [List.drop_succ_cons, List.drop_zero]
        have hbz := b6.trans (HS.2.2.mono (b6.size))
        clear HS dd X6 f6
        go_wp2_with fail
        go_roundw
        case rel => exact ⟨k + 1, by omega, by go_num, by rw [HANY.out]; rfl, hbz⟩
        case measure => simp [intOf]; omega
      | false =>
        go_upto_region 13 with fail
        obtain ⟨w6, hw6⟩ : ∃ W, w5 = W := ⟨_, rfl⟩
        rw [hw6] at f5 X5 b5 ht5 ⊢
        clear x0 x1 hw6
        have f6 := f5; have X6 := X5; have b6 := b5; have ht6 := ht5
        clear f5 X5 b5 ht5
        have dd : Below w6.heap.size w6 w6.drew := (Below.refl _ _).drew
        refine wp_region_tail 45 46 (fun (W : World) => Bx W Q 28 [.int .i64 F.kd, .int .i64 F.at_] ∧ TmAt W tb (tof + k * 2) p ∧ Below w6.heap.size w6 W) (by kernel_rfl) (by rfl) (by decide) ?_
        have HS : ((fun (W : World) => Bx W Q 28 [.int .i64 F.kd, .int .i64 F.at_] ∧ TmAt W tb (tof + k * 2) p ∧ Below w6.heap.size w6 W)) _ := ⟨f6.kept dd, tm_below X6 dd ht6, dd⟩
        refine wpAnyT_take (i := 0) (v := ?vv77) rfl (by kernel_rfl) (fun _ _ _ h => h) (Or.inl ⟨by rfl, fun w hSw => ?yy77⟩) HS ?rr77
        case yy77 =>
          (try dsimp only at hSw); go_simp
          try with_reducible rfl
        try simp only [Act.put, List.setIfInBounds_toArray, List.set_cons_zero, List.set_cons_succ]
        refine wpAnyT_take (i := 1) (v := ?vv78) rfl (by kernel_rfl) (fun _ _ _ h => h) (Or.inl ⟨by rfl, fun w hSw => ?yy78⟩) HS ?rr78
        case yy78 =>
          (try dsimp only at hSw); go_simp
          try with_reducible rfl
        try simp only [Act.put, List.setIfInBounds_toArray, List.set_cons_zero, List.set_cons_succ]
        refine wpAnyT_take (i := 2) (v := ?vv79) rfl (by kernel_rfl) (fun _ _ _ h => h) (Or.inl ⟨by rfl, fun w hSw => ?yy79⟩) HS ?rr79
        case yy79 =>
          (try dsimp only at hSw); go_simp
          try with_reducible rfl
        try simp only [Act.put, List.setIfInBounds_toArray, List.set_cons_zero, List.set_cons_succ]
        refine wpAnyT_take (i := 3) (v := .agg #[.int .i64 p.kd, .int .i64 p.at_]) rfl (by kernel_rfl) (fun _ _ _ h => h) (Or.inl ⟨by rfl, fun w hSw => ?_⟩) HS ?_
        · obtain ⟨⟨c0, c1⟩, hbw⟩ := hSw.2; have g0 := hSw.1.cell 0 rfl; have g1 := hSw.1.cell 1 rfl; go_simp
        try simp only [Act.put, List.setIfInBounds_toArray, List.set_cons_zero, List.set_cons_succ]
        refine wpAnyT_one (k := 4) rfl (by kernel_rfl) (by decide) (fun K hK => ?_)
        go_simp
        refine (timay_any p _).mono ?_
        rintro e y1 ⟨rfl, hy1⟩
        rw [HM.out]
        have HS : ((fun (W : World) => Bx W Q 28 [.int .i64 F.kd, .int .i64 F.at_] ∧ TmAt W tb (tof + k * 2) p ∧ Below w6.heap.size w6 W)) _ := ⟨HS.1.kept hy1, tm_below HS.2.1 hy1 (Nat.lt_of_lt_of_le ht6 HS.2.2.size), HS.2.2.trans (hy1.mono HS.2.2.size)⟩
        refine hK _ _ HS ?_
        clear hK K
        try simp only [Act.put, List.setIfInBounds_toArray, List.set_cons_zero, List.set_cons_succ]
        refine wpAnyT_take (i := 5) (v := ?vv80) rfl (by kernel_rfl) (fun _ _ _ h => h) (Or.inl ⟨by rfl, fun w hSw => ?yy80⟩) HS ?rr80
        case yy80 =>
          (try dsimp only at hSw); go_simp
          try with_reducible rfl
        try simp only [Act.put, List.setIfInBounds_toArray, List.set_cons_zero, List.set_cons_succ]
        refine wpAnyT_take (i := 6) (v := undef) rfl (by kernel_rfl) (fun _ _ _ h => h) (Or.inr ⟨by kernel_rfl, rfl⟩) HS ?_
        try simp only [Act.put, List.setIfInBounds_toArray, List.set_cons_zero, List.set_cons_succ]
        refine wpAnyT_take (i := 7) (v := undef) rfl (by kernel_rfl) (fun _ _ _ h => h) (Or.inr ⟨by kernel_rfl, rfl⟩) HS ?_
        try simp only [Act.put, List.setIfInBounds_toArray, List.set_cons_zero, List.set_cons_succ]
        refine wpAnyT_take (i := 8) (v := undef) rfl (by kernel_rfl) (fun _ _ _ h => h) (Or.inr ⟨by kernel_rfl, rfl⟩) HS ?_
        try simp only [Act.put, List.setIfInBounds_toArray, List.set_cons_zero, List.set_cons_succ]
        refine wpAnyT_take (i := 9) (v := undef) rfl (by kernel_rfl) (fun _ _ _ h => h) (Or.inr ⟨by kernel_rfl, rfl⟩) HS ?_
        try simp only [Act.put, List.setIfInBounds_toArray, List.set_cons_zero, List.set_cons_succ]
        refine wpAnyT_take (i := 10) (v := undef) rfl (by kernel_rfl) (fun _ _ _ h => h) (Or.inr ⟨by kernel_rfl, rfl⟩) HS ?_
        try simp only [Act.put, List.setIfInBounds_toArray, List.set_cons_zero, List.set_cons_succ]
        refine wpAnyT_take (i := 11) (v := undef) rfl (by kernel_rfl) (fun _ _ _ h => h) (Or.inr ⟨by kernel_rfl, rfl⟩) HS ?_
        try simp only [Act.put, List.setIfInBounds_toArray, List.set_cons_zero, List.set_cons_succ]
        refine wpAnyT_take (i := 12) (v := ?vv81) rfl (by kernel_rfl) (fun _ _ _ h => h) (Or.inl ⟨by rfl, fun w hSw => ?yy81⟩) HS ?rr81
        case yy81 =>
          (try dsimp only at hSw); go_simp
          try with_reducible rfl
        try simp only [Act.put, List.setIfInBounds_toArray, List.set_cons_zero, List.set_cons_succ]
        refine wpAnyT_take (i := 13) (v := ?vv82) rfl (by kernel_rfl) (fun _ _ _ h => h) (Or.inl ⟨by rfl, fun w hSw => ?yy82⟩) HS ?rr82
        case yy82 =>
          (try dsimp only at hSw); go_simp
          try with_reducible rfl
        try simp only [Act.put, List.setIfInBounds_toArray, List.set_cons_zero, List.set_cons_succ]
        refine wpAnyT_take (i := 14) (v := undef) rfl (by kernel_rfl) (fun _ _ _ h => h) (Or.inr ⟨by kernel_rfl, rfl⟩) HS ?_
        try simp only [Act.put, List.setIfInBounds_toArray, List.set_cons_zero, List.set_cons_succ]
        refine wpAnyT_take (i := 15) (v := undef) rfl (by kernel_rfl) (fun _ _ _ h => h) (Or.inr ⟨by kernel_rfl, rfl⟩) HS ?_
        try simp only [Act.put, List.setIfInBounds_toArray, List.set_cons_zero, List.set_cons_succ]
        refine wpAnyT_take (i := 16) (v := undef) rfl (by kernel_rfl) (fun _ _ _ h => h) (Or.inr ⟨by kernel_rfl, rfl⟩) HS ?_
        try simp only [Act.put, List.setIfInBounds_toArray, List.set_cons_zero, List.set_cons_succ]
        refine wpAnyT_take (i := 17) (v := undef) rfl (by kernel_rfl) (fun _ _ _ h => h) (Or.inr ⟨by kernel_rfl, rfl⟩) HS ?_
        try simp only [Act.put, List.setIfInBounds_toArray, List.set_cons_zero, List.set_cons_succ]
        refine wpAnyT_take (i := 18) (v := undef) rfl (by kernel_rfl) (fun _ _ _ h => h) (Or.inr ⟨by kernel_rfl, rfl⟩) HS ?_
        try simp only [Act.put, List.setIfInBounds_toArray, List.set_cons_zero, List.set_cons_succ]
        refine wpAnyT_take (i := 19) (v := undef) rfl (by kernel_rfl) (fun _ _ _ h => h) (Or.inr ⟨by kernel_rfl, rfl⟩) HS ?_
        try simp only [Act.put, List.setIfInBounds_toArray, List.set_cons_zero, List.set_cons_succ]
        refine wpAnyT_take (i := 20) (v := undef) rfl (by kernel_rfl) (fun _ _ _ h => h) (Or.inr ⟨by kernel_rfl, rfl⟩) HS ?_
        try simp only [Act.put, List.setIfInBounds_toArray, List.set_cons_zero, List.set_cons_succ]
        refine wpAnyT_take (i := 21) (v := undef) rfl (by kernel_rfl) (fun _ _ _ h => h) (Or.inr ⟨by kernel_rfl, rfl⟩) HS ?_
        try simp only [Act.put, List.setIfInBounds_toArray, List.set_cons_zero, List.set_cons_succ]
        refine wpAnyT_take (i := 22) (v := undef) rfl (by kernel_rfl) (fun _ _ _ h => h) (Or.inr ⟨by kernel_rfl, rfl⟩) HS ?_
        try simp only [Act.put, List.setIfInBounds_toArray, List.set_cons_zero, List.set_cons_succ]
        refine wpAnyT_take (i := 23) (v := undef) rfl (by kernel_rfl) (fun _ _ _ h => h) (Or.inr ⟨by kernel_rfl, rfl⟩) HS ?_
        try simp only [Act.put, List.setIfInBounds_toArray, List.set_cons_zero, List.set_cons_succ]
        refine wpAnyT_take (i := 24) (v := undef) rfl (by kernel_rfl) (fun _ _ _ h => h) (Or.inr ⟨by kernel_rfl, rfl⟩) HS ?_
        try simp only [Act.put, List.setIfInBounds_toArray, List.set_cons_zero, List.set_cons_succ]
        refine wpAnyT_take (i := 25) (v := undef) rfl (by kernel_rfl) (fun _ _ _ h => h) (Or.inr ⟨by kernel_rfl, rfl⟩) HS ?_
        try simp only [Act.put, List.setIfInBounds_toArray, List.set_cons_zero, List.set_cons_succ]
        refine wpAnyT_take (i := 26) (v := undef) rfl (by kernel_rfl) (fun _ _ _ h => h) (Or.inr ⟨by kernel_rfl, rfl⟩) HS ?_
        try simp only [Act.put, List.setIfInBounds_toArray, List.set_cons_zero, List.set_cons_succ]
        refine wpAnyT_take (i := 27) (v := undef) rfl (by kernel_rfl) (fun _ _ _ h => h) (Or.inr ⟨by kernel_rfl, rfl⟩) HS ?_
        try simp only [Act.put, List.setIfInBounds_toArray, List.set_cons_zero, List.set_cons_succ]
        refine wpAnyT_take (i := 28) (v := undef) rfl (by kernel_rfl) (fun _ _ _ h => h) (Or.inr ⟨by kernel_rfl, rfl⟩) HS ?_
        try simp only [Act.put, List.setIfInBounds_toArray, List.set_cons_zero, List.set_cons_succ]
        refine wpAnyT_take (i := 29) (v := undef) rfl (by kernel_rfl) (fun _ _ _ h => h) (Or.inr ⟨by kernel_rfl, rfl⟩) HS ?_
        try simp only [Act.put, List.setIfInBounds_toArray, List.set_cons_zero, List.set_cons_succ]
        refine wpAnyT_take (i := 30) (v := undef) rfl (by kernel_rfl) (fun _ _ _ h => h) (Or.inr ⟨by kernel_rfl, rfl⟩) HS ?_
        try simp only [Act.put, List.setIfInBounds_toArray, List.set_cons_zero, List.set_cons_succ]
        refine wpAnyT_take (i := 31) (v := undef) rfl (by kernel_rfl) (fun _ _ _ h => h) (Or.inr ⟨by kernel_rfl, rfl⟩) HS ?_
        try simp only [Act.put, List.setIfInBounds_toArray, List.set_cons_zero, List.set_cons_succ]
        refine wpAnyT_take (i := 32) (v := undef) rfl (by kernel_rfl) (fun _ _ _ h => h) (Or.inr ⟨by kernel_rfl, rfl⟩) HS ?_
        try simp only [Act.put, List.setIfInBounds_toArray, List.set_cons_zero, List.set_cons_succ]
        refine wpAnyT_take (i := 33) (v := undef) rfl (by kernel_rfl) (fun _ _ _ h => h) (Or.inr ⟨by kernel_rfl, rfl⟩) HS ?_
        try simp only [Act.put, List.setIfInBounds_toArray, List.set_cons_zero, List.set_cons_succ]
        refine wpAnyT_take (i := 34) (v := undef) rfl (by kernel_rfl) (fun _ _ _ h => h) (Or.inr ⟨by kernel_rfl, rfl⟩) HS ?_
        try simp only [Act.put, List.setIfInBounds_toArray, List.set_cons_zero, List.set_cons_succ]
        refine wpAnyT_take (i := 35) (v := undef) rfl (by kernel_rfl) (fun _ _ _ h => h) (Or.inr ⟨by kernel_rfl, rfl⟩) HS ?_
        try simp only [Act.put, List.setIfInBounds_toArray, List.set_cons_zero, List.set_cons_succ]
        refine wpAnyT_take (i := 36) (v := undef) rfl (by kernel_rfl) (fun _ _ _ h => h) (Or.inr ⟨by kernel_rfl, rfl⟩) HS ?_
        try simp only [Act.put, List.setIfInBounds_toArray, List.set_cons_zero, List.set_cons_succ]
        refine wpAnyT_take (i := 37) (v := undef) rfl (by kernel_rfl) (fun _ _ _ h => h) (Or.inr ⟨by kernel_rfl, rfl⟩) HS ?_
        try simp only [Act.put, List.setIfInBounds_toArray, List.set_cons_zero, List.set_cons_succ]
        refine wpAnyT_take (i := 38) (v := undef) rfl (by kernel_rfl) (fun _ _ _ h => h) (Or.inr ⟨by kernel_rfl, rfl⟩) HS ?_
        try simp only [Act.put, List.setIfInBounds_toArray, List.set_cons_zero, List.set_cons_succ]
        refine wpAnyT_take (i := 39) (v := undef) rfl (by kernel_rfl) (fun _ _ _ h => h) (Or.inr ⟨by kernel_rfl, rfl⟩) HS ?_
        try simp only [Act.put, List.setIfInBounds_toArray, List.set_cons_zero, List.set_cons_succ]
        refine wpAnyT_take (i := 40) (v := undef) rfl (by kernel_rfl) (fun _ _ _ h => h) (Or.inr ⟨by kernel_rfl, rfl⟩) HS ?_
        try simp only [Act.put, List.setIfInBounds_toArray, List.set_cons_zero, List.set_cons_succ]
        refine wpAnyT_take (i := 41) (v := undef) rfl (by kernel_rfl) (fun _ _ _ h => h) (Or.inr ⟨by kernel_rfl, rfl⟩) HS ?_
        try simp only [Act.put, List.setIfInBounds_toArray, List.set_cons_zero, List.set_cons_succ]
        refine wpAnyT_take (i := 42) (v := undef) rfl (by kernel_rfl) (fun _ _ _ h => h) (Or.inr ⟨by kernel_rfl, rfl⟩) HS ?_
        try simp only [Act.put, List.setIfInBounds_toArray, List.set_cons_zero, List.set_cons_succ]
        refine wpAnyT_take (i := 43) (v := undef) rfl (by kernel_rfl) (fun _ _ _ h => h) (Or.inr ⟨by kernel_rfl, rfl⟩) HS ?_
        try simp only [Act.put, List.setIfInBounds_toArray, List.set_cons_zero, List.set_cons_succ]
        refine wpAnyT_take (i := 44) (v := undef) rfl (by kernel_rfl) (fun _ _ _ h => h) (Or.inr ⟨by kernel_rfl, rfl⟩) HS ?_
        try simp only [Act.put, List.setIfInBounds_toArray, List.set_cons_zero, List.set_cons_succ]
        refine ⟨by kernel_rfl, ?_⟩
        simp only [List.drop_succ_cons, List.drop_zero]
        have hbz := b6.trans (HS.2.2.mono (b6.size))
        clear HS dd X6 f6
        go_wp2_with fail
        go_roundw
        case rel => exact ⟨k + 1, by omega, by go_num, by rw [HANY.out]; rfl, hbz⟩
        case measure => simp [intOf]; omega
    | true =>
      have HM := Lib.hid hq
      by_cases kz : p.kd = 0
      case pos =>
        have dk : (p.kd == 0) = true := by simpa using kz
        have dkn : (p.kd != 0) = false := by simpa using kz
        clear hq kz
        cases an with
        | true =>
          go_upto_region 13 with fail
          obtain ⟨w6, hw6⟩ : ∃ W, w5 = W := ⟨_, rfl⟩
          rw [hw6] at f5 X5 b5 ht5 ⊢
          clear x0 x1 hw6
          have f6 := f5; have X6 := X5; have b6 := b5; have ht6 := ht5
          clear f5 X5 b5 ht5
          have dd : Below w6.heap.size w6 w6.drew := (Below.refl _ _).drew
          refine wp_region_tail 45 46 (fun (W : World) => Bx W Q 28 [.int .i64 F.kd, .int .i64 F.at_] ∧ TmAt W tb (tof + k * 2) p ∧ Below w6.heap.size w6 W) (by kernel_rfl) (by rfl) (by decide) ?_
          have HS : ((fun (W : World) => Bx W Q 28 [.int .i64 F.kd, .int .i64 F.at_] ∧ TmAt W tb (tof + k * 2) p ∧ Below w6.heap.size w6 W)) _ := ⟨f6.kept dd, tm_below X6 dd ht6, dd⟩
          refine wpAnyT_take (i := 0) (v := ?vv83) rfl (by kernel_rfl) (fun _ _ _ h => h) (Or.inl ⟨by rfl, fun w hSw => ?yy83⟩) HS ?rr83
          case yy83 =>
            (try dsimp only at hSw); go_simp
            try with_reducible rfl
          try simp only [Act.put, List.setIfInBounds_toArray, List.set_cons_zero, List.set_cons_succ]
          refine wpAnyT_take (i := 1) (v := ?vv84) rfl (by kernel_rfl) (fun _ _ _ h => h) (Or.inl ⟨by rfl, fun w hSw => ?yy84⟩) HS ?rr84
          case yy84 =>
            (try dsimp only at hSw); go_simp
            try with_reducible rfl
          try simp only [Act.put, List.setIfInBounds_toArray, List.set_cons_zero, List.set_cons_succ]
          refine wpAnyT_take (i := 2) (v := ?vv85) rfl (by kernel_rfl) (fun _ _ _ h => h) (Or.inl ⟨by rfl, fun w hSw => ?yy85⟩) HS ?rr85
          case yy85 =>
            (try dsimp only at hSw); go_simp
            try with_reducible rfl
          try simp only [Act.put, List.setIfInBounds_toArray, List.set_cons_zero, List.set_cons_succ]
          refine wpAnyT_take (i := 3) (v := .agg #[.int .i64 p.kd, .int .i64 p.at_]) rfl (by kernel_rfl) (fun _ _ _ h => h) (Or.inl ⟨by rfl, fun w hSw => ?_⟩) HS ?_
          · obtain ⟨⟨c0, c1⟩, hbw⟩ := hSw.2; have g0 := hSw.1.cell 0 rfl; have g1 := hSw.1.cell 1 rfl; go_simp
          try simp only [Act.put, List.setIfInBounds_toArray, List.set_cons_zero, List.set_cons_succ]
          refine wpAnyT_one (k := 4) rfl (by kernel_rfl) (by decide) (fun K hK => ?_)
          go_simp
          refine (timay_any p _).mono ?_
          rintro e y1 ⟨rfl, hy1⟩
          rw [HM.out]
          have HS : ((fun (W : World) => Bx W Q 28 [.int .i64 F.kd, .int .i64 F.at_] ∧ TmAt W tb (tof + k * 2) p ∧ Below w6.heap.size w6 W)) _ := ⟨HS.1.kept hy1, tm_below HS.2.1 hy1 (Nat.lt_of_lt_of_le ht6 HS.2.2.size), HS.2.2.trans (hy1.mono HS.2.2.size)⟩
          refine hK _ _ HS ?_
          clear hK K
          try simp only [Act.put, List.setIfInBounds_toArray, List.set_cons_zero, List.set_cons_succ]
          refine wpAnyT_take (i := 5) (v := ?vv86) rfl (by kernel_rfl) (fun _ _ _ h => h) (Or.inl ⟨by rfl, fun w hSw => ?yy86⟩) HS ?rr86
          case yy86 =>
            (try dsimp only at hSw); go_simp
            try with_reducible rfl
          try simp only [Act.put, List.setIfInBounds_toArray, List.set_cons_zero, List.set_cons_succ]
          refine wpAnyT_take (i := 6) (v := ?vv87) rfl (by kernel_rfl) (fun _ _ _ h => h) (Or.inl ⟨by rfl, fun w hSw => ?yy87⟩) HS ?rr87
          case yy87 =>
            (try dsimp only at hSw); go_simp
            try with_reducible rfl
          try simp only [Act.put, List.setIfInBounds_toArray, List.set_cons_zero, List.set_cons_succ]
          refine wpAnyT_take (i := 7) (v := ?vv88) rfl (by kernel_rfl) (fun _ _ _ h => h) (Or.inl ⟨by rfl, fun w hSw => ?yy88⟩) HS ?rr88
          case yy88 =>
            (try dsimp only at hSw); go_simp
            try with_reducible rfl
          try simp only [Act.put, List.setIfInBounds_toArray, List.set_cons_zero, List.set_cons_succ]
          refine wpAnyT_take (i := 8) (v := ?vv89) rfl (by kernel_rfl) (fun _ _ _ h => h) (Or.inl ⟨by rfl, fun w hSw => ?yy89⟩) HS ?rr89
          case yy89 =>
            (try dsimp only at hSw); go_simp
            try with_reducible rfl
          try simp only [Act.put, List.setIfInBounds_toArray, List.set_cons_zero, List.set_cons_succ]
          refine wpAnyT_take (i := 9) (v := ?vv90) rfl (by kernel_rfl) (fun _ _ _ h => h) (Or.inl ⟨by rfl, fun w hSw => ?yy90⟩) HS ?rr90
          case yy90 =>
            (try dsimp only at hSw); go_simp
            try with_reducible rfl
          try simp only [Act.put, List.setIfInBounds_toArray, List.set_cons_zero, List.set_cons_succ]
          refine wpAnyT_take (i := 10) (v := .int .i64 p.kd) rfl (by kernel_rfl) (fun _ _ _ h => h) (Or.inl ⟨by rfl, fun w hSw => ?_⟩) HS ?_
          · obtain ⟨⟨c0, c1⟩, hbw⟩ := hSw.2; have g0 := hSw.1.cell 0 rfl; have g1 := hSw.1.cell 1 rfl; go_simp
          try simp only [Act.put, List.setIfInBounds_toArray, List.set_cons_zero, List.set_cons_succ]
          refine wpAnyT_take (i := 11) (v := ?vv91) rfl (by kernel_rfl) (fun _ _ _ h => h) (Or.inl ⟨by rfl, fun w hSw => ?yy91⟩) HS ?rr91
          case yy91 =>
            (try dsimp only at hSw); go_simp
            try with_reducible rfl
          try simp only [Act.put, List.setIfInBounds_toArray, List.set_cons_zero, List.set_cons_succ]
          refine wpAnyT_take (i := 12) (v := ?vv92) rfl (by kernel_rfl) (fun _ _ _ h => h) (Or.inl ⟨by rfl, fun w hSw => ?yy92⟩) HS ?rr92
          case yy92 =>
            (try dsimp only at hSw); go_simp
            try with_reducible rfl
          try simp only [Act.put, List.setIfInBounds_toArray, List.set_cons_zero, List.set_cons_succ]
          refine wpAnyT_take (i := 13) (v := ?vv93) rfl (by kernel_rfl) (fun _ _ _ h => h) (Or.inl ⟨by rfl, fun w hSw => ?yy93⟩) HS ?rr93
          case yy93 =>
            (try dsimp only at hSw); go_simp
            try with_reducible rfl
          try simp only [Act.put, List.setIfInBounds_toArray, List.set_cons_zero, List.set_cons_succ]
          refine wpAnyT_take (i := 14) (v := undef) rfl (by kernel_rfl) (fun _ _ _ h => h) (Or.inr ⟨by kernel_rfl, rfl⟩) HS ?_
          try simp only [Act.put, List.setIfInBounds_toArray, List.set_cons_zero, List.set_cons_succ]
          refine wpAnyT_take (i := 15) (v := undef) rfl (by kernel_rfl) (fun _ _ _ h => h) (Or.inr ⟨by kernel_rfl, rfl⟩) HS ?_
          try simp only [Act.put, List.setIfInBounds_toArray, List.set_cons_zero, List.set_cons_succ]
          refine wpAnyT_take (i := 16) (v := undef) rfl (by kernel_rfl) (fun _ _ _ h => h) (Or.inr ⟨by kernel_rfl, rfl⟩) HS ?_
          try simp only [Act.put, List.setIfInBounds_toArray, List.set_cons_zero, List.set_cons_succ]
          refine wpAnyT_take (i := 17) (v := undef) rfl (by kernel_rfl) (fun _ _ _ h => h) (Or.inr ⟨by kernel_rfl, rfl⟩) HS ?_
          try simp only [Act.put, List.setIfInBounds_toArray, List.set_cons_zero, List.set_cons_succ]
          refine wpAnyT_take (i := 18) (v := undef) rfl (by kernel_rfl) (fun _ _ _ h => h) (Or.inr ⟨by kernel_rfl, rfl⟩) HS ?_
          try simp only [Act.put, List.setIfInBounds_toArray, List.set_cons_zero, List.set_cons_succ]
          refine wpAnyT_take (i := 19) (v := undef) rfl (by kernel_rfl) (fun _ _ _ h => h) (Or.inr ⟨by kernel_rfl, rfl⟩) HS ?_
          try simp only [Act.put, List.setIfInBounds_toArray, List.set_cons_zero, List.set_cons_succ]
          refine wpAnyT_take (i := 20) (v := undef) rfl (by kernel_rfl) (fun _ _ _ h => h) (Or.inr ⟨by kernel_rfl, rfl⟩) HS ?_
          try simp only [Act.put, List.setIfInBounds_toArray, List.set_cons_zero, List.set_cons_succ]
          refine wpAnyT_take (i := 21) (v := undef) rfl (by kernel_rfl) (fun _ _ _ h => h) (Or.inr ⟨by kernel_rfl, rfl⟩) HS ?_
          try simp only [Act.put, List.setIfInBounds_toArray, List.set_cons_zero, List.set_cons_succ]
          refine wpAnyT_take (i := 22) (v := undef) rfl (by kernel_rfl) (fun _ _ _ h => h) (Or.inr ⟨by kernel_rfl, rfl⟩) HS ?_
          try simp only [Act.put, List.setIfInBounds_toArray, List.set_cons_zero, List.set_cons_succ]
          refine wpAnyT_take (i := 23) (v := undef) rfl (by kernel_rfl) (fun _ _ _ h => h) (Or.inr ⟨by kernel_rfl, rfl⟩) HS ?_
          try simp only [Act.put, List.setIfInBounds_toArray, List.set_cons_zero, List.set_cons_succ]
          refine wpAnyT_take (i := 24) (v := undef) rfl (by kernel_rfl) (fun _ _ _ h => h) (Or.inr ⟨by kernel_rfl, rfl⟩) HS ?_
          try simp only [Act.put, List.setIfInBounds_toArray, List.set_cons_zero, List.set_cons_succ]
          refine wpAnyT_take (i := 25) (v := undef) rfl (by kernel_rfl) (fun _ _ _ h => h) (Or.inr ⟨by kernel_rfl, rfl⟩) HS ?_
          try simp only [Act.put, List.setIfInBounds_toArray, List.set_cons_zero, List.set_cons_succ]
          refine wpAnyT_take (i := 26) (v := undef) rfl (by kernel_rfl) (fun _ _ _ h => h) (Or.inr ⟨by kernel_rfl, rfl⟩) HS ?_
          try simp only [Act.put, List.setIfInBounds_toArray, List.set_cons_zero, List.set_cons_succ]
          refine wpAnyT_take (i := 27) (v := undef) rfl (by kernel_rfl) (fun _ _ _ h => h) (Or.inr ⟨by kernel_rfl, rfl⟩) HS ?_
          try simp only [Act.put, List.setIfInBounds_toArray, List.set_cons_zero, List.set_cons_succ]
          refine wpAnyT_take (i := 28) (v := undef) rfl (by kernel_rfl) (fun _ _ _ h => h) (Or.inr ⟨by kernel_rfl, rfl⟩) HS ?_
          try simp only [Act.put, List.setIfInBounds_toArray, List.set_cons_zero, List.set_cons_succ]
          refine wpAnyT_take (i := 29) (v := undef) rfl (by kernel_rfl) (fun _ _ _ h => h) (Or.inr ⟨by kernel_rfl, rfl⟩) HS ?_
          try simp only [Act.put, List.setIfInBounds_toArray, List.set_cons_zero, List.set_cons_succ]
          refine wpAnyT_take (i := 30) (v := undef) rfl (by kernel_rfl) (fun _ _ _ h => h) (Or.inr ⟨by kernel_rfl, rfl⟩) HS ?_
          try simp only [Act.put, List.setIfInBounds_toArray, List.set_cons_zero, List.set_cons_succ]
          refine wpAnyT_take (i := 31) (v := undef) rfl (by kernel_rfl) (fun _ _ _ h => h) (Or.inr ⟨by kernel_rfl, rfl⟩) HS ?_
          try simp only [Act.put, List.setIfInBounds_toArray, List.set_cons_zero, List.set_cons_succ]
          refine wpAnyT_take (i := 32) (v := undef) rfl (by kernel_rfl) (fun _ _ _ h => h) (Or.inr ⟨by kernel_rfl, rfl⟩) HS ?_
          try simp only [Act.put, List.setIfInBounds_toArray, List.set_cons_zero, List.set_cons_succ]
          refine wpAnyT_take (i := 33) (v := undef) rfl (by kernel_rfl) (fun _ _ _ h => h) (Or.inr ⟨by kernel_rfl, rfl⟩) HS ?_
          try simp only [Act.put, List.setIfInBounds_toArray, List.set_cons_zero, List.set_cons_succ]
          refine wpAnyT_take (i := 34) (v := undef) rfl (by kernel_rfl) (fun _ _ _ h => h) (Or.inr ⟨by kernel_rfl, rfl⟩) HS ?_
          try simp only [Act.put, List.setIfInBounds_toArray, List.set_cons_zero, List.set_cons_succ]
          refine wpAnyT_take (i := 35) (v := undef) rfl (by kernel_rfl) (fun _ _ _ h => h) (Or.inr ⟨by kernel_rfl, rfl⟩) HS ?_
          try simp only [Act.put, List.setIfInBounds_toArray, List.set_cons_zero, List.set_cons_succ]
          refine wpAnyT_take (i := 36) (v := undef) rfl (by kernel_rfl) (fun _ _ _ h => h) (Or.inr ⟨by kernel_rfl, rfl⟩) HS ?_
          try simp only [Act.put, List.setIfInBounds_toArray, List.set_cons_zero, List.set_cons_succ]
          refine wpAnyT_take (i := 37) (v := undef) rfl (by kernel_rfl) (fun _ _ _ h => h) (Or.inr ⟨by kernel_rfl, rfl⟩) HS ?_
          try simp only [Act.put, List.setIfInBounds_toArray, List.set_cons_zero, List.set_cons_succ]
          refine wpAnyT_take (i := 38) (v := undef) rfl (by kernel_rfl) (fun _ _ _ h => h) (Or.inr ⟨by kernel_rfl, rfl⟩) HS ?_
          try simp only [Act.put, List.setIfInBounds_toArray, List.set_cons_zero, List.set_cons_succ]
          refine wpAnyT_take (i := 39) (v := undef) rfl (by kernel_rfl) (fun _ _ _ h => h) (Or.inr ⟨by kernel_rfl, rfl⟩) HS ?_
          try simp only [Act.put, List.setIfInBounds_toArray, List.set_cons_zero, List.set_cons_succ]
          refine wpAnyT_take (i := 40) (v := undef) rfl (by kernel_rfl) (fun _ _ _ h => h) (Or.inr ⟨by kernel_rfl, rfl⟩) HS ?_
          try simp only [Act.put, List.setIfInBounds_toArray, List.set_cons_zero, List.set_cons_succ]
          refine wpAnyT_take (i := 41) (v := undef) rfl (by kernel_rfl) (fun _ _ _ h => h) (Or.inr ⟨by kernel_rfl, rfl⟩) HS ?_
          try simp only [Act.put, List.setIfInBounds_toArray, List.set_cons_zero, List.set_cons_succ]
          refine wpAnyT_take (i := 42) (v := undef) rfl (by kernel_rfl) (fun _ _ _ h => h) (Or.inr ⟨by kernel_rfl, rfl⟩) HS ?_
          try simp only [Act.put, List.setIfInBounds_toArray, List.set_cons_zero, List.set_cons_succ]
          refine wpAnyT_take (i := 43) (v := undef) rfl (by kernel_rfl) (fun _ _ _ h => h) (Or.inr ⟨by kernel_rfl, rfl⟩) HS ?_
          try simp only [Act.put, List.setIfInBounds_toArray, List.set_cons_zero, List.set_cons_succ]
          refine wpAnyT_take (i := 44) (v := undef) rfl (by kernel_rfl) (fun _ _ _ h => h) (Or.inr ⟨by kernel_rfl, rfl⟩) HS ?_
          try simp only [Act.put, List.setIfInBounds_toArray, List.set_cons_zero, List.set_cons_succ]
          refine ⟨by kernel_rfl, ?_⟩
          simp only [List.drop_succ_cons, List.drop_zero]
          have hbz := b6.trans (HS.2.2.mono (b6.size))
          clear HS dd X6 f6
          go_wp2_with fail
          go_roundw
          case rel => exact ⟨k + 1, by omega, by go_num, by rw [HANY.out]; rfl, hbz⟩
          case measure => simp [intOf]; omega
        | false =>
          go_upto_region 13 with fail
          obtain ⟨w6, hw6⟩ : ∃ W, w5 = W := ⟨_, rfl⟩
          rw [hw6] at f5 X5 b5 ht5 ⊢
          clear x0 x1 hw6
          have f6 := f5; have X6 := X5; have b6 := b5; have ht6 := ht5
          clear f5 X5 b5 ht5
          have dd : Below w6.heap.size w6 w6.drew := (Below.refl _ _).drew
          refine wp_region_tail 45 46 (fun (W : World) => Bx W Q 28 [.int .i64 F.kd, .int .i64 F.at_] ∧ TmAt W tb (tof + k * 2) p ∧ Below w6.heap.size w6 W) (by kernel_rfl) (by rfl) (by decide) ?_
          have HS : ((fun (W : World) => Bx W Q 28 [.int .i64 F.kd, .int .i64 F.at_] ∧ TmAt W tb (tof + k * 2) p ∧ Below w6.heap.size w6 W)) _ := ⟨f6.kept dd, tm_below X6 dd ht6, dd⟩
          refine wpAnyT_take (i := 0) (v := ?vv94) rfl (by kernel_rfl) (fun _ _ _ h => h) (Or.inl ⟨by rfl, fun w hSw => ?yy94⟩) HS ?rr94
          case yy94 =>
            (try dsimp only at hSw); go_simp
            try with_reducible rfl
          try simp only [Act.put, List.setIfInBounds_toArray, List.set_cons_zero, List.set_cons_succ]
          refine wpAnyT_take (i := 1) (v := ?vv95) rfl (by kernel_rfl) (fun _ _ _ h => h) (Or.inl ⟨by rfl, fun w hSw => ?yy95⟩) HS ?rr95
          case yy95 =>
            (try dsimp only at hSw); go_simp
            try with_reducible rfl
          try simp only [Act.put, List.setIfInBounds_toArray, List.set_cons_zero, List.set_cons_succ]
          refine wpAnyT_take (i := 2) (v := ?vv96) rfl (by kernel_rfl) (fun _ _ _ h => h) (Or.inl ⟨by rfl, fun w hSw => ?yy96⟩) HS ?rr96
          case yy96 =>
            (try dsimp only at hSw); go_simp
            try with_reducible rfl
          try simp only [Act.put, List.setIfInBounds_toArray, List.set_cons_zero, List.set_cons_succ]
          refine wpAnyT_take (i := 3) (v := .agg #[.int .i64 p.kd, .int .i64 p.at_]) rfl (by kernel_rfl) (fun _ _ _ h => h) (Or.inl ⟨by rfl, fun w hSw => ?_⟩) HS ?_
          · obtain ⟨⟨c0, c1⟩, hbw⟩ := hSw.2; have g0 := hSw.1.cell 0 rfl; have g1 := hSw.1.cell 1 rfl; go_simp
          try simp only [Act.put, List.setIfInBounds_toArray, List.set_cons_zero, List.set_cons_succ]
          refine wpAnyT_one (k := 4) rfl (by kernel_rfl) (by decide) (fun K hK => ?_)
          go_simp
          refine (timay_any p _).mono ?_
          rintro e y1 ⟨rfl, hy1⟩
          rw [HM.out]
          have HS : ((fun (W : World) => Bx W Q 28 [.int .i64 F.kd, .int .i64 F.at_] ∧ TmAt W tb (tof + k * 2) p ∧ Below w6.heap.size w6 W)) _ := ⟨HS.1.kept hy1, tm_below HS.2.1 hy1 (Nat.lt_of_lt_of_le ht6 HS.2.2.size), HS.2.2.trans (hy1.mono HS.2.2.size)⟩
          refine hK _ _ HS ?_
          clear hK K
          try simp only [Act.put, List.setIfInBounds_toArray, List.set_cons_zero, List.set_cons_succ]
          refine wpAnyT_take (i := 5) (v := ?vv97) rfl (by kernel_rfl) (fun _ _ _ h => h) (Or.inl ⟨by rfl, fun w hSw => ?yy97⟩) HS ?rr97
          case yy97 =>
            (try dsimp only at hSw); go_simp
            try with_reducible rfl
          try simp only [Act.put, List.setIfInBounds_toArray, List.set_cons_zero, List.set_cons_succ]
          refine wpAnyT_take (i := 6) (v := ?vv98) rfl (by kernel_rfl) (fun _ _ _ h => h) (Or.inl ⟨by rfl, fun w hSw => ?yy98⟩) HS ?rr98
          case yy98 =>
            (try dsimp only at hSw); go_simp
            try with_reducible rfl
          try simp only [Act.put, List.setIfInBounds_toArray, List.set_cons_zero, List.set_cons_succ]
          refine wpAnyT_take (i := 7) (v := ?vv99) rfl (by kernel_rfl) (fun _ _ _ h => h) (Or.inl ⟨by rfl, fun w hSw => ?yy99⟩) HS ?rr99
          case yy99 =>
            (try dsimp only at hSw); go_simp
            try with_reducible rfl
          try simp only [Act.put, List.setIfInBounds_toArray, List.set_cons_zero, List.set_cons_succ]
          refine wpAnyT_take (i := 8) (v := ?vv100) rfl (by kernel_rfl) (fun _ _ _ h => h) (Or.inl ⟨by rfl, fun w hSw => ?yy100⟩) HS ?rr100
          case yy100 =>
            (try dsimp only at hSw); go_simp
            try with_reducible rfl
          try simp only [Act.put, List.setIfInBounds_toArray, List.set_cons_zero, List.set_cons_succ]
          refine wpAnyT_take (i := 9) (v := ?vv101) rfl (by kernel_rfl) (fun _ _ _ h => h) (Or.inl ⟨by rfl, fun w hSw => ?yy101⟩) HS ?rr101
          case yy101 =>
            (try dsimp only at hSw); go_simp
            try with_reducible rfl
          try simp only [Act.put, List.setIfInBounds_toArray, List.set_cons_zero, List.set_cons_succ]
          refine wpAnyT_take (i := 10) (v := .int .i64 p.kd) rfl (by kernel_rfl) (fun _ _ _ h => h) (Or.inl ⟨by rfl, fun w hSw => ?_⟩) HS ?_
          · obtain ⟨⟨c0, c1⟩, hbw⟩ := hSw.2; have g0 := hSw.1.cell 0 rfl; have g1 := hSw.1.cell 1 rfl; go_simp
          try simp only [Act.put, List.setIfInBounds_toArray, List.set_cons_zero, List.set_cons_succ]
          refine wpAnyT_take (i := 11) (v := ?vv102) rfl (by kernel_rfl) (fun _ _ _ h => h) (Or.inl ⟨by rfl, fun w hSw => ?yy102⟩) HS ?rr102
          case yy102 =>
            (try dsimp only at hSw); go_simp
            try with_reducible rfl
          try simp only [Act.put, List.setIfInBounds_toArray, List.set_cons_zero, List.set_cons_succ]
          refine wpAnyT_take (i := 12) (v := ?vv103) rfl (by kernel_rfl) (fun _ _ _ h => h) (Or.inl ⟨by rfl, fun w hSw => ?yy103⟩) HS ?rr103
          case yy103 =>
            (try dsimp only at hSw); go_simp
            try with_reducible rfl
          try simp only [Act.put, List.setIfInBounds_toArray, List.set_cons_zero, List.set_cons_succ]
          refine wpAnyT_take (i := 13) (v := ?vv104) rfl (by kernel_rfl) (fun _ _ _ h => h) (Or.inl ⟨by rfl, fun w hSw => ?yy104⟩) HS ?rr104
          case yy104 =>
            (try dsimp only at hSw); go_simp
            try with_reducible rfl
          try simp only [Act.put, List.setIfInBounds_toArray, List.set_cons_zero, List.set_cons_succ]
          refine wpAnyT_take (i := 14) (v := undef) rfl (by kernel_rfl) (fun _ _ _ h => h) (Or.inr ⟨by kernel_rfl, rfl⟩) HS ?_
          try simp only [Act.put, List.setIfInBounds_toArray, List.set_cons_zero, List.set_cons_succ]
          refine wpAnyT_take (i := 15) (v := undef) rfl (by kernel_rfl) (fun _ _ _ h => h) (Or.inr ⟨by kernel_rfl, rfl⟩) HS ?_
          try simp only [Act.put, List.setIfInBounds_toArray, List.set_cons_zero, List.set_cons_succ]
          refine wpAnyT_take (i := 16) (v := undef) rfl (by kernel_rfl) (fun _ _ _ h => h) (Or.inr ⟨by kernel_rfl, rfl⟩) HS ?_
          try simp only [Act.put, List.setIfInBounds_toArray, List.set_cons_zero, List.set_cons_succ]
          refine wpAnyT_take (i := 17) (v := undef) rfl (by kernel_rfl) (fun _ _ _ h => h) (Or.inr ⟨by kernel_rfl, rfl⟩) HS ?_
          try simp only [Act.put, List.setIfInBounds_toArray, List.set_cons_zero, List.set_cons_succ]
          refine wpAnyT_take (i := 18) (v := undef) rfl (by kernel_rfl) (fun _ _ _ h => h) (Or.inr ⟨by kernel_rfl, rfl⟩) HS ?_
          try simp only [Act.put, List.setIfInBounds_toArray, List.set_cons_zero, List.set_cons_succ]
          refine wpAnyT_take (i := 19) (v := undef) rfl (by kernel_rfl) (fun _ _ _ h => h) (Or.inr ⟨by kernel_rfl, rfl⟩) HS ?_
          try simp only [Act.put, List.setIfInBounds_toArray, List.set_cons_zero, List.set_cons_succ]
          refine wpAnyT_take (i := 20) (v := undef) rfl (by kernel_rfl) (fun _ _ _ h => h) (Or.inr ⟨by kernel_rfl, rfl⟩) HS ?_
          try simp only [Act.put, List.setIfInBounds_toArray, List.set_cons_zero, List.set_cons_succ]
          refine wpAnyT_take (i := 21) (v := undef) rfl (by kernel_rfl) (fun _ _ _ h => h) (Or.inr ⟨by kernel_rfl, rfl⟩) HS ?_
          try simp only [Act.put, List.setIfInBounds_toArray, List.set_cons_zero, List.set_cons_succ]
          refine wpAnyT_take (i := 22) (v := undef) rfl (by kernel_rfl) (fun _ _ _ h => h) (Or.inr ⟨by kernel_rfl, rfl⟩) HS ?_
          try simp only [Act.put, List.setIfInBounds_toArray, List.set_cons_zero, List.set_cons_succ]
          refine wpAnyT_take (i := 23) (v := undef) rfl (by kernel_rfl) (fun _ _ _ h => h) (Or.inr ⟨by kernel_rfl, rfl⟩) HS ?_
          try simp only [Act.put, List.setIfInBounds_toArray, List.set_cons_zero, List.set_cons_succ]
          refine wpAnyT_take (i := 24) (v := undef) rfl (by kernel_rfl) (fun _ _ _ h => h) (Or.inr ⟨by kernel_rfl, rfl⟩) HS ?_
          try simp only [Act.put, List.setIfInBounds_toArray, List.set_cons_zero, List.set_cons_succ]
          refine wpAnyT_take (i := 25) (v := undef) rfl (by kernel_rfl) (fun _ _ _ h => h) (Or.inr ⟨by kernel_rfl, rfl⟩) HS ?_
          try simp only [Act.put, List.setIfInBounds_toArray, List.set_cons_zero, List.set_cons_succ]
          refine wpAnyT_take (i := 26) (v := undef) rfl (by kernel_rfl) (fun _ _ _ h => h) (Or.inr ⟨by kernel_rfl, rfl⟩) HS ?_
          try simp only [Act.put, List.setIfInBounds_toArray, List.set_cons_zero, List.set_cons_succ]
          refine wpAnyT_take (i := 27) (v := undef) rfl (by kernel_rfl) (fun _ _ _ h => h) (Or.inr ⟨by kernel_rfl, rfl⟩) HS ?_
          try simp only [Act.put, List.setIfInBounds_toArray, List.set_cons_zero, List.set_cons_succ]
          refine wpAnyT_take (i := 28) (v := undef) rfl (by kernel_rfl) (fun _ _ _ h => h) (Or.inr ⟨by kernel_rfl, rfl⟩) HS ?_
          try simp only [Act.put, List.setIfInBounds_toArray, List.set_cons_zero, List.set_cons_succ]
          refine wpAnyT_take (i := 29) (v := undef) rfl (by kernel_rfl) (fun _ _ _ h => h) (Or.inr ⟨by kernel_rfl, rfl⟩) HS ?_
          try simp only [Act.put, List.setIfInBounds_toArray, List.set_cons_zero, List.set_cons_succ]
          refine wpAnyT_take (i := 30) (v := undef) rfl (by kernel_rfl) (fun _ _ _ h => h) (Or.inr ⟨by kernel_rfl, rfl⟩) HS ?_
          try simp only [Act.put, List.setIfInBounds_toArray, List.set_cons_zero, List.set_cons_succ]
          refine wpAnyT_take (i := 31) (v := undef) rfl (by kernel_rfl) (fun _ _ _ h => h) (Or.inr ⟨by kernel_rfl, rfl⟩) HS ?_
          try simp only [Act.put, List.setIfInBounds_toArray, List.set_cons_zero, List.set_cons_succ]
          refine wpAnyT_take (i := 32) (v := undef) rfl (by kernel_rfl) (fun _ _ _ h => h) (Or.inr ⟨by kernel_rfl, rfl⟩) HS ?_
          try simp only [Act.put, List.setIfInBounds_toArray, List.set_cons_zero, List.set_cons_succ]
          refine wpAnyT_take (i := 33) (v := undef) rfl (by kernel_rfl) (fun _ _ _ h => h) (Or.inr ⟨by kernel_rfl, rfl⟩) HS ?_
          try simp only [Act.put, List.setIfInBounds_toArray, List.set_cons_zero, List.set_cons_succ]
          refine wpAnyT_take (i := 34) (v := undef) rfl (by kernel_rfl) (fun _ _ _ h => h) (Or.inr ⟨by kernel_rfl, rfl⟩) HS ?_
          try simp only [Act.put, List.setIfInBounds_toArray, List.set_cons_zero, List.set_cons_succ]
          refine wpAnyT_take (i := 35) (v := undef) rfl (by kernel_rfl) (fun _ _ _ h => h) (Or.inr ⟨by kernel_rfl, rfl⟩) HS ?_
          try simp only [Act.put, List.setIfInBounds_toArray, List.set_cons_zero, List.set_cons_succ]
          refine wpAnyT_take (i := 36) (v := undef) rfl (by kernel_rfl) (fun _ _ _ h => h) (Or.inr ⟨by kernel_rfl, rfl⟩) HS ?_
          try simp only [Act.put, List.setIfInBounds_toArray, List.set_cons_zero, List.set_cons_succ]
          refine wpAnyT_take (i := 37) (v := undef) rfl (by kernel_rfl) (fun _ _ _ h => h) (Or.inr ⟨by kernel_rfl, rfl⟩) HS ?_
          try simp only [Act.put, List.setIfInBounds_toArray, List.set_cons_zero, List.set_cons_succ]
          refine wpAnyT_take (i := 38) (v := undef) rfl (by kernel_rfl) (fun _ _ _ h => h) (Or.inr ⟨by kernel_rfl, rfl⟩) HS ?_
          try simp only [Act.put, List.setIfInBounds_toArray, List.set_cons_zero, List.set_cons_succ]
          refine wpAnyT_take (i := 39) (v := undef) rfl (by kernel_rfl) (fun _ _ _ h => h) (Or.inr ⟨by kernel_rfl, rfl⟩) HS ?_
          try simp only [Act.put, List.setIfInBounds_toArray, List.set_cons_zero, List.set_cons_succ]
          refine wpAnyT_take (i := 40) (v := undef) rfl (by kernel_rfl) (fun _ _ _ h => h) (Or.inr ⟨by kernel_rfl, rfl⟩) HS ?_
          try simp only [Act.put, List.setIfInBounds_toArray, List.set_cons_zero, List.set_cons_succ]
          refine wpAnyT_take (i := 41) (v := undef) rfl (by kernel_rfl) (fun _ _ _ h => h) (Or.inr ⟨by kernel_rfl, rfl⟩) HS ?_
          try simp only [Act.put, List.setIfInBounds_toArray, List.set_cons_zero, List.set_cons_succ]
          refine wpAnyT_take (i := 42) (v := undef) rfl (by kernel_rfl) (fun _ _ _ h => h) (Or.inr ⟨by kernel_rfl, rfl⟩) HS ?_
          try simp only [Act.put, List.setIfInBounds_toArray, List.set_cons_zero, List.set_cons_succ]
          refine wpAnyT_take (i := 43) (v := undef) rfl (by kernel_rfl) (fun _ _ _ h => h) (Or.inr ⟨by kernel_rfl, rfl⟩) HS ?_
          try simp only [Act.put, List.setIfInBounds_toArray, List.set_cons_zero, List.set_cons_succ]
          refine wpAnyT_take (i := 44) (v := undef) rfl (by kernel_rfl) (fun _ _ _ h => h) (Or.inr ⟨by kernel_rfl, rfl⟩) HS ?_
          try simp only [Act.put, List.setIfInBounds_toArray, List.set_cons_zero, List.set_cons_succ]
          refine ⟨by kernel_rfl, ?_⟩
          simp only [List.drop_succ_cons, List.drop_zero]
          have hbz := b6.trans (HS.2.2.mono (b6.size))
          clear HS dd X6 f6
          go_wp2_with fail
          go_roundw
          case rel => exact ⟨k + 1, by omega, by go_num, by rw [HANY.out]; rfl, hbz⟩
          case measure => simp [intOf]; omega
      case neg =>
        have dk : (p.kd == 0) = false := by simpa using kz
        have dkn : (p.kd != 0) = true := by simpa using kz
        have hv : TmV p := ⟨hq, by have := ((tmB_iff p).1 hq).k0; omega⟩
        have g1 : (F.kd == 0) = false := by have := (HPLE.out hv).1; simpa using this
        have g2 : decide (p.at_ < F.at_) = false := decide_eq_false (by have := (HPLE.out hv).2; omega)
        have hds := due_self hq
        have HDS := Lib.hid hds
        clear hds hv hq kz
        cases an with
        | true =>
          go_upto_region 13 with fail
          obtain ⟨w6, hw6⟩ : ∃ W, w5 = W := ⟨_, rfl⟩
          rw [hw6] at f5 X5 b5 ht5 ⊢
          clear x0 x1 hw6
          have f6 := f5; have X6 := X5; have b6 := b5; have ht6 := ht5
          clear f5 X5 b5 ht5
          have dd : Below w6.heap.size w6 w6.drew := (Below.refl _ _).drew
          refine wp_region_tail 45 46 (fun (W : World) => Bx W Q 28 [.int .i64 F.kd, .int .i64 F.at_] ∧ TmAt W tb (tof + k * 2) p ∧ Below w6.heap.size w6 W) (by kernel_rfl) (by rfl) (by decide) ?_
          have HS : ((fun (W : World) => Bx W Q 28 [.int .i64 F.kd, .int .i64 F.at_] ∧ TmAt W tb (tof + k * 2) p ∧ Below w6.heap.size w6 W)) _ := ⟨f6.kept dd, tm_below X6 dd ht6, dd⟩
          refine wpAnyT_take (i := 0) (v := ?vv105) rfl (by kernel_rfl) (fun _ _ _ h => h) (Or.inl ⟨by rfl, fun w hSw => ?yy105⟩) HS ?rr105
          case yy105 =>
            (try dsimp only at hSw); go_simp
            try with_reducible rfl
          try simp only [Act.put, List.setIfInBounds_toArray, List.set_cons_zero, List.set_cons_succ]
          refine wpAnyT_take (i := 1) (v := ?vv106) rfl (by kernel_rfl) (fun _ _ _ h => h) (Or.inl ⟨by rfl, fun w hSw => ?yy106⟩) HS ?rr106
          case yy106 =>
            (try dsimp only at hSw); go_simp
            try with_reducible rfl
          try simp only [Act.put, List.setIfInBounds_toArray, List.set_cons_zero, List.set_cons_succ]
          refine wpAnyT_take (i := 2) (v := ?vv107) rfl (by kernel_rfl) (fun _ _ _ h => h) (Or.inl ⟨by rfl, fun w hSw => ?yy107⟩) HS ?rr107
          case yy107 =>
            (try dsimp only at hSw); go_simp
            try with_reducible rfl
          try simp only [Act.put, List.setIfInBounds_toArray, List.set_cons_zero, List.set_cons_succ]
          refine wpAnyT_take (i := 3) (v := .agg #[.int .i64 p.kd, .int .i64 p.at_]) rfl (by kernel_rfl) (fun _ _ _ h => h) (Or.inl ⟨by rfl, fun w hSw => ?_⟩) HS ?_
          · obtain ⟨⟨c0, c1⟩, hbw⟩ := hSw.2; have g0 := hSw.1.cell 0 rfl; have g1 := hSw.1.cell 1 rfl; go_simp
          try simp only [Act.put, List.setIfInBounds_toArray, List.set_cons_zero, List.set_cons_succ]
          refine wpAnyT_one (k := 4) rfl (by kernel_rfl) (by decide) (fun K hK => ?_)
          go_simp
          refine (timay_any p _).mono ?_
          rintro e y1 ⟨rfl, hy1⟩
          rw [HM.out]
          have HS : ((fun (W : World) => Bx W Q 28 [.int .i64 F.kd, .int .i64 F.at_] ∧ TmAt W tb (tof + k * 2) p ∧ Below w6.heap.size w6 W)) _ := ⟨HS.1.kept hy1, tm_below HS.2.1 hy1 (Nat.lt_of_lt_of_le ht6 HS.2.2.size), HS.2.2.trans (hy1.mono HS.2.2.size)⟩
          refine hK _ _ HS ?_
          clear hK K
          try simp only [Act.put, List.setIfInBounds_toArray, List.set_cons_zero, List.set_cons_succ]
          refine wpAnyT_take (i := 5) (v := ?vv108) rfl (by kernel_rfl) (fun _ _ _ h => h) (Or.inl ⟨by rfl, fun w hSw => ?yy108⟩) HS ?rr108
          case yy108 =>
            (try dsimp only at hSw); go_simp
            try with_reducible rfl
          try simp only [Act.put, List.setIfInBounds_toArray, List.set_cons_zero, List.set_cons_succ]
          refine wpAnyT_take (i := 6) (v := ?vv109) rfl (by kernel_rfl) (fun _ _ _ h => h) (Or.inl ⟨by rfl, fun w hSw => ?yy109⟩) HS ?rr109
          case yy109 =>
            (try dsimp only at hSw); go_simp
            try with_reducible rfl
          try simp only [Act.put, List.setIfInBounds_toArray, List.set_cons_zero, List.set_cons_succ]
          refine wpAnyT_take (i := 7) (v := ?vv110) rfl (by kernel_rfl) (fun _ _ _ h => h) (Or.inl ⟨by rfl, fun w hSw => ?yy110⟩) HS ?rr110
          case yy110 =>
            (try dsimp only at hSw); go_simp
            try with_reducible rfl
          try simp only [Act.put, List.setIfInBounds_toArray, List.set_cons_zero, List.set_cons_succ]
          refine wpAnyT_take (i := 8) (v := ?vv111) rfl (by kernel_rfl) (fun _ _ _ h => h) (Or.inl ⟨by rfl, fun w hSw => ?yy111⟩) HS ?rr111
          case yy111 =>
            (try dsimp only at hSw); go_simp
            try with_reducible rfl
          try simp only [Act.put, List.setIfInBounds_toArray, List.set_cons_zero, List.set_cons_succ]
          refine wpAnyT_take (i := 9) (v := ?vv112) rfl (by kernel_rfl) (fun _ _ _ h => h) (Or.inl ⟨by rfl, fun w hSw => ?yy112⟩) HS ?rr112
          case yy112 =>
            (try dsimp only at hSw); go_simp
            try with_reducible rfl
          try simp only [Act.put, List.setIfInBounds_toArray, List.set_cons_zero, List.set_cons_succ]
          refine wpAnyT_take (i := 10) (v := .int .i64 p.kd) rfl (by kernel_rfl) (fun _ _ _ h => h) (Or.inl ⟨by rfl, fun w hSw => ?_⟩) HS ?_
          · obtain ⟨⟨c0, c1⟩, hbw⟩ := hSw.2; have g0 := hSw.1.cell 0 rfl; have g1 := hSw.1.cell 1 rfl; go_simp
          try simp only [Act.put, List.setIfInBounds_toArray, List.set_cons_zero, List.set_cons_succ]
          refine wpAnyT_take (i := 11) (v := ?vv113) rfl (by kernel_rfl) (fun _ _ _ h => h) (Or.inl ⟨by rfl, fun w hSw => ?yy113⟩) HS ?rr113
          case yy113 =>
            (try dsimp only at hSw); go_simp
            try with_reducible rfl
          try simp only [Act.put, List.setIfInBounds_toArray, List.set_cons_zero, List.set_cons_succ]
          refine wpAnyT_take (i := 12) (v := ?vv114) rfl (by kernel_rfl) (fun _ _ _ h => h) (Or.inl ⟨by rfl, fun w hSw => ?yy114⟩) HS ?rr114
          case yy114 =>
            (try dsimp only at hSw); go_simp
            try with_reducible rfl
          try simp only [Act.put, List.setIfInBounds_toArray, List.set_cons_zero, List.set_cons_succ]
          refine wpAnyT_take (i := 13) (v := ?vv115) rfl (by kernel_rfl) (fun _ _ _ h => h) (Or.inl ⟨by rfl, fun w hSw => ?yy115⟩) HS ?rr115
          case yy115 =>
            (try dsimp only at hSw); go_simp
            try with_reducible rfl
          try simp only [Act.put, List.setIfInBounds_toArray, List.set_cons_zero, List.set_cons_succ]
          refine wpAnyT_take (i := 14) (v := ?vv116) rfl (by kernel_rfl) (fun _ _ _ h => h) (Or.inl ⟨by rfl, fun w hSw => ?yy116⟩) HS ?rr116
          case yy116 =>
            (try dsimp only at hSw); go_simp
            try with_reducible rfl
          try simp only [Act.put, List.setIfInBounds_toArray, List.set_cons_zero, List.set_cons_succ]
          refine wpAnyT_take (i := 15) (v := ?vv117) rfl (by kernel_rfl) (fun _ _ _ h => h) (Or.inl ⟨by rfl, fun w hSw => ?yy117⟩) HS ?rr117
          case yy117 =>
            (try dsimp only at hSw); go_simp
            try with_reducible rfl
          try simp only [Act.put, List.setIfInBounds_toArray, List.set_cons_zero, List.set_cons_succ]
          refine wpAnyT_take (i := 16) (v := ?vv118) rfl (by kernel_rfl) (fun _ _ _ h => h) (Or.inl ⟨by rfl, fun w hSw => ?yy118⟩) HS ?rr118
          case yy118 =>
            (try dsimp only at hSw); go_simp
            try with_reducible rfl
          try simp only [Act.put, List.setIfInBounds_toArray, List.set_cons_zero, List.set_cons_succ]
          refine wpAnyT_take (i := 17) (v := .agg #[.int .i64 p.kd, .int .i64 p.at_]) rfl (by kernel_rfl) (fun _ _ _ h => h) (Or.inl ⟨by rfl, fun w hSw => ?_⟩) HS ?_
          · obtain ⟨⟨c0, c1⟩, hbw⟩ := hSw.2; have g0 := hSw.1.cell 0 rfl; have g1 := hSw.1.cell 1 rfl; go_simp
          try simp only [Act.put, List.setIfInBounds_toArray, List.set_cons_zero, List.set_cons_succ]
          refine wpAnyT_take (i := 18) (v := ?vv119) rfl (by kernel_rfl) (fun _ _ _ h => h) (Or.inl ⟨by rfl, fun w hSw => ?yy119⟩) HS ?rr119
          case yy119 =>
            (try dsimp only at hSw); go_simp
            try with_reducible rfl
          try simp only [Act.put, List.setIfInBounds_toArray, List.set_cons_zero, List.set_cons_succ]
          refine wpAnyT_take (i := 19) (v := ?vv120) rfl (by kernel_rfl) (fun _ _ _ h => h) (Or.inl ⟨by rfl, fun w hSw => ?yy120⟩) HS ?rr120
          case yy120 =>
            (try dsimp only at hSw); go_simp
            try with_reducible rfl
          try simp only [Act.put, List.setIfInBounds_toArray, List.set_cons_zero, List.set_cons_succ]
          refine wpAnyT_take (i := 20) (v := ?vv121) rfl (by kernel_rfl) (fun _ _ _ h => h) (Or.inl ⟨by rfl, fun w hSw => ?yy121⟩) HS ?rr121
          case yy121 =>
            (try dsimp only at hSw); go_simp
            try with_reducible rfl
          try simp only [Act.put, List.setIfInBounds_toArray, List.set_cons_zero, List.set_cons_succ]
          refine wpAnyT_take (i := 21) (v := ?vv122) rfl (by kernel_rfl) (fun _ _ _ h => h) (Or.inl ⟨by rfl, fun w hSw => ?yy122⟩) HS ?rr122
          case yy122 =>
            (try dsimp only at hSw); go_simp
            try with_reducible rfl
          try simp only [Act.put, List.setIfInBounds_toArray, List.set_cons_zero, List.set_cons_succ]
          refine wpAnyT_take (i := 22) (v := .int .i64 p.at_) rfl (by kernel_rfl) (fun _ _ _ h => h) (Or.inl ⟨by rfl, fun w hSw => ?_⟩) HS ?_
          · obtain ⟨⟨c0, c1⟩, hbw⟩ := hSw.2; have g0 := hSw.1.cell 0 rfl; have g1 := hSw.1.cell 1 rfl; go_simp
          try simp only [Act.put, List.setIfInBounds_toArray, List.set_cons_zero, List.set_cons_succ]
          refine wpAnyT_take (i := 24) (v := ?vv123) rfl (by kernel_rfl) (fun _ _ _ h => h) (Or.inl ⟨by rfl, fun w hSw => ?yy123⟩) HS ?rr123
          case yy123 =>
            (try dsimp only at hSw); go_simp
            try with_reducible rfl
          try simp only [Act.put, List.setIfInBounds_toArray, List.set_cons_zero, List.set_cons_succ]
          refine wpAnyT_take (i := 25) (v := ?vv124) rfl (by kernel_rfl) (fun _ _ _ h => h) (Or.inl ⟨by rfl, fun w hSw => ?yy124⟩) HS ?rr124
          case yy124 =>
            (try dsimp only at hSw); go_simp
            try with_reducible rfl
          try simp only [Act.put, List.setIfInBounds_toArray, List.set_cons_zero, List.set_cons_succ]
          refine wpAnyT_take (i := 26) (v := ?vv125) rfl (by kernel_rfl) (fun _ _ _ h => h) (Or.inl ⟨by rfl, fun w hSw => ?yy125⟩) HS ?rr125
          case yy125 =>
            (try dsimp only at hSw); go_simp
            try with_reducible rfl
          try simp only [Act.put, List.setIfInBounds_toArray, List.set_cons_zero, List.set_cons_succ]
          refine wpAnyT_take (i := 27) (v := ?vv126) rfl (by kernel_rfl) (fun _ _ _ h => h) (Or.inl ⟨by rfl, fun w hSw => ?yy126⟩) HS ?rr126
          case yy126 =>
            (try dsimp only at hSw); go_simp
            try with_reducible rfl
          try simp only [Act.put, List.setIfInBounds_toArray, List.set_cons_zero, List.set_cons_succ]
          refine wpAnyT_take (i := 28) (v := .int .i64 p.kd) rfl (by kernel_rfl) (fun _ _ _ h => h) (Or.inl ⟨by rfl, fun w hSw => ?_⟩) HS ?_
          · obtain ⟨⟨c0, c1⟩, hbw⟩ := hSw.2; have g0 := hSw.1.cell 0 rfl; have g1 := hSw.1.cell 1 rfl; go_simp
          try simp only [Act.put, List.setIfInBounds_toArray, List.set_cons_zero, List.set_cons_succ]
          refine wpAnyT_one (k := 23) rfl (by kernel_rfl) (by decide) (fun K hK => ?_)
          go_simp
          refine (tidue_any p p.at_ _).mono ?_
          rintro e y2 ⟨rfl, hy2⟩
          rw [HDS.out]
          have HS : ((fun (W : World) => Bx W Q 28 [.int .i64 F.kd, .int .i64 F.at_] ∧ TmAt W tb (tof + k * 2) p ∧ Below w6.heap.size w6 W)) _ := ⟨HS.1.kept hy2, tm_below HS.2.1 hy2 (Nat.lt_of_lt_of_le ht6 HS.2.2.size), HS.2.2.trans (hy2.mono HS.2.2.size)⟩
          refine hK _ _ HS ?_
          clear hK K
          try simp only [Act.put, List.setIfInBounds_toArray, List.set_cons_zero, List.set_cons_succ]
          refine wpAnyT_take (i := 29) (v := ?vv127) rfl (by kernel_rfl) (fun _ _ _ h => h) (Or.inl ⟨by rfl, fun w hSw => ?yy127⟩) HS ?rr127
          case yy127 =>
            (try dsimp only at hSw); go_simp
            try with_reducible rfl
          try simp only [Act.put, List.setIfInBounds_toArray, List.set_cons_zero, List.set_cons_succ]
          refine wpAnyT_take (i := 30) (v := ?vv128) rfl (by kernel_rfl) (fun _ _ _ h => h) (Or.inl ⟨by rfl, fun w hSw => ?yy128⟩) HS ?rr128
          case yy128 =>
            (try dsimp only at hSw); go_simp
            try with_reducible rfl
          try simp only [Act.put, List.setIfInBounds_toArray, List.set_cons_zero, List.set_cons_succ]
          refine wpAnyT_take (i := 31) (v := ?vv129) rfl (by kernel_rfl) (fun _ _ _ h => h) (Or.inl ⟨by rfl, fun w hSw => ?yy129⟩) HS ?rr129
          case yy129 =>
            (try dsimp only at hSw); go_simp
            try with_reducible rfl
          try simp only [Act.put, List.setIfInBounds_toArray, List.set_cons_zero, List.set_cons_succ]
          refine wpAnyT_take (i := 32) (v := .int .i64 F.kd) rfl (by kernel_rfl) (fun _ _ _ h => h) (Or.inl ⟨by rfl, fun w hSw => ?_⟩) HS ?_
          · obtain ⟨⟨c0, c1⟩, hbw⟩ := hSw.2; have g0 := hSw.1.cell 0 rfl; have g1 := hSw.1.cell 1 rfl; go_simp
          try simp only [Act.put, List.setIfInBounds_toArray, List.set_cons_zero, List.set_cons_succ]
          refine wpAnyT_take (i := 33) (v := ?vv130) rfl (by kernel_rfl) (fun _ _ _ h => h) (Or.inl ⟨by rfl, fun w hSw => ?yy130⟩) HS ?rr130
          case yy130 =>
            (try dsimp only at hSw); go_simp
            try with_reducible rfl
          try simp only [Act.put, List.setIfInBounds_toArray, List.set_cons_zero, List.set_cons_succ]
          refine wpAnyT_take (i := 34) (v := ?vv131) rfl (by kernel_rfl) (fun _ _ _ h => h) (Or.inl ⟨by rfl, fun w hSw => ?yy131⟩) HS ?rr131
          case yy131 =>
            (try dsimp only at hSw); go_simp
            try with_reducible rfl
          try simp only [Act.put, List.setIfInBounds_toArray, List.set_cons_zero, List.set_cons_succ]
          refine wpAnyT_take (i := 35) (v := ?vv132) rfl (by kernel_rfl) (fun _ _ _ h => h) (Or.inl ⟨by rfl, fun w hSw => ?yy132⟩) HS ?rr132
          case yy132 =>
            (try dsimp only at hSw); go_simp
            try with_reducible rfl
          try simp only [Act.put, List.setIfInBounds_toArray, List.set_cons_zero, List.set_cons_succ]
          refine wpAnyT_take (i := 36) (v := ?vv133) rfl (by kernel_rfl) (fun _ _ _ h => h) (Or.inl ⟨by rfl, fun w hSw => ?yy133⟩) HS ?rr133
          case yy133 =>
            (try dsimp only at hSw); go_simp
            try with_reducible rfl
          try simp only [Act.put, List.setIfInBounds_toArray, List.set_cons_zero, List.set_cons_succ]
          refine wpAnyT_take (i := 37) (v := .int .i64 F.at_) rfl (by kernel_rfl) (fun _ _ _ h => h) (Or.inl ⟨by rfl, fun w hSw => ?_⟩) HS ?_
          · obtain ⟨⟨c0, c1⟩, hbw⟩ := hSw.2; have g0 := hSw.1.cell 0 rfl; have g1 := hSw.1.cell 1 rfl; go_simp
          try simp only [Act.put, List.setIfInBounds_toArray, List.set_cons_zero, List.set_cons_succ]
          refine wpAnyT_take (i := 38) (v := ?vv134) rfl (by kernel_rfl) (fun _ _ _ h => h) (Or.inl ⟨by rfl, fun w hSw => ?yy134⟩) HS ?rr134
          case yy134 =>
            (try dsimp only at hSw); go_simp
            try with_reducible rfl
          try simp only [Act.put, List.setIfInBounds_toArray, List.set_cons_zero, List.set_cons_succ]
          refine wpAnyT_take (i := 39) (v := ?vv135) rfl (by kernel_rfl) (fun _ _ _ h => h) (Or.inl ⟨by rfl, fun w hSw => ?yy135⟩) HS ?rr135
          case yy135 =>
            (try dsimp only at hSw); go_simp
            try with_reducible rfl
          try simp only [Act.put, List.setIfInBounds_toArray, List.set_cons_zero, List.set_cons_succ]
          refine wpAnyT_take (i := 40) (v := ?vv136) rfl (by kernel_rfl) (fun _ _ _ h => h) (Or.inl ⟨by rfl, fun w hSw => ?yy136⟩) HS ?rr136
          case yy136 =>
            (try dsimp only at hSw); go_simp
            try with_reducible rfl
          try simp only [Act.put, List.setIfInBounds_toArray, List.set_cons_zero, List.set_cons_succ]
          refine wpAnyT_take (i := 41) (v := ?vv137) rfl (by kernel_rfl) (fun _ _ _ h => h) (Or.inl ⟨by rfl, fun w hSw => ?yy137⟩) HS ?rr137
          case yy137 =>
            (try dsimp only at hSw); go_simp
            try with_reducible rfl
          try simp only [Act.put, List.setIfInBounds_toArray, List.set_cons_zero, List.set_cons_succ]
          refine wpAnyT_take (i := 42) (v := .int .i64 p.at_) rfl (by kernel_rfl) (fun _ _ _ h => h) (Or.inl ⟨by rfl, fun w hSw => ?_⟩) HS ?_
          · obtain ⟨⟨c0, c1⟩, hbw⟩ := hSw.2; have g0 := hSw.1.cell 0 rfl; have g1 := hSw.1.cell 1 rfl; go_simp
          try simp only [Act.put, List.setIfInBounds_toArray, List.set_cons_zero, List.set_cons_succ]
          refine wpAnyT_take (i := 43) (v := ?vv138) rfl (by kernel_rfl) (fun _ _ _ h => h) (Or.inl ⟨by rfl, fun w hSw => ?yy138⟩) HS ?rr138
          case yy138 =>
            (try dsimp only at hSw); go_simp
            try with_reducible rfl
          try simp only [Act.put, List.setIfInBounds_toArray, List.set_cons_zero, List.set_cons_succ]
          refine wpAnyT_take (i := 44) (v := ?vv139) rfl (by kernel_rfl) (fun _ _ _ h => h) (Or.inl ⟨by rfl, fun w hSw => ?yy139⟩) HS ?rr139
          case yy139 =>
            (try dsimp only at hSw); go_simp
            try with_reducible rfl
          try simp only [Act.put, List.setIfInBounds_toArray, List.set_cons_zero, List.set_cons_succ]
          refine ⟨by kernel_rfl, ?_⟩
          simp only [List.drop_succ_cons, List.drop_zero]
          have hbz := b6.trans (HS.2.2.mono (b6.size))
          clear HS dd X6 f6
          go_wp2_with fail
          go_roundw
          case rel => exact ⟨k + 1, by omega, by go_num, by rw [HANY.out]; rfl, hbz⟩
          case measure => simp [intOf]; omega
        | false =>
          go_upto_region 13 with fail
          obtain ⟨w6, hw6⟩ : ∃ W, w5 = W := ⟨_, rfl⟩
          rw [hw6] at f5 X5 b5 ht5 ⊢
          clear x0 x1 hw6
          have f6 := f5; have X6 := X5; have b6 := b5; have ht6 := ht5
          clear f5 X5 b5 ht5
          have dd : Below w6.heap.size w6 w6.drew := (Below.refl _ _).drew
          refine wp_region_tail 45 46 (fun (W : World) => Bx W Q 28 [.int .i64 F.kd, .int .i64 F.at_] ∧ TmAt W tb (tof + k * 2) p ∧ Below w6.heap.size w6 W) (by kernel_rfl) (by rfl) (by decide) ?_
          have HS : ((fun (W : World) => Bx W Q 28 [.int .i64 F.kd, .int .i64 F.at_] ∧ TmAt W tb (tof + k * 2) p ∧ Below w6.heap.size w6 W)) _ := ⟨f6.kept dd, tm_below X6 dd ht6, dd⟩
          refine wpAnyT_take (i := 0) (v := ?vv140) rfl (by kernel_rfl) (fun _ _ _ h => h) (Or.inl ⟨by rfl, fun w hSw => ?yy140⟩) HS ?rr140
          case yy140 =>
            (try dsimp only at hSw); go_simp
            try with_reducible rfl
          try simp only [Act.put, List.setIfInBounds_toArray, List.set_cons_zero, List.set_cons_succ]
          refine wpAnyT_take (i := 1) (v := ?vv141) rfl (by kernel_rfl) (fun _ _ _ h => h) (Or.inl ⟨by rfl, fun w hSw => ?yy141⟩) HS ?rr141
          case yy141 =>
            (try dsimp only at hSw); go_simp
            try with_reducible rfl
          try simp only [Act.put, List.setIfInBounds_toArray, List.set_cons_zero, List.set_cons_succ]
          refine wpAnyT_take (i := 2) (v := ?vv142) rfl (by kernel_rfl) (fun _ _ _ h => h) (Or.inl ⟨by rfl, fun w hSw => ?yy142⟩) HS ?rr142
          case yy142 =>
            (try dsimp only at hSw); go_simp
            try with_reducible rfl
          try simp only [Act.put, List.setIfInBounds_toArray, List.set_cons_zero, List.set_cons_succ]
          refine wpAnyT_take (i := 3) (v := .agg #[.int .i64 p.kd, .int .i64 p.at_]) rfl (by kernel_rfl) (fun _ _ _ h => h) (Or.inl ⟨by rfl, fun w hSw => ?_⟩) HS ?_
          · obtain ⟨⟨c0, c1⟩, hbw⟩ := hSw.2; have g0 := hSw.1.cell 0 rfl; have g1 := hSw.1.cell 1 rfl; go_simp
          try simp only [Act.put, List.setIfInBounds_toArray, List.set_cons_zero, List.set_cons_succ]
          refine wpAnyT_one (k := 4) rfl (by kernel_rfl) (by decide) (fun K hK => ?_)
          go_simp
          refine (timay_any p _).mono ?_
          rintro e y1 ⟨rfl, hy1⟩
          rw [HM.out]
          have HS : ((fun (W : World) => Bx W Q 28 [.int .i64 F.kd, .int .i64 F.at_] ∧ TmAt W tb (tof + k * 2) p ∧ Below w6.heap.size w6 W)) _ := ⟨HS.1.kept hy1, tm_below HS.2.1 hy1 (Nat.lt_of_lt_of_le ht6 HS.2.2.size), HS.2.2.trans (hy1.mono HS.2.2.size)⟩
          refine hK _ _ HS ?_
          clear hK K
          try simp only [Act.put, List.setIfInBounds_toArray, List.set_cons_zero, List.set_cons_succ]
          refine wpAnyT_take (i := 5) (v := ?vv143) rfl (by kernel_rfl) (fun _ _ _ h => h) (Or.inl ⟨by rfl, fun w hSw => ?yy143⟩) HS ?rr143
          case yy143 =>
            (try dsimp only at hSw); go_simp
            try with_reducible rfl
          try simp only [Act.put, List.setIfInBounds_toArray, List.set_cons_zero, List.set_cons_succ]
          refine wpAnyT_take (i := 6) (v := ?vv144) rfl (by kernel_rfl) (fun _ _ _ h => h) (Or.inl ⟨by rfl, fun w hSw => ?yy144⟩) HS ?rr144
          case yy144 =>
            (try dsimp only at hSw); go_simp
            try with_reducible rfl
          try simp only [Act.put, List.setIfInBounds_toArray, List.set_cons_zero, List.set_cons_succ]
          refine wpAnyT_take (i := 7) (v := ?vv145) rfl (by kernel_rfl) (fun _ _ _ h => h) (Or.inl ⟨by rfl, fun w hSw => ?yy145⟩) HS ?rr145
          case yy145 =>
            (try dsimp only at hSw); go_simp
            try with_reducible rfl
          try simp only [Act.put, List.setIfInBounds_toArray, List.set_cons_zero, List.set_cons_succ]
          refine wpAnyT_take (i := 8) (v := ?vv146) rfl (by kernel_rfl) (fun _ _ _ h => h) (Or.inl ⟨by rfl, fun w hSw => ?yy146⟩) HS ?rr146
          case yy146 =>
            (try dsimp only at hSw); go_simp
            try with_reducible rfl
          try simp only [Act.put, List.setIfInBounds_toArray, List.set_cons_zero, List.set_cons_succ]
          refine wpAnyT_take (i := 9) (v := ?vv147) rfl (by kernel_rfl) (fun _ _ _ h => h) (Or.inl ⟨by rfl, fun w hSw => ?yy147⟩) HS ?rr147
          case yy147 =>
            (try dsimp only at hSw); go_simp
            try with_reducible rfl
          try simp only [Act.put, List.setIfInBounds_toArray, List.set_cons_zero, List.set_cons_succ]
          refine wpAnyT_take (i := 10) (v := .int .i64 p.kd) rfl (by kernel_rfl) (fun _ _ _ h => h) (Or.inl ⟨by rfl, fun w hSw => ?_⟩) HS ?_
          · obtain ⟨⟨c0, c1⟩, hbw⟩ := hSw.2; have g0 := hSw.1.cell 0 rfl; have g1 := hSw.1.cell 1 rfl; go_simp
          try simp only [Act.put, List.setIfInBounds_toArray, List.set_cons_zero, List.set_cons_succ]
          refine wpAnyT_take (i := 11) (v := ?vv148) rfl (by kernel_rfl) (fun _ _ _ h => h) (Or.inl ⟨by rfl, fun w hSw => ?yy148⟩) HS ?rr148
          case yy148 =>
            (try dsimp only at hSw); go_simp
            try with_reducible rfl
          try simp only [Act.put, List.setIfInBounds_toArray, List.set_cons_zero, List.set_cons_succ]
          refine wpAnyT_take (i := 12) (v := ?vv149) rfl (by kernel_rfl) (fun _ _ _ h => h) (Or.inl ⟨by rfl, fun w hSw => ?yy149⟩) HS ?rr149
          case yy149 =>
            (try dsimp only at hSw); go_simp
            try with_reducible rfl
          try simp only [Act.put, List.setIfInBounds_toArray, List.set_cons_zero, List.set_cons_succ]
          refine wpAnyT_take (i := 13) (v := ?vv150) rfl (by kernel_rfl) (fun _ _ _ h => h) (Or.inl ⟨by rfl, fun w hSw => ?yy150⟩) HS ?rr150
          case yy150 =>
            (try dsimp only at hSw); go_simp
            try with_reducible rfl
          try simp only [Act.put, List.setIfInBounds_toArray, List.set_cons_zero, List.set_cons_succ]
          refine wpAnyT_take (i := 14) (v := ?vv151) rfl (by kernel_rfl) (fun _ _ _ h => h) (Or.inl ⟨by rfl, fun w hSw => ?yy151⟩) HS ?rr151
          case yy151 =>
            (try dsimp only at hSw); go_simp
            try with_reducible rfl
          try simp only [Act.put, List.setIfInBounds_toArray, List.set_cons_zero, List.set_cons_succ]
          refine wpAnyT_take (i := 15) (v := ?vv152) rfl (by kernel_rfl) (fun _ _ _ h => h) (Or.inl ⟨by rfl, fun w hSw => ?yy152⟩) HS ?rr152
          case yy152 =>
            (try dsimp only at hSw); go_simp
            try with_reducible rfl
          try simp only [Act.put, List.setIfInBounds_toArray, List.set_cons_zero, List.set_cons_succ]
          refine wpAnyT_take (i := 16) (v := ?vv153) rfl (by kernel_rfl) (fun _ _ _ h => h) (Or.inl ⟨by rfl, fun w hSw => ?yy153⟩) HS ?rr153
          case yy153 =>
            (try dsimp only at hSw); go_simp
            try with_reducible rfl
          try simp only [Act.put, List.setIfInBounds_toArray, List.set_cons_zero, List.set_cons_succ]
          refine wpAnyT_take (i := 17) (v := .agg #[.int .i64 p.kd, .int .i64 p.at_]) rfl (by kernel_rfl) (fun _ _ _ h => h) (Or.inl ⟨by rfl, fun w hSw => ?_⟩) HS ?_
          · obtain ⟨⟨c0, c1⟩, hbw⟩ := hSw.2; have g0 := hSw.1.cell 0 rfl; have g1 := hSw.1.cell 1 rfl; go_simp
          try simp only [Act.put, List.setIfInBounds_toArray, List.set_cons_zero, List.set_cons_succ]
          refine wpAnyT_take (i := 18) (v := ?vv154) rfl (by kernel_rfl) (fun _ _ _ h => h) (Or.inl ⟨by rfl, fun w hSw => ?yy154⟩) HS ?rr154
          case yy154 =>
            (try dsimp only at hSw); go_simp
            try with_reducible rfl
          try simp only [Act.put, List.setIfInBounds_toArray, List.set_cons_zero, List.set_cons_succ]
          refine wpAnyT_take (i := 19) (v := ?vv155) rfl (by kernel_rfl) (fun _ _ _ h => h) (Or.inl ⟨by rfl, fun w hSw => ?yy155⟩) HS ?rr155
          case yy155 =>
            (try dsimp only at hSw); go_simp
            try with_reducible rfl
          try simp only [Act.put, List.setIfInBounds_toArray, List.set_cons_zero, List.set_cons_succ]
          refine wpAnyT_take (i := 20) (v := ?vv156) rfl (by kernel_rfl) (fun _ _ _ h => h) (Or.inl ⟨by rfl, fun w hSw => ?yy156⟩) HS ?rr156
          case yy156 =>
            (try dsimp only at hSw); go_simp
            try with_reducible rfl
          try simp only [Act.put, List.setIfInBounds_toArray, List.set_cons_zero, List.set_cons_succ]
          refine wpAnyT_take (i := 21) (v := ?vv157) rfl (by kernel_rfl) (fun _ _ _ h => h) (Or.inl ⟨by rfl, fun w hSw => ?yy157⟩) HS ?rr157
          case yy157 =>
            (try dsimp only at hSw); go_simp
            try with_reducible rfl
          try simp only [Act.put, List.setIfInBounds_toArray, List.set_cons_zero, List.set_cons_succ]
          refine wpAnyT_take (i := 22) (v := .int .i64 p.at_) rfl (by kernel_rfl) (fun _ _ _ h => h) (Or.inl ⟨by rfl, fun w hSw => ?_⟩) HS ?_
          · obtain ⟨⟨c0, c1⟩, hbw⟩ := hSw.2; have g0 := hSw.1.cell 0 rfl; have g1 := hSw.1.cell 1 rfl; go_simp
          try simp only [Act.put, List.setIfInBounds_toArray, List.set_cons_zero, List.set_cons_succ]
          refine wpAnyT_take (i := 24) (v := ?vv158) rfl (by kernel_rfl) (fun _ _ _ h => h) (Or.inl ⟨by rfl, fun w hSw => ?yy158⟩) HS ?rr158
          case yy158 =>
            (try dsimp only at hSw); go_simp
            try with_reducible rfl
          try simp only [Act.put, List.setIfInBounds_toArray, List.set_cons_zero, List.set_cons_succ]
          refine wpAnyT_take (i := 25) (v := ?vv159) rfl (by kernel_rfl) (fun _ _ _ h => h) (Or.inl ⟨by rfl, fun w hSw => ?yy159⟩) HS ?rr159
          case yy159 =>
            (try dsimp only at hSw); go_simp
            try with_reducible rfl
          try simp only [Act.put, List.setIfInBounds_toArray, List.set_cons_zero, List.set_cons_succ]
          refine wpAnyT_take (i := 26) (v := ?vv160) rfl (by kernel_rfl) (fun _ _ _ h => h) (Or.inl ⟨by rfl, fun w hSw => ?yy160⟩) HS ?rr160
          case yy160 =>
            (try dsimp only at hSw); go_simp
            try with_reducible rfl
          try simp only [Act.put, List.setIfInBounds_toArray, List.set_cons_zero, List.set_cons_succ]
          refine wpAnyT_take (i := 27) (v := ?vv161) rfl (by kernel_rfl) (fun _ _ _ h => h) (Or.inl ⟨by rfl, fun w hSw => ?yy161⟩) HS ?rr161
          case yy161 =>
            (try dsimp only at hSw); go_simp
            try with_reducible rfl
          try simp only [Act.put, List.setIfInBounds_toArray, List.set_cons_zero, List.set_cons_succ]
          refine wpAnyT_take (i := 28) (v := .int .i64 p.kd) rfl (by kernel_rfl) (fun _ _ _ h => h) (Or.inl ⟨by rfl, fun w hSw => ?_⟩) HS ?_
          · obtain ⟨⟨c0, c1⟩, hbw⟩ := hSw.2; have g0 := hSw.1.cell 0 rfl; have g1 := hSw.1.cell 1 rfl; go_simp
          try simp only [Act.put, List.setIfInBounds_toArray, List.set_cons_zero, List.set_cons_succ]
          refine wpAnyT_one (k := 23) rfl (by kernel_rfl) (by decide) (fun K hK => ?_)
          go_simp
          refine (tidue_any p p.at_ _).mono ?_
          rintro e y2 ⟨rfl, hy2⟩
          rw [HDS.out]
          have HS : ((fun (W : World) => Bx W Q 28 [.int .i64 F.kd, .int .i64 F.at_] ∧ TmAt W tb (tof + k * 2) p ∧ Below w6.heap.size w6 W)) _ := ⟨HS.1.kept hy2, tm_below HS.2.1 hy2 (Nat.lt_of_lt_of_le ht6 HS.2.2.size), HS.2.2.trans (hy2.mono HS.2.2.size)⟩
          refine hK _ _ HS ?_
          clear hK K
          try simp only [Act.put, List.setIfInBounds_toArray, List.set_cons_zero, List.set_cons_succ]
          refine wpAnyT_take (i := 29) (v := ?vv162) rfl (by kernel_rfl) (fun _ _ _ h => h) (Or.inl ⟨by rfl, fun w hSw => ?yy162⟩) HS ?rr162
          case yy162 =>
            (try dsimp only at hSw); go_simp
            try with_reducible rfl
          try simp only [Act.put, List.setIfInBounds_toArray, List.set_cons_zero, List.set_cons_succ]
          refine wpAnyT_take (i := 30) (v := ?vv163) rfl (by kernel_rfl) (fun _ _ _ h => h) (Or.inl ⟨by rfl, fun w hSw => ?yy163⟩) HS ?rr163
          case yy163 =>
            (try dsimp only at hSw); go_simp
            try with_reducible rfl
          try simp only [Act.put, List.setIfInBounds_toArray, List.set_cons_zero, List.set_cons_succ]
          refine wpAnyT_take (i := 31) (v := ?vv164) rfl (by kernel_rfl) (fun _ _ _ h => h) (Or.inl ⟨by rfl, fun w hSw => ?yy164⟩) HS ?rr164
          case yy164 =>
            (try dsimp only at hSw); go_simp
            try with_reducible rfl
          try simp only [Act.put, List.setIfInBounds_toArray, List.set_cons_zero, List.set_cons_succ]
          refine wpAnyT_take (i := 32) (v := .int .i64 F.kd) rfl (by kernel_rfl) (fun _ _ _ h => h) (Or.inl ⟨by rfl, fun w hSw => ?_⟩) HS ?_
          · obtain ⟨⟨c0, c1⟩, hbw⟩ := hSw.2; have g0 := hSw.1.cell 0 rfl; have g1 := hSw.1.cell 1 rfl; go_simp
          try simp only [Act.put, List.setIfInBounds_toArray, List.set_cons_zero, List.set_cons_succ]
          refine wpAnyT_take (i := 33) (v := ?vv165) rfl (by kernel_rfl) (fun _ _ _ h => h) (Or.inl ⟨by rfl, fun w hSw => ?yy165⟩) HS ?rr165
          case yy165 =>
            (try dsimp only at hSw); go_simp
            try with_reducible rfl
          try simp only [Act.put, List.setIfInBounds_toArray, List.set_cons_zero, List.set_cons_succ]
          refine wpAnyT_take (i := 34) (v := ?vv166) rfl (by kernel_rfl) (fun _ _ _ h => h) (Or.inl ⟨by rfl, fun w hSw => ?yy166⟩) HS ?rr166
          case yy166 =>
            (try dsimp only at hSw); go_simp
            try with_reducible rfl
          try simp only [Act.put, List.setIfInBounds_toArray, List.set_cons_zero, List.set_cons_succ]
          refine wpAnyT_take (i := 35) (v := ?vv167) rfl (by kernel_rfl) (fun _ _ _ h => h) (Or.inl ⟨by rfl, fun w hSw => ?yy167⟩) HS ?rr167
          case yy167 =>
            (try dsimp only at hSw); go_simp
            try with_reducible rfl
          try simp only [Act.put, List.setIfInBounds_toArray, List.set_cons_zero, List.set_cons_succ]
          refine wpAnyT_take (i := 36) (v := ?vv168) rfl (by kernel_rfl) (fun _ _ _ h => h) (Or.inl ⟨by rfl, fun w hSw => ?yy168⟩) HS ?rr168
          case yy168 =>
            (try dsimp only at hSw); go_simp
            try with_reducible rfl
          try simp only [Act.put, List.setIfInBounds_toArray, List.set_cons_zero, List.set_cons_succ]
          refine wpAnyT_take (i := 37) (v := .int .i64 F.at_) rfl (by kernel_rfl) (fun _ _ _ h => h) (Or.inl ⟨by rfl, fun w hSw => ?_⟩) HS ?_
          · obtain ⟨⟨c0, c1⟩, hbw⟩ := hSw.2; have g0 := hSw.1.cell 0 rfl; have g1 := hSw.1.cell 1 rfl; go_simp
          try simp only [Act.put, List.setIfInBounds_toArray, List.set_cons_zero, List.set_cons_succ]
          refine wpAnyT_take (i := 38) (v := ?vv169) rfl (by kernel_rfl) (fun _ _ _ h => h) (Or.inl ⟨by rfl, fun w hSw => ?yy169⟩) HS ?rr169
          case yy169 =>
            (try dsimp only at hSw); go_simp
            try with_reducible rfl
          try simp only [Act.put, List.setIfInBounds_toArray, List.set_cons_zero, List.set_cons_succ]
          refine wpAnyT_take (i := 39) (v := ?vv170) rfl (by kernel_rfl) (fun _ _ _ h => h) (Or.inl ⟨by rfl, fun w hSw => ?yy170⟩) HS ?rr170
          case yy170 =>
            (try dsimp only at hSw); go_simp
            try with_reducible rfl
          try simp only [Act.put, List.setIfInBounds_toArray, List.set_cons_zero, List.set_cons_succ]
          refine wpAnyT_take (i := 40) (v := ?vv171) rfl (by kernel_rfl) (fun _ _ _ h => h) (Or.inl ⟨by rfl, fun w hSw => ?yy171⟩) HS ?rr171
          case yy171 =>
            (try dsimp only at hSw); go_simp
            try with_reducible rfl
          try simp only [Act.put, List.setIfInBounds_toArray, List.set_cons_zero, List.set_cons_succ]
          refine wpAnyT_take (i := 41) (v := ?vv172) rfl (by kernel_rfl) (fun _ _ _ h => h) (Or.inl ⟨by rfl, fun w hSw => ?yy172⟩) HS ?rr172
          case yy172 =>
            (try dsimp only at hSw); go_simp
            try with_reducible rfl
          try simp only [Act.put, List.setIfInBounds_toArray, List.set_cons_zero, List.set_cons_succ]
          refine wpAnyT_take (i := 42) (v := .int .i64 p.at_) rfl (by kernel_rfl) (fun _ _ _ h => h) (Or.inl ⟨by rfl, fun w hSw => ?_⟩) HS ?_
          · obtain ⟨⟨c0, c1⟩, hbw⟩ := hSw.2; have g0 := hSw.1.cell 0 rfl; have g1 := hSw.1.cell 1 rfl; go_simp
          try simp only [Act.put, List.setIfInBounds_toArray, List.set_cons_zero, List.set_cons_succ]
          refine wpAnyT_take (i := 43) (v := ?vv173) rfl (by kernel_rfl) (fun _ _ _ h => h) (Or.inl ⟨by rfl, fun w hSw => ?yy173⟩) HS ?rr173
          case yy173 =>
            (try dsimp only at hSw); go_simp
            try with_reducible rfl
          try simp only [Act.put, List.setIfInBounds_toArray, List.set_cons_zero, List.set_cons_succ]
          refine wpAnyT_take (i := 44) (v := ?vv174) rfl (by kernel_rfl) (fun _ _ _ h => h) (Or.inl ⟨by rfl, fun w hSw => ?yy174⟩) HS ?rr174
          case yy174 =>
            (try dsimp only at hSw); go_simp
            try with_reducible rfl
          try simp only [Act.put, List.setIfInBounds_toArray, List.set_cons_zero, List.set_cons_succ]
          refine ⟨by kernel_rfl, ?_⟩
          simp only [List.drop_succ_cons, List.drop_zero]
          have hbz := b6.trans (HS.2.2.mono (b6.size))
          clear HS dd X6 f6
          go_wp2_with fail
          go_roundw
          case rel => exact ⟨k + 1, by omega, by go_num, by rw [HANY.out]; rfl, hbz⟩
          case measure => simp [intOf]; omega
end Go.Proofs.Ytbkmadlekigjfaa.timerDue
