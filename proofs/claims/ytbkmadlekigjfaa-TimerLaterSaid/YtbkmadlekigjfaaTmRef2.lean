/- The reference of package timer: First as a contract of the call. -/
import Derived.Test.YtbkmadlekigjfaaProg
import Derived.Test.YtbkmadlekigjfaaTmRef1
import Derived.WalkKit
import Derived.WalkSpells
import Derived.WalkSmall
import Derived.Lib.Hide
import Derived.Below
import Derived.Outline
import Derived.Deep.QuietTactic
import Derived.BigQuiet
import Derived.IntWalk
import Derived.Deep.DeepCutAuto
import Derived.OrdersHeld
import Derived.StillTail
import Derived.Test.YtbkmadlekigjfaaTail
import Derived.Laws.Rows
import Derived.Laws.Tables
namespace Go.Proofs.Ytbkmadlekigjfaa
open Go.RowKit
set_option linter.unusedVariables false
set_option linter.unusedSimpArgs false

theorem tm_below {w w' : World} {b o B : Nat} {x : Tmr} (h : TmAt w b o x) (hb : Below B w w') (hlt : b < B) : TmAt w' b o x :=
  ⟨(hb.cell (p := ⟨b, o, none⟩) hlt).trans h.c0, (hb.cell (p := ⟨b, o + 1, none⟩) hlt).trans h.c1⟩
theorem tmStep_no {o t : Tmr} (h : ¬ (tmB t = true ∧ 0 < t.kd ∧ (o.kd = 0 ∨ t.at_ ≤ o.at_))) : tmStep o t = o := if_neg h
theorem tmStep_yes {o t : Tmr} (h : tmB t = true ∧ 0 < t.kd ∧ (o.kd = 0 ∨ t.at_ ≤ o.at_)) : tmStep o t = t := if_pos h

set_option maxRecDepth 100000 in
set_option maxHeartbeats 8000000 in
theorem rtmfirst_any (A : Option Addr) (n c : Nat) (l : List Tmr) (w : World) (hs : Se w A n c l) :
    Calls Try.prog 16 #[.slice A n c] w fun e w' => e = .returned (.agg #[.int .i64 (firstR l).kd, .int .i64 (firstR l).at_]) ∧ Below w.heap.size w w' := by
  obtain ⟨B, hB⟩ : ∃ B, w.heap.size = B := ⟨_, rfl⟩
  have hl := hs.rd.len
  have m1 := hs.le
  have m2 := hs.max
  have m3 : n ≤ 9223372036854775807 := by unfold maxLen at m2; omega
  clear m1 m2
  have HL := Lib.hid hl; have HA := Lib.hid hs; have HB := Lib.hid hB
  have e0 := (Bx.new w 28 [.int .i64 0, .int .i64 0]).alloc (.cells #[.int .i64 0, .int .i64 0] 28)
  have o0 := Bx.new (w.alloc (.cells #[.int .i64 0, .int .i64 0] 28)) 28 [.int .i64 0, .int .i64 0]
  rw [World.size_alloc] at o0
  have b0 : Below w.heap.size w ((w.alloc (.cells #[.int .i64 0, .int .i64 0] 28)).alloc (.cells #[.int .i64 0, .int .i64 0] 28)) := ((Below.refl _ _).alloc (Nat.le_refl _) _).alloc (by simp) _
  rw [hB] at e0 o0 b0
  rw [hB]
  clear hs hl
  go_enter Try.func16, Try.ntmps16
  go_upto_region 2 with fail
  generalize (w.alloc (.cells #[.int .i64 0, .int .i64 0] 28)).alloc (.cells #[.int .i64 0, .int .i64 0] 28) = w1 at e0 o0 b0 ⊢
  go_wp2_with fail
  go_loopw [4] (fun i wr => ∃ k : Nat, k ≤ n ∧ i = .int .i64 ((k : Int) - 1) ∧ Bx wr (B + 1) 28 [.int .i64 (firstR (l.drop k)).kd, .int .i64 (firstR (l.drop k)).at_] ∧ Bx wr B 28 [.int .i64 0, .int .i64 0] ∧ Below B w wr) (fun i _ => (intOf i + 1).toNat)
  case atStart => exact ⟨n, Nat.le_refl _, rfl, by rw [show l.drop n = [] by rw [← HL.out]; exact List.drop_length]; exact o0, e0, b0⟩
  case round =>
    obtain ⟨k, hkn, rfl, hor, er, br⟩ := hrel
    clear e0 o0 b0
    cases k with
    | zero =>
      rw [List.drop_zero] at hor
      have hor' := Lib.hid hor
      clear hor
      obtain ⟨F, hF⟩ : ∃ F, firstR l = F := ⟨_, rfl⟩
      rw [hF] at hor'
      have hor := hor'.out
      have HF := Lib.hid hF
      clear hF
      go_wp2_with (first | (refine tm_load rfl (.tmp 3) rfl rfl hor rfl ?_) | (refine tm_store rfl (.tmp 2) (.tmp 47) rfl rfl [.int .i64 F.kd, .int .i64 F.at_] rfl er rfl rfl rfl ?_))
      refine tm_end1 (by rfl) (by rfl) (tm_put er [.int .i64 F.kd, .int .i64 F.at_]) rfl rfl ?_
      exact ⟨by rw [HF.out], br.grown (tm_grown _ B #[.int .i64 F.kd, .int .i64 F.at_]) (Nat.le_of_lt er.lt) (fun k hk => by cases hk; omega)⟩
    | succ k =>
    have hlt : k < n := by omega
    have hkl : k < l.length := by rw [HL.out]; exact hlt
    have hst := firstR_drop hkl
    obtain ⟨b, o, rfl, hbl, hc⟩ := HA.out.rd.at_ (by omega)
    have hbB : b < B := by rw [← HB.out]; exact hbl
    have X := tm_below (tm_at hc hlt) br hbB
    obtain ⟨p, hp⟩ : ∃ p, ge l k = p := ⟨_, rfl⟩
    rw [hp] at X hst
    obtain ⟨F, hF⟩ : ∃ F, firstR (l.drop (k + 1)) = F := ⟨_, rfl⟩
    rw [hF] at hor hst
    have HST := Lib.hid hst
    have c0 := X.c0; have c1 := X.c1
    have hk1 : ((k + 1 : Nat) : Int) - 1 = (k : Int) := by omega
    rw [hk1]
    have hge : decide (0 ≤ (k : Int)) = true := decide_eq_true (by omega)
    have hsub : IntKind.i64.wrap ((k : Int) - 1) = (k : Int) - 1 := IntWalk.i64_in _ (by omega)
    clear hc hp hF hst hbl hk1
    go_wp2_with fail
    refine (rtmmay_any p _).mono ?_
    rintro e w2 ⟨rfl, hb2⟩
    have hBr : B ≤ wr.heap.size := Nat.le_of_lt er.lt
    have or2 := hor.kept hb2; have er2 := er.kept hb2; have br2 := br.trans (hb2.mono hBr); have X2 := tm_below X hb2 (Nat.lt_trans hbB er.lt)
    have hB2 : B ≤ w2.heap.size := Nat.le_of_lt er2.lt
    clear X c0 c1 hor er br hb2 hBr
    have c0 := X2.c0; have c1 := X2.c1; have x0 := or2.cell 0 rfl; have x1 := or2.cell 1 rfl
    cases hk : tmB p with
    | false =>
      have hF2 : firstR (l.drop k) = F := by rw [HST.out]; exact tmStep_no (by intro h; rw [hk] at h; cases h.1)
      have HF2 := Lib.hid hF2; clear hF2
      go_upto_region 6 with fail
      go_quiet (fail)
      go_wp2_with fail
      go_roundw
      case rel => exact ⟨k, by omega, by go_num, by rw [HF2.out]; exact or2.kept (below_drewN (Below.refl _ _) _), er2.kept (below_drewN (Below.refl _ _) _), br2.trans ((below_drewN (Below.refl _ _) _).mono hB2)⟩
      case measure => simp [intOf] <;> omega
    | true =>
    by_cases k0 : 0 < p.kd
    case neg =>
      have dk0 : decide (0 < p.kd) = false := decide_eq_false k0
      have hF2 : firstR (l.drop k) = F := by rw [HST.out]; exact tmStep_no (by intro h; exact k0 h.2.1)
      have HF2 := Lib.hid hF2; clear hF2
      go_upto_region 6 with fail
      go_quiet (fail)
      go_wp2_with fail
      go_roundw
      case rel => exact ⟨k, by omega, by go_num, by rw [HF2.out]; exact or2.kept (below_drewN (Below.refl _ _) _), er2.kept (below_drewN (Below.refl _ _) _), br2.trans ((below_drewN (Below.refl _ _) _).mono hB2)⟩
      case measure => simp [intOf] <;> omega
    have dk0 : decide (0 < p.kd) = true := decide_eq_true k0
    by_cases k1 : F.kd = 0
    case pos =>
      have dk1 : (F.kd == 0) = true := by simpa using k1
      have hF2 : firstR (l.drop k) = p := by rw [HST.out]; exact tmStep_yes (by exact ⟨hk, k0, .inl k1⟩)
      have HF2 := Lib.hid hF2; clear hF2 k1
      have bd : ∀ m, Below w2.heap.size w2 (w2.drewN m) := fun m => below_drewN (Below.refl _ _) m
      go_upto_region 6 with fail
      go_quiet (fail)
      go_upto_region 7 with fail
      generalize hW : w2.drewN nq = w3
      have b3 : Below w2.heap.size w2 w3 := by rw [← hW]; exact bd _
      have or3 := or2.kept b3; have er3 := er2.kept b3; have X3 := tm_below X2 b3 (Nat.lt_trans hbB er2.lt); have br3 := br2.trans (b3.mono hB2)
      have hB3 : B ≤ w3.heap.size := Nat.le_of_lt er3.lt
      clear hW bd b3 or2 er2 X2 br2 c0 c1 x0 x1
      have c0 := X3.c0; have c1 := X3.c1
      go_wp2_with (refine tm_store rfl (.tmp 3) (.tmp 46) rfl rfl [.int .i64 p.kd, .int .i64 p.at_] rfl or3 rfl rfl rfl ?_)
      go_roundw
      case rel => exact ⟨k, by omega, by go_num, by rw [HF2.out]; exact tm_put or3 [.int .i64 p.kd, .int .i64 p.at_], er3.grown (tm_grown _ (B + 1) #[.int .i64 p.kd, .int .i64 p.at_]) (by intro h; injection h; omega), br3.grown (tm_grown _ (B + 1) #[.int .i64 p.kd, .int .i64 p.at_]) hB3 (fun k hk => by cases hk; omega)⟩
      case measure => simp [intOf] <;> omega
    have dk1 : (F.kd == 0) = false := by simpa using k1
    by_cases k2 : p.at_ ≤ F.at_
    case pos =>
      have dk2 : decide (p.at_ ≤ F.at_) = true := decide_eq_true k2
      have hF2 : firstR (l.drop k) = p := by rw [HST.out]; exact tmStep_yes (by exact ⟨hk, k0, .inr k2⟩)
      have HF2 := Lib.hid hF2; clear hF2 k1
      have bd : ∀ m, Below w2.heap.size w2 (w2.drewN m) := fun m => below_drewN (Below.refl _ _) m
      go_upto_region 6 with fail
      go_quiet (fail)
      go_upto_region 7 with fail
      generalize hW : w2.drewN nq = w3
      have b3 : Below w2.heap.size w2 w3 := by rw [← hW]; exact bd _
      have or3 := or2.kept b3; have er3 := er2.kept b3; have X3 := tm_below X2 b3 (Nat.lt_trans hbB er2.lt); have br3 := br2.trans (b3.mono hB2)
      have hB3 : B ≤ w3.heap.size := Nat.le_of_lt er3.lt
      clear hW bd b3 or2 er2 X2 br2 c0 c1 x0 x1
      have c0 := X3.c0; have c1 := X3.c1
      go_wp2_with (refine tm_store rfl (.tmp 3) (.tmp 46) rfl rfl [.int .i64 p.kd, .int .i64 p.at_] rfl or3 rfl rfl rfl ?_)
      go_roundw
      case rel => exact ⟨k, by omega, by go_num, by rw [HF2.out]; exact tm_put or3 [.int .i64 p.kd, .int .i64 p.at_], er3.grown (tm_grown _ (B + 1) #[.int .i64 p.kd, .int .i64 p.at_]) (by intro h; injection h; omega), br3.grown (tm_grown _ (B + 1) #[.int .i64 p.kd, .int .i64 p.at_]) hB3 (fun k hk => by cases hk; omega)⟩
      case measure => simp [intOf] <;> omega
    have dk2 : decide (p.at_ ≤ F.at_) = false := decide_eq_false k2
    have hF2 : firstR (l.drop k) = F := by rw [HST.out]; exact tmStep_no (by intro h; rcases h.2.2 with z | z; exact k1 z; exact k2 z)
    have HF2 := Lib.hid hF2; clear hF2 k1
    go_upto_region 6 with fail
    go_quiet (fail)
    go_wp2_with fail
    go_roundw
    case rel => exact ⟨k, by omega, by go_num, by rw [HF2.out]; exact or2.kept (below_drewN (Below.refl _ _) _), er2.kept (below_drewN (Below.refl _ _) _), br2.trans ((below_drewN (Below.refl _ _) _).mono hB2)⟩
    case measure => simp [intOf] <;> omega
end Go.Proofs.Ytbkmadlekigjfaa
