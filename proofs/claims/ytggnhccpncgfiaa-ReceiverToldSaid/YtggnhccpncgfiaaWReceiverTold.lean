/- The texts ReceiverToldWalk. -/
import Derived.Below
import Derived.BigQuiet
import Derived.Deep.AppendLies
import Derived.Deep.CutBlock
import Derived.Deep.DeepCutAuto
import Derived.Deep.QuietTactic
import Derived.IntWalk
import Derived.Laws.Rows
import Derived.Laws.Tables
import Derived.Lib.Hide
import Derived.OrdersHeld
import Derived.Outline
import Derived.Test.YtggnhccpncgfiaaProg
import Derived.WalkKit
import Derived.WalkSmall
import Derived.WalkSpells
import Derived.Test.YtggnhccpncgfiaaM13
import Derived.Test.YtggnhccpncgfiaaM14
import Derived.Test.YtggnhccpncgfiaaM22
import Derived.Test.YtggnhccpncgfiaaM24
set_option linter.all false
namespace Go.Proofs.Ytggnhccpncgfiaa.receiverTold
open Go.RowKit
set_option maxRecDepth 100000 in
set_option maxHeartbeats 32000000 in
theorem walk (s : Rcs) (r : Rc) (G : Option Addr) (m d : Nat) (A : Option Addr) (n c : Nat) (x : Sg) (w : World) (h : RcM w (fun _ => True) s r) (hx : SgW x) (hsr : Sr w G m d x.sacks) (hsl : Sl w A n c x.b) (hk : n64 x.kind ∧ n64 x.sub ∧ n64 x.win ∧ n64 x.ace) :
    Calls Try.prog 5 #[.agg (rcs s r).toArray, .agg (sgs G m d A n c x).toArray] w fun e w' => e = .returned (.bool true) ∧ Below w.heap.size w w' := by
  obtain ⟨B, hB⟩ : ∃ B, w.heap.size = B := ⟨_, rfl⟩
  have e1 := (Bx.new w 32 (rcs s r)).alloc (.cells (sgs G m d A n c x).toArray 36)
  have y1 := Bx.new (w.alloc (.cells (rcs s r).toArray 32)) 36 (sgs G m d A n c x)
  rw [World.size_alloc] at y1
  rw [hB] at e1 y1 ⊢
  have b1 : Below B w ((w.alloc (.cells (rcs s r).toArray 32)).alloc (.cells (sgs G m d A n c x).toArray 36)) := by rw [← hB]; exact ((Below.refl _ _).alloc (Nat.le_refl _) _).alloc (by simp) _
  have f1 := (h.alloc (.cells (rcs s r).toArray 32)).alloc (.cells (sgs G m d A n c x).toArray 36)
  have u1 := (hsr.keep ((Below.refl _ _).alloc (Nat.le_refl _) (.cells (rcs s r).toArray 32))).keep ((Below.refl _ _).alloc (Nat.le_refl _) (.cells (sgs G m d A n c x).toArray 36))
  have v1 := (hsl.alloc (.cells (rcs s r).toArray 32)).alloc (.cells (sgs G m d A n c x).toArray 36)
  have HK := Lib.hid hk; have HX := Lib.hid hx
  clear h hx hsr hsl hk
  go_enter Try.func5, Try.ntmps5
  go_upto_region 1 with fail
  generalize (w.alloc (.cells (rcs s r).toArray 32)).alloc (.cells (sgs G m d A n c x).toArray 36) = w1 at e1 y1 b1 f1 u1 v1 ⊢
  clear hB
  have z1 : B ≤ w1.heap.size := Nat.le_of_lt e1.lt
  go_wp2_with fail
  refine (rcawake_any _).mono ?_
  rintro e w2 ⟨rfl, hb⟩
  have e2 := e1.kept hb
  have y2 := y1.kept hb
  have f2 := f1.keep hb
  have u2 := u1.keep hb
  have v2 := v1.keep hb
  have b2 := b1.trans (hb.mono z1); have z2 := Nat.le_trans z1 hb.size
  clear e1 y1 f1 u1 v1 b1 z1 hb
  go_wp2_with (refine rv_load rfl (.tmp 2) rfl rfl e2 rfl ?_)
  refine (rcfew_any s r _).mono ?_
  rintro e w3 ⟨rfl, hb⟩
  have e3 := e2.kept hb
  have y3 := y2.kept hb
  have f3 := f2.keep hb
  have u3 := u2.keep hb
  have v3 := v2.keep hb
  have b3 := b2.trans (hb.mono z2); have z3 := Nat.le_trans z2 hb.size
  clear e2 y2 f2 u2 v2 b2 z2 hb
  cases hfew : fewRc s with
  | false =>
    go_wp2_with fail
    go_ret
    exact ⟨rfl, b3⟩
  | true =>
  have HNB := Lib.hid (show s.wn ≤ 140737488355328 by have := (few_parts hfew).1; omega)
  clear hfew
  have x13 : w3.cell? ⟨B + 1, 13, none⟩ = some (.slice G m d) := y3.cell 13 rfl
  have x14 : w3.cell? ⟨B + 1, 14, none⟩ = some (.slice A n c) := y3.cell 14 rfl
  have x1 : w3.cell? ⟨B + 1, 1, none⟩ = some (.int .i64 x.sub) := y3.cell 1 rfl
  have x0 : w3.cell? ⟨B, 0, none⟩ = some (.int .i64 r.w.base) := e3.cell 0 rfl
  by_cases h4 : 400 < n
  · have d0 : decide (400 < (n : Int)) = true := decide_eq_true (by omega)
    go_wp2_with fail
    go_ret
    exact ⟨rfl, b3⟩
  have d4 : decide (400 < (n : Int)) = false := decide_eq_false (by omega)
  by_cases h5 : 20 < m
  · have d0 : decide (20 < (m : Int)) = true := decide_eq_true (by omega)
    go_wp2_with fail
    go_ret
    exact ⟨rfl, b3⟩
  have d5 : decide (20 < (m : Int)) = false := decide_eq_false (by omega)
  by_cases h6 : x.sub < 0
  · have d0 : decide (x.sub < 0) = true := decide_eq_true h6
    go_wp2_with fail
    go_ret
    exact ⟨rfl, b3⟩
  have d6 : decide (x.sub < 0) = false := decide_eq_false h6
  by_cases h7 : 3 < x.sub
  · have d0 : decide (3 < x.sub) = true := decide_eq_true h7
    go_wp2_with fail
    go_ret
    exact ⟨rfl, b3⟩
  have d7 : decide (3 < x.sub) = false := decide_eq_false h7
  by_cases h8 : 2000000000 < r.w.base
  · have d0 : decide (2000000000 < r.w.base) = true := decide_eq_true h8
    go_wp2_with fail
    go_ret
    exact ⟨rfl, b3⟩
  have d8 : decide (2000000000 < r.w.base) = false := decide_eq_false h8
  have HB := Lib.hid (show 0 ≤ x.sub ∧ x.sub ≤ 3 ∧ r.w.base ≤ 2000000000 from ⟨by omega, by omega, by omega⟩)
  go_upto_region 7 with fail
  clear d4 d5 d6 d7 d8 h4 h5 h6 h7 h8 x13 x14 x1 x0
  go_upto_block 0 with fail
  go_cut [7] (fun _ wx => Hid (Bx wx B 32 (rcs s r) ∧ Bx wx (B + 1) 36 (sgs G m d A n c x) ∧ RcM wx (fun _ => True) s r ∧ Sr wx G m d x.sacks ∧ Sl wx A n c x.b ∧ Below B w wx ∧ B ≤ wx.heap.size ∧ ∀ p ∈ (r.s x.sub.toNat).got, p.2 ≤ 2000000000))
  case first =>
    have hsub : x.sub = 0 ∨ x.sub = 1 ∨ x.sub = 2 ∨ x.sub = 3 := by have := HB.out; omega
    have HS := Lib.hid hsub
    clear hsub
    rcases HS.out with hs0 | hs0 | hs0 | hs0
    · clear HS
      have g3 := f3.g0
      have hlen : (r.s x.sub.toNat).got = r.s0.got := by rw [hs0]; rfl
      have HL := Lib.hid hlen; clear hlen
      have HZ := Lib.hid hs0
      obtain ⟨M, hM⟩ : ∃ M, w3.heap.size = M := ⟨_, rfl⟩
      have HM := Lib.hid hM; clear hM
      clear hs0
      go_wp2_with fail
      go_loopw [7] (fun i wr => ∃ k : Nat, k ≤ s.n0 ∧ i = .int .i64 (k : Int) ∧ (∀ j, j < k → (sp r.s0.got j).2 ≤ 2000000000) ∧ Below M w3 wr) (fun i _ => s.n0 - (intOf i).toNat)
      case atStart => exact ⟨0, Nat.zero_le _, rfl, fun j hj => absurd hj (Nat.not_lt_zero _), Below.refl _ _⟩
      case round =>
        obtain ⟨k, hkn, rfl, hall, br⟩ := hrel
        have br' : Below w3.heap.size w3 wr := by rw [HM.out]; exact br
        have e9 := e3.kept br'; have y9 := y3.kept br'
        have g9 := g3.keep br'
        have x1 : wr.cell? ⟨B + 1, 1, none⟩ = some (.int .i64 0) := (y9.cell 1 rfl).trans (by show some (Value.int .i64 x.sub) = _; rw [HZ.out])
        have xg := e9.cell 5 rfl
        by_cases hlt : k < s.n0
        · have dlt : decide (k < s.n0) = true := decide_eq_true hlt
          have dlt' : decide ((k : Int) < (s.n0 : Int)) = true := decide_eq_true (by omega)
          have m3 : s.n0 ≤ 9223372036854775807 := by have := g9.le; have := g9.max; unfold maxLen at this; omega
          obtain ⟨bb, o, hA, hbl, hc0⟩ := g9.rd.at_ (by omega)
          have hcc := (hc0 k hlt).2
          rw [hA] at xg
          have HALL := Lib.hid hall
          clear hc0 hbl hA e9 y9 g9 hall br'
          by_cases hov : 2000000000 < (sp r.s0.got k).2
          · have d0 : decide (2000000000 < (sp r.s0.got k).2) = true := decide_eq_true hov
            have b9 := b3.trans (br.mono (by rw [← HM.out]; exact z3))
            clear hov
            go_wp2_with fail
            go_ret
            exact ⟨rfl, b9⟩
          · have d0 : decide (2000000000 < (sp r.s0.got k).2) = false := decide_eq_false hov
            have hst : ∀ j, j < k + 1 → (sp r.s0.got j).2 ≤ 2000000000 := fun j hj => by
              by_cases hjk : j = k
              · rw [hjk]; omega
              · exact HALL.out j (by omega)
            have HST := Lib.hid hst
            clear hst hov HALL
            go_wp2_with fail
            go_roundw
            case rel => exact ⟨k + 1, by omega, by go_num, HST.out, br⟩
            case measure => simp [intOf]; omega
        · obtain rfl : k = s.n0 := by omega
          have dlt : decide (s.n0 < s.n0) = false := decide_eq_false (by omega)
          have dlt' : decide ((s.n0 : Int) < (s.n0 : Int)) = false := decide_eq_false (by omega)
          have f9 := f3.keep br'; have u9 := u3.keep br'; have v9 := v3.keep br'
          have b9 := b3.trans (br.mono (by rw [← HM.out]; exact z3))
          have z9 : B ≤ wr.heap.size := by have := br.size; have := HM.out; omega
          have hfin : ∀ p ∈ (r.s x.sub.toNat).got, p.2 ≤ 2000000000 := fun p hp => by
            rw [HL.out] at hp
            obtain ⟨j, hj, rfl⟩ := List.mem_iff_getElem.1 hp
            have := hall j (by have := g3.rd.len; omega)
            rwa [sp_eq hj] at this
          have HF := Lib.hid hfin
          clear hfin hall br br'
          go_wp2_with fail
          go_meet
          case rel => exact Lib.hid ⟨e9, y9, f9, u9, v9, b9, z9, HF.out⟩
    · clear HS
      have g3 := f3.g1
      have hlen : (r.s x.sub.toNat).got = r.s1.got := by rw [hs0]; rfl
      have HL := Lib.hid hlen; clear hlen
      have HZ := Lib.hid hs0
      obtain ⟨M, hM⟩ : ∃ M, w3.heap.size = M := ⟨_, rfl⟩
      have HM := Lib.hid hM; clear hM
      clear hs0
      go_wp2_with fail
      go_loopw [7] (fun i wr => ∃ k : Nat, k ≤ s.n1 ∧ i = .int .i64 (k : Int) ∧ (∀ j, j < k → (sp r.s1.got j).2 ≤ 2000000000) ∧ Below M w3 wr) (fun i _ => s.n1 - (intOf i).toNat)
      case atStart => exact ⟨0, Nat.zero_le _, rfl, fun j hj => absurd hj (Nat.not_lt_zero _), Below.refl _ _⟩
      case round =>
        obtain ⟨k, hkn, rfl, hall, br⟩ := hrel
        have br' : Below w3.heap.size w3 wr := by rw [HM.out]; exact br
        have e9 := e3.kept br'; have y9 := y3.kept br'
        have g9 := g3.keep br'
        have x1 : wr.cell? ⟨B + 1, 1, none⟩ = some (.int .i64 1) := (y9.cell 1 rfl).trans (by show some (Value.int .i64 x.sub) = _; rw [HZ.out])
        have xg := e9.cell 11 rfl
        by_cases hlt : k < s.n1
        · have dlt : decide (k < s.n1) = true := decide_eq_true hlt
          have dlt' : decide ((k : Int) < (s.n1 : Int)) = true := decide_eq_true (by omega)
          have m3 : s.n1 ≤ 9223372036854775807 := by have := g9.le; have := g9.max; unfold maxLen at this; omega
          obtain ⟨bb, o, hA, hbl, hc0⟩ := g9.rd.at_ (by omega)
          have hcc := (hc0 k hlt).2
          rw [hA] at xg
          have HALL := Lib.hid hall
          clear hc0 hbl hA e9 y9 g9 hall br'
          by_cases hov : 2000000000 < (sp r.s1.got k).2
          · have d0 : decide (2000000000 < (sp r.s1.got k).2) = true := decide_eq_true hov
            have b9 := b3.trans (br.mono (by rw [← HM.out]; exact z3))
            clear hov
            go_wp2_with fail
            go_ret
            exact ⟨rfl, b9⟩
          · have d0 : decide (2000000000 < (sp r.s1.got k).2) = false := decide_eq_false hov
            have hst : ∀ j, j < k + 1 → (sp r.s1.got j).2 ≤ 2000000000 := fun j hj => by
              by_cases hjk : j = k
              · rw [hjk]; omega
              · exact HALL.out j (by omega)
            have HST := Lib.hid hst
            clear hst hov HALL
            go_wp2_with fail
            go_roundw
            case rel => exact ⟨k + 1, by omega, by go_num, HST.out, br⟩
            case measure => simp [intOf]; omega
        · obtain rfl : k = s.n1 := by omega
          have dlt : decide (s.n1 < s.n1) = false := decide_eq_false (by omega)
          have dlt' : decide ((s.n1 : Int) < (s.n1 : Int)) = false := decide_eq_false (by omega)
          have f9 := f3.keep br'; have u9 := u3.keep br'; have v9 := v3.keep br'
          have b9 := b3.trans (br.mono (by rw [← HM.out]; exact z3))
          have z9 : B ≤ wr.heap.size := by have := br.size; have := HM.out; omega
          have hfin : ∀ p ∈ (r.s x.sub.toNat).got, p.2 ≤ 2000000000 := fun p hp => by
            rw [HL.out] at hp
            obtain ⟨j, hj, rfl⟩ := List.mem_iff_getElem.1 hp
            have := hall j (by have := g3.rd.len; omega)
            rwa [sp_eq hj] at this
          have HF := Lib.hid hfin
          clear hfin hall br br'
          go_wp2_with fail
          go_meet
          case rel => exact Lib.hid ⟨e9, y9, f9, u9, v9, b9, z9, HF.out⟩
    · clear HS
      have g3 := f3.g2
      have hlen : (r.s x.sub.toNat).got = r.s2.got := by rw [hs0]; rfl
      have HL := Lib.hid hlen; clear hlen
      have HZ := Lib.hid hs0
      obtain ⟨M, hM⟩ : ∃ M, w3.heap.size = M := ⟨_, rfl⟩
      have HM := Lib.hid hM; clear hM
      clear hs0
      go_wp2_with fail
      go_loopw [7] (fun i wr => ∃ k : Nat, k ≤ s.n2 ∧ i = .int .i64 (k : Int) ∧ (∀ j, j < k → (sp r.s2.got j).2 ≤ 2000000000) ∧ Below M w3 wr) (fun i _ => s.n2 - (intOf i).toNat)
      case atStart => exact ⟨0, Nat.zero_le _, rfl, fun j hj => absurd hj (Nat.not_lt_zero _), Below.refl _ _⟩
      case round =>
        obtain ⟨k, hkn, rfl, hall, br⟩ := hrel
        have br' : Below w3.heap.size w3 wr := by rw [HM.out]; exact br
        have e9 := e3.kept br'; have y9 := y3.kept br'
        have g9 := g3.keep br'
        have x1 : wr.cell? ⟨B + 1, 1, none⟩ = some (.int .i64 2) := (y9.cell 1 rfl).trans (by show some (Value.int .i64 x.sub) = _; rw [HZ.out])
        have xg := e9.cell 17 rfl
        by_cases hlt : k < s.n2
        · have dlt : decide (k < s.n2) = true := decide_eq_true hlt
          have dlt' : decide ((k : Int) < (s.n2 : Int)) = true := decide_eq_true (by omega)
          have m3 : s.n2 ≤ 9223372036854775807 := by have := g9.le; have := g9.max; unfold maxLen at this; omega
          obtain ⟨bb, o, hA, hbl, hc0⟩ := g9.rd.at_ (by omega)
          have hcc := (hc0 k hlt).2
          rw [hA] at xg
          have HALL := Lib.hid hall
          clear hc0 hbl hA e9 y9 g9 hall br'
          by_cases hov : 2000000000 < (sp r.s2.got k).2
          · have d0 : decide (2000000000 < (sp r.s2.got k).2) = true := decide_eq_true hov
            have b9 := b3.trans (br.mono (by rw [← HM.out]; exact z3))
            clear hov
            go_wp2_with fail
            go_ret
            exact ⟨rfl, b9⟩
          · have d0 : decide (2000000000 < (sp r.s2.got k).2) = false := decide_eq_false hov
            have hst : ∀ j, j < k + 1 → (sp r.s2.got j).2 ≤ 2000000000 := fun j hj => by
              by_cases hjk : j = k
              · rw [hjk]; omega
              · exact HALL.out j (by omega)
            have HST := Lib.hid hst
            clear hst hov HALL
            go_wp2_with fail
            go_roundw
            case rel => exact ⟨k + 1, by omega, by go_num, HST.out, br⟩
            case measure => simp [intOf]; omega
        · obtain rfl : k = s.n2 := by omega
          have dlt : decide (s.n2 < s.n2) = false := decide_eq_false (by omega)
          have dlt' : decide ((s.n2 : Int) < (s.n2 : Int)) = false := decide_eq_false (by omega)
          have f9 := f3.keep br'; have u9 := u3.keep br'; have v9 := v3.keep br'
          have b9 := b3.trans (br.mono (by rw [← HM.out]; exact z3))
          have z9 : B ≤ wr.heap.size := by have := br.size; have := HM.out; omega
          have hfin : ∀ p ∈ (r.s x.sub.toNat).got, p.2 ≤ 2000000000 := fun p hp => by
            rw [HL.out] at hp
            obtain ⟨j, hj, rfl⟩ := List.mem_iff_getElem.1 hp
            have := hall j (by have := g3.rd.len; omega)
            rwa [sp_eq hj] at this
          have HF := Lib.hid hfin
          clear hfin hall br br'
          go_wp2_with fail
          go_meet
          case rel => exact Lib.hid ⟨e9, y9, f9, u9, v9, b9, z9, HF.out⟩
    · clear HS
      have g3 := f3.g3
      have hlen : (r.s x.sub.toNat).got = r.s3.got := by rw [hs0]; rfl
      have HL := Lib.hid hlen; clear hlen
      have HZ := Lib.hid hs0
      obtain ⟨M, hM⟩ : ∃ M, w3.heap.size = M := ⟨_, rfl⟩
      have HM := Lib.hid hM; clear hM
      clear hs0
      go_wp2_with fail
      go_loopw [7] (fun i wr => ∃ k : Nat, k ≤ s.n3 ∧ i = .int .i64 (k : Int) ∧ (∀ j, j < k → (sp r.s3.got j).2 ≤ 2000000000) ∧ Below M w3 wr) (fun i _ => s.n3 - (intOf i).toNat)
      case atStart => exact ⟨0, Nat.zero_le _, rfl, fun j hj => absurd hj (Nat.not_lt_zero _), Below.refl _ _⟩
      case round =>
        obtain ⟨k, hkn, rfl, hall, br⟩ := hrel
        have br' : Below w3.heap.size w3 wr := by rw [HM.out]; exact br
        have e9 := e3.kept br'; have y9 := y3.kept br'
        have g9 := g3.keep br'
        have x1 : wr.cell? ⟨B + 1, 1, none⟩ = some (.int .i64 3) := (y9.cell 1 rfl).trans (by show some (Value.int .i64 x.sub) = _; rw [HZ.out])
        have xg := e9.cell 23 rfl
        by_cases hlt : k < s.n3
        · have dlt : decide (k < s.n3) = true := decide_eq_true hlt
          have dlt' : decide ((k : Int) < (s.n3 : Int)) = true := decide_eq_true (by omega)
          have m3 : s.n3 ≤ 9223372036854775807 := by have := g9.le; have := g9.max; unfold maxLen at this; omega
          obtain ⟨bb, o, hA, hbl, hc0⟩ := g9.rd.at_ (by omega)
          have hcc := (hc0 k hlt).2
          rw [hA] at xg
          have HALL := Lib.hid hall
          clear hc0 hbl hA e9 y9 g9 hall br'
          by_cases hov : 2000000000 < (sp r.s3.got k).2
          · have d0 : decide (2000000000 < (sp r.s3.got k).2) = true := decide_eq_true hov
            have b9 := b3.trans (br.mono (by rw [← HM.out]; exact z3))
            clear hov
            go_wp2_with fail
            go_ret
            exact ⟨rfl, b9⟩
          · have d0 : decide (2000000000 < (sp r.s3.got k).2) = false := decide_eq_false hov
            have hst : ∀ j, j < k + 1 → (sp r.s3.got j).2 ≤ 2000000000 := fun j hj => by
              by_cases hjk : j = k
              · rw [hjk]; omega
              · exact HALL.out j (by omega)
            have HST := Lib.hid hst
            clear hst hov HALL
            go_wp2_with fail
            go_roundw
            case rel => exact ⟨k + 1, by omega, by go_num, HST.out, br⟩
            case measure => simp [intOf]; omega
        · obtain rfl : k = s.n3 := by omega
          have dlt : decide (s.n3 < s.n3) = false := decide_eq_false (by omega)
          have dlt' : decide ((s.n3 : Int) < (s.n3 : Int)) = false := decide_eq_false (by omega)
          have f9 := f3.keep br'; have u9 := u3.keep br'; have v9 := v3.keep br'
          have b9 := b3.trans (br.mono (by rw [← HM.out]; exact z3))
          have z9 : B ≤ wr.heap.size := by have := br.size; have := HM.out; omega
          have hfin : ∀ p ∈ (r.s x.sub.toNat).got, p.2 ≤ 2000000000 := fun p hp => by
            rw [HL.out] at hp
            obtain ⟨j, hj, rfl⟩ := List.mem_iff_getElem.1 hp
            have := hall j (by have := g3.rd.len; omega)
            rwa [sp_eq hj] at this
          have HF := Lib.hid hfin
          clear hfin hall br br'
          go_wp2_with fail
          go_meet
          case rel => exact Lib.hid ⟨e9, y9, f9, u9, v9, b9, z9, HF.out⟩
  case rest =>
  obtain ⟨e4, y4, f4, u4, v4, b4, z4, ht⟩ := hcut.out
  clear hcut e3 y3 f3 u3 v3 b3 z3
  have HT := Lib.hid ht; clear ht
  obtain ⟨⟨W0, h0⟩, ha⟩ : ∃ q, ackR r x.sub x.sent = q := ⟨_, rfl⟩
  have HA := Lib.hid ha; clear ha
  have x1 := y4.cell 1 rfl
  have x11 := y4.cell 11 rfl
  go_wp2_with (refine rv_load rfl (.tmp 2) rfl rfl e4 rfl ?_)
  refine (rctold_any (fun _ => True) s r x.sub x.sent _ f4 HNB.out HK.out.2.1 HX.out.sent).mono ?_
  clear x1 x11
  rintro e w5 ⟨G5, m5, d5, A5, n5, c5, he, hg5, hb⟩
  rw [HA.out] at he hg5
  dsimp only at he hg5
  subst he
  clear hg5
  have e5 := e4.kept hb
  have y5 := y4.kept hb
  have f5 := f4.keep hb
  have u5 := u4.keep hb
  have v5 := v4.keep hb
  have b5 := b4.trans (hb.mono z4); have z5 := Nat.le_trans z4 hb.size
  clear e4 y4 f4 u4 v4 b4 z4 hb
  have q6 := gw1_box w5 (sgs G5 m5 d5 A5 n5 c5 W0)
  have hb := gw1_below w5 (sgs G5 m5 d5 A5 n5 c5 W0)
  go_upto_region 13 with (refine sg_store rfl (.tmp 8) (.tmp 84) rfl rfl (sgs G5 m5 d5 A5 n5 c5 W0) rfl (gz1 w5) rfl rfl rfl ?_)
  change Code.wp _ _ _ _ (gw1 w5 (sgs G5 m5 d5 A5 n5 c5 W0))
  generalize gw1 w5 (sgs G5 m5 d5 A5 n5 c5 W0) = w6 at q6 hb ⊢
  obtain ⟨P, hP⟩ : ∃ P, w5.heap.size = P := ⟨_, rfl⟩
  rw [hP] at q6 ⊢
  have e6 := e5.kept hb
  have y6 := y5.kept hb
  have f6 := f5.keep hb
  have u6 := u5.keep hb
  have v6 := v5.keep hb
  have b6 := b5.trans (hb.mono z5); have z6 := Nat.le_trans z5 hb.size
  clear e5 y5 f5 u5 v5 b5 z5 hb
  clear hP
  go_wp2_with (first | (refine rv_load rfl (.tmp 2) rfl rfl e6 rfl ?_) | (refine sg_load rfl (.tmp 3) rfl rfl y6 rfl ?_))
  refine (rctake_any (fun _ => True) s r G m d A n c x false _ (fun _ _ => trivial) f6 HNB.out HX.out u6 v6).mono ?_
  rintro e w7 ⟨s7, G7, m7, d7, A7, n7, c7, he, f7', g7, hb⟩
  obtain ⟨⟨ra, ya, ea⟩, hr⟩ : ∃ q, takeR r x false = q := ⟨_, rfl⟩
  rw [hr] at he f7' g7
  dsimp only at he f7' g7
  subst he
  have HR := Lib.hid hr; clear hr
  have e7 := e6.kept hb
  have y7 := y6.kept hb
  have q7 := q6.kept hb
  have f7 := f6.keep hb
  have u7 := u6.keep hb
  have v7 := v6.keep hb
  have b7 := b6.trans (hb.mono z6); have z7 := Nat.le_trans z6 hb.size
  clear e6 y6 q6 f6 u6 v6 b6 z6 hb
  have p8 := rg2_rv w7 (rcs s7 ra) (sgs G7 m7 d7 A7 n7 c7 ya)
  have o8 := rg2_sg w7 (rcs s7 ra) (sgs G7 m7 d7 A7 n7 c7 ya)
  have hb := rg2_below w7 (rcs s7 ra) (sgs G7 m7 d7 A7 n7 c7 ya)
  have j8 := f7'.keep hb
  have i8 := g7.sr.keep hb
  have k8 := g7.sl.keep hb
  clear f7' g7
  go_upto_region 14 with (first | (refine rv_store rfl (.tmp 10) (.tmp 90) rfl rfl (rcs s7 ra) rfl (rz2 w7) rfl rfl rfl ?_) | (refine sg_store rfl (.tmp 11) (.tmp 91) rfl rfl (sgs G7 m7 d7 A7 n7 c7 ya) rfl (gz2 w7 (rcs s7 ra)) rfl rfl rfl ?_))
  change Code.wp _ _ _ _ (rg2 w7 (rcs s7 ra) (sgs G7 m7 d7 A7 n7 c7 ya))
  generalize rg2 w7 (rcs s7 ra) (sgs G7 m7 d7 A7 n7 c7 ya) = w8 at p8 o8 j8 i8 k8 hb ⊢
  obtain ⟨V, hV⟩ : ∃ V, w7.heap.size = V := ⟨_, rfl⟩
  rw [hV] at p8 o8 ⊢
  have e8 := e7.kept hb
  have y8 := y7.kept hb
  have q8 := q7.kept hb
  have f8 := f7.keep hb
  have u8 := u7.keep hb
  have v8 := v7.keep hb
  have b8 := b7.trans (hb.mono z7); have z8 := Nat.le_trans z7 hb.size
  clear e7 y7 q7 f7 u7 v7 b7 z7 hb
  clear hV
  by_cases hE : takeE r x false = 0
  case neg =>
    have h3 : ra = zrc ∧ ya = zs ∧ ea ≠ 0 := by
      have := HR.out
      rw [take_err hE] at this
      have h1 := (Prod.mk.inj this).1; have h2 := Prod.mk.inj (Prod.mk.inj this).2
      exact ⟨h1.symm, h2.1.symm, fun hh => hE (h2.2.trans hh)⟩
    have d0 : (ea == 0) = false := by simpa using h3.2.2
    have d0' : (ea != 0) = true := by simpa using h3.2.2
    have c0 : w8.cell? ⟨V + 1, 0, none⟩ = some (.int .i64 0) := (o8.cell 0 rfl).trans (by show some (Value.int .i64 ya.kind) = _; rw [h3.2.1]; rfl)
    have hl := j8.b.rd.len
    rw [h3.1] at hl
    have hl0 : s7.wn = 0 := hl.symm
    have c1 : w8.cell? ⟨V, 1, none⟩ = some (.slice s7.wa 0 s7.wc) := (p8.cell 1 rfl).trans (by rw [hl0])
    clear h3 hl hl0 hE
    go_wp2_with fail
    go_ret
    exact ⟨rfl, b8⟩
  case pos =>
  have hT := (take_iff _ _ _).1 hE
  have h3 : ra = takenR r x false ∧ ya = ackS (takenR r x false) x.sub.toNat x.sent ∧ ea = 0 := by
    have := HR.out
    rw [take_zero hE] at this
    have h1 := (Prod.mk.inj this).1; have h2 := Prod.mk.inj (Prod.mk.inj this).2
    exact ⟨h1.symm, h2.1.symm, h2.2.symm⟩
  obtain ⟨h3a, h3b, rfl⟩ := h3
  have h2 : takeR ra x false = (ra, ya, 0) := by rw [h3a, h3b]; exact twice_take HX.out hT HB.out.2.2 HT.out
  have hA0 : W0 = ackS r x.sub.toNat x.sent ∧ h0 = 0 := by
    have h5 : ackR r x.sub x.sent = (ackS r x.sub.toNat x.sent, 0) := if_pos ⟨(rcmay_iff r).2 hT.rok, HB.out.1, HB.out.2.1⟩
    rw [HA.out] at h5
    exact ⟨(Prod.mk.inj h5).1, (Prod.mk.inj h5).2⟩
  obtain ⟨hA0a, rfl⟩ := hA0
  have hsm := told_same hT
  have hws := wv_step hT
  have hYY : smay ya = true ∧ ya.kind = 3 ∧ ya.echo = x.sent ∧ ya.ecn = true ∧ ya.ace = W0.ace ∧ ya.ce = W0.ce ∧ ra.w.base = r.w.base ∧ ra.w.cap = r.w.cap ∧ (r.w.base + r.w.cap ≤ 4000000000 → W0.dgot ≤ ya.dgot) ∧ 0 ≤ r.w.base ∧ 0 ≤ r.w.cap ∧ r.w.cap ≤ 65536 := by
    rw [hA0a, h3b, h3a]
    refine ⟨ack_may _ (by have := HB.out; omega) _, rfl, rfl, rfl, ?_, ?_, hws.base, hws.cap, fun hlow => ?_, hT.rok.w.base0, hT.rok.w.cap0, hT.rok.w.cap1⟩
    · show ((takenR r x false).s x.sub.toNat).m.pk % 8 = (r.s x.sub.toNat).m.pk % 8; rw [hsm]
    · show ((takenR r x false).s x.sub.toNat).m.bt % 16777216 = (r.s x.sub.toNat).m.bt % 16777216; rw [hsm]
    · show l32 (farR r.w) ≤ l32 (farR (takenR r x false).w)
      rw [far_low hT.rok.w hlow, far_low (taken_ok hT).w (by rw [taken_w, hws.base, hws.cap]; exact hlow)]
      exact told_far hT
  have hYL : ya.sacks.length ≤ 1000000 ∧ ya.b.length ≤ 1000000 := by rw [h3b]; exact ⟨Nat.le_trans (sack_len _ _) (by omega), Nat.zero_le _⟩
  have HNB7 := Lib.hid (j8.bnd (show RcOk ra by rw [h3a]; exact taken_ok hT))
  have HYL := Lib.hid hYL; clear hYL
  have HY := Lib.hid hYY; have H2 := Lib.hid h2
  clear hYY h2 h3a h3b hA0a hsm hws hT hE HR HA
  go_upto_region 16 with fail
  go_wp2_with (first | (refine rv_load rfl (.tmp 10) rfl rfl p8 rfl ?_) | (refine sg_load rfl (.tmp 3) rfl rfl y8 rfl ?_))
  refine (rctake_any (fun _ => True) s7 ra G m d A n c x false _ (fun _ _ => trivial) j8 HNB7.out HX.out u8 v8).mono ?_
  rintro e w9 ⟨s9, G9, m9, d9, A9, n9, c9, he, f9', g9, hb⟩
  rw [H2.out] at he f9' g9
  dsimp only at he f9' g9
  subst he
  have e9 := e8.kept hb
  have y9 := y8.kept hb
  have q9 := q8.kept hb
  have p9 := p8.kept hb
  have o9 := o8.kept hb
  have f9 := f8.keep hb
  have u9 := u8.keep hb
  have v9 := v8.keep hb
  have j9 := j8.keep hb
  have i9 := i8.keep hb
  have k9 := k8.keep hb
  have b9 := b8.trans (hb.mono z8); have z9 := Nat.le_trans z8 hb.size
  clear e8 y8 q8 p8 o8 f8 u8 v8 j8 i8 k8 b8 z8 hb
  have pp := rg2_rv w9 (rcs s9 ra) (sgs G9 m9 d9 A9 n9 c9 ya)
  have oo := rg2_sg w9 (rcs s9 ra) (sgs G9 m9 d9 A9 n9 c9 ya)
  have hb := rg2_below w9 (rcs s9 ra) (sgs G9 m9 d9 A9 n9 c9 ya)
  have jj := f9'.keep hb
  have ii := g9.sr.keep hb
  have kk := g9.sl.keep hb
  clear f9' g9
  go_upto_region 17 with (first | (refine rv_store rfl (.tmp 13) (.tmp 109) rfl rfl (rcs s9 ra) rfl (rz2 w9) rfl rfl rfl ?_) | (refine sg_store rfl (.tmp 14) (.tmp 110) rfl rfl (sgs G9 m9 d9 A9 n9 c9 ya) rfl (gz2 w9 (rcs s9 ra)) rfl rfl rfl ?_))
  change Code.wp _ _ _ _ (rg2 w9 (rcs s9 ra) (sgs G9 m9 d9 A9 n9 c9 ya))
  generalize rg2 w9 (rcs s9 ra) (sgs G9 m9 d9 A9 n9 c9 ya) = w10 at pp oo jj ii kk hb ⊢
  obtain ⟨V2, hV⟩ : ∃ V, w9.heap.size = V := ⟨_, rfl⟩
  rw [hV] at pp oo ⊢
  have e10 := e9.kept hb
  have y10 := y9.kept hb
  have q10 := q9.kept hb
  have p10 := p9.kept hb
  have o10 := o9.kept hb
  have f10 := f9.keep hb
  have u10 := u9.keep hb
  have v10 := v9.keep hb
  have j10 := j9.keep hb
  have i10 := i9.keep hb
  have k10 := k9.keep hb
  have b10 := b9.trans (hb.mono z9); have z10 := Nat.le_trans z9 hb.size
  clear e9 y9 q9 p9 o9 f9 u9 v9 j9 i9 k9 b9 z9 hb
  clear hV
  have a10 := pp; have c10 := oo; have t10 := jj; have r10 := ii; have l10 := kk
  clear pp oo jj ii kk
  go_wp2_with (first | (refine rv_load rfl (.tmp 10) rfl rfl p10 rfl ?_) | (refine rv_load rfl (.tmp 13) rfl rfl a10 rfl ?_))
  refine (rrsame_yes (fun _ => True) (fun _ => True) s7 s9 ra _ j10 t10).mono ?_
  rintro e w11 ⟨rfl, hb⟩
  have e11 := e10.kept hb
  have y11 := y10.kept hb
  have q11 := q10.kept hb
  have p11 := p10.kept hb
  have o11 := o10.kept hb
  have a11 := a10.kept hb
  have c11 := c10.kept hb
  have f11 := f10.keep hb
  have u11 := u10.keep hb
  have v11 := v10.keep hb
  have j11 := j10.keep hb
  have i11 := i10.keep hb
  have k11 := k10.keep hb
  have t11 := t10.keep hb
  have r11 := r10.keep hb
  have l11 := l10.keep hb
  have b11 := b10.trans (hb.mono z10); have z11 := Nat.le_trans z10 hb.size
  clear e10 y10 q10 p10 o10 a10 c10 f10 u10 v10 j10 i10 k10 t10 r10 l10 b10 z10 hb
  go_wp2_with (first | (refine sg_loadg (by kernel_rfl) (.tmp 11) rfl rfl o11 rfl ?_) | (refine sg_loadg (by kernel_rfl) (.tmp 14) rfl rfl c11 rfl ?_))
  refine (sgsame7_yes G7 G9 m7 d7 m9 d9 A7 A9 n7 c7 n9 c9 ya _ i11 k11 r11 l11 HYL.out.1 HYL.out.2).mono ?_
  rintro e w12 ⟨rfl, hb⟩
  have e12 := e11.kept hb
  have y12 := y11.kept hb
  have q12 := q11.kept hb
  have p12 := p11.kept hb
  have o12 := o11.kept hb
  have f12 := f11.keep hb
  have u12 := u11.keep hb
  have v12 := v11.keep hb
  have j12 := j11.keep hb
  have i12 := i11.keep hb
  have k12 := k11.keep hb
  have b12 := b11.trans (hb.mono z11); have z12 := Nat.le_trans z11 hb.size
  clear e11 y11 q11 p11 o11 f11 u11 v11 j11 i11 k11 b11 z11 hb
  clear a11 c11 t11 r11 l11
  go_wp2_with (refine sg_load rfl (.tmp 11) rfl rfl o12 rfl ?_)
  refine (wrmay_any G7 m7 d7 A7 n7 c7 ya _ i12 k12).mono ?_
  rw [HY.out.1]
  rintro e w13 ⟨rfl, hb⟩
  have e13 := e12.kept hb
  have y13 := y12.kept hb
  have q13 := q12.kept hb
  have p13 := p12.kept hb
  have o13 := o12.kept hb
  have f13 := f12.keep hb
  have u13 := u12.keep hb
  have v13 := v12.keep hb
  have j13 := j12.keep hb
  have i13 := i12.keep hb
  have k13 := k12.keep hb
  have b13 := b12.trans (hb.mono z12); have z13 := Nat.le_trans z12 hb.size
  clear e12 y12 q12 p12 o12 f12 u12 v12 j12 i12 k12 b12 z12 hb
  have l0 : w13.cell? ⟨V + 1, 0, none⟩ = some (.int .i64 3) := (o13.cell 0 rfl).trans (by show some (Value.int .i64 ya.kind) = _; rw [HY.out.2.1])
  have l12 : w13.cell? ⟨V + 1, 12, none⟩ = some (.int .u32 x.sent) := (o13.cell 12 rfl).trans (by show some (Value.int .u32 ya.echo) = _; rw [HY.out.2.2.1])
  have l3 : w13.cell? ⟨V + 1, 3, none⟩ = some (.bool true) := (o13.cell 3 rfl).trans (by show some (Value.bool ya.ecn) = _; rw [HY.out.2.2.2.1])
  have l9 : w13.cell? ⟨V + 1, 9, none⟩ = some (.int .i64 W0.ace) := (o13.cell 9 rfl).trans (by show some (Value.int .i64 ya.ace) = _; rw [HY.out.2.2.2.2.1])
  have l10' : w13.cell? ⟨V + 1, 10, none⟩ = some (.int .u32 W0.ce) := (o13.cell 10 rfl).trans (by show some (Value.int .u32 ya.ce) = _; rw [HY.out.2.2.2.2.2.1])
  have l7 : w13.cell? ⟨V + 1, 7, none⟩ = some (.int .u32 ya.dgot) := o13.cell 7 rfl
  have x11 : w13.cell? ⟨B + 1, 11, none⟩ = some (.int .u32 x.sent) := y13.cell 11 rfl
  have p9' : w13.cell? ⟨P, 9, none⟩ = some (.int .i64 W0.ace) := q13.cell 9 rfl
  have p10' : w13.cell? ⟨P, 10, none⟩ = some (.int .u32 W0.ce) := q13.cell 10 rfl
  have p7' : w13.cell? ⟨P, 7, none⟩ = some (.int .u32 W0.dgot) := q13.cell 7 rfl
  have n0 : w13.cell? ⟨V, 0, none⟩ = some (.int .i64 r.w.base) := (p13.cell 0 rfl).trans (by show some (Value.int .i64 ra.w.base) = _; rw [HY.out.2.2.2.2.2.2.1])
  have n3 : w13.cell? ⟨V, 3, none⟩ = some (.int .i64 r.w.cap) := (p13.cell 3 rfl).trans (by show some (Value.int .i64 ra.w.cap) = _; rw [HY.out.2.2.2.2.2.2.2.1])
  have k0 : w13.cell? ⟨B, 0, none⟩ = some (.int .i64 r.w.base) := e13.cell 0 rfl
  have k3 : w13.cell? ⟨B, 3, none⟩ = some (.int .i64 r.w.cap) := e13.cell 3 rfl
  have i1 : IntKind.i64.wrap (r.w.base + r.w.cap) = r.w.base + r.w.cap := by have := HY.out; have := HB.out; exact IntWalk.i64_in _ (by omega)
  have d1 : (x.sent == x.sent) = true := by simp
  have d2 : (W0.ace == W0.ace) = true := by simp
  have d3 : (W0.ce == W0.ce) = true := by simp
  have d4 : (r.w.base + r.w.cap == r.w.base + r.w.cap) = true := by simp
  clear e13 y13 q13 p13 o13 f13 u13 v13 j13 i13 k13
  by_cases hlow : 4000000000 < r.w.base + r.w.cap
  · have d5 : decide (4000000000 < r.w.base + r.w.cap) = true := decide_eq_true hlow
    clear hlow
    go_wp2_with fail
    go_ret
    exact ⟨rfl, b13⟩
  · have d5 : decide (4000000000 < r.w.base + r.w.cap) = false := decide_eq_false hlow
    have d6 : decide (W0.dgot ≤ ya.dgot) = true := decide_eq_true (HY.out.2.2.2.2.2.2.2.2.1 (by omega))
    clear hlow
    go_wp2_with fail
    go_ret
    exact ⟨rfl, b13⟩
end Go.Proofs.Ytggnhccpncgfiaa.receiverTold
