/- SentAll: the walk. -/
import Derived.Test.YtnbamacdcggaeaaStAwake
import Derived.Test.YtnbamacdcggaeaaStMath
import Derived.Test.YtnbamacdcggaeaaStRef4
import Derived.Test.YtnbamacdcggaeaaSn
import Derived.WalkKit
import Derived.WalkSpells
import Derived.WalkSmall
import Derived.Lib.Hide
import Derived.Below
import Derived.Outline
import Derived.Deep.QuietTactic
import Derived.BigQuiet
import Derived.IntWalk
import Derived.Deep.DeepCutAuto
import Derived.OwnWalk
namespace Go.Proofs.Ytnbamacdcggaeaa.sentAll
open Go.RowKit
set_option linter.unusedVariables false
set_option linter.unusedSimpArgs false

def notCame (x : Prt) : Bool := !x.came

set_option maxRecDepth 100000 in
set_option maxHeartbeats 16000000 in
theorem walk (A : Option Addr) (n c : Nat) (l : List Prt) (w : World) (hs : Se w A n c l) :
    Calls Try.prog 8 #[.slice A n c] w fun e w' => e = .returned (.bool true) ∧ Below w.heap.size w w' := by
  obtain ⟨B, hB⟩ : ∃ B, w.heap.size = B := ⟨_, rfl⟩
  rw [hB]
  have hl := hs.rd.len
  have m1 := hs.le; have m2 := hs.max
  unfold maxLen at m2
  have HL := Lib.hid hl; have HA := Lib.hid hs; have HB := Lib.hid hB
  clear hl hs
  go_enter Try.func8, Try.ntmps8
  go_upto_region 2 with (go_at_call 9; refine (staw_any _).mono ?_; rintro e w1 ⟨rfl, hb1⟩)
  have b1 : Below B w w1 := hB ▸ hb1
  have hB1 : B ≤ w1.heap.size := by have := hb1.size; omega
  have hs1 : Se w1 A n c l := HA.out.keep hb1
  by_cases hn : 520 < n
  · have d1 : decide ((520 : Int) < (n : Int)) = true := decide_eq_true (by omega)
    have d2 : decide (520 < n) = true := decide_eq_true hn
    go_wp2_with fail
    go_ret
    exact ⟨rfl, b1⟩
  have d1 : decide ((520 : Int) < (n : Int)) = false := decide_eq_false (by omega)
  have d2 : decide (520 < n) = false := decide_eq_false hn
  have hn520 : n ≤ 1000 := by omega
  clear hn m1 m2 hb1
  by_cases h0 : n = 0
  · subst h0
    go_wp2_with fail
    go_ret
    exact ⟨rfl, b1⟩
  have f0 : ((n : Int) == 0) = false := by simp; omega
  have f1 : (n == 0) = false := by simpa using h0
  have hm := stmay_any A n c l w1 hs1
  cases hk : smayB l with
  | false =>
    rw [hk] at hm
    clear h0 hk
    go_wp2_with (go_at_call 17; refine hm.mono ?_; rintro e w2 ⟨rfl, hb2⟩)
    go_ret
    exact ⟨rfl, b1.trans (hb2.mono hB1)⟩
  | true =>
  rw [hk] at hm
  have h0l : 0 < l.length := by have := HL.out; omega
  have hbd := span_bd hk h0l
  have hh1 := heard_all hk h0l
  have hh2 := heard_stay hk h0l
  obtain ⟨lo, lt, hh3, hlo, hfo⟩ := heard_whole hk h0l
  obtain ⟨sx, hsx⟩ : ∃ s, spanR l = s := ⟨_, rfl⟩
  rw [hsx] at hbd hh1 hh2 hh3
  obtain ⟨sf, su⟩ := sx
  obtain ⟨q0, q1, q2⟩ := hbd
  dsimp only at q0 q1 q2 hh1 hh2 hh3
  have HSX := Lib.hid hsx; have H1 := Lib.hid hh1; have H2 := Lib.hid hh2; have H3 := Lib.hid hh3; have HLO := Lib.hid hlo; have HFO := Lib.hid hfo
  have wf : W64 sf := by unfold W64; omega
  have wu : W64 su := by unfold W64; omega
  have HWF := Lib.hid wf; have HWU := Lib.hid wu
  clear hk h0 h0l hsx hh1 hh2 hh3 hlo hfo wf wu q0 q1 q2
  go_upto_region 5 with (first
    | (go_at_call 17; refine hm.mono ?_; rintro e w2 ⟨rfl, hb2⟩; have hs2 := hs1.keep hb2; have b2 : Below B w w2 := b1.trans (hb2.mono hB1))
    | (go_at_call 21; refine (stspan_any A n c l w2 hs2).mono ?_; rintro e w3 ⟨he, hb3⟩; rw [HSX.out] at he; subst he; have hs3 := hs2.keep hb3; have b3 : Below B w w3 := b2.trans (hb3.mono (by have := b2.size; omega))))
  have hB3 : B ≤ w3.heap.size := by have := b3.size; omega
  have e4 := Bx.new w3 37 [.int .i64 sf, .int .i64 su]
  have b4 : Below B w (w3.alloc (.cells #[.int .i64 sf, .int .i64 su] 37)) := b3.alloc hB3 _
  have s4 := hs3.alloc (.cells #[.int .i64 sf, .int .i64 su] 37)
  obtain ⟨P, hP⟩ : ∃ P, w3.heap.size = P := ⟨_, rfl⟩
  rw [hP] at e4 hB3 ⊢
  generalize w3.alloc (.cells #[.int .i64 sf, .int .i64 su] 37) = w4 at e4 b4 s4 ⊢
  clear hs1 hs2 hs3 b1 b2 b3 hb2 hb3 hB1 hm hP
  have hB4 : B ≤ w4.heap.size := by have := e4.lt; omega
  have c0 := e4.cell 0 rfl; have c1 := e4.cell 1 rfl
  go_upto_region 6 with (go_at_call 15; refine (stheard_any A n c l su none 0 0 [] w4 s4 (Ss.none _) hn520 (by omega)).mono ?_; rintro e w5 ⟨G1, m1, d3, G2, m2, d4, he, ht1, ht2, hb5⟩; rw [H1.out] at he ht1 ht2; subst he)
  (try dsimp only at ht1 ht2 ⊢)
  obtain rfl : m1 = 0 := by rw [← ht1.se.rd.len]; rfl
  have hm2 : (l.filter (fun x => !x.came)).length = m2 := ht2.se.rd.len
  have HM2 := Lib.hid hm2
  have e5 := e4.kept hb5; have b5 : Below B w w5 := b4.trans (hb5.mono hB4); have s5 := s4.keep hb5
  have hB5 : B ≤ w5.heap.size := by have := e5.lt; omega
  clear c0 c1 e4 b4 s4 hb5 ht1 ht2 hm2 hB4
  have c0 := e5.cell 0 rfl; have c1 := e5.cell 1 rfl
  go_upto_region 7 with (go_at_call 15; refine (stheard_any A n c l sf none 0 0 [] w5 s5 (Ss.none _) hn520 (by omega)).mono ?_; rintro e w6 ⟨G3, m3, d5, G4, m4, d6, he, ht3, ht4, hb6⟩; rw [H2.out] at he ht3 ht4; subst he)
  (try dsimp only at ht3 ht4 ⊢)
  obtain rfl : m4 = 0 := by rw [← ht4.se.rd.len]; rfl
  have g3 := ht3.se
  have e6 := e5.kept hb6; have b6 : Below B w w6 := b5.trans (hb6.mono hB5); have s6 := s5.keep hb6
  have hB6 : B ≤ w6.heap.size := by have := e6.lt; omega
  clear c0 c1 e5 b5 s5 hb6 ht3 ht4 hB5
  have c0 := e6.cell 0 rfl; have c1 := e6.cell 1 rfl
  have sl : Ss (w6.alloc (.cells #[.int .i64 sf, .int .i64 su] 37)) (some ⟨w6.heap.size, 0, none⟩) 1 1 [(sf, su)] := sn_one w6 HWF.out HWU.out 37
  have s6a := s6.alloc (.cells #[.int .i64 sf, .int .i64 su] 37)
  have g3a := g3.alloc (.cells #[.int .i64 sf, .int .i64 su] 37)
  have b6a : Below B w (w6.alloc (.cells #[.int .i64 sf, .int .i64 su] 37)) := b6.alloc hB6 _
  have hB6a : B ≤ (w6.alloc (.cells #[.int .i64 sf, .int .i64 su] 37)).heap.size := by simp; omega
  go_upto_region 8 with (go_at_call 15; refine (stheard_any A n c l sf (some ⟨w6.heap.size, 0, none⟩) 1 1 [(sf, su)] _ s6a sl hn520 (by omega)).mono ?_; rintro e w7 ⟨G5, m5, d7, G6, m6, d8, he, ht5, ht6, hb7⟩; rw [H3.out] at he ht5 ht6; subst he)
  (try dsimp only at ht5 ht6 ⊢)
  obtain rfl : m5 = n := by rw [← ht5.se.rd.len, HLO.out, HL.out]
  have g5 := ht5.se
  have s7 := s6a.keep hb7; have g7 := g3a.keep hb7
  have b7 : Below B w w7 := b6a.trans (hb7.mono hB6a)
  have hB7 : B ≤ w7.heap.size := Nat.le_trans hB6a hb7.size
  clear c0 c1 e6 b6 s6 g3 sl s6a g3a b6a hB6a hb7 ht5 ht6 hB6
  go_wp2_with fail
  go_loopw [14, 15] (fun s i wr => ∃ k : Nat, k ≤ m5 ∧ i = .int .i64 (k : Int) ∧ s = .int .i64 (((l.take k).filter notCame).length : Int) ∧ w7 = wr) (fun _ i _ => m5 - (intOf i).toNat)
  case atStart => exact ⟨0, Nat.zero_le _, rfl, rfl, rfl⟩
  case round =>
    obtain ⟨k, hkn, rfl, rfl, rfl⟩ := hrel
    by_cases hlt : k < m5
    · obtain ⟨b, o, rfl, hbl, hc⟩ := s7.rd.at_ (by omega)
      have X := prt_at hc hlt
      have hsn : (l.take (k + 1)).filter notCame = (l.take k).filter notCame ++ (if notCame (ge l k) = true then [ge l k] else []) := by
        rw [take_ge (by rw [HL.out]; exact hlt), List.filter_append]
        cases h : notCame (ge l k) <;> simp [List.filter_cons, h]
      have hle : ((l.take k).filter notCame).length ≤ k := Nat.le_trans (List.length_filter_le _ _) (by rw [List.length_take]; omega)
      obtain ⟨p, hp⟩ : ∃ p, ge l k = p := ⟨_, rfl⟩
      rw [hp] at X hsn
      have c5 := X.c5
      have HSN := Lib.hid hsn
      obtain ⟨N, hN⟩ : ∃ N, ((l.take k).filter notCame).length = N := ⟨_, rfl⟩
      rw [hN] at hle ⊢
      have HN := Lib.hid hN
      have hj0 : (k : Int) < (m5 : Int) := by omega
      clear hc hp X hsn hN
      cases hcm : p.came with
      | true =>
        rw [hcm] at c5
        have hz : notCame p = false := by unfold notCame; rw [hcm]; rfl
        have HZ := Lib.hid hz
        clear hcm hz
        go_wp2_with fail
        go_roundw
        case rel => exact ⟨k + 1, by omega, by go_num, by rw [HSN.out, HZ.out, List.length_append, HN.out]; rfl, trivial⟩
        case measure => simp [intOf]; omega
      | false =>
        rw [hcm] at c5
        have hz : notCame p = true := by unfold notCame; rw [hcm]; rfl
        have HZ := Lib.hid hz
        clear hcm hz
        go_wp2_with fail
        go_roundw
        case rel => exact ⟨k + 1, by omega, by go_num, by rw [HSN.out, HZ.out, List.length_append, HN.out, if_pos rfl, List.length_singleton]; go_num, trivial⟩
        case measure => simp [intOf]; omega
    · obtain rfl : k = m5 := by omega
      have hd : decide (k < k) = false := decide_eq_false (by omega)
      have hfull : ((l.take k).filter notCame).length = m2 := by rw [show l.take k = l by rw [← HL.out, List.take_length]]; exact HM2.out
      rw [hfull]
      obtain rfl : m3 = k := by rw [← g7.rd.len, HL.out]
      clear hfull
      have hsame := rstsame_any G3 m3 d5 l A m3 c l w7 g7 s7
      rw [decide_eq_true rfl] at hsame
      have hfl := fun W (h : Se W G5 m3 d7 lo) => stflight_any G5 m3 d7 lo W h
      rw [HFO.out] at hfl
      go_wp2_with (first
        | (go_at_call 12; refine hsame.mono ?_; rintro e w8 ⟨rfl, hb8⟩; have g8 := g5.keep hb8)
        | (go_at_call 19; refine (hfl w8 g8).mono ?_; rintro e w9 ⟨rfl, hb9⟩))
      go_ret
      exact ⟨rfl, (b7.trans (hb8.mono hB7)).trans (hb9.mono (Nat.le_trans hB7 hb8.size))⟩
end Go.Proofs.Ytnbamacdcggaeaa.sentAll
