/- SentOnce: the walk. -/
import Derived.Test.YtnbamacdcggaeaaStAwake
import Derived.Test.YtnbamacdcggaeaaStOnce
import Derived.Test.YtnbamacdcggaeaaStRef4
import Derived.WalkKit
import Derived.WalkSpells
import Derived.WalkSmall
import Derived.Lib.Hide
import Derived.Below
import Derived.Outline
import Derived.Deep.QuietTactic
import Derived.BigQuiet
import Derived.IntWalk
import Derived.Deep.DeepCutAuto
import Derived.OwnWalk
namespace Go.Proofs.Ytnbamacdcggaeaa.sentOnce
open Go.RowKit
set_option linter.unusedVariables false
set_option linter.unusedSimpArgs false

set_option maxRecDepth 100000 in
set_option maxHeartbeats 16000000 in
theorem walk (A : Option Addr) (n c : Nat) (l : List Prt) (got : Int) (A' : Option Addr) (n' c' : Nat) (sk : List Sp) (w : World) (hs : Se w A n c l) (hk : Ss w A' n' c' sk) :
    Calls Try.prog 4 #[.slice A n c, .int .i64 got, .slice A' n' c'] w fun e w' => e = .returned (.bool true) ∧ Below w.heap.size w w' := by
  obtain ⟨B, hB⟩ : ∃ B, w.heap.size = B := ⟨_, rfl⟩
  rw [hB]
  have hl := hs.rd.len; have hkl := hk.rd.len
  have m1 := hs.le; have m2 := hs.max; have m4 := hk.le; have m5 := hk.max
  unfold maxLen at m2 m5
  have HL := Lib.hid hl; have HA := Lib.hid hs; have HK := Lib.hid hk; have HB := Lib.hid hB
  clear hl hkl hs hk
  go_enter Try.func4, Try.ntmps4
  by_cases hn : 520 < n
  · have d1 : decide ((520 : Int) < (n : Int)) = true := decide_eq_true (by omega)
    have d2 : decide (520 < n) = true := decide_eq_true hn
    go_wp2_with (go_at_call 9; refine (staw_any _).mono ?_; rintro e w1 ⟨rfl, hb1⟩)
    go_ret
    exact ⟨rfl, hB ▸ hb1⟩
  have d1 : decide ((520 : Int) < (n : Int)) = false := decide_eq_false (by omega)
  have d2 : decide (520 < n) = false := decide_eq_false hn
  by_cases hn' : 50 < n'
  · have d3 : decide ((50 : Int) < (n' : Int)) = true := decide_eq_true (by omega)
    have d4 : decide (50 < n') = true := decide_eq_true hn'
    clear hn
    go_wp2_with (go_at_call 9; refine (staw_any _).mono ?_; rintro e w1 ⟨rfl, hb1⟩)
    go_ret
    exact ⟨rfl, hB ▸ hb1⟩
  have d3 : decide ((50 : Int) < (n' : Int)) = false := decide_eq_false (by omega)
  have d4 : decide (50 < n') = false := decide_eq_false hn'
  have hn520 : n ≤ 520 := by omega
  have hn50 : n' ≤ 1000 := by omega
  have hn1000 : n ≤ 1000 := by omega
  clear hn hn' m1 m2 m4 m5
  obtain ⟨r, hr⟩ : ∃ r, heardR l got sk = r := ⟨_, rfl⟩
  have HR := Lib.hid hr
  clear hr
  go_upto_region 5 with (first
    | (go_at_call 9; refine (staw_any _).mono ?_; rintro e w1 ⟨rfl, hb1⟩)
    | (have hsA := HA.out.keep hb1; have hkA := HK.out.keep hb1; go_at_call 15; refine (stheard_any A n c l got A' n' c' sk _ hsA hkA hn1000 hn50).mono ?_; rintro e w2 ⟨G, m, d, G', m', d', he, ht1, ht2, hb2⟩; rw [HR.out] at he ht1 ht2; subst he))
  (try dsimp only)
  have b1 : Below B w w1 := hB ▸ hb1
  have b2 : Below B w w2 := b1.trans (hb2.mono (by have := hb1.size; omega))
  have hB2 : B ≤ w2.heap.size := by have := b2.size; omega
  have hm := ht1.se.rd.len; have hm' := ht2.se.rd.len
  have HS1 := Lib.hid ht1.se; have HS2 := Lib.hid ht2.se
  clear b1 hb1 hb2 hsA hkA ht1 ht2
  obtain ⟨rm, rt, re⟩ := r
  dsimp only at hm hm' HS1 HS2 ⊢
  by_cases he0 : re = 0
  case neg =>
    obtain ⟨rfl, rfl⟩ := heard_bad HR.out he0
    obtain rfl : m = 0 := by rw [← hm]; rfl
    obtain rfl : m' = 0 := by rw [← hm']; rfl
    have h1 : (re != 0) = true := by simpa using he0
    have h2 : (re == 0) = false := by simpa using he0
    clear he0
    go_wp2_with fail
    go_ret
    exact ⟨rfl, b2⟩
  subst he0
  obtain ⟨hmay, hmk, rfl, rfl⟩ := heard_once HR.out
  have hag := heard_again (got := got) hmay hmk
  have hmm := left_may (got := got) (sk := sk) hmay
  have hfly := left_fly got sk l l.length (Nat.le_refl _)
  rw [List.take_length] at hfly
  have htm := fun (i : Nat) (hi : i < (toldL got sk l).length) => told_mem (got := got) (sk := sk) hmay hi
  have htb := tellSum_bd (fun i hi => (htm i hi).2)
  have hml : m ≤ n := by rw [← hm, ← HL.out]; exact left_lenP got sk l
  have hml' : m' ≤ n := by rw [← hm', ← HL.out]; exact told_len got sk l
  have hfs := fly_span hmay
  have hfl : flightR l = flySum l := by unfold flightR; rw [if_pos hmay]
  have hfm : flightR (leftL got sk l) = flySum l - tellSum (toldL got sk l) := by unfold flightR; rw [if_pos hmm]; exact hfly
  have hsb : (spanR l).2 - (spanR l).1 ≤ 1152921504606848436 := by
    by_cases h : 0 < l.length
    · have := span_bd hmay h; omega
    · rw [span_zero (fun k => h k.1)]; dsimp only; omega
  obtain ⟨fl, hfle⟩ : ∃ f, flySum l = f := ⟨_, rfl⟩
  rw [hfle] at hfl hfm hfs
  obtain ⟨f0, f1⟩ := hfs
  have f2 : fl ≤ 1152921504606848436 := by omega
  have HAG := Lib.hid hag; have HMM := Lib.hid hmm; have HTM := Lib.hid htm; have HTB := Lib.hid htb; have HFL := Lib.hid hfl; have HFM0 := Lib.hid hfm; have HM := Lib.hid hm; have HM' := Lib.hid hm'
  have HF0 := Lib.hid f0; have HF2 := Lib.hid f2
  clear hag hmm hfly htm htb hfl hfm hsb hfle f1 f0 f2 hmay hmk HR hm hm'
  go_wp2_with fail
  go_loopw [11, 12] (fun s i wr => ∃ k : Nat, k ≤ m' ∧ i = .int .i64 (k : Int) ∧ s = .int .i64 (tellSum ((toldL got sk l).take k)) ∧ w2 = wr) (fun _ i _ => m' - (intOf i).toNat)
  case atStart => exact ⟨0, Nat.zero_le _, rfl, rfl, rfl⟩
  case round =>
    obtain ⟨k, hkn, rfl, rfl, rfl⟩ := hrel
    by_cases hlt : k < m'
    · obtain ⟨b, o, rfl, hbl, hc⟩ := HS2.out.rd.at_ (by omega)
      have X := prt_at hc hlt
      have hin : k < (toldL got sk l).length := by rw [HM'.out]; exact hlt
      have hsn : tellSum ((toldL got sk l).take (k + 1)) = (if (!(ge (toldL got sk l) k).lost) = true then tellSum ((toldL got sk l).take k) + (ge (toldL got sk l) k).len else tellSum ((toldL got sk l).take k)) := by rw [take_ge hin, tellSum_snoc]
      have hbd := HTB.out k (by omega)
      have hpk := HTM.out k hin
      obtain ⟨p, hp⟩ : ∃ p, ge (toldL got sk l) k = p := ⟨_, rfl⟩
      rw [hp] at X hsn hpk
      have c1 := X.c1; have c5 := X.c5; have c6 := X.c6
      rw [hpk.1] at c5
      have l1 := hpk.2.l1; have l2 := hpk.2.l2
      have HSN := Lib.hid hsn
      obtain ⟨T, hT⟩ : ∃ T, tellSum ((toldL got sk l).take k) = T := ⟨_, rfl⟩
      rw [hT] at hbd ⊢
      have HT := Lib.hid hT
      have hj0 : (k : Int) < (m' : Int) := by omega
      clear hc hp X hsn hT hpk hin
      cases hls : p.lost with
      | true =>
        rw [hls] at c6
        have hz : (!p.lost) = false := by rw [hls]; rfl
        have HZ := Lib.hid hz
        clear hls hz
        go_wp2_with fail
        go_roundw
        case rel => exact ⟨k + 1, by omega, by go_num, by rw [HSN.out, HZ.out, if_neg (by simp), HT.out], trivial⟩
        case measure => simp [intOf]; omega
      | false =>
        rw [hls] at c6
        have hz : (!p.lost) = true := by rw [hls]; rfl
        have HZ := Lib.hid hz
        have hs1 : IntKind.i64.wrap (T + p.len) = T + p.len := IntWalk.i64_in _ (by omega)
        clear hls hz
        go_wp2_with fail
        go_roundw
        case rel => exact ⟨k + 1, by omega, by go_num, by rw [HSN.out, HZ.out, if_pos rfl, HT.out], trivial⟩
        case measure => simp [intOf]; omega
    · obtain rfl : k = m' := by omega
      have hd : decide (k < k) = false := decide_eq_false (by omega)
      have hfull : (toldL got sk l).take k = toldL got sk l := by rw [← HM'.out, List.take_length]
      rw [hfull]
      have hbd := HTB.out k (by rw [HM'.out]; omega)
      rw [hfull] at hbd
      obtain ⟨T, hT⟩ : ∃ T, tellSum (toldL got sk l) = T := ⟨_, rfl⟩
      rw [hT] at hbd ⊢
      have hfm2 : flightR (leftL got sk l) = fl - T := by rw [HFM0.out, hT]
      have HFM := Lib.hid hfm2
      have hs1 : IntKind.i64.wrap (fl - T) = fl - T := IntWalk.i64_in _ (by have := HF0.out; have := HF2.out; omega)
      have g2 := HS1.out
      have s2 : Se w2 A n c l := HA.out.keep (by rw [HB.out]; exact b2)
      have k2 : Ss w2 A' n' c' sk := HK.out.keep (by rw [HB.out]; exact b2)
      have hm1000 : m ≤ 1000 := by omega
      have dle : decide ((m : Int) ≤ (n : Int)) = true := decide_eq_true (by omega)
      have dle2 : decide (m ≤ n) = true := decide_eq_true hml
      clear hfull hT hfm2 HTB HTM HFM0
      obtain ⟨r2, hr2⟩ : ∃ r, heardR (leftL got sk l) got sk = r := ⟨_, rfl⟩
      have HR2 := Lib.hid hr2
      have hag := HAG.out
      rw [hr2] at hag
      obtain ⟨Lm, hLm⟩ : ∃ L, leftL got sk l = L := ⟨_, rfl⟩
      rw [hLm] at hag g2 HR2 HFM HMM HM
      have HAG2 := Lib.hid hag
      clear hr2 hag hLm HAG HS1
      go_upto_region 16 with (go_at_call 15; refine (stheard_any G m d Lm got A' n' c' sk w2 g2 k2 hm1000 hn50).mono ?_; rintro e w7 ⟨G3, m3, d3', G4, m4, d4', he, ht3, ht4, hb7⟩; rw [HR2.out] at he ht3 ht4; subst he)
      (try dsimp only)
      have b7 : Below B w w7 := b2.trans (hb7.mono hB2); have g7 := g2.keep hb7; have s7 := s2.keep hb7
      have hB7 : B ≤ w7.heap.size := Nat.le_trans hB2 hb7.size
      have HT3 := Lib.hid ht3.se; have HT4 := Lib.hid ht4.se
      clear ht3 ht4 hb7 g2 s2 k2
      rcases HAG2.out with h | h
      · subst h
        (try dsimp only at HT3 HT4 ⊢)
        clear HAG2 HR2
        by_cases hm0 : m = 0
        · have hz1 : ((m : Int) == 0) = true := by simp; omega
          have hz2 : (m == 0) = true := by simpa using hm0
          clear hm0
          go_wp2_with (first
        | (go_at_call 17; refine (stmay_any G m d _ w7 g7).mono ?_; rintro e w9 ⟨he, hb9⟩; rw [HMM.out] at he; subst he; have g9 := g7.keep hb9; have s9 := s7.keep hb9; have b9 : Below B w w9 := b7.trans (hb9.mono hB7))
        | (go_at_call_of 19 A; refine (stflight_any A n c l w10 s10).mono ?_; rintro e w11 ⟨he, hb11⟩; rw [HFL.out] at he; subst he; have b11 : Below B w w11 := b10.trans (hb11.mono hB10))
        | (go_at_call_of 19 G; refine (stflight_any G m d _ w9 g9).mono ?_; rintro e w10 ⟨he, hb10⟩; rw [HFM.out] at he; subst he; have s10 := s9.keep hb10; have hB9 : B ≤ w9.heap.size := Nat.le_trans hB7 hb9.size; have b10 : Below B w w10 := b9.trans (hb10.mono hB9); have hB10 : B ≤ w10.heap.size := Nat.le_trans hB9 hb10.size))
          go_ret
          exact ⟨rfl, b11⟩
        · have hz1 : ((m : Int) == 0) = false := by simp; omega
          have hz2 : (m == 0) = false := by simpa using hm0
          clear hm0
          go_wp2_with (first
        | (go_at_call 17; refine (stmay_any G m d _ w7 g7).mono ?_; rintro e w9 ⟨he, hb9⟩; rw [HMM.out] at he; subst he; have g9 := g7.keep hb9; have s9 := s7.keep hb9; have b9 : Below B w w9 := b7.trans (hb9.mono hB7))
        | (go_at_call_of 19 A; refine (stflight_any A n c l w10 s10).mono ?_; rintro e w11 ⟨he, hb11⟩; rw [HFL.out] at he; subst he; have b11 : Below B w w11 := b10.trans (hb11.mono hB10))
        | (go_at_call_of 19 G; refine (stflight_any G m d _ w9 g9).mono ?_; rintro e w10 ⟨he, hb10⟩; rw [HFM.out] at he; subst he; have s10 := s9.keep hb10; have hB9 : B ≤ w9.heap.size := Nat.le_trans hB7 hb9.size; have b10 : Below B w w10 := b9.trans (hb10.mono hB9); have hB10 : B ≤ w10.heap.size := Nat.le_trans hB9 hb10.size))
          go_ret
          exact ⟨rfl, b11⟩
      · subst h
        (try dsimp only at HT3 HT4 ⊢)
        obtain rfl : m4 = 0 := by rw [← HT4.out.rd.len]; rfl
        obtain rfl : m3 = m := by rw [← HT3.out.rd.len, HM.out]
        clear HAG2 HR2
        by_cases hm0 : m3 = 0
        · have hz1 : ((m3 : Int) == 0) = true := by simp; omega
          have hz2 : (m3 == 0) = true := by simpa using hm0
          clear hm0
          go_wp2_with (first
        | (go_at_call 17; refine (stmay_any G m3 d _ w7 g7).mono ?_; rintro e w9 ⟨he, hb9⟩; rw [HMM.out] at he; subst he; have g9 := g7.keep hb9; have s9 := s7.keep hb9; have b9 : Below B w w9 := b7.trans (hb9.mono hB7))
        | (go_at_call_of 19 A; refine (stflight_any A n c l w10 s10).mono ?_; rintro e w11 ⟨he, hb11⟩; rw [HFL.out] at he; subst he; have b11 : Below B w w11 := b10.trans (hb11.mono hB10))
        | (go_at_call_of 19 G; refine (stflight_any G m3 d _ w9 g9).mono ?_; rintro e w10 ⟨he, hb10⟩; rw [HFM.out] at he; subst he; have s10 := s9.keep hb10; have hB9 : B ≤ w9.heap.size := Nat.le_trans hB7 hb9.size; have b10 : Below B w w10 := b9.trans (hb10.mono hB9); have hB10 : B ≤ w10.heap.size := Nat.le_trans hB9 hb10.size))
          go_ret
          exact ⟨rfl, b11⟩
        · have hz1 : ((m3 : Int) == 0) = false := by simp; omega
          have hz2 : (m3 == 0) = false := by simpa using hm0
          have hsame := rstsame_any G3 m3 d3' Lm G m3 d Lm w7 HT3.out g7
          rw [decide_eq_true rfl] at hsame
          clear hm0
          go_wp2_with (first
        | (go_at_call 12; refine hsame.mono ?_; rintro e w8 ⟨rfl, hb8⟩; have g8 := g7.keep hb8; have s8 := s7.keep hb8; have b8 : Below B w w8 := b7.trans (hb8.mono hB7))
        | (go_at_call 17; refine (stmay_any G m3 d _ w8 g8).mono ?_; rintro e w9 ⟨he, hb9⟩; rw [HMM.out] at he; subst he; have g9 := g8.keep hb9; have s9 := s8.keep hb9; have b9 : Below B w w9 := b8.trans (hb9.mono (Nat.le_trans hB7 hb8.size)))
        | (go_at_call_of 19 A; refine (stflight_any A n c l w10 s10).mono ?_; rintro e w11 ⟨he, hb11⟩; rw [HFL.out] at he; subst he; have b11 : Below B w w11 := b10.trans (hb11.mono hB10))
        | (go_at_call_of 19 G; refine (stflight_any G m3 d _ w9 g9).mono ?_; rintro e w10 ⟨he, hb10⟩; rw [HFM.out] at he; subst he; have s10 := s9.keep hb10; have hB9 : B ≤ w9.heap.size := Nat.le_trans (Nat.le_trans hB7 hb8.size) hb9.size; have b10 : Below B w w10 := b9.trans (hb10.mono hB9); have hB10 : B ≤ w10.heap.size := Nat.le_trans hB9 hb10.size))
          go_ret
          exact ⟨rfl, b11⟩
end Go.Proofs.Ytnbamacdcggaeaa.sentOnce
