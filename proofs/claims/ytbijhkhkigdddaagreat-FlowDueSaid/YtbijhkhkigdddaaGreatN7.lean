/- StRef4. -/
import Derived.Test.YtbijhkhkigdddaaGreatM01
import Derived.BigQuiet
import Derived.Deep.DeepCutAuto
import Derived.Deep.QuietTactic
import Derived.IntWalk
import Derived.StillTail
set_option linter.all false
set_option maxRecDepth 100000
set_option maxHeartbeats 32000000
namespace Go.Proofs.YtbijhkhkigdddaaGreat
open Go.RowKit
theorem rstsame_any (A : Option Addr) (n c : Nat) (l : List Prt) (A' : Option Addr) (n' c' : Nat) (l' : List Prt) (w : World) (hs : Se w A n c l) (hs' : Se w A' n' c' l') :
  Calls Tryz.prog 26 #[.slice A n c, .slice A' n' c'] w fun e w' => e = .returned (.bool (decide (l = l'))) ∧ Below w.heap.size w w' := by
 have hl := hs.rd.len; have hl' := hs'.rd.len
 have m1 := hs.le
 have m2 := hs.max
 have m3 : n ≤ 9223372036854775807 := by unfold maxLen at m2; omega
 clear m1 m2
 obtain ⟨q, hq⟩ : ∃ q, decide (l = l') = q := ⟨_, rfl⟩
 rw [hq]
 have HQ := Zh hq
 have HA := Zh hs; have HL := Zh hl; have HA' := Zh hs'; have HL' := Zh hl'
 clear hs hl hq hs' hl'
 by_cases hnn : n = n'
 case neg =>
  have hF : q = false := by rw [← HQ.out]; exact Zf (fun h => hnn (by rw [← HL.out, ← HL'.out, h]))
  subst hF
  have h1 : ((n : Int) != (n' : Int)) = true := by simp; omega
  have h2 : (n != n') = true := by simpa using hnn
  clear hnn
  go_enter Tryz.func26, Tryz.ntmps26
  go_wp2_with fail
  go_ret
  exact ⟨rfl, Below.refl _ _⟩
 subst hnn
 go_enter Tryz.func26, Tryz.ntmps26
 go_wp2_with fail
 go_loopw [5] (fun i wr => ∃ k q : Nat, k ≤ n ∧ i = .int .i64 (k : Int) ∧ (∀ i, i < k → ge l i = ge l' i) ∧ wr = w.drewN q) (fun i _ => n - (intOf i).toNat)
 case atStart => exact ⟨0, 0, Nat.zero_le _, rfl, fun i hi => absurd hi (by omega), rfl⟩
 case round =>
  obtain ⟨k, dq, hkn, rfl, hok, rfl⟩ := hrel
  have HOK := Zh hok; clear hok
  by_cases hlt : k < n
  ·obtain ⟨b, o, rfl, hbl, hc⟩ := HA.out.rd.at_ (by omega)
   obtain ⟨b', o', rfl, hbl', hc'⟩ := HA'.out.rd.at_ (by omega)
   have X := prt_at hc hlt
   have Y := prt_at hc' hlt
   obtain ⟨p, hp⟩ : ∃ p, ge l k = p := ⟨_, rfl⟩
   obtain ⟨p', hp'⟩ : ∃ p, ge l' k = p := ⟨_, rfl⟩
   rw [hp] at X; rw [hp'] at Y
   have HP := Zh hp; have HP' := Zh hp'
   clear hp hp' hc hc'
   have hk0 : (k : Int) < (n : Int) := by omega
   obtain ⟨a0, a1, a2, a3, a4, a5, a6, a7, a8⟩ := p
   obtain ⟨b0, b1, b2, b3, b4, b5, b6, b7, b8⟩ := p'
   obtain ⟨x0, x1, x2, x3, x4, x5, x6, x7, x8⟩ := X
   obtain ⟨y0, y1, y2, y3, y4, y5, y6, y7, y8⟩ := Y
   dsimp only at x0 x1 x2 x3 x4 x5 x6 x7 x8 y0 y1 y2 y3 y4 y5 y6 y7 y8
   have hbad : ge l k ≠ ge l' k → q = false := fun h => by rw [← HQ.out]; exact Zf (fun h2 => h (by rw [h2]))
   have HBAD := Zh hbad; clear hbad
   go_upto_region 6 with fail
   by_cases c0 : a0 = b0
   case neg =>
    have hF : q = false := HBAD.out (fun h => by rw [HP.out, HP'.out] at h; injection h with h0 h1 h2 h3 h4 h5 h6 h7 h8; exact c0 h0)
    subst hF
    have d0 : (a0 == b0) = false := by simpa using c0
    clear c0
    go_quiet (fail)
    go_wp2_with fail
    go_ret
    exact ⟨rfl, below_drewN (Zb) _⟩
   subst c0
   by_cases c1 : a1 = b1
   case neg =>
    have hF : q = false := HBAD.out (fun h => by rw [HP.out, HP'.out] at h; injection h with h0 h1 h2 h3 h4 h5 h6 h7 h8; exact c1 h1)
    subst hF
    have d1 : (a1 == b1) = false := by simpa using c1
    clear c1
    go_quiet (fail)
    go_wp2_with fail
    go_ret
    exact ⟨rfl, below_drewN (Zb) _⟩
   subst c1
   by_cases c2 : a2 = b2
   case neg =>
    have hF : q = false := HBAD.out (fun h => by rw [HP.out, HP'.out] at h; injection h with h0 h1 h2 h3 h4 h5 h6 h7 h8; exact c2 h2)
    subst hF
    have d2 : (a2 == b2) = false := by simpa using c2
    clear c2
    go_quiet (fail)
    go_wp2_with fail
    go_ret
    exact ⟨rfl, below_drewN (Zb) _⟩
   subst c2
   by_cases c3 : a3 = b3
   case neg =>
    have hF : q = false := HBAD.out (fun h => by rw [HP.out, HP'.out] at h; injection h with h0 h1 h2 h3 h4 h5 h6 h7 h8; exact c3 h3)
    subst hF
    have d3 : (a3 == b3) = false := by simpa using c3
    clear c3
    go_quiet (fail)
    go_wp2_with fail
    go_ret
    exact ⟨rfl, below_drewN (Zb) _⟩
   subst c3
   by_cases c4 : a4 = b4
   case neg =>
    have hF : q = false := HBAD.out (fun h => by rw [HP.out, HP'.out] at h; injection h with h0 h1 h2 h3 h4 h5 h6 h7 h8; exact c4 h4)
    subst hF
    have d4 : (a4 == b4) = false := by simpa using c4
    clear c4
    go_quiet (fail)
    go_wp2_with fail
    go_ret
    exact ⟨rfl, below_drewN (Zb) _⟩
   subst c4
   by_cases c5 : a5 = b5
   case neg =>
    have hF : q = false := HBAD.out (fun h => by rw [HP.out, HP'.out] at h; injection h with h0 h1 h2 h3 h4 h5 h6 h7 h8; exact c5 h5)
    subst hF
    have d5 : (a5 == b5) = false := by simpa using c5
    clear c5
    go_quiet (fail)
    go_wp2_with fail
    go_ret
    exact ⟨rfl, below_drewN (Zb) _⟩
   subst c5
   by_cases c6 : a6 = b6
   case neg =>
    have hF : q = false := HBAD.out (fun h => by rw [HP.out, HP'.out] at h; injection h with h0 h1 h2 h3 h4 h5 h6 h7 h8; exact c6 h6)
    subst hF
    have d6 : (a6 == b6) = false := by simpa using c6
    clear c6
    go_quiet (fail)
    go_wp2_with fail
    go_ret
    exact ⟨rfl, below_drewN (Zb) _⟩
   subst c6
   by_cases c7 : a7 = b7
   case neg =>
    have hF : q = false := HBAD.out (fun h => by rw [HP.out, HP'.out] at h; injection h with h0 h1 h2 h3 h4 h5 h6 h7 h8; exact c7 h7)
    subst hF
    have d7 : (a7 == b7) = false := by simpa using c7
    clear c7
    go_quiet (fail)
    go_wp2_with fail
    go_ret
    exact ⟨rfl, below_drewN (Zb) _⟩
   subst c7
   by_cases c8 : a8 = b8
   case neg =>
    have hF : q = false := HBAD.out (fun h => by rw [HP.out, HP'.out] at h; injection h with h0 h1 h2 h3 h4 h5 h6 h7 h8; exact c8 h8)
    subst hF
    have d8 : (a8 == b8) = false := by simpa using c8
    clear c8
    go_quiet (fail)
    go_wp2_with fail
    go_ret
    exact ⟨rfl, below_drewN (Zb) _⟩
   subst c8
   have hpp : ge l k = ge l' k := HP.out.trans HP'.out.symm
   have HPP := Zh hpp; clear hpp
   go_quiet (fail)
   go_wp2_with fail
   go_roundw
   case rel => exact ⟨k + 1, _, by omega, by go_num, (fun i hi => by
    by_cases e : i = k
    ·subst e; exact HPP.out
    ·exact HOK.out i (by omega)), rfl⟩
   case measure => simp [intOf]; omega
  ·obtain rfl : k = n := by omega
   have hT : q = true := by rw [← HQ.out]; exact Zt (ge_ext (by rw [HL.out, HL'.out]) (by rw [HL.out]; exact HOK.out))
   subst hT
   have hd : decide (k < k) = false := Zf (by omega)
   go_wp2_with fail
   go_ret
   exact ⟨rfl, below_drewN (Zb) _⟩
end Go.Proofs.YtbijhkhkigdddaaGreat
