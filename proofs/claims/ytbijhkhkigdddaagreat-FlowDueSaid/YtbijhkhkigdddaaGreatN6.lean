/- LeRef4. -/
import Derived.Test.YtbijhkhkigdddaaGreatM03
import Derived.BigQuiet
import Derived.Deep.DeepCutAuto
import Derived.Deep.QuietTactic
import Derived.IntWalk
set_option linter.all false
set_option maxRecDepth 100000
set_option maxHeartbeats 32000000
namespace Go.Proofs.YtbijhkhkigdddaaGreat
open Go.RowKit
def lsame (a b : Lv) : Bool := decide (a.l = b.l) && (decide (a.span = b.span) && decide (a.high = b.high))
theorem lsame_refl (a : Lv) : lsame a a = true := by unfold lsame; simp
theorem rlsame_any (span : Int) (A : Option Addr) (n c : Nat) (high : Int) (l : List Sp) (span2 : Int) (A2 : Option Addr) (n2 c2 : Nat) (high2 : Int) (l2 : List Sp) (w : World) (hs : Ss w A n c l) (ht : Ss w A2 n2 c2 l2) :
  Calls Tryz.prog 35 #[.agg #[span, .slice A n c, high], .agg #[span2, .slice A2 n2 c2, high2]] w fun e w' => e = .returned (.bool (lsame ⟨span, l, high⟩ ⟨span2, l2, high2⟩)) ∧ Below w.heap.size w w' := by
 obtain ⟨B, hB⟩ : ∃ B, w.heap.size = B := ⟨_, rfl⟩
 rw [hB]
 have hl := hs.rd.len; have hl2 := ht.rd.len
 have m1 := hs.le; have m3 := ht.le
 have m2 := hs.max; have m4 := ht.max
 unfold maxLen at m2 m4
 have e0 := (Bx.new w 27 [span, .slice A n c, high]).alloc (.cells #[span2, .slice A2 n2 c2, high2] 27)
 have y0 := Bx.new (w.alloc (.cells #[span, .slice A n c, high] 27)) 27 [span2, .slice A2 n2 c2, high2]
 rw [World.size_alloc] at y0
 rw [hB] at e0 y0
 have b0 : Below B w ((w.alloc (.cells #[span, .slice A n c, high] 27)).alloc (.cells #[span2, .slice A2 n2 c2, high2] 27)) := by rw [← hB]; exact ((Zb).alloc Zr _).alloc (by simp) _
 have hs0 := (hs.alloc (.cells #[span, .slice A n c, high] 27)).alloc (.cells #[span2, .slice A2 n2 c2, high2] 27)
 have ht0 := (ht.alloc (.cells #[span, .slice A n c, high] 27)).alloc (.cells #[span2, .slice A2 n2 c2, high2] 27)
 have x0 := e0.cell 0 rfl; have x1 := e0.cell 1 rfl; have x2 := e0.cell 2 rfl
 have z0 := y0.cell 0 rfl; have z1 := y0.cell 1 rfl; have z2 := y0.cell 2 rfl
 obtain ⟨q, hq⟩ : ∃ q, lsame ⟨span, l, high⟩ ⟨span2, l2, high2⟩ = q := ⟨_, rfl⟩
 rw [hq]
 have HQ := Zh hq; clear hq
 have HL := Zh hl; have HL2 := Zh hl2; clear hl hl2 hs ht
 by_cases hn : n = n2
 case neg =>
  have hF : q = false := by
   rw [← HQ.out]
   unfold lsame
   rw [Zf (fun h => hn (by dsimp only at h; rw [← HL.out, ← HL2.out, h]))]
   rfl
  subst hF
  have hne : ((n : Int) == (n2 : Int)) = false := by simp; omega
  have hne2 : ((n : Int) != (n2 : Int)) = true := by simp; omega
  go_enter Tryz.func35, Tryz.ntmps35
  go_wp2_with fail
  go_ret
  exact ⟨rfl, b0⟩
 case pos =>
 subst hn
 go_enter Tryz.func35, Tryz.ntmps35
 go_wp2_with fail
 clear x0 x1 x2 z0 z1 z2
 generalize (w.alloc (.cells #[span, .slice A n c, high] 27)).alloc (.cells #[span2, .slice A2 n c2, high2] 27) = w1 at e0 y0 b0 hs0 ht0 ⊢
 go_loopw [5] (fun i wr => ∃ k r : Nat, k ≤ n ∧ i = .int .i64 (k : Int) ∧ (∀ i, i < k → sp l i = sp l2 i) ∧ wr = w1.drewN r) (fun i _ => n - (intOf i).toNat)
 case atStart => exact ⟨0, 0, Nat.zero_le _, rfl, fun i hi => absurd hi (by omega), rfl⟩
 case round =>
  obtain ⟨k, r, hkn, rfl, hok, rfl⟩ := hrel
  have HO := Zh hok; clear hok
  have x0 := e0.cell 0 rfl; have x1 := e0.cell 1 rfl; have x2 := e0.cell 2 rfl
  have z0 := y0.cell 0 rfl; have z1 := y0.cell 1 rfl; have z2 := y0.cell 2 rfl
  by_cases hlt : k < n
  ·obtain ⟨b, o, rfl, hbl, hc⟩ := hs0.rd.at_ (by omega)
   obtain ⟨b', o', rfl, hbl', hc'⟩ := ht0.rd.at_ (by omega)
   obtain ⟨p1, p2⟩ := hc k hlt
   obtain ⟨q1, q2⟩ := hc' k hlt
   obtain ⟨⟨p, m⟩, hp⟩ : ∃ p, sp l k = p := ⟨_, rfl⟩
   obtain ⟨⟨p', m'⟩, hp'⟩ : ∃ p, sp l2 k = p := ⟨_, rfl⟩
   rw [hp] at p1 p2
   rw [hp'] at q1 q2
   simp only at p1 p2 q1 q2
   have HP := Zh hp; have HP' := Zh hp'
   clear hc hc' hp hp'
   go_upto_region 6 with fail
   by_cases ha : p = p' ∧ m = m'
   ·obtain ⟨rfl, rfl⟩ := ha
    go_quiet (fail)
    go_wp2_with fail
    go_roundw
    case rel => exact ⟨k + 1, _, by omega, by go_num, (fun i hi => by
     by_cases e : i = k
     ·subst e; rw [HP.out, HP'.out]
     ·exact HO.out i (by omega)), rfl⟩
    case measure => simp [intOf]; omega
   ·have hF : q = false := by
     rw [← HQ.out]
     unfold lsame
     rw [Zf (fun h => ha (by dsimp only at h; have h2 := HP'.out; rw [← h, HP.out] at h2; cases h2; exact ⟨rfl, rfl⟩))]
     rfl
    subst hF
    by_cases ha1 : p = p'
    ·subst ha1
     have ha2 : ¬ m = m' := fun h => ha ⟨rfl, h⟩
     have ha3 : (m == m') = false := by simpa using ha2
     clear ha
     go_quiet (fail)
     go_wp2_with fail
     go_ret
     exact ⟨rfl, below_drewN (below_drewN b0 _) _⟩
    ·have ha3 : (p == p') = false := by simpa using ha1
     clear ha
     go_quiet (fail)
     go_wp2_with fail
     go_ret
     exact ⟨rfl, below_drewN (below_drewN b0 _) _⟩
  ·obtain rfl : k = n := by omega
   have hll : l = l2 := sp_ext (by rw [HL.out, HL2.out]) (by rw [HL.out]; exact HO.out)
   have hqq : q = (decide (span = span2) && decide (high = high2)) := by rw [← HQ.out]; unfold lsame; dsimp only; rw [Zt hll]; rfl
   clear hll
   by_cases h1 : span = span2
   ·have d1 : (span == span2) = true := by simpa using h1
    rw [Zt h1, Bool.true_and] at hqq
    by_cases h2 : high = high2
    ·have d2 : (high == high2) = true := by simpa using h2
     rw [Zt h2] at hqq
     subst hqq
     clear h1 h2
     go_wp2_with fail
     go_ret
     exact ⟨rfl, below_drewN b0 _⟩
    ·have d2 : (high == high2) = false := by simpa using h2
     rw [Zf h2] at hqq
     subst hqq
     clear h1
     go_wp2_with fail
     go_ret
     exact ⟨rfl, below_drewN b0 _⟩
   ·have d1 : (span == span2) = false := by simpa using h1
    rw [Zf h1, Bool.false_and] at hqq
    subst hqq
    go_wp2_with fail
    go_ret
    exact ⟨rfl, below_drewN b0 _⟩
theorem rlsame_yes (span : Int) (A : Option Addr) (n c : Nat) (high : Int) (l : List Sp) (A2 : Option Addr) (n2 c2 : Nat) (w : World) (hs : Ss w A n c l) (ht : Ss w A2 n2 c2 l) :
  Calls Tryz.prog 35 #[.agg #[span, .slice A n c, high], .agg #[span, .slice A2 n2 c2, high]] w fun e w' => e = .returned (.bool true) ∧ Below w.heap.size w w' :=
 (rlsame_any span A n c high l span A2 n2 c2 high l w hs ht).mono fun e w' ⟨he, hb⟩ => ⟨by rw [he, lsame_refl], hb⟩
end Go.Proofs.YtbijhkhkigdddaaGreat
