/- RaRef2. -/
import Derived.Test.YtbijhkhkigdddaaGreatM08
set_option linter.all false
set_option maxRecDepth 100000
set_option maxHeartbeats 32000000
namespace Go.Proofs.YtbijhkhkigdddaaGreat
open Go.RowKit
def rasame (a b : Rv) : Bool := decide (a.l = b.l) && (decide (a.total = b.total) && decide (a.last = b.last))
theorem rasame_refl (a : Rv) : rasame a a = true := by unfold rasame; simp
theorem it_ext {a b : List Int} (h : a.length = b.length) (he : ∀ i, i < a.length → it a i = it b i) : a = b := by
 apply List.ext_getElem h
 intro i h1 h2
 have := he i h1
 rwa [it_eq h1, it_eq h2] at this
theorem ints_any (A : Option Addr) (n c : Nat) (l : List Int) (A2 : Option Addr) (n2 c2 : Nat) (l2 : List Int) (w : World) (hs : Si w A n c l) (ht : Si w A2 n2 c2 l2) :
  Calls Tryz.prog 37 #[.slice A n c, .slice A2 n2 c2] w fun e w' => e = .returned (.bool (decide (l = l2))) ∧ Below w.heap.size w w' := by
 have hl := hs.rd.len; have hl2 := ht.rd.len
 have m1 := hs.le; have m3 := ht.le
 have m2 := hs.max; have m4 := ht.max
 unfold maxLen at m2 m4
 obtain ⟨q, hq⟩ : ∃ q, decide (l = l2) = q := ⟨_, rfl⟩
 rw [hq]
 have HQ := Zh hq; have HL := Zh hl; have HL2 := Zh hl2
 clear hq hl hl2
 by_cases hn : n = n2
 case neg =>
  have hF : q = false := by
   rw [← HQ.out]
   exact Zf (fun h => hn (by rw [← HL.out, ← HL2.out, h]))
  subst hF
  have hne : ((n : Int) == (n2 : Int)) = false := by simp; omega
  have hne2 : ((n : Int) != (n2 : Int)) = true := by simp; omega
  go_enter Tryz.func37, Tryz.ntmps37
  go_wp2_with fail
  go_ret
  exact ⟨rfl, Below.refl _ _⟩
 case pos =>
 subst hn
 have HS := Zh hs; have HT := Zh ht; clear hs ht
 go_enter Tryz.func37, Tryz.ntmps37
 go_wp2_with fail
 go_loopw [5] (fun i wr => ∃ k r : Nat, k ≤ n ∧ i = .int .i64 (k : Int) ∧ Hid (∀ i, i < k → it l i = it l2 i) ∧ wr = w.drewN r) (fun i _ => n - (intOf i).toNat)
 case atStart => exact ⟨0, 0, Nat.zero_le _, rfl, (fun i hi => absurd hi (by omega)), rfl⟩
 case round =>
  obtain ⟨k, r, hkn, rfl, HO, rfl⟩ := hrel
  by_cases hlt : k < n
  ·have dlt : decide (k < n) = true := Zt hlt
   obtain ⟨b, o, hA, hbl, hc⟩ := HS.out.rd.at_ (by omega)
   obtain ⟨b', o', hA', hbl', hc'⟩ := HT.out.rd.at_ (by omega)
   subst hA hA'
   have p1 := hc k hlt
   have q1 := hc' k hlt
   obtain ⟨p, hp⟩ : ∃ p, it l k = p := ⟨_, rfl⟩
   obtain ⟨p', hp'⟩ : ∃ p, it l2 k = p := ⟨_, rfl⟩
   rw [hp] at p1
   rw [hp'] at q1
   have HP := Zh hp; have HP' := Zh hp'
   clear hc hc' hp hp'
   go_upto_region 6 with fail
   by_cases ha : p = p'
   ·subst ha
    go_quiet (fail)
    go_wp2_with fail
    go_roundw
    case rel => exact ⟨k + 1, _, by omega, by go_num, (fun i hi => by
     by_cases e : i = k
     ·subst e; rw [HP.out, HP'.out]
     ·exact HO.out i (by omega)), rfl⟩
    case measure => simp [intOf]; omega
   ·have hF : q = false := by
     rw [← HQ.out]
     exact Zf (fun h => ha (by have h2 := HP'.out; rw [← h, HP.out] at h2; exact h2))
    subst hF
    have ha3 : (p == p') = false := by simpa using ha
    clear ha
    go_quiet (fail)
    go_wp2_with fail
    go_ret
    exact ⟨rfl, below_drewN (below_drewN (Zb) _) _⟩
  ·obtain rfl : k = n := by omega
   have dlt : decide (k < k) = false := Zf (by omega)
   have hT : q = true := by
    rw [← HQ.out]
    exact Zt (it_ext (by rw [HL.out, HL2.out]) (by rw [HL.out]; exact HO.out))
   subst hT
   go_wp2_with fail
   go_ret
   exact ⟨rfl, below_drewN (Zb) _⟩
theorem rrasame_any (total last : Int) (A : Option Addr) (n c : Nat) (l : List Int) (total2 last2 : Int) (A2 : Option Addr) (n2 c2 : Nat) (l2 : List Int) (w : World) (hs : Si w A n c l) (ht : Si w A2 n2 c2 l2) :
  Calls Tryz.prog 36 #[.agg #[total, last, .slice A n c], .agg #[total2, last2, .slice A2 n2 c2]] w fun e w' => e = .returned (.bool (rasame ⟨total, last, l⟩ ⟨total2, last2, l2⟩)) ∧ Below w.heap.size w w' := by
 obtain ⟨B, hB⟩ : ∃ B, w.heap.size = B := ⟨_, rfl⟩
 rw [hB]
 have e0 := (Bx.new w 32 [total, last, .slice A n c]).alloc (.cells #[total2, last2, .slice A2 n2 c2] 32)
 have y0 := Bx.new (w.alloc (.cells #[total, last, .slice A n c] 32)) 32 [total2, last2, .slice A2 n2 c2]
 rw [World.size_alloc] at y0
 rw [hB] at e0 y0
 have b0 : Below B w ((w.alloc (.cells #[total, last, .slice A n c] 32)).alloc (.cells #[total2, last2, .slice A2 n2 c2] 32)) := by rw [← hB]; exact ((Zb).alloc Zr _).alloc (by simp) _
 have hs0 := (hs.alloc (.cells #[total, last, .slice A n c] 32)).alloc (.cells #[total2, last2, .slice A2 n2 c2] 32)
 have ht0 := (ht.alloc (.cells #[total, last, .slice A n c] 32)).alloc (.cells #[total2, last2, .slice A2 n2 c2] 32)
 have x0 := e0.cell 0 rfl; have x1 := e0.cell 1 rfl; have x2 := e0.cell 2 rfl
 have z0 := y0.cell 0 rfl; have z1 := y0.cell 1 rfl; have z2 := y0.cell 2 rfl
 obtain ⟨q, hq⟩ : ∃ q, rasame ⟨total, last, l⟩ ⟨total2, last2, l2⟩ = q := ⟨_, rfl⟩
 rw [hq]
 unfold rasame at hq
 dsimp only at hq
 go_enter Tryz.func36, Tryz.ntmps36
 go_wp2_with fail
 clear x0 x1 x2 z0 z1 z2
 generalize (w.alloc (.cells #[total, last, .slice A n c] 32)).alloc (.cells #[total2, last2, .slice A2 n2 c2] 32) = w1 at e0 y0 b0 hs0 ht0 ⊢
 refine (ints_any A n c l A2 n2 c2 l2 _ hs0 ht0).mono ?_
 rintro e w2 ⟨rfl, hb2⟩
 have e2 := e0.kept hb2; have y2 := y0.kept hb2; have b2 := b0.trans (hb2.mono (Zl e0.lt))
 have x0 := e2.cell 0 rfl; have x1 := e2.cell 1 rfl
 have z0 := y2.cell 0 rfl; have z1 := y2.cell 1 rfl
 cases hl : decide (l = l2) with
 | false =>
  rw [hl, Bool.false_and] at hq
  subst hq
  go_wp2_with fail
  go_ret
  exact ⟨rfl, b2⟩
 | true =>
  rw [hl, Bool.true_and] at hq
  clear hl
  by_cases h1 : total = total2
  ·have d1 : (total == total2) = true := by simpa using h1
   rw [Zt h1, Bool.true_and] at hq
   by_cases h2 : last = last2
   ·have d2 : (last == last2) = true := by simpa using h2
    rw [Zt h2] at hq
    subst hq
    clear h1 h2
    go_wp2_with fail
    go_ret
    exact ⟨rfl, b2⟩
   ·have d2 : (last == last2) = false := by simpa using h2
    rw [Zf h2] at hq
    subst hq
    clear h1
    go_wp2_with fail
    go_ret
    exact ⟨rfl, b2⟩
  ·have d1 : (total == total2) = false := by simpa using h1
   rw [Zf h1, Bool.false_and] at hq
   subst hq
   go_wp2_with fail
   go_ret
   exact ⟨rfl, b2⟩
theorem rrasame_yes (total last : Int) (A : Option Addr) (n c : Nat) (l : List Int) (A2 : Option Addr) (n2 c2 : Nat) (w : World) (hs : Si w A n c l) (ht : Si w A2 n2 c2 l) :
  Calls Tryz.prog 36 #[.agg #[total, last, .slice A n c], .agg #[total, last, .slice A2 n2 c2]] w fun e w' => e = .returned (.bool true) ∧ Below w.heap.size w w' :=
 (rrasame_any total last A n c l total last A2 n2 c2 l w hs ht).mono fun e w' ⟨he, hb⟩ => ⟨by rw [he, rasame_refl], hb⟩
end Go.Proofs.YtbijhkhkigdddaaGreat
